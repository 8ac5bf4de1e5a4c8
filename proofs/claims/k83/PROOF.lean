import PyProof.Rows.All
import Wide.All
import OpenK.AllK
import Wide.FinOn
import HandS.ForMost
import HandS.Walk
import HandS.Zip
import HandS.WideBits
import HandS.IsInst
import OpenK.KEqL
import HandS.More
import HandS.Flow
import HandS.NoneIn
import HandS.Defaults
import HandS.Wide
import HandS.Style
import KE.OsRunLaw
import HandS.Star
import HandS.MakeKwOnly
import HandS.Dict
import KE.KStar
import PyProof.Rows.CallKw2
import KE.KTupSum
import HandS.Deep
import HandS.ExcIs
import KE.KExcInit
import KE.KExcIs
import KE.KTryMore
import HandS.Exc
import HandS.ExcInit
import HandS.WordsExc
import HandS.ExcValue
import HandS.ExcOwn
import HandS.IsInst
import HandS.ForSpec
import PySem.Challenge.RW_guessedzeros_k83_whole_great_forms_by_ca
set_option Elab.async false
set_option linter.all false
set_option maxRecDepth 100000
set_option maxHeartbeats 40000000
namespace GZ
open PySem PySem.Spec PyProof.Rows L2
def topS (i : Nat) : Stmt := PySem.Challenge.pw_guessedzeros_k83_whole_great_forms_by_ca.main.body.getD i (.Pass ⟨0, 0, 0, 0⟩)
abbrev s_cut_off : Stmt := topS 11
theorem sc_cut_off : FnScope ["number", "by", "kept"] ["number", "by"] (defScope s_cut_off) := ⟨rfl, rfl, rfl, by decide +kernel, rfl, by decide +kernel, by decide +kernel⟩
abbrev s_last_power : Stmt := topS 12
theorem sc_last_power : FnScope ["form", "number", "power"] ["form", "number", "power"] (defScope s_last_power) := ⟨rfl, rfl, rfl, by decide +kernel, rfl, by decide +kernel, by decide +kernel⟩
abbrev s_least_power : Stmt := topS 13
theorem sc_least_power : FnScope ["form"] ["form"] (defScope s_least_power) := ⟨rfl, rfl, rfl, by decide +kernel, rfl, by decide +kernel, by decide +kernel⟩
abbrev s_rounded : Stmt := topS 14
theorem sc_rounded : FnScope ["form", "sign", "number", "power", "way", "more", "last", "many", "rest", "size"] ["form", "sign", "number", "power", "way", "more"] (defScope s_rounded) := ⟨rfl, rfl, rfl, by decide +kernel, rfl, by decide +kernel, by decide +kernel⟩
abbrev s_parted : Stmt := topS 15
theorem sc_parted : FnScope ["number", "by", "more", "halves", "below"] ["number", "by", "more"] (defScope s_parted) := ⟨rfl, rfl, rfl, by decide +kernel, rfl, by decide +kernel, by decide +kernel⟩
abbrev s_goes_up : Stmt := topS 16
theorem sc_goes_up : FnScope ["way", "sign", "many", "rest"] ["way", "sign", "many", "rest"] (defScope s_goes_up) := ⟨rfl, rfl, rfl, by decide +kernel, rfl, by decide +kernel, by decide +kernel⟩
abbrev s_goes_away : Stmt := topS 17
theorem sc_goes_away : FnScope ["way", "sign"] ["way", "sign"] (defScope s_goes_away) := ⟨rfl, rfl, rfl, by decide +kernel, rfl, by decide +kernel, by decide +kernel⟩
abbrev s_word_beyond : Stmt := topS 18
theorem sc_word_beyond : FnScope ["form", "sign", "way"] ["form", "sign", "way"] (defScope s_word_beyond) := ⟨rfl, rfl, rfl, by decide +kernel, rfl, by decide +kernel, by decide +kernel⟩
abbrev s_flags_of_rest : Stmt := topS 19
theorem sc_flags_of_rest : FnScope ["form", "number", "power", "rest"] ["form", "number", "power", "rest"] (defScope s_flags_of_rest) := ⟨rfl, rfl, rfl, by decide +kernel, rfl, by decide +kernel, by decide +kernel⟩
abbrev s_added : Stmt := topS 21
theorem sc_added : FnScope ["form", "a", "b", "way"] ["form", "a", "b", "way"] (defScope s_added) := ⟨rfl, rfl, rfl, by decide +kernel, rfl, by decide +kernel, by decide +kernel⟩
abbrev s_taken : Stmt := topS 22
theorem sc_taken : FnScope ["form", "a", "b", "way"] ["form", "a", "b", "way"] (defScope s_taken) := ⟨rfl, rfl, rfl, by decide +kernel, rfl, by decide +kernel, by decide +kernel⟩
abbrev s_multiplied : Stmt := topS 23
theorem sc_multiplied : FnScope ["form", "a", "b", "way", "sign", "worth", "number", "power"] ["form", "a", "b", "way"] (defScope s_multiplied) := ⟨rfl, rfl, rfl, by decide +kernel, rfl, by decide +kernel, by decide +kernel⟩
abbrev s_divided : Stmt := topS 24
theorem sc_divided : FnScope ["form", "a", "b", "way", "one", "other", "sign"] ["form", "a", "b", "way"] (defScope s_divided) := ⟨rfl, rfl, rfl, by decide +kernel, rfl, by decide +kernel, by decide +kernel⟩
abbrev s_joined : Stmt := topS 25
theorem sc_joined : FnScope ["form", "a", "b", "c", "way"] ["form", "a", "b", "c", "way"] (defScope s_joined) := ⟨rfl, rfl, rfl, by decide +kernel, rfl, by decide +kernel, by decide +kernel⟩
abbrev s_has_none : Stmt := topS 26
theorem sc_has_none : FnScope ["form", "words", "word"] ["form", "words"] (defScope s_has_none) := ⟨rfl, rfl, rfl, by decide +kernel, rfl, by decide +kernel, by decide +kernel⟩
abbrev s_bad : Stmt := topS 27
theorem sc_bad : FnScope ["form"] ["form"] (defScope s_bad) := ⟨rfl, rfl, rfl, by decide +kernel, rfl, by decide +kernel, by decide +kernel⟩
abbrev s_is_endless_by_nought : Stmt := topS 28
theorem sc_is_endless_by_nought : FnScope ["form", "a", "b", "sorts"] ["form", "a", "b"] (defScope s_is_endless_by_nought) := ⟨rfl, rfl, rfl, by decide +kernel, rfl, by decide +kernel, by decide +kernel⟩
abbrev s_sign_of : Stmt := topS 29
theorem sc_sign_of : FnScope ["form", "word"] ["form", "word"] (defScope s_sign_of) := ⟨rfl, rfl, rfl, by decide +kernel, rfl, by decide +kernel, by decide +kernel⟩
abbrev s_unlike_sign : Stmt := topS 30
theorem sc_unlike_sign : FnScope ["form", "a", "b"] ["form", "a", "b"] (defScope s_unlike_sign) := ⟨rfl, rfl, rfl, by decide +kernel, rfl, by decide +kernel, by decide +kernel⟩
abbrev s_term_of : Stmt := topS 31
theorem sc_term_of : FnScope ["form", "word"] ["form", "word"] (defScope s_term_of) := ⟨rfl, rfl, rfl, by decide +kernel, rfl, by decide +kernel, by decide +kernel⟩
abbrev s_product_of : Stmt := topS 32
theorem sc_product_of : FnScope ["form", "a", "b", "sign", "one", "other"] ["form", "a", "b"] (defScope s_product_of) := ⟨rfl, rfl, rfl, by decide +kernel, rfl, by decide +kernel, by decide +kernel⟩
abbrev s_terms_added : Stmt := topS 33
theorem sc_terms_added : FnScope ["form", "one", "other", "way", "sign", "worth", "other_sign", "other_worth", "total", "power"] ["form", "one", "other", "way"] (defScope s_terms_added) := ⟨rfl, rfl, rfl, by decide +kernel, rfl, by decide +kernel, by decide +kernel⟩
abbrev s_nought_sign : Stmt := topS 34
theorem sc_nought_sign : FnScope ["sign", "other_sign", "way"] ["sign", "other_sign", "way"] (defScope s_nought_sign) := ⟨rfl, rfl, rfl, by decide +kernel, rfl, by decide +kernel, by decide +kernel⟩
abbrev s_worths_added : Stmt := topS 35
theorem sc_worths_added : FnScope ["one", "other", "number", "power", "other_number", "other_power", "least"] ["one", "other"] (defScope s_worths_added) := ⟨rfl, rfl, rfl, by decide +kernel, rfl, by decide +kernel, by decide +kernel⟩
abbrev s_quotient_rounded : Stmt := topS 36
theorem sc_quotient_rounded : FnScope ["form", "sign", "one", "other", "way", "number", "power", "divisor", "divisor_power", "by", "quotient", "rest"] ["form", "sign", "one", "other", "way"] (defScope s_quotient_rounded) := ⟨rfl, rfl, rfl, by decide +kernel, rfl, by decide +kernel, by decide +kernel⟩
abbrev s_done : Stmt := topS 38
theorem sc_done : FnScope ["form", "op", "words", "way", "reckon"] ["form", "op", "words", "way"] (defScope s_done) := ⟨rfl, rfl, rfl, by decide +kernel, rfl, by decide +kernel, by decide +kernel⟩
abbrev s_compared : Stmt := topS 40
theorem sc_compared : FnScope ["form", "a", "b", "one", "other"] ["form", "a", "b"] (defScope s_compared) := ⟨rfl, rfl, rfl, by decide +kernel, rfl, by decide +kernel, by decide +kernel⟩
abbrev s_rank_of : Stmt := topS 41
theorem sc_rank_of : FnScope ["form", "word", "size"] ["form", "word"] (defScope s_rank_of) := ⟨rfl, rfl, rfl, by decide +kernel, rfl, by decide +kernel, by decide +kernel⟩
abbrev s_size_of : Stmt := topS 42
theorem sc_size_of : FnScope ["form", "word", "sign", "scale", "tail"] ["form", "word"] (defScope s_size_of) := ⟨rfl, rfl, rfl, by decide +kernel, rfl, by decide +kernel, by decide +kernel⟩
abbrev s_digits_of : Stmt := topS 44
theorem sc_digits_of : FnScope ["one", "other", "many", "place"] ["one", "other", "many"] (defScope s_digits_of) := ⟨rfl, rfl, rfl, by decide +kernel, rfl, by decide +kernel, by decide +kernel⟩
abbrev s_worth_of : Stmt := topS 45
theorem sc_worth_of : FnScope ["digits", "worth", "digit"] ["digits"] (defScope s_worth_of) := ⟨rfl, rfl, rfl, by decide +kernel, rfl, by decide +kernel, by decide +kernel⟩
abbrev s_zeros_of : Stmt := topS 46
theorem sc_zeros_of : FnScope ["number", "many"] ["number", "many"] (defScope s_zeros_of) := ⟨rfl, rfl, rfl, by decide +kernel, rfl, by decide +kernel, by decide +kernel⟩
abbrev s_marks_of : Stmt := topS 48
theorem sc_marks_of : FnScope ["digits", "place"] ["digits"] (defScope s_marks_of) := ⟨rfl, rfl, rfl, by decide +kernel, rfl, by decide +kernel, by decide +kernel⟩
abbrev s_is_mark : Stmt := topS 49
theorem sc_is_mark : FnScope ["digits", "place", "digit", "ahead", "behind"] ["digits", "place"] (defScope s_is_mark) := ⟨rfl, rfl, rfl, by decide +kernel, rfl, by decide +kernel, by decide +kernel⟩
abbrev s_first_mark : Stmt := topS 50
theorem sc_first_mark : FnScope ["digits", "marks"] ["digits"] (defScope s_first_mark) := ⟨rfl, rfl, rfl, by decide +kernel, rfl, by decide +kernel, by decide +kernel⟩
abbrev s_guess : Stmt := topS 51
theorem sc_guess : FnScope ["one", "other", "many"] ["one", "other", "many"] (defScope s_guess) := ⟨rfl, rfl, rfl, by decide +kernel, rfl, by decide +kernel, by decide +kernel⟩
abbrev s_have_heads : Stmt := topS 53
theorem sc_have_heads : FnScope ["form", "words", "word"] ["form", "words"] (defScope s_have_heads) := ⟨rfl, rfl, rfl, by decide +kernel, rfl, by decide +kernel, by decide +kernel⟩
abbrev s_head_of : Stmt := topS 54
theorem sc_head_of : FnScope ["form", "word", "number", "power"] ["form", "word"] (defScope s_head_of) := ⟨rfl, rfl, rfl, by decide +kernel, rfl, by decide +kernel, by decide +kernel⟩
abbrev s_plain_step : Stmt := topS 55
theorem sc_plain_step : FnScope ["name", "form", "op", "words", "way", "word", "flags"] ["name", "form", "op", "words", "way"] (defScope s_plain_step) := ⟨rfl, rfl, rfl, by decide +kernel, rfl, by decide +kernel, by decide +kernel⟩
abbrev s_round_step : Stmt := topS 56
theorem sc_round_step : FnScope ["form", "sign", "total", "power", "way", "more", "word", "flags"] ["form", "sign", "total", "power", "way", "more"] (defScope s_round_step) := ⟨rfl, rfl, rfl, by decide +kernel, rfl, by decide +kernel, by decide +kernel⟩
abbrev s_total_steps : Stmt := topS 57
theorem sc_total_steps : FnScope ["greater", "lesser", "more", "alike", "many", "total", "zeros"] ["greater", "lesser", "more", "alike", "many"] (defScope s_total_steps) := ⟨rfl, rfl, rfl, by decide +kernel, rfl, by decide +kernel, by decide +kernel⟩
abbrev s_add_steps : Stmt := topS 59
theorem sc_add_steps : FnScope ["form", "a", "b", "way", "greater", "lesser", "head", "power", "lesser_head", "lesser_power", "number", "more", "sign", "alike", "total", "steps", "last"] ["form", "a", "b", "way"] (defScope s_add_steps) := ⟨rfl, rfl, rfl, by decide +kernel, rfl, by decide +kernel, by decide +kernel⟩
abbrev s_take_steps : Stmt := topS 60
theorem sc_take_steps : FnScope ["form", "a", "b", "way"] ["form", "a", "b", "way"] (defScope s_take_steps) := ⟨rfl, rfl, rfl, by decide +kernel, rfl, by decide +kernel, by decide +kernel⟩
abbrev s_ordered : Stmt := topS 61
theorem sc_ordered : FnScope ["form", "a", "b"] ["form", "a", "b"] (defScope s_ordered) := ⟨rfl, rfl, rfl, by decide +kernel, rfl, by decide +kernel, by decide +kernel⟩
abbrev s_is_number : Stmt := topS 63
theorem sc_is_number : FnScope ["thing"] ["thing"] (defScope s_is_number) := ⟨rfl, rfl, rfl, by decide +kernel, rfl, by decide +kernel, by decide +kernel⟩
abbrev s_is_number_in : Stmt := topS 64
theorem sc_is_number_in : FnScope ["least", "greatest", "thing"] ["least", "greatest", "thing"] (defScope s_is_number_in) := ⟨rfl, rfl, rfl, by decide +kernel, rfl, by decide +kernel, by decide +kernel⟩
abbrev s_Form___init__ : Stmt := inClass (topS 66) 0
theorem sc_Form___init__ : FnScope ["self", "scale", "tail"] ["self", "scale", "tail"] (defScope s_Form___init__) := ⟨rfl, rfl, rfl, by decide +kernel, rfl, by decide +kernel, by decide +kernel⟩
abbrev s_Form_bias : Stmt := inClass (topS 66) 2
theorem sc_Form_bias : FnScope ["self"] ["self"] (defScope s_Form_bias) := ⟨rfl, rfl, rfl, by decide +kernel, rfl, by decide +kernel, by decide +kernel⟩
abbrev s_Form_top : Stmt := inClass (topS 66) 3
theorem sc_Form_top : FnScope ["self"] ["self"] (defScope s_Form_top) := ⟨rfl, rfl, rfl, by decide +kernel, rfl, by decide +kernel, by decide +kernel⟩
abbrev s_Form_parts : Stmt := inClass (topS 66) 4
theorem sc_Form_parts : FnScope ["self", "word", "sign", "scale", "tail"] ["self", "word"] (defScope s_Form_parts) := ⟨rfl, rfl, rfl, by decide +kernel, rfl, by decide +kernel, by decide +kernel⟩
abbrev s_Form_word_of : Stmt := inClass (topS 66) 5
theorem sc_Form_word_of : FnScope ["self", "sign", "scale", "tail"] ["self", "sign", "scale", "tail"] (defScope s_Form_word_of) := ⟨rfl, rfl, rfl, by decide +kernel, rfl, by decide +kernel, by decide +kernel⟩
abbrev s_Form_sort_of : Stmt := inClass (topS 66) 7
theorem sc_Form_sort_of : FnScope ["self", "word", "sign", "scale", "tail"] ["self", "word"] (defScope s_Form_sort_of) := ⟨rfl, rfl, rfl, by decide +kernel, rfl, by decide +kernel, by decide +kernel⟩
abbrev s_Form_nought : Stmt := inClass (topS 66) 8
theorem sc_Form_nought : FnScope ["self", "sign"] ["self", "sign"] (defScope s_Form_nought) := ⟨rfl, rfl, rfl, by decide +kernel, rfl, by decide +kernel, by decide +kernel⟩
abbrev s_Form_endless : Stmt := inClass (topS 66) 9
theorem sc_Form_endless : FnScope ["self", "sign"] ["self", "sign"] (defScope s_Form_endless) := ⟨rfl, rfl, rfl, by decide +kernel, rfl, by decide +kernel, by decide +kernel⟩
abbrev s_Form_greatest : Stmt := inClass (topS 66) 10
theorem sc_Form_greatest : FnScope ["self", "sign"] ["self", "sign"] (defScope s_Form_greatest) := ⟨rfl, rfl, rfl, by decide +kernel, rfl, by decide +kernel, by decide +kernel⟩
abbrev s_Form_none_word : Stmt := inClass (topS 66) 12
theorem sc_Form_none_word : FnScope ["self"] ["self"] (defScope s_Form_none_word) := ⟨rfl, rfl, rfl, by decide +kernel, rfl, by decide +kernel, by decide +kernel⟩
abbrev s_Form_turned : Stmt := inClass (topS 66) 13
theorem sc_Form_turned : FnScope ["self", "word", "sign", "scale", "tail"] ["self", "word"] (defScope s_Form_turned) := ⟨rfl, rfl, rfl, by decide +kernel, rfl, by decide +kernel, by decide +kernel⟩
abbrev s_Form_worth : Stmt := inClass (topS 66) 14
theorem sc_Form_worth : FnScope ["self", "word", "sign", "scale", "tail", "number", "power"] ["self", "word"] (defScope s_Form_worth) := ⟨rfl, rfl, rfl, by decide +kernel, rfl, by decide +kernel, by decide +kernel⟩
abbrev s_Divider___init__ : Stmt := inClass (topS 68) 0
theorem sc_Divider___init__ : FnScope ["self", "form", "a", "b", "way", "signed"] ["self", "form", "a", "b", "way", "signed"] (defScope s_Divider___init__) := ⟨rfl, rfl, rfl, by decide +kernel, rfl, by decide +kernel, by decide +kernel⟩
abbrev s_Divider_begin : Stmt := inClass (topS 68) 1
theorem sc_Divider_begin : FnScope ["self", "power", "other_power"] ["self"] (defScope s_Divider_begin) := ⟨rfl, rfl, rfl, by decide +kernel, rfl, by decide +kernel, by decide +kernel⟩
abbrev s_Divider_step : Stmt := inClass (topS 68) 2
theorem sc_Divider_step : FnScope ["self", "rest", "digit"] ["self"] (defScope s_Divider_step) := ⟨rfl, rfl, rfl, by decide +kernel, rfl, by decide +kernel, by decide +kernel⟩
abbrev s_Divider_digit_by : Stmt := inClass (topS 68) 3
theorem sc_Divider_digit_by : FnScope ["self", "rest", "bound"] ["self", "rest"] (defScope s_Divider_digit_by) := ⟨rfl, rfl, rfl, by decide +kernel, rfl, by decide +kernel, by decide +kernel⟩
abbrev s_Divider_digits : Stmt := inClass (topS 68) 4
abbrev s_Divider_quotient : Stmt := inClass (topS 68) 5
theorem sc_Divider_quotient : FnScope ["self"] ["self"] (defScope s_Divider_quotient) := ⟨rfl, rfl, rfl, by decide +kernel, rfl, by decide +kernel, by decide +kernel⟩
abbrev s_Divider_rest : Stmt := inClass (topS 68) 6
abbrev s_Divider_divisor : Stmt := inClass (topS 68) 7
abbrev s_Divider_left : Stmt := inClass (topS 68) 8
theorem sc_Divider_left : FnScope ["self"] ["self"] (defScope s_Divider_left) := ⟨rfl, rfl, rfl, by decide +kernel, rfl, by decide +kernel, by decide +kernel⟩
abbrev s_Divider_outcome : Stmt := inClass (topS 68) 9
theorem sc_Divider_outcome : FnScope ["self", "quotient", "more", "sign"] ["self"] (defScope s_Divider_outcome) := ⟨rfl, rfl, rfl, by decide +kernel, rfl, by decide +kernel, by decide +kernel⟩
abbrev s_full_head : Stmt := topS 69
theorem sc_full_head : FnScope ["form", "word", "head", "power", "by"] ["form", "word"] (defScope s_full_head) := ⟨rfl, rfl, rfl, by decide +kernel, rfl, by decide +kernel, by decide +kernel⟩
abbrev s_join_steps : Stmt := topS 71
theorem sc_join_steps : FnScope ["form", "a", "b", "c", "way", "one", "other", "power", "more", "one_sign", "other_sign", "greater", "lesser", "total", "steps", "last", "sign"] ["form", "a", "b", "c", "way"] (defScope s_join_steps) := ⟨rfl, rfl, rfl, by decide +kernel, rfl, by decide +kernel, by decide +kernel⟩
abbrev s_product_of_heads : Stmt := topS 72
theorem sc_product_of_heads : FnScope ["form", "a", "b", "head", "power", "other_head", "other_power"] ["form", "a", "b"] (defScope s_product_of_heads) := ⟨rfl, rfl, rfl, by decide +kernel, rfl, by decide +kernel, by decide +kernel⟩
abbrev s_placed : Stmt := topS 73
theorem sc_placed : FnScope ["form", "product", "term", "number", "power", "head", "head_power", "above", "by", "kept", "more"] ["form", "product", "term"] (defScope s_placed) := ⟨rfl, rfl, rfl, by decide +kernel, rfl, by decide +kernel, by decide +kernel⟩
abbrev s_fours_of : Stmt := topS 75
theorem sc_fours_of : FnScope ["number", "doubled", "place"] ["number"] (defScope s_fours_of) := ⟨rfl, rfl, rfl, by decide +kernel, rfl, by decide +kernel, by decide +kernel⟩
abbrev s_four_of : Stmt := topS 76
theorem sc_four_of : FnScope ["bits"] ["bits"] (defScope s_four_of) := ⟨rfl, rfl, rfl, by decide +kernel, rfl, by decide +kernel, by decide +kernel⟩
abbrev s_rows_of : Stmt := topS 77
theorem sc_rows_of : FnScope ["one", "number", "fours", "last", "at", "four"] ["one", "number"] (defScope s_rows_of) := ⟨rfl, rfl, rfl, by decide +kernel, rfl, by decide +kernel, by decide +kernel⟩
abbrev s_saved : Stmt := topS 78
theorem sc_saved : FnScope ["x", "y", "z"] ["x", "y", "z"] (defScope s_saved) := ⟨rfl, rfl, rfl, by decide +kernel, rfl, by decide +kernel, by decide +kernel⟩
abbrev s_levels_of : Stmt := topS 79
theorem sc_levels_of : FnScope ["rows", "levels"] ["rows"] (defScope s_levels_of) := ⟨rfl, rfl, rfl, by decide +kernel, rfl, by decide +kernel, by decide +kernel⟩
abbrev s_level_behind : Stmt := topS 80
theorem sc_level_behind : FnScope ["rows", "by_threes", "level", "at"] ["rows"] (defScope s_level_behind) := ⟨rfl, rfl, rfl, by decide +kernel, rfl, by decide +kernel, by decide +kernel⟩
abbrev s_times_steps : Stmt := topS 81
theorem sc_times_steps : FnScope ["form", "a", "b", "way", "head", "power", "number", "other_power", "levels", "one", "other", "total"] ["form", "a", "b", "way"] (defScope s_times_steps) := ⟨rfl, rfl, rfl, by decide +kernel, rfl, by decide +kernel, by decide +kernel⟩
abbrev sBox : Stmt := topS 83
abbrev sTake : Stmt := topS 84
abbrev sFolded : Stmt := topS 85
abbrev sSame : Stmt := topS 86
abbrev s__law_plain : Stmt := topS 87
theorem sc__law_plain : FnScope ["_law_box_here", "_law_form", "_law_scale", "_law_many", "_law_some", "_law_high"] ["_law_box_here", "_law_form", "_law_scale"] (defScope s__law_plain) := ⟨rfl, rfl, rfl, by decide +kernel, rfl, by decide +kernel, by decide +kernel⟩
abbrev s__law_pair : Stmt := topS 88
theorem sc__law_pair : FnScope ["_law_box_here", "_law_form", "_law_case", "_law_tail", "_law_half", "_law_mid", "_law_far", "_law_a", "_law_small", "_law_high", "_law_first", "_law_few", "_law_turn"] ["_law_box_here", "_law_form", "_law_case"] (defScope s__law_pair) := ⟨rfl, rfl, rfl, by decide +kernel, rfl, by decide +kernel, by decide +kernel⟩
abbrev s__law_cut_right : Stmt := topS 89
theorem sc__law_cut_right : FnScope ["_law_form", "_law_steps", "_law_how", "_law_order", "_law_shift", "_law_total", "_law_zeros", "_law_number", "_law_power", "_law_less", "_law_low", "_law_exact", "_law_due"] ["_law_form", "_law_steps", "_law_how"] (defScope s__law_cut_right) := ⟨rfl, rfl, rfl, by decide +kernel, rfl, by decide +kernel, by decide +kernel⟩
abbrev s__law_words_right : Stmt := topS 90
theorem sc__law_words_right : FnScope ["_law_form", "_law_a", "_law_b", "_law_c", "_law_how", "_law_op", "_law_steps", "_law_told", "_law_by_signs", "_law_divider", "_law_turn"] ["_law_form", "_law_a", "_law_b", "_law_c", "_law_how"] (defScope s__law_words_right) := ⟨rfl, rfl, rfl, by decide +kernel, rfl, by decide +kernel, by decide +kernel⟩
abbrev s__law_rises : Stmt := topS 91
theorem sc__law_rises : FnScope ["_law_form", "_law_a", "_law_b", "_law_how", "_law_one", "_law_other"] ["_law_form", "_law_a", "_law_b", "_law_how"] (defScope s__law_rises) := ⟨rfl, rfl, rfl, by decide +kernel, rfl, by decide +kernel, by decide +kernel⟩
abbrev s_law : Stmt := topS 92
theorem sc_law : FnScope ["_law_script", "_law_cells", "_law_k", "_law_box_here", "_law_form", "_law_case", "_law_a", "_law_b", "_law_c", "_law_how"] ["_law_script"] (defScope s_law) := ⟨rfl, rfl, rfl, by decide +kernel, rfl, by decide +kernel, by decide +kernel⟩
structure Bl (mg : Str → Option Value) : Prop where
  len : mg "len" = none
  abs : mg "abs" = none
  int : mg "int" = none
  divmod : mg "divmod" = none
  list : mg "list" = none
  enumerate : mg "enumerate" = none
  isinstance : mg "isinstance" = none
  tuple : mg "tuple" = none
  str : mg "str" = none
  bool : mg "bool" = none
  zip : mg "zip" = none
  all : mg "all" = none
  range : mg "range" = none
  max : mg "max" = none
  any : mg "any" = none
  min : mg "min" = none
  sum : mg "sum" = none
section
variable {X : Cx} {K : PySem.W.Frag}
theorem op_in_seqK (h : X.K = K := by rfl) : OpR X (compareOp .In) (rIn K false) := by subst h; exact op_in_seq
end
theorem same_upd {H : Hp} {p : Addr} {o : HO} (h : H p = none) : Same H (upd H p o) := fun b x e => by
  rw [upd_ne (ne_of_none e h)]
  exact e
/-- all but what stands at b is as it was -/
def Keep (b : Addr) (H H' : Hp) : Prop := ∀ p o, H p = some o → p ≠ b → H' p = some o
theorem Keep.refl (b : Addr) (H : Hp) : Keep b H H := fun _ _ h _ => h
theorem Keep.trans {b : Addr} {H H1 H2 : Hp} (x : Keep b H H1) (y : Keep b H1 H2) : Keep b H H2 := fun p o h n => y p o (x p o h n) n
theorem Keep.ofSame {b : Addr} {H H1 : Hp} (x : Same H H1) : Keep b H H1 := fun p o h _ => x p o h
theorem Keep.upd {b : Addr} {H : Hp} {o : HO} : Keep b H (upd H b o) := fun p x h n => by
  rw [upd_ne n]
  exact h
theorem Keep.new {b p : Addr} {H : Hp} {o : HO} (h : H p = none) : Keep b H (L2.upd H p o) := .ofSame (same_upd h)
theorem Keep.seq {K : PySem.W.Frag} {b a : Addr} {H H' : Hp} {xs : List V} (e : Keep b H H') (n : a ≠ b) (h : SqL K H a xs) : SqL K H' a xs := by
  rcases h with (h | ⟨o, h⟩) | h
  · exact .inl (.inl (e _ _ h n))
  · exact .inl (.inr ⟨o, e _ _ h n⟩)
  · exact .inr h
theorem Same.seqT {K : PySem.W.Frag} {a : Addr} {H H' : Hp} {xs : List V} (e : Same H H') (h : SqT K H a xs) : SqT K H' a xs := by
  rcases h with (h | ⟨o, h⟩) | h
  · exact .inl (.inl (e _ _ h))
  · exact .inl (.inr ⟨o, e _ _ h⟩)
  · exact .inr h
/-- a drawing box: three ints, the last at most c -/
def BoxAt (c : Int) (H : Hp) (b : Addr) : Prop := ∃ x0 x1 x2 : Int, H b = some (.lst [.int x0, .int x1, .int x2]) ∧ 0 ≤ x0 ∧ 0 ≤ x1 ∧ x1 < 2147483647 ∧ 0 ≤ x2 ∧ x2 ≤ c
theorem BoxAt.mono {c d : Int} {H : Hp} {b : Addr} (h : BoxAt c H b) (l : c ≤ d) : BoxAt d H b := by
  obtain ⟨x0, x1, x2, e, a1, a2, a3, a4, a5⟩ := h
  exact ⟨x0, x1, x2, e, a1, a2, a3, a4, by omega⟩
theorem BoxAt.same {c : Int} {H H' : Hp} {b : Addr} (h : BoxAt c H b) (s : Same H H') : BoxAt c H' b := by
  obtain ⟨x0, x1, x2, e, r⟩ := h
  exact ⟨x0, x1, x2, s _ _ e, r⟩
theorem BoxAt.at {c : Int} {H H' : Hp} {b : Addr} (h : BoxAt c H b) (s : H' b = H b) : BoxAt c H' b := by
  obtain ⟨x0, x1, x2, e, r⟩ := h
  exact ⟨x0, x1, x2, by rw [s]; exact e, r⟩
theorem BoxAt.ne {c : Int} {H : Hp} {b p : Addr} (h : BoxAt c H b) (n : H p = none) : b ≠ p := by
  obtain ⟨x0, x1, x2, e, r⟩ := h
  exact ne_of_none e n
theorem e7 : (10 : Int) ^ ((7 : Int).toNat) = 10000000 := by decide
theorem divp_small {i j : Int} (h0 : 0 < j) (h1 : j < 2 ^ 250) : CDivP i j := by
  refine ⟨h0, ?_⟩
  show (decide ((if j == 0 then 0 else j.natAbs.log2 / 30 + 1) > 300) && _) = false
  rw [if_neg (show ¬ (j == 0) = true by simpa using (show j ≠ 0 by omega))]
  have hl : j.natAbs.log2 < 250 := PySem.Flt.log2_lt_of (by decide) (by omega)
  rw [decide_eq_false (show ¬ (j.natAbs.log2 / 30 + 1 > 300) by omega), Bool.false_and]
section
variable {P : Program} {w : World} {K : PySem.W.Frag} {mg : Str → Option Value} {base : Heap}
theorem scTake : FnScope ["_law_box_here", "_law_size", "_law_found", "_law_step", "_law_once", "_law_twice"] ["_law_box_here", "_law_size"] (defScope sTake) := ⟨rfl, rfl, rfl, by decide +kernel, rfl, by decide +kernel, by decide +kernel⟩
def spTake (k : Nat) : Sp := fun vs H Q _ => ∃ (b : Addr) (n c : Int), vs = [.ref b, .int n] ∧ BoxAt c H b ∧ 1 ≤ n ∧ n ≤ 10000000 ^ k ∧ n < 2 ^ 250 ∧ c + 2 ^ k ≤ 1000000000 ∧ 0 < k ∧
  ∀ (r : Int) (H' : Hp), 0 ≤ r → r < n → BoxAt (c + 2 ^ (k - 1)) H' b → Keep b H H' → Q (.int r) H'
theorem take_none {f : Addr} {fd : FuncData} : FnOk P w K mg base CX0 0 f fd ["_law_box_here", "_law_size"] (spTake 0) := by
  have no : ∀ vs H Q E, ¬ spTake 0 vs H Q E := fun vs H Q E h => by
    obtain ⟨b, n, c, _, _, _, _, _, _, h0, _⟩ := h
    omega
  exact ⟨fun vs H Q E h => absurd h (no vs H Q E), fun A outer s H args us vs Q E _ _ _ _ h => absurd h (no vs H Q E)⟩
theorem ok_take1 {f : Addr} {fd : FuncData} {k : Nat} (F : Fun K "_law_take" "_law_take" sTake f fd) (G : FnOk P w K mg base CX0 k f fd ["_law_box_here", "_law_size"] (spTake k)) (bf : Binds K fd ["_law_box_here", "_law_size"] []) (mf : mg "_law_take" = some (.ref f)) (B : Bl mg) :
    FnOk P w K mg base CX0 (k + 1) f fd ["_law_box_here", "_law_size"] (spTake (k + 1)) := by
  refine F.ok scTake (fun vs H Q E h => ?_) (fun cdv A outer s H vs Q E hr h => ?_)
  · obtain ⟨b, n, c, rfl, _⟩ := h
    rfl
  obtain ⟨b, n, c, rfl, hB, hn1, hnk, hn60, hc, _, q⟩ := h
  obtain ⟨x0, x1, x2, hb, h0, h1, h1', h2, h2'⟩ := hB
  have hp : (0 : Int) < 2 ^ k := Int.pow_pos (by decide)
  have hk2 : (2 : Int) ^ (k + 1) = 2 ^ k * 2 := Int.pow_succ 2 k
  refine ⟨_, pss_cons (ps_if (pt_cmpR op_gt (pe_ix ix_list (pv 0) pe_int (fun _ _ => rfl)) pe_int (nomark _))
      (pss_cons (ps_asg (pe_callB call_divmodW (by rfl) B.divmod boot_divmod (pa_cons (pe_ix ix_list (pv 0) pe_int (fun _ _ => rfl)) (pa_cons (pv 1) pa_nil)))
          (pg_tup (by rfl) (pgs_cons (pg_sub (pv 0) pe_int set_list) (pgs_cons (pg_name (i := 2) scTake.nd rfl (.inl rfl)) pgs_nil))))
        (pss_one (ps_ret (pv 2)))) pss_nil)
    (pss_cons (ps_if (pt_cmpR op_gt (pv 1) (pe_op op_pow pe_int pe_int) (nomark _))
      (pss_one (ps_ret (pe_op op_mod (pe_op op_add (pe_call G hr (by rfl) mf F.kp bf .nil pass0 (pa_cons (pv 0) (pa_cons (pe_op op_pow pe_int pe_int) pa_nil)))
          (pe_op op_mul (pe_op op_pow pe_int pe_int) (pe_call G hr (by rfl) mf F.kp bf .nil pass0 (pa_cons (pv 0) (pa_cons (pe_op op_add (pe_op op_fdiv (pe_op op_sub (pv 1) pe_int) (pe_op op_pow pe_int pe_int)) pe_int) pa_nil))))) (pv 1)))) pss_nil)
    (pss_cons (ps_asg (pe_op op_add (pe_ix ix_list (pv 0) pe_int (fun _ _ => rfl)) pe_int) (pg_sub (pv 0) pe_int set_list))
    (pss_cons (ps_set (i := 3) scTake.nd rfl (.inl rfl) (pe_op op_add pe_int (pe_op op_mul (pe_ix ix_list (pv 0) pe_int (fun _ _ => rfl)) (pe_ix ix_list (pv 0) pe_int (fun _ _ => rfl)))))
    (pss_cons (ps_set (i := 4) scTake.nd rfl (.inl rfl) (pe_op op_mod (pe_op op_mul (pe_op op_add (pe_ix ix_list (pv 0) pe_int (fun _ _ => rfl)) (pe_op op_mul pe_int (pe_ix ix_list (pv 0) pe_int (fun _ _ => rfl)))) (pv 3)) pe_int))
    (pss_cons (ps_set (i := 5) scTake.nd rfl (.inl rfl) (pe_op op_mod (pe_op op_add (pe_op op_mul (pv 4) (pe_op op_add (pe_op op_mod (pv 4) pe_int) pe_int)) (pe_ix ix_list (pv 0) pe_int (fun _ _ => rfl))) pe_int))
    (pss_one (ps_ret (pe_op op_mod (pe_op op_fdiv (pe_op op_mod (pe_op op_mul (pv 5) (pe_op op_add (pe_op op_mod (pv 5) pe_int) pe_int)) pe_int) pe_int) (pv 1))))))))), ?_⟩
  refine ⟨_, rfl, b, _, _, _, rfl, rfl, SqL.of hb, rfl, _, _, rfl, rfl, _, rfl, ite2 (fun cc => ?_) (fun cc => ?_)⟩
  · -- the great number's own digits
    refine ⟨_, rfl, b, _, _, _, rfl, rfl, SqL.of hb, rfl, _, rfl, _, _, rfl, divp_small (by omega) (by omega), fun p np => ?_⟩
    have nbp : b ≠ p := ne_of_none hb np
    refine ⟨p, _, rfl, .inl (.inl upd_same), rfl, _, _, rfl, _, rfl, b, _, _, 0, rfl, rfl, (by rw [upd_ne nbp]; exact hb), rfl, _, _, rfl, rfl, _, rfl, ?_⟩
    refine q _ _ (Int.emod_nonneg _ (by omega)) (Int.emod_lt_of_pos _ (by omega)) ⟨x0 / n, x1, x2, upd_same, Int.ediv_nonneg h0 (by omega), h1, h1', h2, by show x2 ≤ c + 2 ^ k; omega⟩ ?_
    exact Keep.trans (Keep.new np) Keep.upd
  · refine ⟨_, rfl, _, _, rfl, rfl, ⟨by decide, by decide, by decide⟩, _, _, rfl, rfl, _, rfl, ite2 (fun c2 => ?_) (fun c2 => ?_)⟩
    · -- two lesser draws
      have c3 : (10 : Int) ^ ((7 : Int).toNat) < n := of_decide_eq_true c2
      rw [e7] at c3
      have hk : 0 < k := by
        rcases Nat.eq_zero_or_pos k with z | z
        · subst z
          rw [show (10000000 : Int) ^ (0 + 1) = 10000000 by decide] at hnk
          omega
        · exact z
      obtain ⟨j, rfl⟩ : ∃ j, k = j + 1 := ⟨k - 1, by omega⟩
      have hj2 : (2 : Int) ^ (j + 1) = 2 ^ j * 2 := Int.pow_succ 2 j
      have hjp : (0 : Int) < 2 ^ j := Int.pow_pos (by decide)
      have h10 : (10000000 : Int) ≤ 10000000 ^ (j + 1) := by
        rw [Int.pow_succ]
        have : (0 : Int) < 10000000 ^ j := Int.pow_pos (by decide)
        omega
      have hdiv : (n - 1) / 10000000 + 1 ≤ 10000000 ^ (j + 1) := by
        rw [Int.pow_succ] at hnk
        have : n - 1 < 10000000 ^ (j + 1) * 10000000 := by omega
        have := Int.ediv_lt_of_lt_mul (by decide) this
        omega
      refine ⟨_, rfl, _, _, rfl, rfl, ⟨by decide, by decide, by decide⟩, b, _, c, rfl, ⟨x0, x1, x2, hb, h0, h1, h1', h2, h2'⟩, (by rw [e7]; decide), (by rw [e7]; exact h10), (by rw [e7]; decide), by omega, by omega, fun r1 H1 a1 a2 B1 k1 => ?_⟩
      refine ⟨_, _, rfl, rfl, ⟨by decide, by decide, by decide⟩, _, rfl, _, rfl, _, _, rfl, rfl, _, _, rfl, rfl, ⟨by decide, by decide, by decide⟩, _, _, rfl, rfl, (by rw [e7]; exact ⟨by decide, by decide⟩), _, _, rfl, rfl, ?_⟩
      rw [e7]
      refine ⟨b, _, c + 2 ^ j, rfl, B1, by omega, hdiv, by omega, by omega, by omega, fun r2 H2 a3 a4 B2 k2 => ?_⟩
      refine ⟨_, _, rfl, rfl, .inl ⟨by decide, by decide⟩, _, _, rfl, rfl, _, rfl, _, _, rfl, rfl, (by show (0 : Int) < n; omega), ?_⟩
      refine q _ _ (Int.emod_nonneg _ (by omega)) (Int.emod_lt_of_pos _ (by omega)) (B2.mono ?_) (k1.trans k2)
      show c + 2 ^ j + 2 ^ j ≤ c + 2 ^ (j + 1)
      omega
    · -- a turn of the wheel
      refine ⟨_, rfl, b, _, _, _, rfl, rfl, SqL.of hb, rfl, _, _, rfl, rfl, _, rfl, b, _, _, 2, rfl, rfl, hb, rfl, ?_⟩
      have hb2 : (upd H b (.lst [.int x0, .int x1, .int (x2 + 1)])) b = some (.lst [.int x0, .int x1, .int (x2 + 1)]) := upd_same
      refine ⟨_, rfl, b, _, _, _, rfl, rfl, SqL.of hb2, rfl, _, rfl, b, _, _, _, rfl, rfl, SqL.of hb2, rfl, _, _, rfl, rfl, .inl ⟨by omega, by omega⟩, _, _, rfl, rfl, ?_⟩
      refine ⟨_, rfl, b, _, _, _, rfl, rfl, SqL.of hb2, rfl, _, rfl, b, _, _, _, rfl, rfl, SqL.of hb2, rfl, _, _, rfl, rfl, .inl ⟨by omega, by omega⟩, _, _, rfl, rfl, _, rfl, _, _, rfl, rfl, .inl ⟨by omega, by omega⟩, _, _, rfl, rfl, (by show (0 : Int) < 2147483587; decide), ?_⟩
      generalize (x1 + 39373 * (x2 + 1)) * (69621 + (x2 + 1) * (x2 + 1)) = y
      have y1 := Int.emod_nonneg y (show (2147483587 : Int) ≠ 0 by decide)
      have y2 := Int.emod_lt_of_pos y (show (0 : Int) < 2147483587 by decide)
      refine ⟨_, rfl, _, rfl, _, _, rfl, rfl, (by show (0 : Int) < 30011; decide), _, _, rfl, rfl, _, _, rfl, rfl, .inl ⟨by omega, by omega⟩, _, rfl, b, _, _, _, rfl, rfl, SqL.of hb2, rfl, _, _, rfl, rfl, _, _, rfl, rfl, (by show (0 : Int) < 2147483563; decide), ?_⟩
      generalize (y % 2147483587 * (y % 2147483587 % 30011 + 5) + (x2 + 1)) = z
      have z1 := Int.emod_nonneg z (show (2147483563 : Int) ≠ 0 by decide)
      have z2 := Int.emod_lt_of_pos z (show (0 : Int) < 2147483563 by decide)
      refine ⟨_, rfl, _, rfl, _, _, rfl, rfl, (by show (0 : Int) < 1013; decide), _, _, rfl, rfl, _, _, rfl, rfl, .inl ⟨by omega, by omega⟩, _, _, rfl, rfl, (by show (0 : Int) < 998244353; decide), _, _, rfl, rfl, ⟨by decide, by decide⟩, _, rfl, _, _, rfl, rfl, (by show (0 : Int) < n; omega), ?_⟩
      refine q _ _ (Int.emod_nonneg _ (by omega)) (Int.emod_lt_of_pos _ (by omega)) ⟨x0, x1, x2 + 1, hb2, h0, h1, h1', by omega, by show x2 + 1 ≤ c + 2 ^ k; omega⟩ Keep.upd
theorem ok_take {f : Addr} {fd : FuncData} (F : Fun K "_law_take" "_law_take" sTake f fd) (bf : Binds K fd ["_law_box_here", "_law_size"] []) (mf : mg "_law_take" = some (.ref f)) (B : Bl mg) : ∀ k : Nat, FnOk P w K mg base CX0 k f fd ["_law_box_here", "_law_size"] (spTake k)
  | 0 => take_none
  | k + 1 => ok_take1 F (ok_take F bf mf B k) bf mf B
theorem scBox : FnScope ["_law_script", "_law_k", "_law_cell"] ["_law_script", "_law_k"] (defScope sBox) := ⟨rfl, rfl, rfl, by decide +kernel, rfl, by decide +kernel, by decide +kernel⟩
def spBox (K : PySem.W.Frag) : Sp := fun vs H Q _ => ∃ (a : Addr) (zs : List Int) (k : Int), vs = [.ref a, .int k] ∧ SqL K H a (zs.map V.int) ∧ 0 ≤ k ∧ k ≤ 1000 ∧
  ∀ (p : Addr) (H' : Hp), H p = none → Same H H' → BoxAt 0 H' p → Q (.ref p) H'
theorem b01 (b : Bool) : (-(2 ^ 64) < (if b = true then (1 : Int) else 0)) ∧ (if b = true then (1 : Int) else 0) < 2 ^ 64 := by cases b <;> decide
theorem b01n (b : Bool) : 0 ≤ (if b = true then (1 : Int) else 0) := by cases b <;> decide
theorem abs_nn (i : Int) : 0 ≤ (if i < 0 then -i else i) := by
  split <;> omega
theorem at_int {zs : List Int} {k : Int} (h0 : 0 ≤ k) (h : k < (zs.length : Int)) : ∃ v : Int, atI (zs.map V.int) k = some (.int v) ∧ zs[k.toNat]? = some v := by
  have hk : k.toNat < zs.length := by omega
  have ek : k = ((k.toNat : Nat) : Int) := by omega
  have q : atI (zs.map V.int) ((k.toNat : Nat) : Int) = some (.int zs[k.toNat]) := atI_nat (by rw [List.getElem?_map, List.getElem?_eq_getElem hk] <;> rfl)
  rw [← ek] at q
  exact ⟨zs[k.toNat], q, List.getElem?_eq_getElem hk⟩
theorem ok_box {f : Addr} {fd : FuncData} {k : Nat} (F : Fun K "_law_box" "_law_box" sBox f fd) (B : Bl mg) : FnOk P w K mg base CX0 (k + 1) f fd ["_law_script", "_law_k"] (spBox K) := by
  refine F.ok scBox (fun vs H Q E h => ?_) (fun cdv A outer s H vs Q E hr h => ?_)
  · obtain ⟨a, zs, k, rfl, _⟩ := h
    rfl
  obtain ⟨a, zs, k, rfl, hS, h0, h1, q⟩ := h
  refine ⟨_, pss_cons (ps_set (i := 2) scBox.nd rfl (.inl rfl) (pe_ifExp (pt_cmpR op_lt (pv 1) (pe_callB call_len_seq (by rfl) B.len PySem.boot_len (pa_cons (pv 0) pa_nil)) (nomark _)) (pe_ix ix_list (pv 0) (pv 1) (fun _ _ => rfl)) pe_int))
    (pss_one (ps_ret (pe_lst (pa_cons (pe_op op_mul (pe_callB call_abs (by rfl) B.abs boot_abs (pa_cons (pv 2) pa_nil)) (pe_callTy call_int1 (by rfl) B.int PyProof.Rows.boot_int (pa_cons (pe_cmpR op_ge (pe_callB call_abs (by rfl) B.abs boot_abs (pa_cons (pv 2) pa_nil)) (pe_op op_pow pe_int pe_int) (nomark _)) pa_nil)))
      (pa_cons (pe_op op_mod (pe_op op_mul (pe_op op_add (pe_op op_add (pe_op op_mod (pv 2) pe_int) (pe_op op_mul pe_int (pv 1))) pe_int) pe_int) pe_int) (pa_cons pe_int pa_nil)))))), ?_⟩
  refine ⟨_, rfl, _, rfl, a, _, rfl, .inl hS, _, _, rfl, rfl, _, rfl, ite2 (fun cc => ?_) (fun cc => ?_)⟩
  · have c1 : k < (((zs.map V.int).length : Nat) : Int) := of_decide_eq_true cc
    rw [List.length_map] at c1
    obtain ⟨v, hv, _⟩ := at_int h0 c1
    refine ⟨_, rfl, _, rfl, a, _, _, _, rfl, rfl, hS, hv, ?_⟩
    refine ⟨_, rfl, _, rfl, _, rfl, _, rfl, _, _, rfl, rfl, ⟨by decide, by decide, by decide⟩, _, _, rfl, rfl, .inr ⟨_, rfl, ?_⟩⟩
    refine ⟨_, _, rfl, rfl, .inr (b01 _), _, rfl, _, _, rfl, rfl, (by show (0 : Int) < 2147483629; decide), _, rfl, _, _, rfl, rfl, .inl ⟨by decide, by decide⟩, _, _, rfl, rfl, _, _, rfl, rfl, _, _, rfl, rfl, .inr ⟨by decide, by decide⟩, _, _, rfl, rfl, (by show (0 : Int) < 2147483647; decide), (by show 3 ≤ sizeLine; decide), fun p np => ?_⟩
    refine q p _ np (same_upd np) ⟨_, _, _, upd_same, Int.mul_nonneg (abs_nn v) (b01n _), Int.emod_nonneg _ (by decide), Int.emod_lt_of_pos _ (by decide), by decide, by decide⟩
  · refine ⟨_, rfl, _, rfl, _, rfl, _, rfl, _, _, rfl, rfl, ⟨by decide, by decide, by decide⟩, _, _, rfl, rfl, .inr ⟨_, rfl, ?_⟩⟩
    refine ⟨_, _, rfl, rfl, .inr (b01 _), _, rfl, _, _, rfl, rfl, (by show (0 : Int) < 2147483629; decide), _, rfl, _, _, rfl, rfl, .inl ⟨by decide, by decide⟩, _, _, rfl, rfl, _, _, rfl, rfl, _, _, rfl, rfl, .inr ⟨by decide, by decide⟩, _, _, rfl, rfl, (by show (0 : Int) < 2147483647; decide), (by show 3 ≤ sizeLine; decide), fun p np => ?_⟩
    refine q p _ np (same_upd np) ⟨_, _, _, upd_same, Int.mul_nonneg (abs_nn 0) (b01n _), Int.emod_nonneg _ (by decide), Int.emod_lt_of_pos _ (by decide), by decide, by decide⟩
theorem scFolded : FnScope ["_law_script", "_law_size", "_law_cells", "_law_k", "_law_cell"] ["_law_script", "_law_size"] (defScope sFolded) := ⟨rfl, rfl, rfl, by decide +kernel, rfl, by decide +kernel, by decide +kernel⟩
def spFolded (K : PySem.W.Frag) : Sp := fun vs H Q _ => ∃ (a : Addr) (ns : List Int) (m : Nat), vs = [.ref a, .int (m : Int)] ∧ SqL K H a (ns.map V.int) ∧ ns.length ≤ 63 ∧ 1 ≤ m ∧ m ≤ 63 ∧
  ∀ (p : Addr) (H' : Hp) (zs : List Int), H p = none → Same H H' → H' p = some (.lst (zs.map V.int)) → zs.length = min ns.length m → Q (.ref p) H'
theorem cut_lo (ns : List Int) (m : Nat) : cutV (ns.map V.int) none (some (m : Int)) = (ns.take m).map V.int := by
  unfold cutV
  rw [HT.sIx_none, HT.sIx_nat, List.drop_zero, Nat.sub_zero, List.length_map, ← List.map_take]
  congr 1
  rw [List.take_eq_take_iff]
  omega
theorem cut_mid (ns : List Int) (m j : Nat) : ∃ ws : List Int, cutV (ns.map V.int) (some (m : Int)) (some (j : Int)) = ws.map V.int ∧ ws.length ≤ ns.length - m := by
  unfold cutV
  rw [HT.sIx_nat, HT.sIx_nat, List.length_map, ← List.map_drop, ← List.map_take]
  refine ⟨_, rfl, ?_⟩
  rw [List.length_take, List.length_drop]
  omega
theorem int_at {ws : List Int} {i : Nat} {x : V} (h : (ws.map V.int)[i]? = some x) : ∃ z, ws[i]? = some z ∧ x = .int z := by
  rw [List.getElem?_map] at h
  cases e : ws[i]? with
  | none =>
    rw [e] at h
    cases h
  | some z =>
    rw [e] at h
    exact ⟨z, rfl, (Option.some.inj h).symm⟩
theorem map_set (zs : List Int) (j : Nat) (v : Int) : (zs.map V.int).set j (.int v) = (zs.set j v).map V.int := List.map_set.symm
theorem ixN_nat {n j : Nat} (h : j < n) : ixN n (j : Int) = some j := by
  unfold ixN
  rw [if_pos (Int.natCast_nonneg j), if_pos (by omega), Int.toNat_natCast]
theorem ok_folded {f : Addr} {fd : FuncData} {k : Nat} (F : Fun K "_law_folded" "_law_folded" sFolded f fd) (B : Bl mg) : FnOk P w K mg base CX0 (k + 1) f fd ["_law_script", "_law_size"] (spFolded K) := by
  refine F.ok scFolded (fun vs H Q E h => ?_) (fun cdv A outer s H vs Q E hr h => ?_)
  · obtain ⟨a, ns, m, rfl, _⟩ := h
    rfl
  obtain ⟨a, ns, m, rfl, hS, h63, hm1, hm2, q⟩ := h
  refine ⟨_, pss_cons (ps_set (i := 2) scFolded.nd rfl (.inl rfl) (pe_callTy call_list_of (by rfl) B.list PyProof.Rows.boot_list (pa_cons (pe_slice sl_list (pv 0) po_none (po_some (pv 1))) pa_nil)))
    (pss_cons (ps_for PassesOwn.never rfl (pi_enum (by rfl) B.enumerate (pa_cons (pe_slice sl_list (pv 0) (po_some (pv 1)) (po_some pe_int)) pa_nil))
        (pg_tup rfl (pgs_cons (pg_name (i := 3) scFolded.nd rfl (.inl rfl)) (pgs_cons (pg_name (i := 4) scFolded.nd rfl (.inl rfl)) pgs_nil)))
      (pss_one (ps_asg (pe_op op_add (pe_ix ix_list (pv 2) (pe_op op_mod (pv 3) (pv 1)) (fun _ _ => rfl)) (pe_op op_mul (pv 4) (pe_op op_add (pv 3) pe_int))) (pg_sub (pv 2) (pe_op op_mod (pv 3) (pv 1)) set_list))))
    (pss_one (ps_ret (pv 2)))), ?_⟩
  refine ⟨_, rfl, _, rfl, _, rfl, a, _, rfl, hS, fun c0 nc0 => ?_⟩
  rw [cut_lo]
  have s0 : Same H (upd H c0 (.lst ((ns.take m).map V.int))) := same_upd nc0
  refine ⟨c0, _, rfl, .inl (.inl (.inl upd_same)), fun p np => ?_⟩
  have npH : H p = none := s0.free np
  have ne0 : c0 ≠ p := fun e => by
    subst e
    rw [upd_same] at np
    cases np
  have s1 := s0.trans (same_upd (o := .lst ((ns.take m).map V.int)) np)
  refine ⟨_, rfl, _, rfl, _, rfl, _, rfl, a, _, rfl, s1.seq hS, fun c nc => ?_⟩
  obtain ⟨ws, ew, lw⟩ := cut_mid ns m 63
  rw [show ((63 : Nat) : Int) = (63 : Int) from rfl] at ew
  rw [ew]
  have s2 := s1.trans (same_upd (o := .lst (ws.map V.int)) nc)
  have nec : c ≠ p := fun e => by
    subst e
    rw [upd_same] at nc
    cases nc
  refine ⟨c, _, rfl, .inl (.inl upd_same), ?_⟩
  refine for_it (walk_enum (K := K) (a := c) (xs := ws.map V.int)) (fun i σ H3 => ∃ (y3 y4 : Option V) (zs : List Int), σ = [some (.ref a), some (.int (m : Int)), some (.ref p), y3, y4] ∧ Same H H3 ∧ H3 c = some (.lst (ws.map V.int)) ∧ H3 p = some (.lst (zs.map V.int)) ∧ zs.length = min ns.length m)
    ⟨none, none, ns.take m, rfl, s2, upd_same, ?_, ?_⟩ (fun i σ H3 _ ⟨_, _, _, _, _, e, _⟩ => .inl (.inl e)) ?_ ?_
  · rw [upd_ne nec.symm]
    exact upd_same
  · rw [List.length_take, Nat.min_comm]
  · rintro i v σ H3 H4 hi ⟨y3, y4, zs, rfl, s3, ec, ep, el⟩ ⟨T, x, y, rfl, nT, rfl, e1, e2⟩
    cases e1
    obtain ⟨z, _, rfl⟩ := int_at e2
    rw [List.length_map] at hi
    have npT : p ≠ T := ne_of_none ep nT
    have ncT : c ≠ T := ne_of_none ec nT
    have sT : Same H3 (upd H3 T (.tup [.int (i : Nat), .int z])) := same_upd nT
    refine ⟨T, _, rfl, .inl (.inl upd_same), rfl, _, _, rfl, _, _, rfl, rfl, ?_⟩
    have lm : (i : Int) % (m : Int) = ((i % m : Nat) : Int) := rfl
    have hl : i % m < zs.length := by
      have := Nat.mod_lt i (show 0 < m by omega)
      omega
    have ev : (zs.map V.int)[i % m]? = some (.int zs[i % m]) := by
      rw [List.getElem?_map, List.getElem?_eq_getElem hl]
      rfl
    refine ⟨_, rfl, _, rfl, _, rfl, _, _, rfl, rfl, (by show (0 : Int) < (m : Int); omega), p, _, _, _, rfl, rfl, SqL.of (sT _ _ ep), (by rw [lm]; exact atI_nat ev), _, rfl, _, rfl, _, _, rfl, rfl, _, _, rfl, rfl, .inr ⟨by omega, by omega⟩, _, _, rfl, rfl, ?_⟩
    refine ⟨_, rfl, _, rfl, _, rfl, _, _, rfl, rfl, (by show (0 : Int) < (m : Int); omega), p, _, _, i % m, rfl, rfl, sT _ _ ep, (by rw [lm, List.length_map]; exact ixN_nat hl), ?_⟩
    refine ⟨_, _, zs.set (i % m) (zs[i % m] + z * ((i : Int) + 2)), rfl, fun b o e => ?_, ?_, ?_, ?_⟩
    · rw [upd_ne (ne_of_none e npH)]
      exact sT _ _ (s3 _ _ e)
    · rw [upd_ne nec]
      exact sT _ _ ec
    · rw [upd_same, map_set]
    · rw [List.length_set]
      exact el
  · rintro σ H3 ⟨y3, y4, zs, rfl, s3, ec, ep, el⟩
    exact ⟨_, rfl, q p H3 zs npH s3 ep el⟩
theorem scSame : FnScope ["_law_found", "_law_due", "_law_one", "_law_other"] ["_law_found", "_law_due"] (defScope sSame) := ⟨rfl, rfl, rfl, by decide +kernel, rfl, by decide +kernel, by decide +kernel⟩
def Lv : Nat → PyData → Prop
  | _, .none => True
  | _, .bool _ => True
  | _, .int _ => True
  | _, .str _ => True
  | n + 1, .list ds => ds.length ≤ 1000000 ∧ ∀ d ∈ ds, Lv n d
  | n + 1, .tuple ds => ds.length ≤ 1000000 ∧ ∀ d ∈ ds, Lv n d
  | _, _ => False
mutual
theorem Dp.same {H H' : Hp} (s : Same H H') : ∀ (d : PyData) (v : V), Dp K H v d → Dp K H' v d
  | .none, _, h => by
    cases h
    exact .non
  | .bool b, _, h => by
    cases h
    exact .bl b
  | .int i, _, h => by
    cases h
    exact .int i
  | .str x, _, h => by
    cases h
    exact .str x
  | .list ds, _, h => by
    cases h with
    | lst hs ha => exact .lst (s.seq hs) (Dp.sameAll s ds _ ha)
  | .tuple ds, _, h => by
    cases h with
    | tup hs ha => exact .tup (Same.seqT s hs) (Dp.sameAll s ds _ ha)
  | .dict _, _, h => by cases h
theorem Dp.sameAll {H H' : Hp} (s : Same H H') : ∀ (ds : List PyData) (vs : List V), DpAll K H vs ds → DpAll K H' vs ds
  | [], _, h => by
    cases h
    exact .nil
  | d :: ds, _, h => by
    cases h with
    | cons h1 h2 => exact .cons (Dp.same s d _ h1) (Dp.sameAll s ds _ h2)
end
theorem DpAll.len {H : Hp} : ∀ {ds : List PyData} {vs : List V}, DpAll K H vs ds → vs.length = ds.length
  | [], _, h => by
    cases h
    rfl
  | d :: ds, _, h => by
    cases h with
    | cons h1 h2 => rw [List.length_cons, List.length_cons, DpAll.len h2]
theorem DpAll.get {H : Hp} : ∀ {ds : List PyData} {vs : List V} {i : Nat} {x : V}, DpAll K H vs ds → vs[i]? = some x → ∃ d, ds[i]? = some d ∧ Dp K H x d
  | [], _, i, x, h, e => by
    cases h
    cases e
  | d :: ds, _, 0, x, h, e => by
    cases h with
    | cons h1 h2 =>
      cases e
      exact ⟨d, rfl, h1⟩
  | d :: ds, _, i + 1, x, h, e => by
    cases h with
    | @cons _ vs _ _ h1 h2 => exact DpAll.get (ds := ds) (vs := vs) h2 (show vs[i]? = some x from e)
theorem walk_zipT {a b : Addr} {xs ys : List V} {n : Nat} (hn : n = min xs.length ys.length) : Walk (RZ.ItzT K a b) n (fun H => SqT K H a xs ∧ SqT K H b ys) (YPair (fun i => xs[i]?) (fun i => ys[i]?)) := by
  subst hn
  refine ⟨fun i _ hi q => ?_, fun _ q => ⟨xs, ys, q.1, q.2, by omega⟩, fun i H v H' _ q y => ?_⟩
  · have h1 : i < xs.length := by omega
    have h2 : i < ys.length := by omega
    exact ⟨xs, ys, xs[i], ys[i], q.1, q.2, by simp [h1], by simp [h2]⟩
  · obtain ⟨T, x, z, h1, h2, h3, h4, h5⟩ := y
    exact ⟨T, x, z, h1, h2, h3, h4 xs q.1, h5 ys q.2⟩
theorem ty_lst {H : Hp} {a : Addr} {xs : List V} (h : SqL K H a xs) : TyX K H (.ref a) (.type "list") := by
  rcases h with (h | ⟨o, h⟩) | ⟨o, its, n, h1, h2, _⟩
  · exact .base (.lst h)
  · exact .base (.frz h)
  · exact .kList h1 h2
theorem ty_tup {H : Hp} {a : Addr} {xs : List V} (h : SqT K H a xs) : TyX K H (.ref a) (.type "tuple") := by
  rcases h with (h | ⟨o, h⟩) | ⟨o, its, n, h1, h2, _⟩
  · exact .base (.tup h)
  · exact .fTuple h
  · exact .kTuple h1 h2
def spSame (K : PySem.W.Frag) (k : Nat) : Sp := fun vs H Q _ => ∃ (x y : V) (d : PyData) (j : Nat), vs = [x, y] ∧ k = j + 1 ∧ Lv j d ∧ Dp K H x d ∧ Dp K H y d ∧ ∀ H', Same H H' → Q (.bl true) H'
theorem same_none {f : Addr} {fd : FuncData} : FnOk P w K mg base CX0 0 f fd ["_law_found", "_law_due"] (spSame K 0) := by
  have no : ∀ vs H Q E, ¬ spSame K 0 vs H Q E := fun vs H Q E h => by
    obtain ⟨x, y, d, j, _, h0, _⟩ := h
    omega
  exact ⟨fun vs H Q E h => absurd h (no vs H Q E), fun A outer s H args us vs Q E _ _ _ _ h => absurd h (no vs H Q E)⟩
theorem yesT {σ : L2.St} {H : Hp} {R S : Hp → Prop} (h : R H) : tYes σ H fun b H3 => if b = true then R H3 else S H3 := h
theorem repl_snoc {α : Type} (i : Nat) (x : α) : List.replicate i x ++ [x] = List.replicate (i + 1) x := List.replicate_succ'.symm
theorem all_repl (n : Nat) : (List.replicate n true).all id = true := by
  rw [List.all_eq_true]
  intro x hx
  rw [List.eq_of_mem_replicate hx]
  rfl
theorem kitLT {t : String} {r1 r2 : Bool} (h1 : kitB t "list" = some r1) (h2 : kitB t "tuple" = some r2) : PySem.W.kitAny K (.type t) [.type "list", .type "tuple"] = some (r1 || r2) := by
  refine kitAny_cons (kit_ty h1) (fun e => ?_) (fun e => by rw [e]; rfl)
  rw [e, Bool.false_or]
  refine kitAny_cons (kit_ty h2) (fun e => ?_) (fun e => e)
  rw [e]
  rfl
theorem ok_same1 {f : Addr} {fd : FuncData} {k : Nat} (F : Fun K "_law_same" "_law_same" sSame f fd) (G : FnOk P w K mg base CX0 k f fd ["_law_found", "_law_due"] (spSame K k)) (bf : Binds K fd ["_law_found", "_law_due"] []) (mf : mg "_law_same" = some (.ref f)) (B : Bl mg) :
    FnOk P w K mg base CX0 (k + 1) f fd ["_law_found", "_law_due"] (spSame K (k + 1)) := by
  refine F.ok scSame (fun vs H Q E h => ?_) (fun cdv A outer s H vs Q E hr h => ?_)
  · obtain ⟨x, y, d, j, rfl, _⟩ := h
    rfl
  obtain ⟨x, y, d, j, rfl, ej, lv, dx, dy, q⟩ := h
  obtain rfl : k = j := by omega
  refine ⟨_, pss_cons (ps_if (pt_val (pe_callB call_isiT (by rfl) B.isinstance boot_isinstance (pa_cons (pv 1) (pa_cons (pe_tup (pa_cons (pe_bltn (v := .ty "list") (by rfl) B.list PyProof.Rows.boot_list rfl) (pa_cons (pe_bltn (v := .ty "tuple") (by rfl) B.tuple PyProof.Rows.boot_tuple rfl) pa_nil))) pa_nil))))
      (pss_cons (ps_if (PW.pt (pw_or (pt_cmpR op_ne (pe_callB call_isi (by rfl) B.isinstance boot_isinstance (pa_cons (pv 0) (pa_cons (pe_bltn (v := .ty "list") (by rfl) B.list PyProof.Rows.boot_list rfl) pa_nil))) (pe_callB call_isi (by rfl) B.isinstance boot_isinstance (pa_cons (pv 1) (pa_cons (pe_bltn (v := .ty "list") (by rfl) B.list PyProof.Rows.boot_list rfl) pa_nil))) (nomark _))
          (pw_or1 (pt_cmpR op_ne (pe_callB call_isi (by rfl) B.isinstance boot_isinstance (pa_cons (pv 0) (pa_cons (pe_bltn (v := .ty "tuple") (by rfl) B.tuple PyProof.Rows.boot_tuple rfl) pa_nil))) (pe_callB call_isi (by rfl) B.isinstance boot_isinstance (pa_cons (pv 1) (pa_cons (pe_bltn (v := .ty "tuple") (by rfl) B.tuple PyProof.Rows.boot_tuple rfl) pa_nil))) (nomark _)))))
          (pss_one (ps_ret pe_bl)) pss_nil)
        (pss_one (ps_ret (pe_and (pe_cmpR op_eq (pe_callB call_len_seq (by rfl) B.len PySem.boot_len (pa_cons (pv 0) pa_nil)) (pe_callB call_len_seq (by rfl) B.len PySem.boot_len (pa_cons (pv 1) pa_nil)) (nomark _))
          (pe_one (pe_callB (cr_all rfl) (by rfl) B.all boot_all (pa_cons (pe_lc (own := [("_law_one", 2), ("_law_other", 3)]) (g := gTup K 2 (gCons (gName 2) (gCons (gName 3) gNil))) (by rfl) scSame.nd (RZ.pi_zipA (by rfl) B.zip (pa_cons (pv 0) (pa_cons (pv 1) pa_nil)))
            (blkOk_by (own := [("_law_one", 2), ("_law_other", 3)]) (N := ["_law_found", "_law_due", "_law_one", "_law_other"]) (sc := defScope sSame) (by decide +kernel))
            (fun _ _ _ _ _ => pg_tup rfl (pgs_cons (pg_name (i := 2) scSame.nd rfl (Or.inl rfl) (.inr rfl)) (pgs_cons (pg_name (i := 3) scSame.nd rfl (Or.inl rfl) (.inr rfl)) pgs_nil))) (fun _ _ _ _ _ => pts_nil)
            (fun _ _ _ _ _ => pe_call G hr (by rfl) mf F.kp bf .nil pass0 (pa_cons (pv 2) (pa_cons (pv 3) pa_nil)))) pa_nil))))))) pss_nil)
    (pss_cons (ps_if (PW.pt (pw_or (pt_cmpR op_isN (pv 1) pe_non (nomark _)) (pw_or1 (pt_val (pe_callB call_isi (by rfl) B.isinstance boot_isinstance (pa_cons (pv 1) (pa_cons (pe_bltn (v := .ty "str") (by rfl) B.str PyProof.Rows.boot_str rfl) pa_nil)))))))
      (pss_one (ps_ret (pe_and (pe_cmpR op_eq (pv 0) (pv 1) (nomark _)) (pe_one (pe_cmpR op_eq (pe_callB call_isi (by rfl) B.isinstance boot_isinstance (pa_cons (pv 0) (pa_cons (pe_bltn (v := .ty "str") (by rfl) B.str PyProof.Rows.boot_str rfl) pa_nil))) (pe_callB call_isi (by rfl) B.isinstance boot_isinstance (pa_cons (pv 1) (pa_cons (pe_bltn (v := .ty "str") (by rfl) B.str PyProof.Rows.boot_str rfl) pa_nil))) (nomark _)))))) pss_nil)
    (pss_one (ps_ret (pe_and (pe_callB call_isi (by rfl) B.isinstance boot_isinstance (pa_cons (pv 0) (pa_cons (pe_bltn (v := .ty "int") (by rfl) B.int PyProof.Rows.boot_int rfl) pa_nil))) (pe_and (pe_cmpR op_eq (pe_callB call_isi (by rfl) B.isinstance boot_isinstance (pa_cons (pv 0) (pa_cons (pe_bltn (v := .ty "bool") (by rfl) B.bool PyProof.Rows.boot_bool rfl) pa_nil))) (pe_callB call_isi (by rfl) B.isinstance boot_isinstance (pa_cons (pv 1) (pa_cons (pe_bltn (v := .ty "bool") (by rfl) B.bool PyProof.Rows.boot_bool rfl) pa_nil))) (nomark _))
      (pe_one (pe_cmpR op_eq (pv 0) (pv 1) (nomark _)))))))), ?_⟩
  have pr : Paired ClsV [.ty "list", .ty "tuple"] [.type "list", .type "tuple"] := .cons (.ty _) (.cons (.ty _) .nil)
  refine ⟨_, rfl, (by show 2 ≤ sizeLine; decide), fun tp ntp => ?_⟩
  have s0 : Same H (upd H tp (.tup [.ty "list", .ty "tuple"])) := same_upd ntp
  cases d with
  | none =>
    cases dx
    cases dy
    refine ⟨_, tp, _, _, _, _, rfl, upd_same, pr, .base .non, kitLT (t := "NoneType") (r1 := false) (r2 := false) (by decide +kernel) (by decide +kernel), _, rfl, iteF ?_⟩
    refine ⟨_, rfl, rfl, _, rfl, iteT (iteT ?_)⟩
    refine ⟨_, rfl, _, rfl, rfl, _, rfl, iteT ?_⟩
    refine ⟨_, rfl, _, _, _, _, _, rfl, .ty _, .base .non, kit_ty (by decide +kernel : kitB "NoneType" "str" = some false), _, rfl, _, _, _, _, _, rfl, .ty _, .base .non, kit_ty (by decide +kernel : kitB "NoneType" "str" = some false), rfl, q _ s0⟩
  | bool b =>
    cases dx
    cases dy
    refine ⟨_, tp, _, _, _, _, rfl, upd_same, pr, .base (.bl _), kitLT (t := "bool") (r1 := false) (r2 := false) (by decide +kernel) (by decide +kernel), _, rfl, iteF ?_⟩
    refine ⟨_, rfl, rfl, _, rfl, iteF ?_⟩
    refine ⟨_, rfl, _, _, _, _, _, rfl, .ty _, .base (.bl _), kit_ty (by decide +kernel : kitB "bool" "str" = some false), _, rfl, iteF ?_⟩
    refine ⟨_, rfl, _, _, _, _, _, rfl, .ty _, .base (.bl _), kit_ty (by decide +kernel : kitB "bool" "int" = some true), _, rfl, iteT ?_⟩
    refine ⟨_, rfl, _, _, _, _, _, rfl, .ty _, .base (.bl _), kit_ty (by decide +kernel : kitB "bool" "bool" = some true), _, rfl, _, _, _, _, _, rfl, .ty _, .base (.bl _), kit_ty (by decide +kernel : kitB "bool" "bool" = some true), rfl, _, rfl, iteT ?_⟩
    refine ⟨_, rfl, _, rfl, rfl, ?_⟩
    rw [decide_eq_true rfl]
    exact q _ s0
  | int i =>
    cases dx
    cases dy
    refine ⟨_, tp, _, _, _, _, rfl, upd_same, pr, .base (.int _), kitLT (t := "int") (r1 := false) (r2 := false) (by decide +kernel) (by decide +kernel), _, rfl, iteF ?_⟩
    refine ⟨_, rfl, rfl, _, rfl, iteF ?_⟩
    refine ⟨_, rfl, _, _, _, _, _, rfl, .ty _, .base (.int _), kit_ty (by decide +kernel : kitB "int" "str" = some false), _, rfl, iteF ?_⟩
    refine ⟨_, rfl, _, _, _, _, _, rfl, .ty _, .base (.int _), kit_ty (by decide +kernel : kitB "int" "int" = some true), _, rfl, iteT ?_⟩
    refine ⟨_, rfl, _, _, _, _, _, rfl, .ty _, .base (.int _), kit_ty (by decide +kernel : kitB "int" "bool" = some false), _, rfl, _, _, _, _, _, rfl, .ty _, .base (.int _), kit_ty (by decide +kernel : kitB "int" "bool" = some false), rfl, _, rfl, iteT ?_⟩
    refine ⟨_, rfl, _, rfl, rfl, ?_⟩
    rw [decide_eq_true rfl]
    exact q _ s0
  | str z =>
    cases dx
    cases dy
    refine ⟨_, tp, _, _, _, _, rfl, upd_same, pr, .base (.str _), kitLT (t := "str") (r1 := false) (r2 := false) (by decide +kernel) (by decide +kernel), _, rfl, iteF ?_⟩
    refine ⟨_, rfl, rfl, _, rfl, iteF ?_⟩
    refine ⟨_, rfl, _, _, _, _, _, rfl, .ty _, .base (.str _), kit_ty (by decide +kernel : kitB "str" "str" = some true), _, rfl, iteT ?_⟩
    refine ⟨_, rfl, _, rfl, rfl, ?_⟩
    rw [decide_eq_true rfl]
    refine ⟨_, rfl, iteT ?_⟩
    exact ⟨_, rfl, _, _, _, _, _, rfl, .ty _, .base (.str _), kit_ty (by decide +kernel : kitB "str" "str" = some true), _, rfl, _, _, _, _, _, rfl, .ty _, .base (.str _), kit_ty (by decide +kernel : kitB "str" "str" = some true), rfl, q _ s0⟩
  | list ds =>
    cases dx with
    | @lst a xs _ hx ax =>
    cases dy with
    | @lst b ys _ hy ay =>
    obtain ⟨i, rfl⟩ : ∃ i, k = i + 1 := by
      cases k with
      | zero => exact absurd lv id
      | succ i => exact ⟨i, rfl⟩
    have lx := DpAll.len ax
    have ly := DpAll.len ay
    have hx1 := s0.seq hx
    have hy1 := s0.seq hy
    refine ⟨_, tp, _, _, _, _, rfl, upd_same, pr, ty_lst hy1, kitLT (t := "list") (r1 := true) (r2 := false) (by decide +kernel) (by decide +kernel), _, rfl, iteT ?_⟩
    refine ⟨_, rfl, _, _, _, _, _, rfl, .ty _, ty_lst hx1, kit_ty (by decide +kernel : kitB "list" "list" = some true), _, rfl, _, _, _, _, _, rfl, .ty _, ty_lst hy1, kit_ty (by decide +kernel : kitB "list" "list" = some true), rfl, _, rfl, iteF ?_⟩
    refine ⟨_, rfl, _, _, _, _, _, rfl, .ty _, ty_lst hx1, kit_ty (by decide +kernel : kitB "list" "tuple" = some false), _, rfl, _, _, _, _, _, rfl, .ty _, ty_lst hy1, kit_ty (by decide +kernel : kitB "list" "tuple" = some false), rfl, _, rfl, iteF ?_⟩
    refine ⟨_, rfl, a, _, rfl, .inl hx1, _, rfl, b, _, rfl, .inl hy1, rfl, ?_⟩
    rw [decide_eq_true (by rw [lx, ly])]
    refine ⟨_, rfl, iteT ?_⟩
    refine ⟨_, rfl, _, rfl, a, b, xs, ys, rfl, .inl ⟨hx1, hy1, fun D nD => ?_⟩⟩
    have sD := s0.trans (same_upd (o := .lst []) nD)
    refine lc_it (walk_zip (K := K) (a := a) (b := b) (xs := xs) (ys := ys) rfl) (fun i H3 => Same H H3 ∧ H3 D = some (.lst (List.replicate i (.bl true)))) ⟨sD, upd_same⟩ (fun i H3 _ ⟨s3, _⟩ => ⟨s3.seq hx, s3.seq hy⟩) ?_ ?_
    · rintro i v H3 H4 hi ⟨s3, eD⟩ ⟨T, x, y, rfl, nT, rfl, e1, e2⟩
      obtain ⟨d1, g1, p1⟩ := DpAll.get ax e1
      obtain ⟨d2, g2, p2⟩ := DpAll.get ay e2
      obtain rfl : d1 = d2 := Option.some.inj (g1.symm.trans g2)
      have s4 := s3.trans (same_upd (o := .tup [x, y]) nT)
      refine ⟨T, _, rfl, .inl (.inl upd_same), rfl, _, _, rfl, _, _, rfl, rfl, rfl, ?_⟩
      refine yesT ?_
      refine ⟨_, rfl, _, rfl, x, y, d1, _, rfl, rfl, lv.2 d1 (List.mem_of_getElem? g1), Dp.same s4 _ _ p1, Dp.same s4 _ _ p2, fun H5 s5 => ?_⟩
      refine ⟨_, s5 _ _ (by rw [upd_ne (ne_of_none eD nT)]; exact eD), ?_, fun p o e => ?_, ?_⟩
      · rw [List.length_replicate]
        have := lv.1
        refine Nat.lt_of_lt_of_le (show i < 1000000 by omega) (by decide)
      · rw [upd_ne (ne_of_none e (s0.free nD))]
        exact s5 _ _ (s4 _ _ e)
      · rw [upd_same, repl_snoc]
    · rintro H3 ⟨s3, eD⟩
      refine ⟨D, List.replicate (min xs.length ys.length) true, rfl, .inl (.inl (by rw [List.map_replicate]; exact eD)), ?_⟩
      rw [all_repl]
      exact q _ s3
  | tuple ds =>
    cases dx with
    | @tup a xs _ hx ax =>
    cases dy with
    | @tup b ys _ hy ay =>
    obtain ⟨i, rfl⟩ : ∃ i, k = i + 1 := by
      cases k with
      | zero => exact absurd lv id
      | succ i => exact ⟨i, rfl⟩
    have lx := DpAll.len ax
    have ly := DpAll.len ay
    have hx1 := Same.seqT s0 hx
    have hy1 := Same.seqT s0 hy
    refine ⟨_, tp, _, _, _, _, rfl, upd_same, pr, ty_tup hy1, kitLT (t := "tuple") (r1 := false) (r2 := true) (by decide +kernel) (by decide +kernel), _, rfl, iteT ?_⟩
    refine ⟨_, rfl, _, _, _, _, _, rfl, .ty _, ty_tup hx1, kit_ty (by decide +kernel : kitB "tuple" "list" = some false), _, rfl, _, _, _, _, _, rfl, .ty _, ty_tup hy1, kit_ty (by decide +kernel : kitB "tuple" "list" = some false), rfl, _, rfl, iteF ?_⟩
    refine ⟨_, rfl, _, _, _, _, _, rfl, .ty _, ty_tup hx1, kit_ty (by decide +kernel : kitB "tuple" "tuple" = some true), _, rfl, _, _, _, _, _, rfl, .ty _, ty_tup hy1, kit_ty (by decide +kernel : kitB "tuple" "tuple" = some true), rfl, _, rfl, iteF ?_⟩
    refine ⟨_, rfl, a, _, rfl, .inr hx1, _, rfl, b, _, rfl, .inr hy1, rfl, ?_⟩
    rw [decide_eq_true (by rw [lx, ly])]
    refine ⟨_, rfl, iteT ?_⟩
    refine ⟨_, rfl, _, rfl, a, b, xs, ys, rfl, .inr ⟨hx1, hy1, fun D nD => ?_⟩⟩
    have sD := s0.trans (same_upd (o := .lst []) nD)
    refine lc_it (walk_zipT (K := K) (a := a) (b := b) (xs := xs) (ys := ys) rfl) (fun i H3 => Same H H3 ∧ H3 D = some (.lst (List.replicate i (.bl true)))) ⟨sD, upd_same⟩ (fun i H3 _ ⟨s3, _⟩ => ⟨Same.seqT s3 hx, Same.seqT s3 hy⟩) ?_ ?_
    · rintro i v H3 H4 hi ⟨s3, eD⟩ ⟨T, x, y, rfl, nT, rfl, e1, e2⟩
      obtain ⟨d1, g1, p1⟩ := DpAll.get ax e1
      obtain ⟨d2, g2, p2⟩ := DpAll.get ay e2
      obtain rfl : d1 = d2 := Option.some.inj (g1.symm.trans g2)
      have s4 := s3.trans (same_upd (o := .tup [x, y]) nT)
      refine ⟨T, _, rfl, .inl (.inl upd_same), rfl, _, _, rfl, _, _, rfl, rfl, rfl, ?_⟩
      refine yesT ?_
      refine ⟨_, rfl, _, rfl, x, y, d1, _, rfl, rfl, lv.2 d1 (List.mem_of_getElem? g1), Dp.same s4 _ _ p1, Dp.same s4 _ _ p2, fun H5 s5 => ?_⟩
      refine ⟨_, s5 _ _ (by rw [upd_ne (ne_of_none eD nT)]; exact eD), ?_, fun p o e => ?_, ?_⟩
      · rw [List.length_replicate]
        have := lv.1
        refine Nat.lt_of_lt_of_le (show i < 1000000 by omega) (by decide)
      · rw [upd_ne (ne_of_none e (s0.free nD))]
        exact s5 _ _ (s4 _ _ e)
      · rw [upd_same, repl_snoc]
    · rintro H3 ⟨s3, eD⟩
      refine ⟨D, List.replicate (min xs.length ys.length) true, rfl, .inl (.inl (by rw [List.map_replicate]; exact eD)), ?_⟩
      rw [all_repl]
      exact q _ s3
  | dict _ => cases dx
theorem ok_same {f : Addr} {fd : FuncData} (F : Fun K "_law_same" "_law_same" sSame f fd) (bf : Binds K fd ["_law_found", "_law_due"] []) (mf : mg "_law_same" = some (.ref f)) (B : Bl mg) : ∀ k : Nat, FnOk P w K mg base CX0 k f fd ["_law_found", "_law_due"] (spSame K k)
  | 0 => same_none
  | k + 1 => ok_same1 F (ok_same F bf mf B k) bf mf B
end
end GZ
namespace GM
theorem pow_pos' (n : Nat) : (0 : Int) < 2 ^ n := Int.pow_pos (by decide)
theorem pow_s (n : Nat) : (2 : Int) ^ (n + 1) = 2 ^ n * 2 := Int.pow_succ 2 n
theorem pow_le' {m n : Nat} (h : m ≤ n) : (2 : Int) ^ m ≤ 2 ^ n := by
  induction n with
  | zero =>
    have : m = 0 := by omega
    rw [this]
    exact Int.le_refl _
  | succ n ih =>
    by_cases e : m = n + 1
    · rw [e]
      exact Int.le_refl _
    · have := ih (by omega)
      have := pow_s n
      have := pow_pos' n
      omega
theorem pow_add' (m n : Nat) : (2 : Int) ^ (m + n) = 2 ^ m * 2 ^ n := Int.pow_add 2 m n
theorem bits_pow {x : Nat} {e : Nat} (h : x < 2 ^ e) : PySem.Builtin.Int.intBits (x : Int) ≤ e := PyProof.Rows.intBits_le (by rw [Int.natAbs_natCast]; exact h)
theorem bits_le_pow {x : Nat} {e : Nat} (h : 2 ^ e ≤ x) : e + 1 ≤ PySem.Builtin.Int.intBits (x : Int) := by
  have hx : x ≠ 0 := by
    have := Nat.two_pow_pos e
    omega
  unfold PySem.Builtin.Int.intBits
  rw [if_neg (by simpa using hx), Int.natAbs_natCast]
  have := (Nat.le_log2 hx).mpr h
  omega
theorem bits_unique {x e : Nat} (h1 : 2 ^ e ≤ x) (h2 : x < 2 ^ (e + 1)) : PySem.Builtin.Int.intBits (x : Int) = e + 1 := by
  have := bits_pow h2
  have := bits_le_pow h1
  omega
theorem bits_ex {x : Nat} (h : 0 < x) : ∃ e, 2 ^ e ≤ x ∧ x < 2 ^ (e + 1) := ⟨x.log2, Nat.log2_self_le (by omega), Nat.lt_log2_self⟩
end GM
namespace GM
def bit (a : Int) (n : Nat) : Int := a / 2 ^ n % 2
def wv : List Int → Int
  | [] => 0
  | d :: r => d * 2 ^ r.length + wv r
theorem div_div (w : Int) (t m : Nat) : w / 2 ^ t / 2 ^ m = w / 2 ^ (t + m) := by
  rw [pow_add', Int.ediv_ediv_of_nonneg (Int.le_of_lt (pow_pos' t))]
theorem bit_div (w : Int) (t m : Nat) : bit (w / 2 ^ t) m = bit w (m + t) := by
  unfold bit
  rw [div_div, Nat.add_comm t m]
theorem mod_step (a : Int) (n : Nat) : bit a n * 2 ^ n + a % 2 ^ n = a % 2 ^ (n + 1) := by
  unfold bit
  have hp := pow_pos' n
  have e1 := Int.emod_add_mul_ediv a (2 ^ n)
  have e2 := Int.emod_add_mul_ediv (a / 2 ^ n) 2
  have h1 := Int.emod_nonneg a (show (2 : Int) ^ n ≠ 0 by omega)
  have h2 := Int.emod_lt_of_pos a hp
  have e3 : 2 ^ n * (a / 2 ^ n) = a / 2 ^ n % 2 * 2 ^ n + a / 2 ^ n / 2 * (2 ^ n * 2) := by
    conv => lhs; rw [← e2]
    rw [Int.mul_add, Int.mul_comm (2 ^ n) (a / 2 ^ n % 2), ← Int.mul_assoc, Int.mul_comm (2 ^ n * 2) _]
  have key : (a / 2 ^ n % 2 * 2 ^ n + a % 2 ^ n) + a / 2 ^ n / 2 * 2 ^ (n + 1) = a := by
    rw [pow_s]
    omega
  have hb : 0 ≤ a / 2 ^ n % 2 * 2 ^ n + a % 2 ^ n ∧ a / 2 ^ n % 2 * 2 ^ n + a % 2 ^ n < 2 ^ (n + 1) := by
    rw [pow_s]
    have : a / 2 ^ n % 2 = 0 ∨ a / 2 ^ n % 2 = 1 := by omega
    rcases this with z | z <;> rw [z] <;> omega
  have em := Int.add_mul_emod_self_right (a / 2 ^ n % 2 * 2 ^ n + a % 2 ^ n) (a / 2 ^ n / 2) (2 ^ (n + 1))
  rw [key, Int.emod_eq_of_lt hb.1 hb.2] at em
  exact em.symm
/-- sign, scale, tail of a word -/
def sgn (m t : Nat) (w : Int) : Int := w / 2 ^ (m + t) % 2
def scl (m t : Nat) (w : Int) : Int := w / 2 ^ t % 2 ^ m
def tlp (t : Nat) (w : Int) : Int := w % 2 ^ t
theorem scl_tlp (m t : Nat) (w : Int) : scl m t w * 2 ^ t + tlp t w = w % 2 ^ (m + t) := by
  induction m with
  | zero =>
    unfold scl tlp
    rw [Int.pow_zero, Int.emod_one, Int.zero_mul, Int.zero_add, Nat.zero_add]
  | succ m ih =>
    have e := mod_step (w / 2 ^ t) m
    have e2 := mod_step w (m + t)
    rw [bit_div] at e
    unfold scl at ih ⊢
    rw [← e, Int.add_mul, show m + 1 + t = (m + t) + 1 by omega, ← e2, ← ih, Int.mul_assoc, ← pow_add']
    omega
theorem sgn_01 {m t : Nat} {w : Int} : sgn m t w = 0 ∨ sgn m t w = 1 := by
  unfold sgn
  omega
theorem scl_nn (m t : Nat) (w : Int) : 0 ≤ scl m t w ∧ scl m t w < 2 ^ m := ⟨Int.emod_nonneg _ (by have := pow_pos' m; omega), Int.emod_lt_of_pos _ (pow_pos' m)⟩
theorem tlp_nn (t : Nat) (w : Int) : 0 ≤ tlp t w ∧ tlp t w < 2 ^ t := ⟨Int.emod_nonneg _ (by have := pow_pos' t; omega), Int.emod_lt_of_pos _ (pow_pos' t)⟩
/-- with the other sign -/
def trn (m t : Nat) (w : Int) : Int := (1 - sgn m t w) * 2 ^ (m + t) + w % 2 ^ (m + t)
theorem mk_parts {m t : Nat} {s r : Int} (hs : s = 0 ∨ s = 1) (h0 : 0 ≤ r) (h1 : r < 2 ^ (m + t)) : 0 ≤ s * 2 ^ (m + t) + r ∧ s * 2 ^ (m + t) + r < 2 ^ (1 + m + t) ∧ sgn m t (s * 2 ^ (m + t) + r) = s ∧ (s * 2 ^ (m + t) + r) % 2 ^ (m + t) = r := by
  have hp := pow_pos' (m + t)
  have e : (2 : Int) ^ (1 + m + t) = 2 ^ (m + t) * 2 := by rw [← pow_s]; congr 1; omega
  have em : (s * 2 ^ (m + t) + r) % 2 ^ (m + t) = r := by
    rw [Int.add_comm, Int.add_mul_emod_self_right, Int.emod_eq_of_lt h0 h1]
  have ed : (s * 2 ^ (m + t) + r) / 2 ^ (m + t) = s := by
    rw [Int.add_comm, Int.add_mul_ediv_right _ _ (by omega), Int.ediv_eq_zero_of_lt h0 h1, Int.zero_add]
  refine ⟨?_, ?_, ?_, em⟩
  · rcases hs with z | z <;> subst z <;> omega
  · rw [e]
    rcases hs with z | z <;> subst z <;> omega
  · unfold sgn
    rw [ed]
    omega
end GM
namespace GR
open PySem
def bl (n : Int) : Int := (Builtin.Int.intBits n : Nat)
def cutQ (n b : Int) : Int := if b < 0 then n * 2 ^ (-b).toNat else n / 2 ^ b.toNat
def cutR (n b : Int) : Bool := if b < 0 then false else !decide (n / 2 ^ b.toNat * 2 ^ b.toNat = n)
def lea (sc tl : Nat) : Int := 1 - (2 ^ (sc - 1) - 1) - (tl : Int)
def lap (sc tl : Nat) (n p : Int) : Int := if lea sc tl > bl n + p - 1 - (tl : Int) then lea sc tl else bl n + p - 1 - (tl : Int)
def prQ (n b : Int) : Int := cutQ n (b - 1) / 2 ^ 1
def prR (n b : Int) (more : Bool) : Int := 2 * (cutQ n (b - 1) % 2 ^ 1) + (if cutR n (b - 1) || more then 1 else 0)
def away (way : Str) (s : Int) : Bool := if way = "cut" then false else decide (s = if way = "up" then 0 else 1)
def gup (way : Str) (s many rest : Int) : Bool := if way = "near" then decide (rest = 3) || (decide (rest = 2) && decide (many % 2 = 1)) else !decide (rest = 0) && away way s
def wrd (sc tl : Nat) (s m t : Int) : Int := s * 2 ^ (sc + tl) + (m * 2 ^ tl + t)
def bey (sc tl : Nat) (s : Int) (way : Str) : Int := if (decide (way = "near") || away way s) = true then wrd sc tl s (2 ^ sc - 1) 0 else wrd sc tl s (2 ^ sc - 1 - 1) (2 ^ tl - 1)
def flg (sc : Nat) (n p rest : Int) : List Str := if rest = 0 then [] else if bl n + p ≤ 1 - (2 ^ (sc - 1) - 1) then ["under", "rounded"] else ["rounded"]
def mny (sc tl : Nat) (s n p : Int) (way : Str) (more : Bool) : Int := if gup way s (prQ n (lap sc tl n p - p)) (prR n (lap sc tl n p - p) more) = true then prQ n (lap sc tl n p - p) + 1 else prQ n (lap sc tl n p - p)
def siz (sc tl : Nat) (s n p : Int) (way : Str) (more : Bool) : Int := (lap sc tl n p - lea sc tl) * 2 ^ tl + mny sc tl s n p way more
def rnd (sc tl : Nat) (s n p : Int) (way : Str) (more : Bool) : Int × List Str :=
  if n = 0 then (wrd sc tl s 0 0, [])
  else if siz sc tl s n p way more > wrd sc tl 0 (2 ^ sc - 1 - 1) (2 ^ tl - 1) then (bey sc tl s way, ["over", "rounded"])
  else (wrd sc tl s 0 0 + siz sc tl s n p way more, flg sc n p (prR n (lap sc tl n p - p) more))
theorem lap_ge (sc tl : Nat) (n p : Int) : lea sc tl ≤ lap sc tl n p := by
  unfold lap
  split <;> omega
end GR
namespace GM
def topS (m t : Nat) : Int := (2 ^ m - 1) * 2 ^ t
def num (t : Nat) (s : Int) : Int := if s / 2 ^ t = 0 then s % 2 ^ t else 2 ^ t + s % 2 ^ t
def ex (t : Nat) (s : Int) : Nat := (s / 2 ^ t).toNat - 1
theorem sz_parts (t : Nat) (s : Int) : s / 2 ^ t * 2 ^ t + s % 2 ^ t = s := by
  have := Int.emod_add_mul_ediv s (2 ^ t)
  rw [Int.mul_comm] at this
  omega
/-- below 2 ^ t times 2 ^ h -/
theorem num_lt {t : Nat} {s : Int} (h0 : 0 ≤ s) : num t s * 2 ^ ex t s < 2 ^ t * 2 ^ (s / 2 ^ t).toNat := by
  have hp := pow_pos' t
  have hl := Int.emod_lt_of_pos s hp
  have hd := Int.ediv_nonneg h0 (Int.le_of_lt hp)
  unfold num ex
  split
  · rename_i e
    rw [e]
    show s % 2 ^ t * 2 ^ 0 < 2 ^ t * 2 ^ 0
    rw [Int.pow_zero]
    omega
  · rename_i e
    obtain ⟨k, hk⟩ : ∃ k : Nat, (s / 2 ^ t).toNat = k + 1 := ⟨(s / 2 ^ t).toNat - 1, by omega⟩
    rw [hk, Nat.add_sub_cancel, pow_s, ← Int.mul_assoc]
    have hk2 := pow_pos' k
    have : (2 ^ t + s % 2 ^ t) * 2 ^ k < (2 ^ t * 2) * 2 ^ k := Int.mul_lt_mul_of_pos_right (by omega) hk2
    rw [show (2 : Int) ^ t * 2 ^ k * 2 = 2 ^ t * 2 * 2 ^ k by rw [Int.mul_assoc, Int.mul_assoc, Int.mul_comm (2 ^ k) 2]]
    exact this
theorem num_ge {t : Nat} {s : Int} {k : Nat} (h : (s / 2 ^ t).toNat = k + 1) : 2 ^ t * 2 ^ k ≤ num t s * 2 ^ ex t s := by
  have hp := pow_pos' t
  have := Int.emod_nonneg s (show (2 : Int) ^ t ≠ 0 by omega)
  have hk2 := pow_pos' k
  unfold num ex
  rw [if_neg (by omega), h, Nat.add_sub_cancel]
  exact Int.mul_le_mul_of_nonneg_right (by omega) (by omega)
theorem num_mono {t : Nat} {a b : Int} (h0 : 0 ≤ a) (h : a < b) : num t a * 2 ^ ex t a < num t b * 2 ^ ex t b := by
  have hp := pow_pos' t
  have ea := sz_parts t a
  have eb := sz_parts t b
  have la := Int.emod_lt_of_pos a hp
  have na := Int.emod_nonneg a (show (2 : Int) ^ t ≠ 0 by omega)
  have nb := Int.emod_nonneg b (show (2 : Int) ^ t ≠ 0 by omega)
  have lb := Int.emod_lt_of_pos b hp
  have hle : a / 2 ^ t ≤ b / 2 ^ t := Int.ediv_le_ediv hp (by omega)
  have hd := Int.ediv_nonneg h0 (Int.le_of_lt hp)
  by_cases e : a / 2 ^ t = b / 2 ^ t
  · have hl : a % 2 ^ t < b % 2 ^ t := by
      rw [e] at ea
      omega
    have hx : ex t a = ex t b := by unfold ex; rw [e]
    rw [hx]
    refine Int.mul_lt_mul_of_pos_right ?_ (pow_pos' _)
    unfold num
    rw [e]
    split <;> omega
  · obtain ⟨k, hk⟩ : ∃ k : Nat, (b / 2 ^ t).toNat = k + 1 := ⟨(b / 2 ^ t).toNat - 1, by omega⟩
    have h1 := num_lt (t := t) h0
    have h2 := num_ge hk
    have h3 : (2 : Int) ^ t * 2 ^ (a / 2 ^ t).toNat ≤ 2 ^ t * 2 ^ k := Int.mul_le_mul_of_nonneg_left (pow_le' (by omega)) (by omega)
    omega
end GM
namespace GM
theorem div_s (x : Int) (k : Nat) : x / 2 ^ (k + 1) = x / 2 ^ k / 2 := by
  rw [pow_s, Int.ediv_ediv_of_nonneg (Int.le_of_lt (pow_pos' k))]
end GM
namespace GR
open PySem GM
def cmpM (N Mo V : Int) (more : Bool) : Int := if N = V then (if more then 1 else 0) else if N > V then 1 else if N + (if more then 1 else 0) * Mo ≤ V then -1 else 1
theorem cmp_ge {N Mo V : Int} {more : Bool} (h : V ≤ N) : 0 ≤ cmpM N Mo V more := by
  unfold cmpM
  split
  · split <;> decide
  · rw [if_pos (by omega)]
    decide
theorem cmp_lt {N Mo V : Int} {more : Bool} (h : N < V) (hm : more = true → N + Mo ≤ V) : cmpM N Mo V more = -1 := by
  unfold cmpM
  rw [if_neg (by omega), if_neg (by omega), if_pos ?_]
  cases more with
  | true =>
    have := hm rfl
    rw [if_pos rfl]
    omega
  | false =>
    rw [if_neg (by decide)]
    omega
theorem cut_scale {n : Int} {a D : Nat} {b : Int} (hb : (D : Int) = a + b) : cutQ n b = n * 2 ^ a / 2 ^ D ∧ cutR n b = !decide (n * 2 ^ a % 2 ^ D = 0) := by
  have hD := pow_pos' D
  have ha := pow_pos' a
  unfold cutQ cutR
  by_cases c : b < 0
  · rw [if_pos c, if_pos c]
    have e : (2 : Int) ^ a = 2 ^ (-b).toNat * 2 ^ D := by rw [← pow_add']; congr 1; omega
    rw [e, ← Int.mul_assoc]
    refine ⟨(Int.mul_ediv_cancel _ (by omega)).symm, ?_⟩
    rw [Int.mul_emod_left, decide_eq_true rfl]
    rfl
  · rw [if_neg c, if_neg c]
    have e : (2 : Int) ^ D = 2 ^ b.toNat * 2 ^ a := by rw [← pow_add']; congr 1; omega
    have hp := pow_pos' b.toNat
    rw [e, Int.mul_ediv_mul_of_pos_left _ _ ha]
    refine ⟨rfl, ?_⟩
    rw [show n * 2 ^ a % (2 ^ b.toNat * 2 ^ a) = n % 2 ^ b.toNat * 2 ^ a by rw [Int.mul_comm n, Int.mul_comm (2 ^ b.toNat), Int.mul_emod_mul_of_pos _ _ ha, Int.mul_comm]]
    have e2 := Int.emod_add_mul_ediv n (2 ^ b.toNat)
    rw [Int.mul_comm] at e2
    by_cases d : n % 2 ^ b.toNat = 0
    · rw [d, Int.zero_mul, decide_eq_true rfl, decide_eq_true (by omega)]
    · have d2 : ¬ n % 2 ^ b.toNat * 2 ^ a = 0 := fun z => by
        rcases Int.mul_eq_zero.mp z with y | y
        · exact d y
        · omega
      rw [decide_eq_false d2, decide_eq_false (by omega)]
def W (t : Nat) (u : Int) : Int := num t u * 2 ^ ex t u
theorem W_at {t : Nat} {d : Nat} {m : Int} (h0 : 0 ≤ m) (h1 : m ≤ 2 ^ t * 2) (h2 : d = 0 ∨ 2 ^ t ≤ m) : W t (d * 2 ^ t + m) = m * 2 ^ d := by
  have hp := pow_pos' t
  unfold W
  by_cases c : m < 2 ^ t
  · have hd : d = 0 := by omega
    subst hd
    have e : ((0 : Nat) : Int) * 2 ^ t + m = m := by omega
    rw [e]
    unfold num ex
    rw [Int.ediv_eq_zero_of_lt h0 c, if_pos rfl, Int.emod_eq_of_lt h0 c]
    rfl
  · by_cases c2 : m < 2 ^ t * 2
    · have ed : ((d : Int) * 2 ^ t + m) / 2 ^ t = (d : Int) + 1 := by
        rw [show (d : Int) * 2 ^ t + m = (m - 2 ^ t) + ((d : Int) + 1) * 2 ^ t by rw [Int.add_mul]; omega, Int.add_mul_ediv_right _ _ (by omega), Int.ediv_eq_zero_of_lt (by omega) (by omega)]
        omega
      have em : ((d : Int) * 2 ^ t + m) % 2 ^ t = m - 2 ^ t := by
        rw [show (d : Int) * 2 ^ t + m = (m - 2 ^ t) + ((d : Int) + 1) * 2 ^ t by rw [Int.add_mul]; omega, Int.add_mul_emod_self_right, Int.emod_eq_of_lt (by omega) (by omega)]
      unfold num ex
      rw [ed, em, if_neg (by omega), show ((d : Int) + 1).toNat - 1 = d by omega, show 2 ^ t + (m - 2 ^ t) = m by omega]
    · have hm : m = 2 ^ t * 2 := by omega
      have ed : ((d : Int) * 2 ^ t + m) / 2 ^ t = (d : Int) + 2 := by
        rw [show (d : Int) * 2 ^ t + m = 0 + ((d : Int) + 2) * 2 ^ t by rw [Int.add_mul]; omega, Int.add_mul_ediv_right _ _ (by omega), Int.zero_ediv]
        omega
      have em : ((d : Int) * 2 ^ t + m) % 2 ^ t = 0 := by
        rw [show (d : Int) * 2 ^ t + m = 0 + ((d : Int) + 2) * 2 ^ t by rw [Int.add_mul]; omega, Int.add_mul_emod_self_right, Int.zero_emod]
      unfold num ex
      rw [ed, em, if_neg (by omega), show ((d : Int) + 2).toNat - 1 = d + 1 by omega, hm, pow_s, Int.add_zero, Int.mul_assoc, Int.mul_comm 2 (2 ^ d)]
theorem W_mono {t : Nat} {a b : Int} (h0 : 0 ≤ a) (h : a < b) : W t a < W t b := num_mono h0 h
theorem W_le {t : Nat} {a b : Int} (h0 : 0 ≤ a) (h : a ≤ b) : W t a ≤ W t b := by
  rcases Int.lt_or_eq_of_le h with c | c
  · exact Int.le_of_lt (W_mono h0 c)
  · rw [c]
    exact Int.le_refl _
theorem bl_in {n : Int} (h : 0 < n) : ∃ k : Nat, bl n = (k : Int) + 1 ∧ 2 ^ k ≤ n ∧ n < 2 ^ (k + 1) := by
  obtain ⟨e, h1, h2⟩ := bits_ex (x := n.toNat) (by omega)
  have hb := bits_unique h1 h2
  have c1 : ((2 ^ e : Nat) : Int) = (2 : Int) ^ e := PySem.W.kbt_cast _
  have c2 : ((2 ^ (e + 1) : Nat) : Int) = (2 : Int) ^ (e + 1) := PySem.W.kbt_cast _
  rw [show ((n.toNat : Nat) : Int) = n by omega] at hb
  refine ⟨e, ?_, by omega, by omega⟩
  unfold bl
  rw [hb]
  omega
/-- what the search meets, and what the rounding reckons -/
structure Fl (sc tl : Nat) (n p : Int) (more : Bool) (N Mo bq low0 : Int) : Prop where
  lo0 : 0 ≤ low0
  le : ∀ u, 0 ≤ u → u ≤ low0 → 0 ≤ cmpM N Mo (W tl u * bq) more
  gt : ∀ u, low0 < u → cmpM N Mo (W tl u * bq) more = -1
  just : cmpM N Mo (W tl low0 * bq) more = 0 ↔ prR n (lap sc tl n p - p) more = 0
  half : cmpM (N * 2) (Mo * 2) (W tl low0 * bq + W tl (low0 + 1) * bq) more = (if prR n (lap sc tl n p - p) more = 3 then 1 else if prR n (lap sc tl n p - p) more = 2 then 0 else -1)
  rest : 0 ≤ prR n (lap sc tl n p - p) more ∧ prR n (lap sc tl n p - p) more ≤ 3
  odd : low0 % 2 = prQ n (lap sc tl n p - p) % 2
  und : cmpM N Mo (W tl (2 ^ tl) * bq) more < 0 ↔ bl n + p ≤ 1 - (2 ^ (sc - 1) - 1)
theorem floor_facts {sc tl : Nat} {n p : Int} {more : Bool} (htl : 1 ≤ tl) (hn : 0 < n) (hm : more = true → p < lap sc tl n p) {a b : Nat} {B : Int} (ha : p - B = a) (hb : lea sc tl - B = (b : Int) + 1) :
    Fl sc tl n p more (n * 2 ^ a) (2 ^ a) (2 ^ (b + 1)) ((lap sc tl n p - lea sc tl) * 2 ^ tl + prQ n (lap sc tl n p - p)) := by
  obtain ⟨k, hk, hk1, hk2⟩ := bl_in hn
  have hge := lap_ge sc tl n p
  obtain ⟨d, hd⟩ : ∃ d : Nat, lap sc tl n p - lea sc tl = (d : Int) := ⟨(lap sc tl n p - lea sc tl).toNat, by omega⟩
  have hcase : (d = 0 ∧ bl n + p - 1 - tl ≤ lap sc tl n p) ∨ lap sc tl n p = bl n + p - 1 - tl := by
    unfold lap at hd ⊢
    split
    · rename_i c
      rw [if_pos c] at hd
      exact .inl ⟨by omega, by omega⟩
    · exact .inr rfl
  have hle : bl n + p - 1 - tl ≤ lap sc tl n p := by omega
  -- the scale
  obtain ⟨hQ, hR⟩ := cut_scale (n := n) (a := a) (D := d + b) (b := lap sc tl n p - p - 1) (by omega)
  have pD := pow_pos' (d + b)
  have pa := pow_pos' a
  have pt := pow_pos' tl
  have pD1 : (2 : Int) ^ (d + b + 1) = 2 ^ (d + b) * 2 := pow_s _
  have eq : prQ n (lap sc tl n p - p) = n * 2 ^ a / 2 ^ (d + b + 1) := by
    show cutQ n (lap sc tl n p - p - 1) / 2 ^ 1 = _
    rw [hQ, GM.div_div]
  have er : prR n (lap sc tl n p - p) more = 2 * (n * 2 ^ a / 2 ^ (d + b) % 2) + (if (!decide (n * 2 ^ a % 2 ^ (d + b) = 0)) || more then 1 else 0) := by
    show 2 * (cutQ n (lap sc tl n p - p - 1) % 2 ^ 1) + (if cutR n (lap sc tl n p - p - 1) || more then 1 else 0) = _
    rw [hQ, hR]
    rfl
  have hN0 : 0 < n * 2 ^ a := Int.mul_pos hn pa
  have moreD : more = true → ∃ f : Nat, (2 : Int) ^ (d + b) = 2 ^ f * 2 ^ a := fun z => by
    have := hm z
    refine ⟨d + b - a, ?_⟩
    rw [← pow_add']
    congr 1
    omega
  -- sizes of the number
  have hNlt : n * 2 ^ a < 2 ^ (k + 1 + a) := by
    rw [pow_add']
    exact Int.mul_lt_mul_of_pos_right hk2 pa
  have hNge : 2 ^ (k + a) ≤ n * 2 ^ a := by
    rw [pow_add']
    exact Int.mul_le_mul_of_nonneg_right hk1 (by omega)
  have hkd : k + 1 + a ≤ tl + 1 + (d + b + 1) := by omega
  have hm1 : n * 2 ^ a / 2 ^ (d + b + 1) < 2 ^ tl * 2 := by
    refine Int.ediv_lt_of_lt_mul (by omega) ?_
    rw [← pow_s, ← pow_add']
    exact Int.lt_of_lt_of_le hNlt (pow_le' hkd)
  have hm0 : 0 ≤ n * 2 ^ a / 2 ^ (d + b + 1) := Int.ediv_nonneg (by omega) (by omega)
  have hm2 : d = 0 ∨ 2 ^ tl ≤ n * 2 ^ a / 2 ^ (d + b + 1) := by
    rcases hcase with h | h
    · exact .inl h.1
    · right
      refine (Int.le_ediv_iff_mul_le (by omega)).mpr ?_
      rw [← pow_add']
      exact Int.le_trans (pow_le' (by omega)) hNge
  rw [eq, hd]
  have eN := Int.emod_add_mul_ediv (n * 2 ^ a) (2 ^ (d + b + 1))
  have r0 := Int.emod_nonneg (n * 2 ^ a) (show (2 : Int) ^ (d + b + 1) ≠ 0 by omega)
  have r1 := Int.emod_lt_of_pos (n * 2 ^ a) (show (0 : Int) < 2 ^ (d + b + 1) by omega)
  have fN := Int.emod_add_mul_ediv (n * 2 ^ a) (2 ^ (d + b))
  have s0 := Int.emod_nonneg (n * 2 ^ a) (show (2 : Int) ^ (d + b) ≠ 0 by omega)
  have s1 := Int.emod_lt_of_pos (n * 2 ^ a) pD
  have hh : n * 2 ^ a / 2 ^ (d + b + 1) = n * 2 ^ a / 2 ^ (d + b) / 2 := GM.div_s _ _
  have pt2 : (2 : Int) ^ tl = 2 ^ (tl - 1) * 2 := by rw [← pow_s]; congr 1; omega
  have bb : (2 : Int) ^ d * 2 ^ (b + 1) = 2 ^ (d + b) * 2 := by rw [← pow_add', show d + (b + 1) = d + b + 1 by omega, pow_s]
  have v0 : W tl ((d : Int) * 2 ^ tl + n * 2 ^ a / 2 ^ (d + b + 1)) * 2 ^ (b + 1) = n * 2 ^ a / 2 ^ (d + b + 1) * (2 ^ (d + b) * 2) := by
    rw [W_at hm0 (by omega) hm2, Int.mul_assoc, bb]
  have v1 : W tl ((d : Int) * 2 ^ tl + n * 2 ^ a / 2 ^ (d + b + 1) + 1) * 2 ^ (b + 1) = (n * 2 ^ a / 2 ^ (d + b + 1) + 1) * (2 ^ (d + b) * 2) := by
    rw [show (d : Int) * 2 ^ tl + n * 2 ^ a / 2 ^ (d + b + 1) + 1 = (d : Int) * 2 ^ tl + (n * 2 ^ a / 2 ^ (d + b + 1) + 1) by omega, W_at (by omega) (by omega) (by omega), Int.mul_assoc, bb]
  have lo0 : 0 ≤ (d : Int) * 2 ^ tl + n * 2 ^ a / 2 ^ (d + b + 1) := by
    have := Int.mul_nonneg (show (0 : Int) ≤ (d : Int) by omega) (Int.le_of_lt pt)
    omega
  have pb := pow_pos' (b + 1)
  rw [pD1] at eN r0 r1
  have vt : W tl (2 ^ tl) * 2 ^ (b + 1) = 2 ^ (tl + (b + 1)) := by
    have := W_at (t := tl) (d := 0) (m := 2 ^ tl) (by omega) (by omega) (.inl rfl)
    rw [show ((0 : Nat) : Int) * 2 ^ tl + 2 ^ tl = 2 ^ tl by omega, Int.pow_zero, Int.mul_one] at this
    rw [this, ← pow_add']
  have ho : ((d : Int) * 2 ^ tl + n * 2 ^ a / 2 ^ (d + b + 1)) % 2 = n * 2 ^ a / 2 ^ (d + b + 1) % 2 := by
    rw [pt2, ← Int.mul_assoc]
    generalize (d : Int) * 2 ^ (tl - 1) = z
    omega
  have lea1 : 1 - ((2 : Int) ^ (sc - 1) - 1) = lea sc tl + tl := by
    unfold lea
    omega
  -- multiples of what more stands for
  have stepM : more = true → ∀ X : Int, n * 2 ^ a < X * 2 ^ (d + b) → n * 2 ^ a + 2 ^ a ≤ X * 2 ^ (d + b) := fun z X hX => by
    obtain ⟨f, hf⟩ := moreD z
    rw [hf, ← Int.mul_assoc] at hX ⊢
    have h1 : n < X * 2 ^ f := Int.lt_of_mul_lt_mul_right hX (by omega)
    have h2 : (n + 1) * 2 ^ a ≤ X * 2 ^ f * 2 ^ a := Int.mul_le_mul_of_nonneg_right (by omega) (by omega)
    rw [Int.add_mul, Int.one_mul] at h2
    exact h2
  have X1 : more = true → n * 2 ^ a < 2 * (2 ^ (d + b) * (n * 2 ^ a / 2 ^ (d + b + 1))) + 2 ^ (d + b) → n * 2 ^ a + 2 ^ a ≤ 2 * (2 ^ (d + b) * (n * 2 ^ a / 2 ^ (d + b + 1))) + 2 ^ (d + b) := fun z => by
    have := stepM z (2 * (n * 2 ^ a / 2 ^ (d + b + 1)) + 1)
    rw [show (2 * (n * 2 ^ a / 2 ^ (d + b + 1)) + 1) * 2 ^ (d + b) = 2 * (2 ^ (d + b) * (n * 2 ^ a / 2 ^ (d + b + 1))) + 2 ^ (d + b) by rw [Int.add_mul, Int.one_mul, Int.mul_assoc, Int.mul_comm (2 ^ (d + b))]] at this
    exact this
  have X2 : more = true → n * 2 ^ a < 2 * (2 ^ (d + b) * (n * 2 ^ a / 2 ^ (d + b + 1))) + 2 * 2 ^ (d + b) → n * 2 ^ a + 2 ^ a ≤ 2 * (2 ^ (d + b) * (n * 2 ^ a / 2 ^ (d + b + 1))) + 2 * 2 ^ (d + b) := fun z => by
    have := stepM z (2 * (n * 2 ^ a / 2 ^ (d + b + 1)) + 2)
    rw [show (2 * (n * 2 ^ a / 2 ^ (d + b + 1)) + 2) * 2 ^ (d + b) = 2 * (2 ^ (d + b) * (n * 2 ^ a / 2 ^ (d + b + 1))) + 2 * 2 ^ (d + b) by rw [Int.add_mul, Int.mul_assoc, Int.mul_comm (2 ^ (d + b))]] at this
    exact this
  rw [show n * 2 ^ a / 2 ^ (d + b + 1) * (2 ^ (d + b) * 2) = 2 * (2 ^ (d + b) * (n * 2 ^ a / 2 ^ (d + b + 1))) by rw [← Int.mul_assoc, Int.mul_comm _ (2 ^ (d + b)), Int.mul_comm]] at v0
  rw [show (n * 2 ^ a / 2 ^ (d + b + 1) + 1) * (2 ^ (d + b) * 2) = 2 * (2 ^ (d + b) * (n * 2 ^ a / 2 ^ (d + b + 1))) + 2 * 2 ^ (d + b) by rw [Int.add_mul, ← Int.mul_assoc, Int.mul_comm _ (2 ^ (d + b)), Int.mul_comm _ 2]; omega] at v1
  have hb2 : n * 2 ^ a / 2 ^ (d + b) % 2 = 0 ∨ n * 2 ^ a / 2 ^ (d + b) % 2 = 1 := by omega
  have hNN : n * 2 ^ a = n * 2 ^ a % 2 ^ (d + b) + 2 * (2 ^ (d + b) * (n * 2 ^ a / 2 ^ (d + b + 1))) + n * 2 ^ a / 2 ^ (d + b) % 2 * 2 ^ (d + b) := by
    have e1 : n * 2 ^ a / 2 ^ (d + b) = 2 * (n * 2 ^ a / 2 ^ (d + b + 1)) + n * 2 ^ a / 2 ^ (d + b) % 2 := by omega
    have e2 : 2 ^ (d + b) * (n * 2 ^ a / 2 ^ (d + b)) = 2 * (2 ^ (d + b) * (n * 2 ^ a / 2 ^ (d + b + 1))) + n * 2 ^ a / 2 ^ (d + b) % 2 * 2 ^ (d + b) := by
      conv => lhs; rw [e1]
      rw [Int.mul_add, ← Int.mul_assoc, Int.mul_comm _ 2, Int.mul_assoc, Int.mul_comm (2 ^ (d + b)) (n * 2 ^ a / 2 ^ (d + b) % 2)]
    omega
  have hund : (n * 2 ^ a < 2 ^ (tl + (b + 1))) ↔ bl n + p ≤ 1 - (2 ^ (sc - 1) - 1) := by
    constructor
    · intro h
      have : (2 : Int) ^ (k + a) < 2 ^ (tl + (b + 1)) := by omega
      have : k + a < tl + (b + 1) := by
        rcases Nat.lt_or_ge (k + a) (tl + (b + 1)) with c | c
        · exact c
        · have := pow_le' c
          omega
      omega
    · intro h
      have : (2 : Int) ^ (k + 1 + a) ≤ 2 ^ (tl + (b + 1)) := pow_le' (by omega)
      omega
  clear eN r0 r1 fN hh stepM moreD hNlt hNge hkd hm1 hm2 hQ hR hk hk1 hk2 pt2 bb hcase
  have wle : ∀ u v : Int, 0 ≤ u → u ≤ v → W tl u * 2 ^ (b + 1) ≤ W tl v * 2 ^ (b + 1) := fun u v h1 h2 => Int.mul_le_mul_of_nonneg_right (W_le h1 h2) (by omega)
  generalize 2 ^ (d + b) * (n * 2 ^ a / 2 ^ (d + b + 1)) = z at *
  generalize n * 2 ^ a / 2 ^ (d + b) % 2 = hb' at *
  generalize n * 2 ^ a % 2 ^ (d + b) = rem at *
  generalize (d : Int) * 2 ^ tl + n * 2 ^ a / 2 ^ (d + b + 1) = lo at *
  generalize (2 : Int) ^ (d + b) = q at *
  generalize (2 : Int) ^ (b + 1) = bq at *
  generalize n * 2 ^ a = N at *
  generalize (2 : Int) ^ a = Mo at *
  have hgt : ∀ u, lo < u → cmpM N Mo (W tl u * bq) more = -1 := fun u hu => by
    have h1 := wle (lo + 1) u (by omega) (by omega)
    rw [v1] at h1
    have h2 : N < 2 * z + 2 * q := by rcases hb2 with c | c <;> rw [c] at hNN <;> omega
    exact cmp_lt (by omega) fun c => by
      have := X2 c h2
      omega
  refine ⟨lo0, fun u u0 u1 => cmp_ge ?_, hgt, ?_, ?_, ?_, by rw [eq]; exact ho, ?_⟩
  · have h1 := wle u lo u0 u1
    rw [v0] at h1
    rcases hb2 with c | c <;> rw [c] at hNN <;> omega
  · rw [v0, er]
    unfold cmpM
    rcases hb2 with c | c <;> rw [c] at hNN ⊢
    · by_cases c2 : rem = 0
      · rw [if_pos (by omega), c2]
        cases more <;> decide
      · rw [if_neg (by omega), if_pos (by omega), decide_eq_false c2]
        constructor
        · intro h; omega
        · intro h
          revert h
          cases more <;> decide
    · rw [if_neg (by omega), if_pos (by omega)]
      constructor
      · intro h; omega
      · intro h
        split at h <;> omega
  · rw [v0, v1, er]
    rcases hb2 with c | c <;> rw [c] at hNN ⊢
    · have h1 : cmpM (N * 2) (Mo * 2) (2 * z + (2 * z + 2 * q)) more = -1 := cmp_lt (by omega) fun c => by
        have := X1 c (by omega)
        omega
      rw [h1]
      split <;> rfl
    · unfold cmpM
      by_cases c2 : rem = 0
      · rw [if_pos (by omega), c2]
        cases more <;> decide
      · rw [if_neg (by omega), if_pos (by omega), decide_eq_false c2]
        rfl
  · rw [er]
    rcases hb2 with c | c <;> rw [c]
    · split <;> omega
    · split <;> omega
  · rw [vt, ← hund]
    constructor
    · intro h
      rcases Int.lt_or_le N (2 ^ (tl + (b + 1))) with c | c
      · exact c
      · have := cmp_ge (N := N) (Mo := Mo) (more := more) c
        omega
    · intro h
      have h1 : lo < 2 ^ tl := by
        rcases Int.lt_or_le lo (2 ^ tl) with c | c
        · exact c
        · have := wle (2 ^ tl) lo (by omega) c
          rw [vt, v0] at this
          rcases hb2 with c | c <;> rw [c] at hNN <;> omega
      have := hgt _ h1
      rw [vt] at this
      rw [this]
      decide
end GR
namespace GR
open PySem GM
theorem bl_div {n : Int} {j : Nat} (h : 0 < n / 2 ^ j) : bl (n / 2 ^ j) + j = bl n := by
  have pj := pow_pos' j
  have hm0 := Int.emod_nonneg n (show (2 : Int) ^ j ≠ 0 by omega)
  have hm1 := Int.emod_lt_of_pos n pj
  have dm := Int.emod_add_mul_ediv n (2 ^ j)
  have hpos : 0 < n := by
    have := Int.mul_pos pj h
    omega
  obtain ⟨k, hk, hk1, hk2⟩ := bl_in hpos
  obtain ⟨m, hm, g1, g2⟩ := bl_in h
  have l1 : (2 : Int) ^ (m + j) ≤ n := by
    rw [pow_add' m j]
    have := Int.mul_le_mul_of_nonneg_right g1 (Int.le_of_lt pj)
    rw [Int.mul_comm (n / 2 ^ j)] at this
    omega
  have l2 : n < (2 : Int) ^ (m + 1 + j) := by
    rw [pow_add' (m + 1) j]
    have := Int.mul_le_mul_of_nonneg_right (show n / 2 ^ j + 1 ≤ 2 ^ (m + 1) by omega) (Int.le_of_lt pj)
    rw [Int.add_mul, Int.one_mul, Int.mul_comm (n / 2 ^ j)] at this
    omega
  have e : k = m + j := by
    rcases Nat.lt_trichotomy k (m + j) with c | c | c
    · have := pow_le' (show k + 1 ≤ m + j by omega)
      omega
    · exact c
    · have := pow_le' (show m + 1 + j ≤ k by omega)
      omega
  omega
theorem mod_two {n : Int} {j c : Nat} : n % 2 ^ (c + j) = 0 ↔ (n % 2 ^ j = 0 ∧ n / 2 ^ j % 2 ^ c = 0) := by
  have pj := pow_pos' j
  have pc := pow_pos' c
  have r0 := Int.emod_nonneg n (show (2 : Int) ^ j ≠ 0 by omega)
  have r1 := Int.emod_lt_of_pos n pj
  have R0 := Int.emod_nonneg (n / 2 ^ j) (show (2 : Int) ^ c ≠ 0 by omega)
  have R1 := Int.emod_lt_of_pos (n / 2 ^ j) pc
  have d1 := Int.emod_add_mul_ediv n (2 ^ j)
  have d2 := Int.emod_add_mul_ediv (n / 2 ^ j) (2 ^ c)
  have pcj : (2 : Int) ^ (c + j) = 2 ^ c * 2 ^ j := pow_add' c j
  generalize n % 2 ^ j = r at *
  generalize n / 2 ^ j % 2 ^ c = R at *
  generalize n / 2 ^ j / 2 ^ c = Q at *
  generalize n / 2 ^ j = q at *
  have hlt : 2 ^ j * R + r < 2 ^ (c + j) := by
    have := Int.mul_le_mul_of_nonneg_right (show R + 1 ≤ 2 ^ c by omega) (Int.le_of_lt pj)
    rw [Int.add_mul, Int.one_mul, ← pcj, Int.mul_comm R] at this
    omega
  have hnn : 0 ≤ 2 ^ j * R := Int.mul_nonneg (Int.le_of_lt pj) R0
  have en : n = (2 ^ j * R + r) + Q * 2 ^ (c + j) := by
    rw [← d1, ← d2, pcj, Int.mul_add, ← Int.mul_assoc, Int.mul_comm (2 ^ j) (2 ^ c), Int.mul_comm (2 ^ c * 2 ^ j) Q]
    omega
  rw [en, Int.add_mul_emod_self_right, Int.emod_eq_of_lt (by omega) hlt]
  constructor
  · intro h
    have hz : 2 ^ j * R = 0 := by omega
    exact ⟨by omega, (Int.mul_eq_zero.mp hz).resolve_left (by omega)⟩
  · intro h
    rw [h.2, h.1]
    omega
theorem rnd_cut {sc tl : Nat} {s n p : Int} {w : Str} {more : Bool} (j : Nat) (h0 : 0 < n / 2 ^ j) (hp : p + j < lap sc tl (n / 2 ^ j) (p + j)) :
    rnd sc tl s n p w more = rnd sc tl s (n / 2 ^ j) (p + j) w (!decide (n % 2 ^ j = 0) || more) := by
  have pj := pow_pos' j
  have hb := bl_div h0
  have hb' : bl (n / 2 ^ j) + (p + j) = bl n + p := by omega
  have hl : lap sc tl (n / 2 ^ j) (p + j) = lap sc tl n p := by
    unfold lap
    rw [hb']
  rw [hl] at hp
  have hn : n ≠ 0 := fun z => by
    rw [z, Int.zero_ediv] at h0
    omega
  obtain ⟨c, hc⟩ : ∃ c : Nat, lap sc tl n p - (p + j) - 1 = (c : Int) := ⟨(lap sc tl n p - (p + j) - 1).toNat, by omega⟩
  obtain ⟨q1, r1⟩ := cut_scale (n := n / 2 ^ j) (a := 0) (D := c) (b := lap sc tl n p - (p + j) - 1) (by omega)
  obtain ⟨q2, r2⟩ := cut_scale (n := n) (a := 0) (D := c + j) (b := lap sc tl n p - p - 1) (by omega)
  rw [show (2 : Int) ^ 0 = 1 from rfl, Int.mul_one] at q1 r1 q2 r2
  have eQ : cutQ n (lap sc tl n p - p - 1) = cutQ (n / 2 ^ j) (lap sc tl n p - (p + j) - 1) := by
    rw [q1, q2, pow_add' c j, Int.mul_comm, Int.ediv_ediv_of_nonneg (Int.le_of_lt pj)]
  have eR : (cutR n (lap sc tl n p - p - 1) || more) = (cutR (n / 2 ^ j) (lap sc tl n p - (p + j) - 1) || (!decide (n % 2 ^ j = 0) || more)) := by
    rw [r1, r2, ← Bool.or_assoc]
    congr 1
    rw [Bool.eq_iff_iff, Bool.or_eq_true, Bool.not_eq_true', Bool.not_eq_true', Bool.not_eq_true', decide_eq_false_iff_not, decide_eq_false_iff_not, decide_eq_false_iff_not, mod_two]
    constructor
    · intro h
      by_cases z : n % 2 ^ j = 0
      · exact .inl (fun y => h ⟨z, y⟩)
      · exact .inr z
    · intro h y
      exact h.elim (fun z => z y.2) (fun z => z y.1)
  have ePQ : prQ n (lap sc tl n p - p) = prQ (n / 2 ^ j) (lap sc tl n p - (p + j)) := by
    unfold prQ
    rw [eQ]
  have ePR : prR n (lap sc tl n p - p) more = prR (n / 2 ^ j) (lap sc tl n p - (p + j)) (!decide (n % 2 ^ j = 0) || more) := by
    unfold prR
    rw [eQ, eR]
  unfold rnd siz mny flg
  rw [if_neg hn, if_neg (show ¬ n / 2 ^ j = 0 by omega), hl, hb', ePQ, ePR]
end GR
namespace GR
open PySem GM
theorem bl_mul {n : Int} {k : Nat} (h : 0 < n) : bl (n * 2 ^ k) = bl n + k := by
  have pk := pow_pos' k
  have e : n * 2 ^ k / 2 ^ k = n := Int.mul_ediv_cancel _ (by omega)
  have := bl_div (n := n * 2 ^ k) (j := k) (by rw [e]; exact h)
  rw [e] at this
  omega
theorem rnd_scale {sc tl : Nat} {s n p : Int} {w : Str} {m : Bool} (k : Nat) (hn : 0 < n) : rnd sc tl s (n * 2 ^ k) (p - k) w m = rnd sc tl s n p w m := by
  have pk := pow_pos' k
  have hb : bl (n * 2 ^ k) + (p - k) = bl n + p := by
    rw [bl_mul hn]
    omega
  have hl : lap sc tl (n * 2 ^ k) (p - k) = lap sc tl n p := by
    unfold lap
    rw [hb]
  have hz : 0 < n * 2 ^ k := Int.mul_pos hn pk
  obtain ⟨D, hD⟩ : ∃ D : Nat, (D : Int) = (k : Int) + ((p - lap sc tl n p + 1).toNat : Nat) + (lap sc tl n p - p - 1) := ⟨((k : Int) + ((p - lap sc tl n p + 1).toNat : Nat) + (lap sc tl n p - p - 1)).toNat, by omega⟩
  obtain ⟨q1, r1⟩ := cut_scale (n := n) (a := k + (p - lap sc tl n p + 1).toNat) (D := D) (b := lap sc tl n p - p - 1) (by omega)
  obtain ⟨q2, r2⟩ := cut_scale (n := n * 2 ^ k) (a := (p - lap sc tl n p + 1).toNat) (D := D) (b := lap sc tl n p - (p - k) - 1) (by omega)
  have e : n * 2 ^ k * 2 ^ (p - lap sc tl n p + 1).toNat = n * 2 ^ (k + (p - lap sc tl n p + 1).toNat) := by rw [pow_add', Int.mul_assoc]
  rw [e] at q2 r2
  have eQ : cutQ (n * 2 ^ k) (lap sc tl n p - (p - k) - 1) = cutQ n (lap sc tl n p - p - 1) := by rw [q1, q2]
  have eR : cutR (n * 2 ^ k) (lap sc tl n p - (p - k) - 1) = cutR n (lap sc tl n p - p - 1) := by rw [r1, r2]
  have ePQ : prQ (n * 2 ^ k) (lap sc tl n p - (p - k)) = prQ n (lap sc tl n p - p) := by
    unfold prQ
    rw [eQ]
  have ePR : prR (n * 2 ^ k) (lap sc tl n p - (p - k)) m = prR n (lap sc tl n p - p) m := by
    unfold prR
    rw [eQ, eR]
  unfold rnd siz mny flg
  rw [if_neg (show ¬ n * 2 ^ k = 0 by omega), if_neg (show ¬ n = 0 by omega), hl, hb, ePQ, ePR]
end GR
namespace GR
open PySem GM
def lowW (sc tl : Nat) (n p : Int) : Int := (lap sc tl n p - lea sc tl) * 2 ^ tl + prQ n (lap sc tl n p - p)
def rsW (sc tl : Nat) (n p : Int) : Int := prR n (lap sc tl n p - p) false
def topW (sc tl : Nat) : Int := (2 ^ sc - 1) * 2 ^ tl
theorem wrd_top (sc tl : Nat) : wrd sc tl 0 (2 ^ sc - 1 - 1) (2 ^ tl - 1) = topW sc tl - 1 ∧ wrd sc tl 0 (2 ^ sc - 1) 0 = topW sc tl ∧ wrd sc tl 0 0 0 = 0 := by
  unfold wrd topW
  refine ⟨?_, by omega, by omega⟩
  rw [Int.sub_mul (2 ^ sc - 1) 1, Int.one_mul]
  omega
theorem wrd_sign (sc tl : Nat) (m t : Int) : wrd sc tl 1 m t = wrd sc tl 0 m t + 2 ^ (sc + tl) := by
  unfold wrd
  omega
theorem rnd_turn {sc tl : Nat} {n p : Int} {w w' : Str} {m : Bool} (hn : w' = "near" ↔ w = "near") (ha : ¬ w = "near" → away w' 1 = away w 0) : rnd sc tl 1 n p w' m = ((rnd sc tl 0 n p w m).1 + 2 ^ (sc + tl), (rnd sc tl 0 n p w m).2) := by
  have hg : ∀ x r, gup w' 1 x r = gup w 0 x r := fun x r => by
    unfold gup
    by_cases c : w = "near"
    · rw [if_pos c, if_pos (hn.mpr c)]
    · rw [if_neg c, if_neg (fun z => c (hn.mp z)), ha c]
  have hz : siz sc tl 1 n p w' m = siz sc tl 0 n p w m := by
    unfold siz mny
    rw [hg]
  have hb : bey sc tl 1 w' = bey sc tl 0 w + 2 ^ (sc + tl) := by
    unfold bey
    by_cases c : w = "near"
    · rw [if_pos (by rw [decide_eq_true (hn.mpr c)]; rfl), if_pos (by rw [decide_eq_true c]; rfl)]
      exact wrd_sign _ _ _ _
    · rw [decide_eq_false c, decide_eq_false (fun z => c (hn.mp z)), ha c]
      split <;> exact wrd_sign _ _ _ _
  unfold rnd
  rw [hz, hb, wrd_sign]
  split
  · rfl
  · split
    · rfl
    · refine Prod.ext ?_ rfl
      show wrd sc tl 0 0 0 + 2 ^ (sc + tl) + siz sc tl 0 n p w m = wrd sc tl 0 0 0 + siz sc tl 0 n p w m + 2 ^ (sc + tl)
      omega
/-- what sign 0 tells: the size, by how far it goes up -/
def upW (w : Str) (q r : Int) : Int := if gup w 0 q r = true then 1 else 0
theorem rnd_zero {sc tl : Nat} {n p : Int} {w : Str} (hn : n ≠ 0) : rnd sc tl 0 n p w false = (if lowW sc tl n p + upW w (prQ n (lap sc tl n p - p)) (rsW sc tl n p) > topW sc tl - 1 then (if (decide (w = ("near" : Str)) || away w 0) = true then topW sc tl else topW sc tl - 1, (["over", "rounded"] : List Str)) else (lowW sc tl n p + upW w (prQ n (lap sc tl n p - p)) (rsW sc tl n p), flg sc n p (rsW sc tl n p))) := by
  obtain ⟨t1, t2, t3⟩ := wrd_top sc tl
  have hz : siz sc tl 0 n p w false = lowW sc tl n p + upW w (prQ n (lap sc tl n p - p)) (rsW sc tl n p) := by
    unfold siz mny lowW upW rsW
    split <;> omega
  unfold rnd bey
  rw [if_neg hn, hz, t1, t2, t3, Int.zero_add]
  rfl
theorem rs_in (sc tl : Nat) (n p : Int) : 0 ≤ rsW sc tl n p ∧ rsW sc tl n p ≤ 3 := by
  unfold rsW prR
  have h0 := Int.emod_nonneg (cutQ n (lap sc tl n p - p - 1)) (show (2 : Int) ^ 1 ≠ 0 by decide)
  have h1 := Int.emod_lt_of_pos (cutQ n (lap sc tl n p - p - 1)) (show (0 : Int) < 2 ^ 1 by decide)
  split <;> omega
theorem gup_cut (q r : Int) : gup "cut" 0 q r = false := by
  unfold gup away
  rw [if_neg (show ¬ (("cut" : Str) = "near") by decide +kernel), if_pos (show ("cut" : Str) = "cut" from rfl), Bool.and_false]
theorem gup_down (q r : Int) : gup "down" 0 q r = false := by
  unfold gup away
  rw [if_neg (show ¬ (("down" : Str) = "near") by decide +kernel), if_neg (show ¬ (("down" : Str) = "cut") by decide +kernel), if_neg (show ¬ (("down" : Str) = "up") by decide +kernel), show decide ((0 : Int) = 1) = false from rfl, Bool.and_false]
theorem gup_up (q r : Int) : gup "up" 0 q r = !decide (r = 0) := by
  unfold gup away
  rw [if_neg (show ¬ (("up" : Str) = "near") by decide +kernel), if_neg (show ¬ (("up" : Str) = "cut") by decide +kernel), if_pos (show ("up" : Str) = "up" from rfl), show decide ((0 : Int) = 0) = true from rfl, Bool.and_true]
theorem gup_near (q r : Int) : gup "near" 0 q r = decide (r = 3 ∨ (r = 2 ∧ q % 2 = 1)) := by
  unfold gup
  rw [if_pos (show ("near" : Str) = "near" from rfl)]
  simp only [Bool.decide_or, Bool.decide_and]
theorem up_ways (q r : Int) : upW "cut" q r = 0 ∧ upW "down" q r = 0 ∧ upW "up" q r = (if r = 0 then 0 else 1) ∧ upW "near" q r = (if r = 3 ∨ (r = 2 ∧ q % 2 = 1) then 1 else 0) := by
  unfold upW
  rw [gup_cut, gup_down, gup_up, gup_near]
  refine ⟨rfl, rfl, ?_, ?_⟩
  · by_cases c : r = 0
    · rw [if_pos c, decide_eq_true c]
      rfl
    · rw [if_neg c, decide_eq_false c]
      rfl
  · by_cases c : r = 3 ∨ (r = 2 ∧ q % 2 = 1)
    · rw [if_pos c, decide_eq_true c]
      rfl
    · rw [if_neg c, decide_eq_false c]
      rfl
/-- greater worths, on one scale, have no lesser floor, and no lesser rest where the floors are alike -/
theorem cmp3 (N Mo V : Int) : cmpM N Mo V false = (if N = V then 0 else if N > V then 1 else -1) := by
  unfold cmpM
  have : N + (if (false : Bool) = true then (1 : Int) else 0) * Mo = N := by
    rw [if_neg (by decide), Int.zero_mul, Int.add_zero]
  rw [this]
  by_cases c1 : N = V
  · rw [if_pos c1, if_pos c1]
    rfl
  · rw [if_neg c1, if_neg c1]
    by_cases c2 : N > V
    · rw [if_pos c2, if_pos c2]
    · rw [if_neg c2, if_neg c2, if_pos (by omega)]
theorem low_mono {sc tl : Nat} {n p n' p' : Int} (htl : 1 ≤ tl) (hn : 0 < n) (hn' : 0 < n') {a a' b : Nat} {B : Int} (ha : p - B = a) (ha' : p' - B = a') (hb : lea sc tl - B = (b : Int) + 1) (hle : n * 2 ^ a ≤ n' * 2 ^ a') :
    lowW sc tl n p ≤ lowW sc tl n' p' ∧ (lowW sc tl n p = lowW sc tl n' p' → rsW sc tl n p ≤ rsW sc tl n' p') := by
  have F := floor_facts (sc := sc) (tl := tl) (n := n) (p := p) (more := false) htl hn (fun z => nomatch z) ha hb
  have F' := floor_facts (sc := sc) (tl := tl) (n := n') (p := p') (more := false) htl hn' (fun z => nomatch z) ha' hb
  have L0 := F.lo0
  have g1 : W tl (lowW sc tl n p) * 2 ^ (b + 1) ≤ n * 2 ^ a := by
    have := F.le _ L0 (Int.le_refl _)
    rw [cmp3] at this
    change 0 ≤ (if n * 2 ^ a = W tl (lowW sc tl n p) * 2 ^ (b + 1) then (0 : Int) else if n * 2 ^ a > W tl (lowW sc tl n p) * 2 ^ (b + 1) then 1 else -1) at this
    split at this
    · omega
    · split at this <;> omega
  have first : lowW sc tl n p ≤ lowW sc tl n' p' := by
    by_cases c : lowW sc tl n' p' < lowW sc tl n p
    · have h := F'.gt _ c
      rw [cmp3] at h
      split at h
      · cases h
      · split at h
        · cases h
        · omega
    · omega
  refine ⟨first, fun e => ?_⟩
  have R : 0 ≤ rsW sc tl n p ∧ rsW sc tl n p ≤ 3 := F.rest
  have R' : 0 ≤ rsW sc tl n' p' ∧ rsW sc tl n' p' ≤ 3 := F'.rest
  have J : cmpM (n * 2 ^ a) (2 ^ a) (W tl (lowW sc tl n p) * 2 ^ (b + 1)) false = 0 ↔ rsW sc tl n p = 0 := F.just
  have J' : cmpM (n' * 2 ^ a') (2 ^ a') (W tl (lowW sc tl n' p') * 2 ^ (b + 1)) false = 0 ↔ rsW sc tl n' p' = 0 := F'.just
  have Hf : cmpM (n * 2 ^ a * 2) (2 ^ a * 2) (W tl (lowW sc tl n p) * 2 ^ (b + 1) + W tl (lowW sc tl n p + 1) * 2 ^ (b + 1)) false = (if rsW sc tl n p = 3 then 1 else if rsW sc tl n p = 2 then 0 else -1) := F.half
  have Hf' : cmpM (n' * 2 ^ a' * 2) (2 ^ a' * 2) (W tl (lowW sc tl n' p') * 2 ^ (b + 1) + W tl (lowW sc tl n' p' + 1) * 2 ^ (b + 1)) false = (if rsW sc tl n' p' = 3 then 1 else if rsW sc tl n' p' = 2 then 0 else -1) := F'.half
  rw [cmp3] at J J' Hf Hf'
  rw [← e] at J' Hf'
  generalize n * 2 ^ a = N at *
  generalize n' * 2 ^ a' = N' at *
  generalize W tl (lowW sc tl n p) * 2 ^ (b + 1) = V at *
  generalize W tl (lowW sc tl n p + 1) * 2 ^ (b + 1) = V2 at *
  generalize rsW sc tl n p = r at *
  generalize rsW sc tl n' p' = r' at *
  have j1 : N = V ↔ r = 0 := by
    rw [← J]
    constructor
    · intro z
      rw [if_pos z]
    · intro z
      split at z
      · assumption
      · split at z <;> cases z
  have j2 : N' = V ↔ r' = 0 := by
    rw [← J']
    constructor
    · intro z
      rw [if_pos z]
    · intro z
      split at z
      · assumption
      · split at z <;> cases z
  have h3 : r = 3 → r' = 3 := fun z => by
    rw [if_pos z] at Hf
    have g : N * 2 > V + V2 := by
      split at Hf
      · cases Hf
      · split at Hf
        · assumption
        · cases Hf
    rw [if_neg (show ¬ N' * 2 = V + V2 by omega), if_pos (show N' * 2 > V + V2 by omega)] at Hf'
    by_cases c : r' = 3
    · exact c
    · rw [if_neg c] at Hf'
      split at Hf' <;> cases Hf'
  have h2 : r = 2 → 2 ≤ r' := fun z => by
    rw [if_neg (show ¬ r = 3 by omega), if_pos z] at Hf
    have g : N * 2 = V + V2 := by
      split at Hf
      · assumption
      · split at Hf <;> cases Hf
    by_cases c : r' = 3
    · omega
    · rw [if_neg c] at Hf'
      by_cases d : r' = 2
      · omega
      · rw [if_neg d] at Hf'
        split at Hf'
        · cases Hf'
        · split at Hf'
          · cases Hf'
          · omega
  omega
end GR
namespace GR
open PySem GM
theorem low_par {sc tl : Nat} (htl : 1 ≤ tl) (n p : Int) : prQ n (lap sc tl n p - p) % 2 = lowW sc tl n p % 2 := by
  unfold lowW
  obtain ⟨t, rfl⟩ : ∃ t, tl = t + 1 := ⟨tl - 1, by omega⟩
  rw [show (2 : Int) ^ (t + 1) = 2 ^ t * 2 from Int.pow_succ 2 t, ← Int.mul_assoc]
  generalize (lap sc (t + 1) n p - lea sc (t + 1)) * 2 ^ t = k
  omega
theorem rnd_zero_le {sc tl : Nat} {n p : Int} {w : Str} (h1 : 1 ≤ sc) (hn : n ≠ 0) (h0 : 0 ≤ lowW sc tl n p) : 0 ≤ (rnd sc tl 0 n p w false).1 := by
  rw [rnd_zero hn]
  have u : upW w (prQ n (lap sc tl n p - p)) (rsW sc tl n p) = 0 ∨ upW w (prQ n (lap sc tl n p - p)) (rsW sc tl n p) = 1 := by
    unfold upW
    split <;> simp
  have t : 1 ≤ topW sc tl := by
    unfold topW
    have a := pow_pos' tl
    have b : (2 : Int) ^ 1 ≤ 2 ^ sc := pow_le' h1
    have : 1 * 2 ^ tl ≤ (2 ^ sc - 1) * (2 : Int) ^ tl := Int.mul_le_mul_of_nonneg_right (by omega) (by omega)
    omega
  split
  · dsimp only
    split <;> omega
  · dsimp only
    omega
theorem rnd_mono {sc tl : Nat} {n p n' p' : Int} {w : Str} (hw : w = "cut" ∨ w = "near" ∨ w = "up") (h1 : 1 ≤ sc) (htl : 1 ≤ tl) (hn : 0 ≤ n) (hn' : 0 ≤ n') {a a' b : Nat} {B : Int} (ha : p - B = a) (ha' : p' - B = a') (hb : lea sc tl - B = (b : Int) + 1) (hle : n * 2 ^ a ≤ n' * 2 ^ a') :
    (rnd sc tl 0 n p w false).1 ≤ (rnd sc tl 0 n' p' w false).1 := by
  have pa := pow_pos' a
  have pa' := pow_pos' a'
  have z0 : ∀ p w, rnd sc tl 0 0 p w false = (0, []) := fun p w => by
    unfold rnd
    rw [if_pos rfl, (wrd_top sc tl).2.2]
  by_cases c' : n' = 0
  · have c : n = 0 := by
      subst c'
      rw [Int.zero_mul] at hle
      by_cases z : n = 0
      · exact z
      · have : 1 * 2 ^ a ≤ n * (2 : Int) ^ a := Int.mul_le_mul_of_nonneg_right (by omega) (by omega)
        omega
    rw [c, c', z0, z0]
    exact Int.le_refl _
  have F' := floor_facts (sc := sc) (tl := tl) (n := n') (p := p') (more := false) htl (by omega) (fun z => nomatch z) ha' hb
  by_cases c : n = 0
  · rw [c, z0]
    exact rnd_zero_le h1 c' F'.lo0
  obtain ⟨m1, m2⟩ := low_mono htl (by omega) (by omega) ha ha' hb hle
  have q1 := low_par (sc := sc) htl n p
  have q2 := low_par (sc := sc) htl n' p'
  have r1 := rs_in sc tl n p
  have r2 := rs_in sc tl n' p'
  have u := up_ways (prQ n (lap sc tl n p - p)) (rsW sc tl n p)
  have u' := up_ways (prQ n' (lap sc tl n' p' - p')) (rsW sc tl n' p')
  rw [rnd_zero c, rnd_zero c']
  have ux : lowW sc tl n p + upW w (prQ n (lap sc tl n p - p)) (rsW sc tl n p) ≤ lowW sc tl n' p' + upW w (prQ n' (lap sc tl n' p' - p')) (rsW sc tl n' p') := by
    generalize prQ n (lap sc tl n p - p) = q at *
    generalize prQ n' (lap sc tl n' p' - p') = q' at *
    generalize rsW sc tl n p = r at *
    generalize rsW sc tl n' p' = r' at *
    generalize lowW sc tl n p = L at *
    generalize lowW sc tl n' p' = L' at *
    rcases hw with z | z | z <;> subst z
    · rw [u.1, u'.1]
      omega
    · rw [u.2.2.2, u'.2.2.2]
      split <;> split <;> omega
    · rw [u.2.2.1, u'.2.2.1]
      split <;> split <;> omega
  generalize lowW sc tl n p + upW w (prQ n (lap sc tl n p - p)) (rsW sc tl n p) = X at *
  generalize lowW sc tl n' p' + upW w (prQ n' (lap sc tl n' p' - p')) (rsW sc tl n' p') = X' at *
  generalize (decide (w = ("near" : Str)) || away w 0) = o
  generalize topW sc tl = U at *
  clear q1 q2 u u' m2 hle
  by_cases d : X > U - 1
  · rw [if_pos d, if_pos (show X' > U - 1 by omega)]
    exact Int.le_refl _
  · rw [if_neg d]
    by_cases d' : X' > U - 1
    · rw [if_pos d']
      dsimp only
      split <;> omega
    · rw [if_neg d']
      exact ux
end GR
namespace GG
def wv : List Int → Int
  | [] => 0
  | d :: r => d * 2 ^ r.length + wv r
def isM (p d nx : Int) : Bool := decide (d ≠ 0) && decide (nx ≠ (if p = 0 then -d else d))
def fmS : Int → List Int → Nat
  | _, [] => 0
  | p, d :: r => if isM p d (r.headD 0) then 0 else fmS d r + 1
def Dig (ds : List Int) : Prop := ∀ d ∈ ds, d = 0 ∨ d = 1 ∨ d = -1
theorem pow_pos' (n : Nat) : (0 : Int) < 2 ^ n := Int.pow_pos (by decide)
theorem pow_s (n : Nat) : (2 : Int) ^ (n + 1) = 2 ^ n * 2 := Int.pow_succ 2 n
theorem wv_lt : ∀ ds : List Int, Dig ds → -(2 ^ ds.length) < wv ds ∧ wv ds < 2 ^ ds.length
  | [], _ => by decide
  | d :: r, h => by
    have ih := wv_lt r fun x hx => h x (List.mem_cons_of_mem _ hx)
    have hd := h d List.mem_cons_self
    have hp := pow_s r.length
    show -(2 ^ (r.length + 1)) < d * 2 ^ r.length + wv r ∧ d * 2 ^ r.length + wv r < 2 ^ (r.length + 1)
    rcases hd with z | z | z <;> subst z <;> omega
theorem fmS_le : ∀ (p : Int) (ds : List Int), fmS p ds ≤ ds.length
  | _, [] => Nat.le_refl _
  | p, d :: r => by
    have := fmS_le d r
    unfold fmS
    split <;> simp only [List.length_cons] <;> omega
theorem run_lemma : ∀ (ds : List Int) (s p c : Int), Dig ds → (s = 1 ∨ s = -1) → ((p = 0 ∧ c = s) ∨ (p ≠ 0 ∧ c = -s)) →
    fmS p (c :: ds) ≤ ds.length ∧ (2 : Int) ^ (ds.length - fmS p (c :: ds)) < 2 * (s * (s * 2 ^ ds.length + wv ds)) ∧ s * (s * 2 ^ ds.length + wv ds) < 2 ^ (ds.length - fmS p (c :: ds) + 1)
  | [], s, p, c, _, hs, hc => by
    have e : fmS p [c] = 0 := by
      unfold fmS isM
      rcases hc with ⟨h1, h2⟩ | ⟨h1, h2⟩
      · subst h1 h2
        rcases hs with z | z <;> subst z <;> decide
      · have n1 : ¬ p = 0 := h1
        rw [if_neg n1]
        subst h2
        rcases hs with z | z <;> subst z <;> decide
    rw [e]
    rcases hs with z | z <;> subst z <;> decide
  | d :: r, s, p, c, hd, hs, hc => by
    have hr : Dig r := fun x hx => hd x (List.mem_cons_of_mem _ hx)
    have hd0 := hd d List.mem_cons_self
    have hcv : c ≠ 0 ∧ (if p = 0 then -c else c) = -s := by
      rcases hc with ⟨h1, h2⟩ | ⟨h1, h2⟩
      · rw [if_pos h1]
        omega
      · rw [if_neg h1]
        omega
    have em : fmS p (c :: d :: r) = if d = -s then fmS c (d :: r) + 1 else 0 := by
      show (if isM p c d = true then 0 else fmS c (d :: r) + 1) = _
      unfold isM
      rw [hcv.2]
      by_cases e : d = -s
      · rw [if_pos e, decide_eq_false (show ¬ d ≠ -s from fun z => z e), Bool.and_false, if_neg Bool.false_ne_true]
      · rw [if_neg e, decide_eq_true (show d ≠ -s from e), decide_eq_true hcv.1]
        rfl
    have hlen : (d :: r).length = r.length + 1 := rfl
    have hw : wv (d :: r) = d * 2 ^ r.length + wv r := rfl
    have hp := pow_s r.length
    by_cases e : d = -s
    · rw [em, if_pos e]
      obtain ⟨i1, i2, i3⟩ := run_lemma r s c d hr hs (.inr ⟨hcv.1, e⟩)
      have ev : s * (s * 2 ^ (d :: r).length + wv (d :: r)) = s * (s * 2 ^ r.length + wv r) := by
        rw [hlen, hw, e, hp]
        rcases hs with z | z <;> subst z <;> omega
      rw [ev, hlen]
      refine ⟨by omega, ?_, ?_⟩
      · rw [show r.length + 1 - (fmS c (d :: r) + 1) = r.length - fmS c (d :: r) by omega]
        exact i2
      · rw [show r.length + 1 - (fmS c (d :: r) + 1) = r.length - fmS c (d :: r) by omega]
        exact i3
    · rw [em, if_neg e, hlen, hw, Nat.sub_zero]
      have hb := wv_lt r hr
      have hpp := pow_pos' r.length
      have hp2 := pow_s (r.length + 1)
      refine ⟨Nat.zero_le _, ?_, ?_⟩
      · rcases hs with z | z <;> subst z <;> rcases hd0 with y | y | y <;> subst y <;> omega
      · rcases hs with z | z <;> subst z <;> rcases hd0 with y | y | y <;> subst y <;> omega
/-- the guess: all digits 0, or the worth's size between two powers -/
theorem guess_lemma : ∀ ds : List Int, Dig ds → (fmS 0 ds = ds.length ∧ wv ds = 0) ∨
    (fmS 0 ds < ds.length ∧ (2 : Int) ^ (ds.length - 1 - fmS 0 ds) < 2 * (wv ds).natAbs ∧ ((wv ds).natAbs : Int) < 2 ^ (ds.length - fmS 0 ds))
  | [], _ => .inl ⟨rfl, rfl⟩
  | d :: r, h => by
    have hr : Dig r := fun x hx => h x (List.mem_cons_of_mem _ hx)
    have hd0 := h d List.mem_cons_self
    have hlen : (d :: r).length = r.length + 1 := rfl
    by_cases e : d = 0
    · have ef : fmS 0 (d :: r) = fmS 0 r + 1 := by
        subst e
        rfl
      have ew : wv (d :: r) = wv r := by
        subst e
        show 0 * 2 ^ r.length + wv r = wv r
        omega
      rw [ef, ew, hlen]
      rcases guess_lemma r hr with ⟨i1, i2⟩ | ⟨i1, i2, i3⟩
      · exact .inl ⟨by omega, i2⟩
      · refine .inr ⟨by omega, ?_, ?_⟩
        · rw [show r.length + 1 - 1 - (fmS 0 r + 1) = r.length - 1 - fmS 0 r by omega]
          exact i2
        · rw [show r.length + 1 - (fmS 0 r + 1) = r.length - fmS 0 r by omega]
          exact i3
    · have hs : d = 1 ∨ d = -1 := by omega
      obtain ⟨i1, i2, i3⟩ := run_lemma r d 0 d hr hs (.inl ⟨rfl, rfl⟩)
      have hb := wv_lt r hr
      have hpp := pow_pos' r.length
      have ea : d * (d * 2 ^ r.length + wv r) = ((wv (d :: r)).natAbs : Int) := by
        show d * (d * 2 ^ r.length + wv r) = ((d * 2 ^ r.length + wv r).natAbs : Int)
        rcases hs with z | z <;> subst z <;> omega
      rw [ea] at i2 i3
      refine .inr ⟨by omega, ?_, ?_⟩
      · rw [hlen, show r.length + 1 - 1 - fmS 0 (d :: r) = r.length - fmS 0 (d :: r) by omega]
        exact i2
      · rw [hlen, show r.length + 1 - fmS 0 (d :: r) = r.length - fmS 0 (d :: r) + 1 by omega]
        exact i3
def bit (a : Int) (n : Nat) : Int := a / 2 ^ n % 2
def dgr (a b : Int) : Nat → List Int
  | 0 => []
  | n + 1 => (bit a n - bit b n) :: dgr a b n
theorem dgr_len (a b : Int) : ∀ n, (dgr a b n).length = n
  | 0 => rfl
  | n + 1 => by
    show (dgr a b n).length + 1 = n + 1
    rw [dgr_len a b n]
theorem dgr_get (a b : Int) : ∀ (n i : Nat), i < n → (dgr a b n)[i]? = some (bit a (n - 1 - i) - bit b (n - 1 - i))
  | 0, i, h => absurd h (Nat.not_lt_zero i)
  | n + 1, 0, _ => rfl
  | n + 1, i + 1, h => by
    show (dgr a b n)[i]? = _
    rw [dgr_get a b n i (by omega), show n + 1 - 1 - (i + 1) = n - 1 - i by omega]
theorem bit_01 (a : Int) (n : Nat) : bit a n = 0 ∨ bit a n = 1 := by
  unfold bit
  omega
theorem dgr_dig (a b : Int) : ∀ n, Dig (dgr a b n)
  | 0 => fun _ h => nomatch h
  | n + 1 => fun d hd => by
    rcases List.mem_cons.mp hd with e | e
    · have h1 := bit_01 a n
      have h2 := bit_01 b n
      omega
    · exact dgr_dig a b n d e
theorem mod_step (a : Int) (n : Nat) : bit a n * 2 ^ n + a % 2 ^ n = a % 2 ^ (n + 1) := by
  unfold bit
  have hp := pow_pos' n
  have e1 := Int.emod_add_mul_ediv a (2 ^ n)
  have e2 := Int.emod_add_mul_ediv (a / 2 ^ n) 2
  have h1 := Int.emod_nonneg a (show (2 : Int) ^ n ≠ 0 by omega)
  have h2 := Int.emod_lt_of_pos a hp
  have h3 := Int.emod_nonneg (a / 2 ^ n) (show (2 : Int) ≠ 0 by decide)
  have h4 := Int.emod_lt_of_pos (a / 2 ^ n) (show (0 : Int) < 2 by decide)
  have e3 : 2 ^ n * (a / 2 ^ n) = a / 2 ^ n % 2 * 2 ^ n + a / 2 ^ n / 2 * (2 ^ n * 2) := by
    conv => lhs; rw [← e2]
    rw [Int.mul_add, Int.mul_comm (2 ^ n) (a / 2 ^ n % 2), ← Int.mul_assoc, Int.mul_comm (2 ^ n * 2) _]
  have key : (a / 2 ^ n % 2 * 2 ^ n + a % 2 ^ n) + a / 2 ^ n / 2 * 2 ^ (n + 1) = a := by
    rw [pow_s]
    omega
  have hb : 0 ≤ a / 2 ^ n % 2 * 2 ^ n + a % 2 ^ n ∧ a / 2 ^ n % 2 * 2 ^ n + a % 2 ^ n < 2 ^ (n + 1) := by
    rw [pow_s]
    have : a / 2 ^ n % 2 = 0 ∨ a / 2 ^ n % 2 = 1 := by omega
    rcases this with z | z <;> rw [z] <;> omega
  have em := Int.add_mul_emod_self_right (a / 2 ^ n % 2 * 2 ^ n + a % 2 ^ n) (a / 2 ^ n / 2) (2 ^ (n + 1))
  rw [key, Int.emod_eq_of_lt hb.1 hb.2] at em
  exact em.symm
theorem wv_dgr (a b : Int) : ∀ n, wv (dgr a b n) = a % 2 ^ n - b % 2 ^ n
  | 0 => by
    show (0 : Int) = a % 1 - b % 1
    omega
  | n + 1 => by
    show (bit a n - bit b n) * 2 ^ (dgr a b n).length + wv (dgr a b n) = _
    rw [dgr_len, wv_dgr a b n, ← mod_step a n, ← mod_step b n, Int.sub_mul]
    omega
theorem wv_dgr_lt {a b : Int} {n : Nat} (ha : 0 ≤ a) (ha2 : a < 2 ^ n) (hb : 0 ≤ b) (hb2 : b < 2 ^ n) : wv (dgr a b n) = a - b := by
  rw [wv_dgr, Int.emod_eq_of_lt ha ha2, Int.emod_eq_of_lt hb hb2]
theorem bits_pow {x : Nat} {e : Nat} (h : x < 2 ^ e) : PySem.Builtin.Int.intBits (x : Int) ≤ e := PyProof.Rows.intBits_le (by rw [Int.natAbs_natCast]; exact h)
theorem bits_le_pow {x : Nat} {e : Nat} (h : 2 ^ e ≤ x) : e + 1 ≤ PySem.Builtin.Int.intBits (x : Int) := by
  have hx : x ≠ 0 := by
    have := Nat.two_pow_pos e
    omega
  unfold PySem.Builtin.Int.intBits
  rw [if_neg (by simpa using hx), Int.natAbs_natCast]
  have := (Nat.le_log2 hx).mpr h
  omega
/-- (b): a guess is how many zeros there are, or one less -/
theorem guess_zeros {ds : List Int} (h : Dig ds) : ∃ m : Nat, m ≤ 1 ∧ fmS 0 ds + m + PySem.Builtin.Int.intBits ((wv ds).natAbs : Int) = ds.length ∧ (fmS 0 ds = ds.length ↔ wv ds = 0) := by
  rcases guess_lemma ds h with ⟨h1, h2⟩ | ⟨h1, h2, h3⟩
  · refine ⟨0, by omega, ?_, fun _ => h2, fun _ => h1⟩
    rw [h1, h2]
    show ds.length + 0 + 0 = ds.length
    rfl
  · have n0 : wv ds ≠ 0 := fun z => by
      rw [z] at h2
      have := pow_pos' (ds.length - 1 - fmS 0 ds)
      simp at h2
      omega
    have hb : PySem.Builtin.Int.intBits ((wv ds).natAbs : Int) ≤ ds.length - fmS 0 ds := bits_pow (by
      have e : ((2 ^ (ds.length - fmS 0 ds) : Nat) : Int) = (2 : Int) ^ (ds.length - fmS 0 ds) := PySem.W.kbt_cast _
      omega)
    have hl : ds.length - fmS 0 ds - 1 ≤ PySem.Builtin.Int.intBits ((wv ds).natAbs : Int) := by
      by_cases z : ds.length - 1 - fmS 0 ds = 0
      · omega
      · obtain ⟨e, he⟩ : ∃ e, ds.length - 1 - fmS 0 ds = e + 1 := ⟨ds.length - 1 - fmS 0 ds - 1, by omega⟩
        rw [he, pow_s] at h2
        have e2 : ((2 ^ e : Nat) : Int) = (2 : Int) ^ e := PySem.W.kbt_cast _
        have := bits_le_pow (x := (wv ds).natAbs) (e := e) (by omega)
        omega
    refine ⟨ds.length - fmS 0 ds - PySem.Builtin.Int.intBits ((wv ds).natAbs : Int), by omega, by omega, fun z => by omega, fun z => absurd z n0⟩
end GG
namespace GZ
open PySem PySem.Spec PyProof.Rows L2
theorem gset_if2 {i : Nat} {v : V} {σ : L2.St} {H : Hp} {c : TT} {t u r : TS} {D : Ends} (h : tIfS c t u { D with nx := r D } (σ.set i (some v)) H) : gName i v σ H ({ D with nx := tSeq (tIfS c t u) r D } : Ends).nx := h
theorem gset_if {σ : L2.St} {H : Hp} {c : TT} {t u r : TS} {D : Ends} (h : tIfS c t u { D with nx := r D } σ H) : tSeq (tIfS c t u) r D σ H := h
theorem ifS_cut {c : TT} {t u : TS} {D : Ends} {σ : L2.St} {H : Hp} (R : L2.St → Hp → Prop) (h : ∀ D' : Ends, (∀ σ' H', R σ' H' → D'.nx σ' H') → tIfS c t u D' σ H) (q : ∀ σ' H', R σ' H' → D.nx σ' H') : tIfS c t u D σ H := h D q
theorem ifS_ev {c : TT} {t u : TS} {D : Ends} {σ : L2.St} {H : Hp} (R : Bool → Hp → Prop) (h : ∀ Q : Bool → Hp → Prop, (∀ z H', R z H' → Q z H') → c σ H Q) (q1 : ∀ H', R true H' → t D σ H') (q2 : ∀ H', R false H' → u D σ H') : tIfS c t u D σ H := h _ fun z H' r => by
  cases z with
  | true => exact q1 H' r
  | false => exact q2 H' r
theorem if_ev {t : TT} {ta tb : TE} {σ : L2.St} {H : Hp} {Q : VK} (R : V → Hp → Prop) (h : ∀ Q : VK, (∀ z H', R z H' → Q z H') → tIf t ta tb σ H Q) (q : ∀ z H', R z H' → Q z H') : tIf t ta tb σ H Q := h Q q
theorem gset_if3 {i : Nat} {v : V} {σ : L2.St} {H : Hp} {c : TT} {t u r : TS} {D : Ends} (h : tIfS c t u { D with nx := r D } (σ.set i (some v)) H) : gName i v σ H (tSeq (tIfS c t u) r D) := h
end GZ
namespace L2
open PySem PySem.Spec PyProof.Rows
section
variable {P : Program} {w : World} {K : PySem.W.Frag} {mg : Str → Option Value} {base : Heap} {k : Nat} {f : Addr} {fd : FuncData} {ps : List Str} {sp sq : Sp}
theorem fn_or {CX : CXT} (F : FnOk P w K mg base CX k f fd ps sp) (G : FnOk P w K mg base CX k f fd ps sq) : FnOk P w K mg base CX k f fd ps (fun vs H Q E => sp vs H Q E ∨ sq vs H Q E) :=
  ⟨fun vs H Q E h => h.elim (F.len vs H Q E) (G.len vs H Q E), fun A outer s H args us vs Q E hr e0 hb hv hs => hs.elim (F.run A outer s H args us vs Q E hr e0 hb hv) (G.run A outer s H args us vs Q E hr e0 hb hv)⟩
end
end L2
namespace GZ
open PySem PySem.Spec PyProof.Rows L2
section
variable {X : Cx} {pos : Pos}
def gFld (K : PySem.W.Frag) (to : TE) (f : Str) : TG := fun y σ H Q => to σ H fun x H2 => ∃ a C dx fs, x = .ref a ∧ H2 a = some (.ins C dx fs) ∧ Cls K C ∧ NoAttr K C f ∧ fs.length < 1000 ∧ Q σ (upd H2 a (.ins C dx (putF f y fs)))
theorem pg_attr {o : Expr} {f : Str} {to : TE} (ho : PE X o to)
    (hd : ∀ y, assign (.Attribute o f pos) X.env y = (do
      let ov ← holding [y] (eval o X.env)
      standAt pos.atName
      holding [y, ov] (setAttr ov f y)
      release [y, ov] []) := by intro _; rfl) : PG X (.Attribute o f pos) (gFld X.K to f) := by
  refine ⟨fun pins s σ H y u Q I ry h => ?_⟩
  rw [hd]
  refine wpAny_bind (wpAny_holding (thn (ho.run pins s σ H _ I h) fun ov s1 hh => ?_))
  obtain ⟨x, H1, I1, rx, a, C, dx, fs, ex, ea, c, n, l, q⟩ := hh
  subst ex
  have eov : ov = Value.ref a := rx
  subst eov
  refine wpAny_bind (wpAny_standAt (wpAny_bind (wpAny_holding (setattr_ok I1 ea c n l ry fun s2 I2 => ?_))))
  exact wpAny_release ⟨σ, _, I2, q⟩
end
def pkz {α : Type} : α → List α → Nat → α
  | a, _, 0 => a
  | a, _, 1 => a
  | a, [], _ => a
  | _, b :: xs, n + 2 => pkz b xs (n + 1)
theorem val0 (t : Tok) : Vals [V.int 0] [Value.int 0 t] := .cons ⟨_, rfl⟩ .nil
theorem kbn_of {K : PySem.W.Frag} {x qual : Str} {st : Stmt} {D : Addr} {an : Option Addr} {doc pm cdv ct : Value} {ps ks : List Str} {n : Nat} {ml : List (Str × Value)} {g : List Value → List Value → List Value} {gV : List V → List V → List V} (hml : ∀ q ∈ ml, PySem.W.nsIn K D q.1 = some (some q.2))
    (h : ∀ us ws : List Value, us.length = n → ws.length = ks.length → KwChain D ml (bindArgs (PySem.W.fnOf x qual (defArgs st) (defBody st) (defScope st) .none (.ref D) doc pm an cdv ct) ⟨us, ks.zip ws⟩) (ps.zip (g us ws)))
    (rel : ∀ {vs : List V} {us : List Value} {zs : List V} {ws : List Value}, vs.length = n → zs.length = ks.length → Vals vs us → Vals zs ws → Vals (gV vs zs) (g us ws)) :
    ∀ (s : Shared) (us ws : List Value), K.In s.heap → us.length = n → ws.length = ks.length → BindsTo s (PySem.W.fnOf x qual (defArgs st) (defBody st) (defScope st) .none (.ref D) doc pm an cdv ct) ⟨us, ks.zip ws⟩ (ps.zip (g us ws)) :=
  fun s us ws X l1 l2 => BindsTo.of_looks fun M => KwChain.looks X hml (h us ws l1 l2)
theorem bnd_of {K : PySem.W.Frag} {x qual : Str} {st : Stmt} {D : Addr} {an : Option Addr} {doc pm cdv ct : Value} {ps : List Str} {ml : List (Str × Value)} {ds : List Value} (hml : ∀ q ∈ ml, PySem.W.nsIn K D q.1 = some (some q.2))
    (h : ∀ us : List Value, us.length + ds.length = ps.length → KwChain D ml (bindArgs (PySem.W.fnOf x qual (defArgs st) (defBody st) (defScope st) .none (.ref D) doc pm an cdv ct) ⟨us, []⟩) (ps.zip (us ++ ds))) :
    Binds K (PySem.W.fnOf x qual (defArgs st) (defBody st) (defScope st) .none (.ref D) doc pm an cdv ct) ps ds := fun s us X hl => by
  rw [List.length_append] at hl
  exact BindsTo.of_looks fun M => KwChain.looks X hml (h us hl)
structure FunA (K : PySem.W.Frag) (x qual : Str) (st : Stmt) (f : Addr) (fd : FuncData) : Prop where
  ex : ∃ (oc : Value) (od : Option Addr) (dV kV doc pm : Value) (an : Option Addr) (cdv ct : Value) (osl : Array (Option Value)),
    fd = PySem.W.fnOf x qual (defArgs st) (defBody st) (defScope st) dV kV doc pm an cdv ct ∧ K.lookup f = some ⟨oc, od, .func fd, osl⟩ ∧ PySem.W.codeIn K cdv qual = true
  kp : PySem.W.keepIn K (.ref f) = true
theorem FunA.ok {P : Program} {w : World} {K : PySem.W.Frag} {mg : Str → Option Value} {base : Heap} {x qual : Str} {st : Stmt} {f : Addr} {fd : FuncData} {N ps : List Str} {k : Nat} {sp : Sp} (F : FunA K x qual st f fd) (S : FnScope N ps (defScope st)) (len : ∀ vs H Q E, sp vs H Q E → vs.length = ps.length)
    (hbody : ∀ (cdv : Value) (A : Around) (outer : List Env) (s : Shared) (H : Hp) (vs : List V) (Q : VK) (E : XK), Room k (A.deeper (envOfC qual (defScope st) s.heap.objs.size f cdv)) → sp vs H Q E →
      ∃ t, PSs (cxOf CX0 P w K mg base N qual (defScope st) f cdv A outer s H E).nox (defBody st) t ∧ t { nx := fun _ H' => Q .non H', rt := Q } (start N vs) H) : FnOk P w K mg base CX0 (k + 1) f fd ps sp := by
  obtain ⟨oc, od, dV, kV, doc, pm, an, cdv, ct, osl, rfl, lk, hcd⟩ := F.ex
  refine fn_of lk hcd S len fun A outer s H vs Q E hr hsp => ?_
  obtain ⟨t, h, q⟩ := hbody cdv A outer s H vs Q E hr hsp
  exact ⟨t, h.nox, q⟩
theorem bindsA {K : PySem.W.Frag} {x qual : Str} {st : Stmt} {f T : Addr} {oc oT vT : Value} {od an dT : Option Addr} {osl sT : Array (Option Value)} {kV doc pm cdv ct : Value} {nT : Nat} {ps : List Str} (l : K.lookup f = some ⟨oc, od, .func (PySem.W.fnOf x qual (defArgs st) (defBody st) (defScope st) (.ref T) kV doc pm an cdv ct), osl⟩)
    (lT : K.lookup T = some ⟨oT, dT, .seq #[vT] nT, sT⟩)
    (h : ∀ (kV doc pm : Value) (an : Option Addr) (cdv ct : Value) (us : List Value), us.length = ps.length → ∃ k, bindArgs (PySem.W.fnOf x qual (defArgs st) (defBody st) (defScope st) (.ref T) kV doc pm an cdv ct) ⟨us, []⟩ = seqItems? (.ref T) >>= k ∧ k (some #[vT]) = pure (ps.zip us)) : Binds K (PySem.W.fnOf x qual (defArgs st) (defBody st) (defScope st) (.ref T) kV doc pm an cdv ct) ps [] := by
  intro s us X hl
  rw [List.append_nil] at hl ⊢
  obtain ⟨k, e1, e2⟩ := h kV doc pm an cdv ct us hl
  refine BindsTo.of_looks fun M => ?_
  rw [e1]
  exact looks_items X lT rfl (.of_pure e2)
theorem bindsAD {K : PySem.W.Frag} {x qual : Str} {st : Stmt} {f T : Addr} {oc oT vT : Value} {od an dT : Option Addr} {osl sT : Array (Option Value)} {kV doc pm cdv ct : Value} {nT : Nat} {ps : List Str} (l : K.lookup f = some ⟨oc, od, .func (PySem.W.fnOf x qual (defArgs st) (defBody st) (defScope st) (.ref T) kV doc pm an cdv ct), osl⟩)
    (lT : K.lookup T = some ⟨oT, dT, .seq #[vT] nT, sT⟩)
    (h : ∀ (kV doc pm : Value) (an : Option Addr) (cdv ct : Value) (us : List Value), us.length + 1 = ps.length → ∃ k, bindArgs (PySem.W.fnOf x qual (defArgs st) (defBody st) (defScope st) (.ref T) kV doc pm an cdv ct) ⟨us, []⟩ = seqItems? (.ref T) >>= k ∧ k (some #[vT]) = pure (ps.zip (us ++ [vT]))) : Binds K (PySem.W.fnOf x qual (defArgs st) (defBody st) (defScope st) (.ref T) kV doc pm an cdv ct) ps [vT] := by
  intro s us X hl
  rw [List.length_append] at hl
  obtain ⟨k, e1, e2⟩ := h kV doc pm an cdv ct us hl
  refine BindsTo.of_looks fun M => ?_
  rw [e1]
  exact looks_items X lT rfl (.of_pure e2)
theorem kbindsA {x1 : Str} {K : PySem.W.Frag} {x qual : Str} {st : Stmt} {f T : Addr} {oc oT vT : Value} {od an dT : Option Addr} {osl sT : Array (Option Value)} {kV doc pm cdv ct : Value} {nT : Nat} {ps : List Str} (l : K.lookup f = some ⟨oc, od, .func (PySem.W.fnOf x qual (defArgs st) (defBody st) (defScope st) (.ref T) kV doc pm an cdv ct), osl⟩)
    (lT : K.lookup T = some ⟨oT, dT, .seq #[vT] nT, sT⟩)
    (h : ∀ (kV doc pm : Value) (an : Option Addr) (cdv ct u w : Value), ∃ k, bindArgs (PySem.W.fnOf x qual (defArgs st) (defBody st) (defScope st) (.ref T) kV doc pm an cdv ct) ⟨[u], [(x1, w)]⟩ = seqItems? (.ref T) >>= k ∧ k (some #[vT]) = pure (ps.zip [u, w])) : KBn K (PySem.W.fnOf x qual (defArgs st) (defBody st) (defScope st) (.ref T) kV doc pm an cdv ct) ps 1 [x1] (fun us ws => us ++ ws) (fun us ws => us ++ ws) := by
  refine ⟨fun s us ws X l1 l2 => ?_, fun r1 r2 => r1.append r2⟩
  match us, ws, l1, l2 with
  | [u], [w], _, _ =>
    obtain ⟨k, e1, e2⟩ := h kV doc pm an cdv ct u w
    refine BindsTo.of_looks fun M => ?_
    show PySem.W.Looks M s.heap (bindArgs (PySem.W.fnOf x qual (defArgs st) (defBody st) (defScope st) (.ref T) kV doc pm an cdv ct) ⟨[u], [(x1, w)]⟩) (ps.zip [u, w])
    rw [e1]
    exact looks_items X lT rfl (.of_pure e2)
theorem funA_mk {K : PySem.W.Frag} {x qual : Str} {st : Stmt} {f : Addr} {oc : Value} {od an : Option Addr} {osl : Array (Option Value)} {dV kV doc pm cdv ct : Value} (l : K.lookup f = some ⟨oc, od, .func (PySem.W.fnOf x qual (defArgs st) (defBody st) (defScope st) dV kV doc pm an cdv ct), osl⟩)
    (c : PySem.W.codeIn K cdv qual = true) (k : PySem.W.keepIn K (.ref f) = true) : FunA K x qual st f (PySem.W.fnOf x qual (defArgs st) (defBody st) (defScope st) dV kV doc pm an cdv ct) := ⟨⟨oc, od, dV, kV, doc, pm, an, cdv, ct, osl, rfl, l, c⟩, k⟩
section
variable {P : Program} {w : World} {K : PySem.W.Frag} {mg : Str → Option Value} {base : Heap}
theorem cutP {A B : Prop} (h1 : A) (h2 : A → B) : B := h2 h1
theorem gB {i : Nat} {v u : Bool} {σ : L2.St} {H : Hp} {D : L2.St → Hp → Prop} (e : v = u) (h : gName i (V.bl u) σ H D) : gName i (V.bl v) σ H D := e ▸ h
theorem gI {i : Nat} {v u : Int} {σ : L2.St} {H : Hp} {D : L2.St → Hp → Prop} (e : v = u) (h : gName i (V.int u) σ H D) : gName i (V.int v) σ H D := e ▸ h
theorem dvi (a b : Int) : decide (V.int a = V.int b) = decide (a = b) := by
  by_cases c : a = b
  · rw [decide_eq_true c, decide_eq_true (congrArg V.int c)]
  · rw [decide_eq_false c, decide_eq_false (fun z => c (V.int.inj z))]
theorem dvs (a b : Str) : decide (V.str a = V.str b) = decide (a = b) := by
  by_cases c : a = b
  · rw [decide_eq_true c, decide_eq_true (congrArg V.str c)]
  · rw [decide_eq_false c, decide_eq_false (fun z => c (V.str.inj z))]
theorem Keep.none {b p : Addr} {H H' : Hp} (k : Keep b H H') (n : p ≠ b) (h : H' p = none) : H p = none := by
  cases q : H p with
  | none => rfl
  | some o =>
    rw [k p o q n] at h
    cases h
/-- at x stands a Form of these two -/
def FAt (C : Addr) (H : Hp) (x : Addr) (sc tl : Nat) : Prop := ∃ dx, H x = some (.ins C dx [("scale", .int (sc : Int)), ("tail", .int (tl : Int))]) ∧ 2 ≤ sc ∧ sc ≤ 8 ∧ 1 ≤ tl ∧ tl ≤ 24
theorem FAt.keep {C : Addr} {b : Addr} {H H' : Hp} {x : Addr} {sc tl : Nat} (h : FAt C H x sc tl) (k : Keep b H H') (n : x ≠ b) : FAt C H' x sc tl := by
  obtain ⟨dx, e, r⟩ := h
  exact ⟨dx, k _ _ e n, r⟩
theorem FAt.same {C : Addr} {H H' : Hp} {x : Addr} {sc tl : Nat} (h : FAt C H x sc tl) (s : Same H H') : FAt C H' x sc tl := by
  obtain ⟨dx, e, r⟩ := h
  exact ⟨dx, s _ _ e, r⟩
structure FT (K : PySem.W.Frag) (mg : Str → Option Value) (C : Addr) : Prop where
  cl : Cls K C
  ns : NoAttr K C "scale"
  nt : NoAttr K C "tail"
  mgC : mg "Form" = some (.ref C)
theorem fl_s (a b : V) : List.lookup ("scale" : Str) ([("scale", a), ("tail", b)] : List (Str × V)) = some a := rfl
theorem fl_t (a b : V) : List.lookup ("tail" : Str) ([("scale", a), ("tail", b)] : List (Str × V)) = some b := rfl
/-- Form(scale, tail) makes one -/
theorem made {C : Addr} {H : Hp} {x dx : Addr} (nx : H x = none) (nd : H dx = none) (ne : dx ≠ x) {H' : Hp} (k : ∀ p o, (upd (upd H dx (.own x)) x (.ins C dx [])) p = some o → p ≠ x → H' p = some o) : Same H H' := fun p o e =>
  k p o (by rw [upd_ne (ne_of_none e nx), upd_ne (ne_of_none e nd)]; exact e) (ne_of_none e nx)
structure CT2 (K : PySem.W.Frag) (mg : Str → Option Value) (CD : Addr) : Prop where
  cl : Cls K CD
  n_form : NoAttr K CD "form"
  n_one : NoAttr K CD "one"
  n_two : NoAttr K CD "two"
  n_way : NoAttr K CD "way"
  n_signed : NoAttr K CD "signed"
  n_told : NoAttr K CD "told"
  n_due : NoAttr K CD "due"
  n_over : NoAttr K CD "over"
  n_by : NoAttr K CD "by"
  n_power : NoAttr K CD "power"
  mgC : mg "Divider" = some (.ref CD)
structure LL (K : PySem.W.Frag) (mg : Str → Option Value) (C : Addr) (CD : Addr) (za : Nat → Addr) (zl : Nat → FuncData) (t73 t74 t75 tg_NEAR tg_CUT tg_UP tg_DOWN : Tok) (w : World) (dO : Addr) (esO : Array DictEntry) (nO : Nat) : Prop where
  F_cut_off : Fun K "cut_off" "cut_off" s_cut_off (za 1) (zl 1)
  m_cut_off : mg "cut_off" = some (.ref (za 1))
  b_cut_off : Binds K (zl 1) ["number", "by"] []
  F_last_power : Fun K "last_power" "last_power" s_last_power (za 2) (zl 2)
  m_last_power : mg "last_power" = some (.ref (za 2))
  b_last_power : Binds K (zl 2) ["form", "number", "power"] []
  F_least_power : Fun K "least_power" "least_power" s_least_power (za 3) (zl 3)
  m_least_power : mg "least_power" = some (.ref (za 3))
  b_least_power : Binds K (zl 3) ["form"] []
  F_rounded : Fun K "rounded" "rounded" s_rounded (za 4) (zl 4)
  m_rounded : mg "rounded" = some (.ref (za 4))
  kb_rounded_way : ∃ g, KBn K (zl 4) ["form", "sign", "number", "power", "way", "more"] 4 ["way"] g (fun vs zs => vs ++ (zs ++ [.bl false]))
  kb_rounded_way_more : ∃ g, KBn K (zl 4) ["form", "sign", "number", "power", "way", "more"] 4 ["way", "more"] g (fun vs zs => vs ++ zs)
  F_parted : Fun K "parted" "parted" s_parted (za 5) (zl 5)
  m_parted : mg "parted" = some (.ref (za 5))
  b_parted : Binds K (zl 5) ["number", "by", "more"] []
  F_goes_up : Fun K "goes_up" "goes_up" s_goes_up (za 6) (zl 6)
  m_goes_up : mg "goes_up" = some (.ref (za 6))
  b_goes_up : Binds K (zl 6) ["way", "sign", "many", "rest"] []
  F_goes_away : Fun K "goes_away" "goes_away" s_goes_away (za 7) (zl 7)
  m_goes_away : mg "goes_away" = some (.ref (za 7))
  b_goes_away : Binds K (zl 7) ["way", "sign"] []
  F_word_beyond : Fun K "word_beyond" "word_beyond" s_word_beyond (za 8) (zl 8)
  m_word_beyond : mg "word_beyond" = some (.ref (za 8))
  b_word_beyond : Binds K (zl 8) ["form", "sign", "way"] []
  F_flags_of_rest : Fun K "flags_of_rest" "flags_of_rest" s_flags_of_rest (za 9) (zl 9)
  m_flags_of_rest : mg "flags_of_rest" = some (.ref (za 9))
  b_flags_of_rest : Binds K (zl 9) ["form", "number", "power", "rest"] []
  F_added : Fun K "added" "added" s_added (za 10) (zl 10)
  m_added : mg "added" = some (.ref (za 10))
  kb_added_way : ∃ g, KBn K (zl 10) ["form", "a", "b", "way"] 3 ["way"] g (fun vs zs => vs ++ zs)
  F_taken : Fun K "taken" "taken" s_taken (za 11) (zl 11)
  m_taken : mg "taken" = some (.ref (za 11))
  kb_taken_way : ∃ g, KBn K (zl 11) ["form", "a", "b", "way"] 3 ["way"] g (fun vs zs => vs ++ zs)
  F_multiplied : Fun K "multiplied" "multiplied" s_multiplied (za 12) (zl 12)
  m_multiplied : mg "multiplied" = some (.ref (za 12))
  kb_multiplied_way : ∃ g, KBn K (zl 12) ["form", "a", "b", "way"] 3 ["way"] g (fun vs zs => vs ++ zs)
  F_divided : Fun K "divided" "divided" s_divided (za 13) (zl 13)
  m_divided : mg "divided" = some (.ref (za 13))
  kb_divided_way : ∃ g, KBn K (zl 13) ["form", "a", "b", "way"] 3 ["way"] g (fun vs zs => vs ++ zs)
  F_joined : Fun K "joined" "joined" s_joined (za 14) (zl 14)
  m_joined : mg "joined" = some (.ref (za 14))
  kb_joined_way : ∃ g, KBn K (zl 14) ["form", "a", "b", "c", "way"] 4 ["way"] g (fun vs zs => vs ++ zs)
  F_has_none : Fun K "has_none" "has_none" s_has_none (za 15) (zl 15)
  m_has_none : mg "has_none" = some (.ref (za 15))
  b_has_none : Binds K (zl 15) ["form", "words"] []
  F_bad : Fun K "bad" "bad" s_bad (za 16) (zl 16)
  m_bad : mg "bad" = some (.ref (za 16))
  b_bad : Binds K (zl 16) ["form"] []
  F_is_endless_by_nought : Fun K "is_endless_by_nought" "is_endless_by_nought" s_is_endless_by_nought (za 17) (zl 17)
  m_is_endless_by_nought : mg "is_endless_by_nought" = some (.ref (za 17))
  b_is_endless_by_nought : Binds K (zl 17) ["form", "a", "b"] []
  F_sign_of : Fun K "sign_of" "sign_of" s_sign_of (za 18) (zl 18)
  m_sign_of : mg "sign_of" = some (.ref (za 18))
  b_sign_of : Binds K (zl 18) ["form", "word"] []
  F_unlike_sign : Fun K "unlike_sign" "unlike_sign" s_unlike_sign (za 19) (zl 19)
  m_unlike_sign : mg "unlike_sign" = some (.ref (za 19))
  b_unlike_sign : Binds K (zl 19) ["form", "a", "b"] []
  F_term_of : Fun K "term_of" "term_of" s_term_of (za 20) (zl 20)
  m_term_of : mg "term_of" = some (.ref (za 20))
  b_term_of : Binds K (zl 20) ["form", "word"] []
  F_product_of : Fun K "product_of" "product_of" s_product_of (za 21) (zl 21)
  m_product_of : mg "product_of" = some (.ref (za 21))
  b_product_of : Binds K (zl 21) ["form", "a", "b"] []
  F_terms_added : Fun K "terms_added" "terms_added" s_terms_added (za 22) (zl 22)
  m_terms_added : mg "terms_added" = some (.ref (za 22))
  b_terms_added : Binds K (zl 22) ["form", "one", "other", "way"] []
  F_nought_sign : Fun K "nought_sign" "nought_sign" s_nought_sign (za 23) (zl 23)
  m_nought_sign : mg "nought_sign" = some (.ref (za 23))
  b_nought_sign : Binds K (zl 23) ["sign", "other_sign", "way"] []
  F_worths_added : Fun K "worths_added" "worths_added" s_worths_added (za 24) (zl 24)
  m_worths_added : mg "worths_added" = some (.ref (za 24))
  b_worths_added : Binds K (zl 24) ["one", "other"] []
  F_quotient_rounded : Fun K "quotient_rounded" "quotient_rounded" s_quotient_rounded (za 25) (zl 25)
  m_quotient_rounded : mg "quotient_rounded" = some (.ref (za 25))
  b_quotient_rounded : Binds K (zl 25) ["form", "sign", "one", "other", "way"] []
  F_done : Fun K "done" "done" s_done (za 26) (zl 26)
  m_done : mg "done" = some (.ref (za 26))
  kb_done_way : ∃ g, KBn K (zl 26) ["form", "op", "words", "way"] 3 ["way"] g (fun vs zs => vs ++ zs)
  kb_done : ∃ ds, Vals [.str "near"] ds ∧ Binds K (zl 26) ["form", "op", "words", "way"] ds
  F_compared : Fun K "compared" "compared" s_compared (za 27) (zl 27)
  m_compared : mg "compared" = some (.ref (za 27))
  b_compared : Binds K (zl 27) ["form", "a", "b"] []
  F_rank_of : Fun K "rank_of" "rank_of" s_rank_of (za 28) (zl 28)
  m_rank_of : mg "rank_of" = some (.ref (za 28))
  b_rank_of : Binds K (zl 28) ["form", "word"] []
  F_size_of : Fun K "size_of" "size_of" s_size_of (za 29) (zl 29)
  m_size_of : mg "size_of" = some (.ref (za 29))
  b_size_of : Binds K (zl 29) ["form", "word"] []
  F_digits_of : Fun K "digits_of" "digits_of" s_digits_of (za 30) (zl 30)
  m_digits_of : mg "digits_of" = some (.ref (za 30))
  b_digits_of : Binds K (zl 30) ["one", "other", "many"] []
  F_worth_of : Fun K "worth_of" "worth_of" s_worth_of (za 31) (zl 31)
  m_worth_of : mg "worth_of" = some (.ref (za 31))
  b_worth_of : Binds K (zl 31) ["digits"] []
  F_zeros_of : Fun K "zeros_of" "zeros_of" s_zeros_of (za 32) (zl 32)
  m_zeros_of : mg "zeros_of" = some (.ref (za 32))
  b_zeros_of : Binds K (zl 32) ["number", "many"] []
  F_marks_of : Fun K "marks_of" "marks_of" s_marks_of (za 33) (zl 33)
  m_marks_of : mg "marks_of" = some (.ref (za 33))
  b_marks_of : Binds K (zl 33) ["digits"] []
  F_is_mark : Fun K "is_mark" "is_mark" s_is_mark (za 34) (zl 34)
  m_is_mark : mg "is_mark" = some (.ref (za 34))
  b_is_mark : Binds K (zl 34) ["digits", "place"] []
  F_first_mark : Fun K "first_mark" "first_mark" s_first_mark (za 35) (zl 35)
  m_first_mark : mg "first_mark" = some (.ref (za 35))
  b_first_mark : Binds K (zl 35) ["digits"] []
  F_guess : Fun K "guess" "guess" s_guess (za 36) (zl 36)
  m_guess : mg "guess" = some (.ref (za 36))
  b_guess : Binds K (zl 36) ["one", "other", "many"] []
  F_have_heads : Fun K "have_heads" "have_heads" s_have_heads (za 37) (zl 37)
  m_have_heads : mg "have_heads" = some (.ref (za 37))
  b_have_heads : Binds K (zl 37) ["form", "words"] []
  F_head_of : Fun K "head_of" "head_of" s_head_of (za 38) (zl 38)
  m_head_of : mg "head_of" = some (.ref (za 38))
  b_head_of : Binds K (zl 38) ["form", "word"] []
  F_plain_step : Fun K "plain_step" "plain_step" s_plain_step (za 39) (zl 39)
  m_plain_step : mg "plain_step" = some (.ref (za 39))
  b_plain_step : Binds K (zl 39) ["name", "form", "op", "words", "way"] []
  F_round_step : Fun K "round_step" "round_step" s_round_step (za 40) (zl 40)
  m_round_step : mg "round_step" = some (.ref (za 40))
  b_round_step : Binds K (zl 40) ["form", "sign", "total", "power", "way", "more"] []
  F_total_steps : Fun K "total_steps" "total_steps" s_total_steps (za 41) (zl 41)
  m_total_steps : mg "total_steps" = some (.ref (za 41))
  b_total_steps : Binds K (zl 41) ["greater", "lesser", "more", "alike", "many"] []
  F_add_steps : Fun K "add_steps" "add_steps" s_add_steps (za 42) (zl 42)
  m_add_steps : mg "add_steps" = some (.ref (za 42))
  kb_add_steps_way : ∃ g, KBn K (zl 42) ["form", "a", "b", "way"] 3 ["way"] g (fun vs zs => vs ++ zs)
  F_take_steps : Fun K "take_steps" "take_steps" s_take_steps (za 43) (zl 43)
  m_take_steps : mg "take_steps" = some (.ref (za 43))
  kb_take_steps_way : ∃ g, KBn K (zl 43) ["form", "a", "b", "way"] 3 ["way"] g (fun vs zs => vs ++ zs)
  F_ordered : Fun K "ordered" "ordered" s_ordered (za 44) (zl 44)
  m_ordered : mg "ordered" = some (.ref (za 44))
  b_ordered : Binds K (zl 44) ["form", "a", "b"] []
  F_is_number : Fun K "is_number" "is_number" s_is_number (za 45) (zl 45)
  m_is_number : mg "is_number" = some (.ref (za 45))
  b_is_number : Binds K (zl 45) ["thing"] []
  F_is_number_in : Fun K "is_number_in" "is_number_in" s_is_number_in (za 46) (zl 46)
  m_is_number_in : mg "is_number_in" = some (.ref (za 46))
  b_is_number_in : Binds K (zl 46) ["least", "greatest", "thing"] []
  F_full_head : Fun K "full_head" "full_head" s_full_head (za 47) (zl 47)
  m_full_head : mg "full_head" = some (.ref (za 47))
  b_full_head : Binds K (zl 47) ["form", "word"] []
  F_join_steps : Fun K "join_steps" "join_steps" s_join_steps (za 48) (zl 48)
  m_join_steps : mg "join_steps" = some (.ref (za 48))
  kb_join_steps_way : ∃ g, KBn K (zl 48) ["form", "a", "b", "c", "way"] 4 ["way"] g (fun vs zs => vs ++ zs)
  F_product_of_heads : Fun K "product_of_heads" "product_of_heads" s_product_of_heads (za 49) (zl 49)
  m_product_of_heads : mg "product_of_heads" = some (.ref (za 49))
  b_product_of_heads : Binds K (zl 49) ["form", "a", "b"] []
  F_placed : Fun K "placed" "placed" s_placed (za 50) (zl 50)
  m_placed : mg "placed" = some (.ref (za 50))
  b_placed : Binds K (zl 50) ["form", "product", "term"] []
  F_fours_of : Fun K "fours_of" "fours_of" s_fours_of (za 51) (zl 51)
  m_fours_of : mg "fours_of" = some (.ref (za 51))
  b_fours_of : Binds K (zl 51) ["number"] []
  F_four_of : Fun K "four_of" "four_of" s_four_of (za 52) (zl 52)
  m_four_of : mg "four_of" = some (.ref (za 52))
  b_four_of : Binds K (zl 52) ["bits"] []
  F_rows_of : Fun K "rows_of" "rows_of" s_rows_of (za 53) (zl 53)
  m_rows_of : mg "rows_of" = some (.ref (za 53))
  b_rows_of : Binds K (zl 53) ["one", "number"] []
  F_saved : Fun K "saved" "saved" s_saved (za 54) (zl 54)
  m_saved : mg "saved" = some (.ref (za 54))
  b_saved : Binds K (zl 54) ["x", "y", "z"] []
  F_levels_of : Fun K "levels_of" "levels_of" s_levels_of (za 55) (zl 55)
  m_levels_of : mg "levels_of" = some (.ref (za 55))
  b_levels_of : Binds K (zl 55) ["rows"] []
  F_level_behind : Fun K "level_behind" "level_behind" s_level_behind (za 56) (zl 56)
  m_level_behind : mg "level_behind" = some (.ref (za 56))
  b_level_behind : Binds K (zl 56) ["rows"] []
  F_times_steps : Fun K "times_steps" "times_steps" s_times_steps (za 57) (zl 57)
  m_times_steps : mg "times_steps" = some (.ref (za 57))
  kb_times_steps_way : ∃ g, KBn K (zl 57) ["form", "a", "b", "way"] 3 ["way"] g (fun vs zs => vs ++ zs)
  F__law_box : Fun K "_law_box" "_law_box" sBox (za 58) (zl 58)
  m__law_box : mg "_law_box" = some (.ref (za 58))
  b__law_box : Binds K (zl 58) ["_law_script", "_law_k"] []
  F__law_take : Fun K "_law_take" "_law_take" sTake (za 59) (zl 59)
  m__law_take : mg "_law_take" = some (.ref (za 59))
  b__law_take : Binds K (zl 59) ["_law_box_here", "_law_size"] []
  F__law_folded : Fun K "_law_folded" "_law_folded" sFolded (za 60) (zl 60)
  m__law_folded : mg "_law_folded" = some (.ref (za 60))
  b__law_folded : Binds K (zl 60) ["_law_script", "_law_size"] []
  F__law_same : Fun K "_law_same" "_law_same" sSame (za 61) (zl 61)
  m__law_same : mg "_law_same" = some (.ref (za 61))
  b__law_same : Binds K (zl 61) ["_law_found", "_law_due"] []
  F__law_plain : Fun K "_law_plain" "_law_plain" s__law_plain (za 62) (zl 62)
  m__law_plain : mg "_law_plain" = some (.ref (za 62))
  b__law_plain : Binds K (zl 62) ["_law_box_here", "_law_form", "_law_scale"] []
  F__law_pair : Fun K "_law_pair" "_law_pair" s__law_pair (za 63) (zl 63)
  m__law_pair : mg "_law_pair" = some (.ref (za 63))
  b__law_pair : Binds K (zl 63) ["_law_box_here", "_law_form", "_law_case"] []
  F__law_cut_right : Fun K "_law_cut_right" "_law_cut_right" s__law_cut_right (za 64) (zl 64)
  m__law_cut_right : mg "_law_cut_right" = some (.ref (za 64))
  b__law_cut_right : Binds K (zl 64) ["_law_form", "_law_steps", "_law_how"] []
  F__law_words_right : Fun K "_law_words_right" "_law_words_right" s__law_words_right (za 65) (zl 65)
  m__law_words_right : mg "_law_words_right" = some (.ref (za 65))
  b__law_words_right : Binds K (zl 65) ["_law_form", "_law_a", "_law_b", "_law_c", "_law_how"] []
  F__law_rises : Fun K "_law_rises" "_law_rises" s__law_rises (za 66) (zl 66)
  m__law_rises : mg "_law_rises" = some (.ref (za 66))
  b__law_rises : Binds K (zl 66) ["_law_form", "_law_a", "_law_b", "_law_how"] []
  T : FT K mg C
  M : Mk K C (za 67)
  F_Form___init__ : Fun K "__init__" "Form.__init__" s_Form___init__ (za 67) (zl 67)
  b_Form___init__ : Binds K (zl 67) ["self", "scale", "tail"] []
  F_Form_bias : Fun K "bias" "Form.bias" s_Form_bias (za 68) (zl 68)
  b_Form_bias : Binds K (zl 68) ["self"] []
  M_Form_bias : Meth K C "bias" (za 68)
  F_Form_top : Fun K "top" "Form.top" s_Form_top (za 69) (zl 69)
  b_Form_top : Binds K (zl 69) ["self"] []
  M_Form_top : Meth K C "top" (za 69)
  F_Form_parts : Fun K "parts" "Form.parts" s_Form_parts (za 70) (zl 70)
  b_Form_parts : Binds K (zl 70) ["self", "word"] []
  M_Form_parts : Meth K C "parts" (za 70)
  F_Form_word_of : Fun K "word_of" "Form.word_of" s_Form_word_of (za 71) (zl 71)
  b_Form_word_of : Binds K (zl 71) ["self", "sign", "scale", "tail"] []
  M_Form_word_of : Meth K C "word_of" (za 71)
  F_Form_sort_of : Fun K "sort_of" "Form.sort_of" s_Form_sort_of (za 72) (zl 72)
  b_Form_sort_of : Binds K (zl 72) ["self", "word"] []
  M_Form_sort_of : Meth K C "sort_of" (za 72)
  F_Form_nought : FunA K "nought" "Form.nought" s_Form_nought (za 73) (zl 73)
  b_Form_nought : Binds K (zl 73) ["self", "sign"] []
  M_Form_nought : Meth K C "nought" (za 73)
  d_Form_nought : Binds K (zl 73) ["self", "sign"] [.int 0 t73]
  F_Form_endless : FunA K "endless" "Form.endless" s_Form_endless (za 74) (zl 74)
  b_Form_endless : Binds K (zl 74) ["self", "sign"] []
  M_Form_endless : Meth K C "endless" (za 74)
  d_Form_endless : Binds K (zl 74) ["self", "sign"] [.int 0 t74]
  F_Form_greatest : FunA K "greatest" "Form.greatest" s_Form_greatest (za 75) (zl 75)
  b_Form_greatest : Binds K (zl 75) ["self", "sign"] []
  M_Form_greatest : Meth K C "greatest" (za 75)
  d_Form_greatest : Binds K (zl 75) ["self", "sign"] [.int 0 t75]
  F_Form_none_word : Fun K "none_word" "Form.none_word" s_Form_none_word (za 76) (zl 76)
  b_Form_none_word : Binds K (zl 76) ["self"] []
  M_Form_none_word : Meth K C "none_word" (za 76)
  F_Form_turned : Fun K "turned" "Form.turned" s_Form_turned (za 77) (zl 77)
  b_Form_turned : Binds K (zl 77) ["self", "word"] []
  M_Form_turned : Meth K C "turned" (za 77)
  F_Form_worth : Fun K "worth" "Form.worth" s_Form_worth (za 78) (zl 78)
  b_Form_worth : Binds K (zl 78) ["self", "word"] []
  M_Form_worth : Meth K C "worth" (za 78)
  T2 : CT2 K mg CD
  M2 : Mk K CD (za 79)
  F_Divider___init__ : Fun K "__init__" "Divider.__init__" s_Divider___init__ (za 79) (zl 79)
  kb_Divider___init___way_signed : ∃ g, KBn K (zl 79) ["self", "form", "a", "b", "way", "signed"] 4 ["way", "signed"] g (fun vs zs => vs ++ zs)
  F_Divider_begin : Fun K "begin" "Divider.begin" s_Divider_begin (za 80) (zl 80)
  b_Divider_begin : Binds K (zl 80) ["self"] []
  M_Divider_begin : Meth K CD "begin" (za 80)
  F_Divider_step : Fun K "step" "Divider.step" s_Divider_step (za 81) (zl 81)
  b_Divider_step : Binds K (zl 81) ["self"] []
  M_Divider_step : Meth K CD "step" (za 81)
  F_Divider_digit_by : Fun K "digit_by" "Divider.digit_by" s_Divider_digit_by (za 82) (zl 82)
  b_Divider_digit_by : Binds K (zl 82) ["self", "rest"] []
  M_Divider_digit_by : Meth K CD "digit_by" (za 82)
  F_Divider_digits : Fun K "digits" "Divider.digits" s_Divider_digits (za 83) (zl 83)
  b_Divider_digits : Binds K (zl 83) ["self"] []
  M_Divider_digits : Meth K CD "digits" (za 83)
  F_Divider_quotient : Fun K "quotient" "Divider.quotient" s_Divider_quotient (za 84) (zl 84)
  b_Divider_quotient : Binds K (zl 84) ["self"] []
  M_Divider_quotient : Meth K CD "quotient" (za 84)
  F_Divider_rest : Fun K "rest" "Divider.rest" s_Divider_rest (za 85) (zl 85)
  b_Divider_rest : Binds K (zl 85) ["self"] []
  M_Divider_rest : Meth K CD "rest" (za 85)
  F_Divider_divisor : Fun K "divisor" "Divider.divisor" s_Divider_divisor (za 86) (zl 86)
  b_Divider_divisor : Binds K (zl 86) ["self"] []
  M_Divider_divisor : Meth K CD "divisor" (za 86)
  F_Divider_left : Fun K "left" "Divider.left" s_Divider_left (za 87) (zl 87)
  b_Divider_left : Binds K (zl 87) ["self"] []
  M_Divider_left : Meth K CD "left" (za 87)
  F_Divider_outcome : Fun K "outcome" "Divider.outcome" s_Divider_outcome (za 88) (zl 88)
  b_Divider_outcome : Binds K (zl 88) ["self"] []
  M_Divider_outcome : Meth K CD "outcome" (za 88)
  g_NEAR : mg "NEAR" = some (.str "near" tg_NEAR)
  g_CUT : mg "CUT" = some (.str "cut" tg_CUT)
  g_UP : mg "UP" = some (.str "up" tg_UP)
  g_DOWN : mg "DOWN" = some (.str "down" tg_DOWN)
  m_OPS : mg "OPS" = some (.ref dO)
  OPS_D : KDict K w dO esO nO
  o_add : PySem.W.nsIn K dO "add" = some (some (.ref (za 10)))
  o_take : PySem.W.nsIn K dO "take" = some (some (.ref (za 11)))
  o_times : PySem.W.nsIn K dO "times" = some (some (.ref (za 12)))
  o_over : PySem.W.nsIn K dO "over" = some (some (.ref (za 13)))
  o_join : PySem.W.nsIn K dO "join" = some (some (.ref (za 14)))
variable {C : Addr} {CD : Addr} {za : Nat → Addr} {zl : Nat → FuncData} {t73 t74 t75 tg_NEAR tg_CUT tg_UP tg_DOWN : Tok} {dO : Addr} {esO : Array DictEntry} {nO : Nat}
inductive Th (K : PySem.W.Frag) (H : Hp) : V → Prop
  | non : Th K H .non
  | bl (b : Bool) : Th K H (.bl b)
  | int (i : Int) : Th K H (.int i)
  | str (x : Str) : Th K H (.str x)
def isI : V → Bool
  | .int _ => true
  | _ => false
def numIn (a b : Int) : V → Bool
  | .int z => decide (a ≤ z) && decide (z ≤ b)
  | _ => false
def spNum (K : PySem.W.Frag) : Sp := fun vs H Q _ => ∃ x : V, vs = [x] ∧ Th K H x ∧ Q (.bl (isI x)) H
theorem ok_is_number (B : Bl mg) (L : LL K mg C CD za zl t73 t74 t75 tg_NEAR tg_CUT tg_UP tg_DOWN w dO esO nO) : FnOk P w K mg base CX0 1 (za 45) (zl 45) ["thing"] (spNum K) := by
  refine L.F_is_number.ok sc_is_number (fun vs H Q E h => ?_) (fun cdv A outer s H vs Q E hr h => ?_)
  · obtain ⟨x, rfl, _⟩ := h
    rfl
  obtain ⟨x, rfl, hx, q⟩ := h
  refine ⟨_, (pss_one (ps_ret (pe_and (pe_callB call_isi (by rfl) B.isinstance boot_isinstance (pa_cons (pv 0) (pa_cons (pe_bltn (v := .ty "int") (by rfl) B.int PyProof.Rows.boot_int rfl) pa_nil))) (pe_one (pe_not (pe_callB call_isi (by rfl) B.isinstance boot_isinstance (pa_cons (pv 0) (pa_cons (pe_bltn (v := .ty "bool") (by rfl) B.bool PyProof.Rows.boot_bool rfl) pa_nil)))))))), ?_⟩
  cases hx with
  | non => exact ⟨_, rfl, _, _, _, _, _, rfl, .ty _, .base .non, kit_ty (by decide +kernel : kitB "NoneType" "int" = some false), _, rfl, iteF q⟩
  | bl b =>
    refine ⟨_, rfl, _, _, _, _, _, rfl, .ty _, .base (.bl _), kit_ty (by decide +kernel : kitB "bool" "int" = some true), _, rfl, iteT ?_⟩
    exact ⟨_, rfl, _, _, _, _, _, rfl, .ty _, .base (.bl _), kit_ty (by decide +kernel : kitB "bool" "bool" = some true), _, rfl, q⟩
  | int i =>
    refine ⟨_, rfl, _, _, _, _, _, rfl, .ty _, .base (.int _), kit_ty (by decide +kernel : kitB "int" "int" = some true), _, rfl, iteT ?_⟩
    exact ⟨_, rfl, _, _, _, _, _, rfl, .ty _, .base (.int _), kit_ty (by decide +kernel : kitB "int" "bool" = some false), _, rfl, q⟩
  | str z => exact ⟨_, rfl, _, _, _, _, _, rfl, .ty _, .base (.str _), kit_ty (by decide +kernel : kitB "str" "int" = some false), _, rfl, iteF q⟩
def spNumIn (K : PySem.W.Frag) : Sp := fun vs H Q _ => ∃ (a b : Int) (x : V), vs = [.int a, .int b, x] ∧ Th K H x ∧ Q (.bl (numIn a b x)) H
theorem ok_is_number_in (B : Bl mg) (L : LL K mg C CD za zl t73 t74 t75 tg_NEAR tg_CUT tg_UP tg_DOWN w dO esO nO) : FnOk P w K mg base CX0 2 (za 46) (zl 46) ["least", "greatest", "thing"] (spNumIn K) := by
  have G_is_number : FnOk P w K mg base CX0 1 (za 45) (zl 45) ["thing"] (spNum K) := (ok_is_number B L).mono (by decide)
  refine L.F_is_number_in.ok sc_is_number_in (fun vs H Q E h => ?_) (fun cdv A outer s H vs Q E hr h => ?_)
  · obtain ⟨a, b, x, rfl, _⟩ := h
    rfl
  obtain ⟨a, b, x, rfl, hx, q⟩ := h
  refine ⟨_, (pss_one (ps_ret (pe_and (pe_call G_is_number hr (by rfl) L.m_is_number L.F_is_number.kp L.b_is_number .nil pass0 (pa_cons (pv 2) pa_nil)) (pe_one (pe_chain op_le op_le (pv 0) (pv 2) (pv 1)))))), ?_⟩
  refine ⟨_, rfl, _, rfl, hx, _, rfl, ?_⟩
  cases hx with
  | non => exact iteF q
  | bl b => exact iteF q
  | str z => exact iteF q
  | int z =>
    refine iteT ?_
    refine ⟨_, rfl, _, rfl, _, _, rfl, rfl, _, rfl, ite2 (fun c => ?_) (fun c => ?_)⟩
    · refine ⟨_, rfl, _, _, rfl, rfl, ?_⟩
      rw [show numIn a b (.int z) = decide (z ≤ b) by show (decide (a ≤ z) && decide (z ≤ b)) = _; rw [c]; rfl] at q
      exact q
    · rw [show numIn a b (.int z) = false by show (decide (a ≤ z) && decide (z ≤ b)) = _; rw [Bool.eq_false_iff.mpr c]; rfl] at q
      exact q
def spInit (C : Addr) : Sp := fun vs H Q _ => ∃ (x dx : Addr) (sc tl : Nat), vs = [.ref x, .int (sc : Int), .int (tl : Int)] ∧ H x = some (.ins C dx []) ∧ 2 ≤ sc ∧ sc ≤ 8 ∧ 1 ≤ tl ∧ tl ≤ 24 ∧
  ∀ H', FAt C H' x sc tl → (∀ p o, H p = some o → p ≠ x → H' p = some o) → Q .non H'
theorem numIn_t {a b z : Int} (h1 : a ≤ z) (h2 : z ≤ b) : numIn a b (.int z) = true := by
  show (decide (a ≤ z) && decide (z ≤ b)) = true
  rw [decide_eq_true h1, decide_eq_true h2]
  rfl
theorem ok_Form___init__ (B : Bl mg) (L : LL K mg C CD za zl t73 t74 t75 tg_NEAR tg_CUT tg_UP tg_DOWN w dO esO nO) : FnOk P w K mg base CX0 3 (za 67) (zl 67) ["self", "scale", "tail"] (spInit C) := by
  have G_is_number_in : FnOk P w K mg base CX0 2 (za 46) (zl 46) ["least", "greatest", "thing"] (spNumIn K) := (ok_is_number_in B L).mono (by decide)
  refine L.F_Form___init__.ok sc_Form___init__ (fun vs H Q E h => ?_) (fun cdv A outer s H vs Q E hr h => ?_)
  · obtain ⟨x, dx, sc, tl, rfl, _⟩ := h
    rfl
  obtain ⟨x, dx, sc, tl, rfl, hx, h1, h2, h3, h4, q⟩ := h
  refine ⟨_, (pss_cons (ps_if (pt_not (pt_val (pe_call G_is_number_in hr (by rfl) L.m_is_number_in L.F_is_number_in.kp L.b_is_number_in .nil pass0 (pa_cons pe_int (pa_cons pe_int (pa_cons (pv 1) pa_nil)))))) (pss_one ps_never) pss_nil)
    (pss_cons (ps_if (pt_not (pt_val (pe_call G_is_number_in hr (by rfl) L.m_is_number_in L.F_is_number_in.kp L.b_is_number_in .nil pass0 (pa_cons pe_int (pa_cons pe_int (pa_cons (pv 2) pa_nil)))))) (pss_one ps_never) pss_nil)
    (pss_cons (ps_fld (pv 0) (pv 1) rfl)
    (pss_one (ps_fld (pv 0) (pv 2) rfl))))), ?_⟩
  refine ⟨_, rfl, _, _, _, rfl, .int _, ?_⟩
  rw [numIn_t (by omega) (by omega)]
  refine ⟨_, rfl, iteF ?_⟩
  refine ⟨_, rfl, _, _, _, rfl, .int _, ?_⟩
  rw [numIn_t (by omega) (by omega)]
  refine ⟨_, rfl, iteF ?_⟩
  refine ⟨_, rfl, _, rfl, x, C, dx, _, rfl, hx, L.T.cl, L.T.ns, (by decide), ?_⟩
  refine ⟨_, rfl, _, rfl, x, C, dx, _, rfl, upd_same, L.T.cl, L.T.nt, (by show 1 < 1000; decide), ?_⟩
  refine q _ ⟨dx, upd_same, h1, h2, h3, h4⟩ fun p o e n => ?_
  rw [upd_ne n, upd_ne n]
  exact e
def spBias (C : Addr) : Sp := fun vs H Q _ => ∃ (x : Addr) (sc tl : Nat), vs = [.ref x] ∧ FAt C H x sc tl ∧ Q (.int (2 ^ (sc - 1) - 1)) H
theorem ok_Form_bias (B : Bl mg) (L : LL K mg C CD za zl t73 t74 t75 tg_NEAR tg_CUT tg_UP tg_DOWN w dO esO nO) : FnOk P w K mg base CX0 1 (za 68) (zl 68) ["self"] (spBias C) := by
  refine L.F_Form_bias.ok sc_Form_bias (fun vs H Q E h => ?_) (fun cdv A outer s H vs Q E hr h => ?_)
  · obtain ⟨x, sc, tl, rfl, _⟩ := h
    rfl
  obtain ⟨x, sc, tl, rfl, ⟨dx, hx, h1, h2, h3, h4⟩, q⟩ := h
  refine ⟨_, (pss_one (ps_ret (pe_op op_sub (pe_op op_oneShl pe_int (pe_op op_sub (pe_fld (pv 0) rfl) pe_int)) pe_int))), ?_⟩
  exact ⟨_, rfl, x, C, dx, _, _, rfl, hx, L.T.cl, L.T.ns, fl_s _ _, _, _, rfl, rfl, sc - 1, rfl, congrArg V.int (by omega), by omega, _, _, rfl, rfl, q⟩
def spTop (C : Addr) : Sp := fun vs H Q _ => ∃ (x : Addr) (sc tl : Nat), vs = [.ref x] ∧ FAt C H x sc tl ∧ Q (.int (2 ^ sc - 1)) H
theorem ok_Form_top (B : Bl mg) (L : LL K mg C CD za zl t73 t74 t75 tg_NEAR tg_CUT tg_UP tg_DOWN w dO esO nO) : FnOk P w K mg base CX0 1 (za 69) (zl 69) ["self"] (spTop C) := by
  refine L.F_Form_top.ok sc_Form_top (fun vs H Q E h => ?_) (fun cdv A outer s H vs Q E hr h => ?_)
  · obtain ⟨x, sc, tl, rfl, _⟩ := h
    rfl
  obtain ⟨x, sc, tl, rfl, ⟨dx, hx, h1, h2, h3, h4⟩, q⟩ := h
  refine ⟨_, (pss_one (ps_ret (pe_op op_sub (pe_op op_oneShl pe_int (pe_fld (pv 0) rfl)) pe_int))), ?_⟩
  exact ⟨_, rfl, x, C, dx, _, _, rfl, hx, L.T.cl, L.T.ns, fl_s _ _, sc, rfl, rfl, by omega, _, _, rfl, rfl, q⟩
def spWordOf (C : Addr) : Sp := fun vs H Q _ => ∃ (x : Addr) (sc tl : Nat) (s m t : Int), vs = [.ref x, .int s, .int m, .int t] ∧ FAt C H x sc tl ∧ (s = 0 ∨ s = 1) ∧ 0 ≤ m ∧ m < 2 ^ sc ∧ 0 ≤ t ∧ t < 2 ^ tl ∧ Q (.int (s * 2 ^ (sc + tl) + (m * 2 ^ tl + t))) H
theorem ok_Form_word_of (B : Bl mg) (L : LL K mg C CD za zl t73 t74 t75 tg_NEAR tg_CUT tg_UP tg_DOWN w dO esO nO) : FnOk P w K mg base CX0 1 (za 71) (zl 71) ["self", "sign", "scale", "tail"] (spWordOf C) := by
  refine L.F_Form_word_of.ok sc_Form_word_of (fun vs H Q E h => ?_) (fun cdv A outer s H vs Q E hr h => ?_)
  · obtain ⟨x, sc, tl, s, m, t, rfl, _⟩ := h
    rfl
  obtain ⟨x, sc, tl, s, m, t, rfl, ⟨dx, hx, h1, h2, h3, h4⟩, hs, m0, m1, t0, t1, q⟩ := h
  refine ⟨_, (pss_one (ps_ret (pe_op op_orL (pe_op op_orL (pe_op op_shlN (pv 1) (pe_op op_add (pe_fld (pv 0) rfl) (pe_fld (pv 0) rfl))) (pe_op op_shlN (pv 2) (pe_fld (pv 0) rfl))) (pv 3)))), ?_⟩
  have p8 : (2 : Int) ^ sc ≤ 2 ^ 8 := GM.pow_le' h2
  have hp := GM.pow_pos' tl
  have hms : m * 2 ^ tl < 2 ^ (sc + tl) := by
    rw [GM.pow_add']
    exact Int.mul_lt_mul_of_pos_right m1 hp
  refine ⟨_, rfl, _, rfl, x, C, dx, _, _, rfl, hx, L.T.cl, L.T.ns, fl_s _ _, _, rfl, x, C, dx, _, _, rfl, hx, L.T.cl, L.T.nt, fl_t _ _, _, _, rfl, rfl, _, sc + tl, rfl, rfl, shl_ok (n := 1) (by omega) (by omega), ?_⟩
  refine ⟨_, rfl, _, rfl, x, C, dx, _, _, rfl, hx, L.T.cl, L.T.nt, fl_t _ _, _, tl, rfl, rfl, shl_ok (n := 9) (by omega) (by omega), ?_⟩
  refine ⟨s, _, sc + tl, rfl, rfl, ⟨by omega, Int.mul_nonneg m0 (by omega), hms⟩, ?_⟩
  have e : s * 2 ^ (sc + tl) + m * 2 ^ tl = (s * 2 ^ sc + m) * 2 ^ tl := by
    rw [GM.pow_add', Int.add_mul, Int.mul_assoc]
  refine ⟨_, rfl, s * 2 ^ sc + m, t, tl, congrArg V.int e, rfl, ⟨?_, t0, t1⟩, ?_⟩
  · have := GM.pow_pos' sc
    rcases hs with z | z <;> subst z <;> omega
  rw [← e, Int.add_assoc]
  exact q
/-- a named word: its sign, scale and tail -/
def spNm (C : Addr) (m t : Nat → Nat → Int) : Sp := fun vs H Q _ => ∃ (x : Addr) (sc tl : Nat) (g : Int), vs = [.ref x, .int g] ∧ FAt C H x sc tl ∧ (g = 0 ∨ g = 1) ∧ Q (.int (g * 2 ^ (sc + tl) + (m sc tl * 2 ^ tl + t sc tl))) H
def mNo : Nat → Nat → Int := fun _ _ => 0
def mEn : Nat → Nat → Int := fun sc _ => 2 ^ sc - 1
def mGr : Nat → Nat → Int := fun sc _ => 2 ^ sc - 1 - 1
def tGr : Nat → Nat → Int := fun _ tl => 2 ^ tl - 1
theorem ok_Form_nought (B : Bl mg) (L : LL K mg C CD za zl t73 t74 t75 tg_NEAR tg_CUT tg_UP tg_DOWN w dO esO nO) : FnOk P w K mg base CX0 2 (za 73) (zl 73) ["self", "sign"] (spNm C mNo mNo) := by
  have G_Form_word_of : FnOk P w K mg base CX0 1 (za 71) (zl 71) ["self", "sign", "scale", "tail"] (spWordOf C) := (ok_Form_word_of B L).mono (by decide)
  refine L.F_Form_nought.ok sc_Form_nought (fun vs H Q E h => ?_) (fun cdv A outer s H vs Q E hr h => ?_)
  · obtain ⟨x, sc, tl, v, rfl, _⟩ := h
    rfl
  obtain ⟨x, sc, tl, g, rfl, hF, hg, q⟩ := h
  obtain ⟨dx, hx, h1, h2, h3, h4⟩ := id hF
  have pS := GM.pow_pos' sc
  have pT := GM.pow_pos' tl
  refine ⟨_, (pss_one (ps_ret (pe_meth (pv 0) L.T.cl L.M_Form_word_of G_Form_word_of hr L.b_Form_word_of .nil pass0 (pa_cons (pv 1) (pa_cons pe_int (pa_cons pe_int pa_nil)))))), ?_⟩
  exact ⟨_, rfl, x, dx, _, rfl, hx, rfl, _, rfl, x, sc, tl, _, _, _, rfl, hF, hg, by decide, pS, by decide, pT, q⟩
theorem ok_Form_endless (B : Bl mg) (L : LL K mg C CD za zl t73 t74 t75 tg_NEAR tg_CUT tg_UP tg_DOWN w dO esO nO) : FnOk P w K mg base CX0 2 (za 74) (zl 74) ["self", "sign"] (spNm C mEn mNo) := by
  have G_Form_word_of : FnOk P w K mg base CX0 1 (za 71) (zl 71) ["self", "sign", "scale", "tail"] (spWordOf C) := (ok_Form_word_of B L).mono (by decide)
  have G_Form_top : FnOk P w K mg base CX0 1 (za 69) (zl 69) ["self"] (spTop C) := (ok_Form_top B L).mono (by decide)
  refine L.F_Form_endless.ok sc_Form_endless (fun vs H Q E h => ?_) (fun cdv A outer s H vs Q E hr h => ?_)
  · obtain ⟨x, sc, tl, v, rfl, _⟩ := h
    rfl
  obtain ⟨x, sc, tl, g, rfl, hF, hg, q⟩ := h
  obtain ⟨dx, hx, h1, h2, h3, h4⟩ := id hF
  have pS := GM.pow_pos' sc
  have pT := GM.pow_pos' tl
  refine ⟨_, (pss_one (ps_ret (pe_meth (pv 0) L.T.cl L.M_Form_word_of G_Form_word_of hr L.b_Form_word_of .nil pass0 (pa_cons (pv 1) (pa_cons (pe_meth0 (pv 0) L.T.cl L.M_Form_top G_Form_top hr L.b_Form_top .nil pass0) (pa_cons pe_int pa_nil)))))), ?_⟩
  exact ⟨_, rfl, x, dx, _, rfl, hx, rfl, _, rfl, _, rfl, x, dx, _, rfl, hx, rfl, x, sc, tl, rfl, hF, x, sc, tl, _, _, _, rfl, hF, hg, by omega, by omega, by decide, pT, q⟩
theorem ok_Form_greatest (B : Bl mg) (L : LL K mg C CD za zl t73 t74 t75 tg_NEAR tg_CUT tg_UP tg_DOWN w dO esO nO) : FnOk P w K mg base CX0 2 (za 75) (zl 75) ["self", "sign"] (spNm C mGr tGr) := by
  have G_Form_word_of : FnOk P w K mg base CX0 1 (za 71) (zl 71) ["self", "sign", "scale", "tail"] (spWordOf C) := (ok_Form_word_of B L).mono (by decide)
  have G_Form_top : FnOk P w K mg base CX0 1 (za 69) (zl 69) ["self"] (spTop C) := (ok_Form_top B L).mono (by decide)
  refine L.F_Form_greatest.ok sc_Form_greatest (fun vs H Q E h => ?_) (fun cdv A outer s H vs Q E hr h => ?_)
  · obtain ⟨x, sc, tl, v, rfl, _⟩ := h
    rfl
  obtain ⟨x, sc, tl, g, rfl, hF, hg, q⟩ := h
  obtain ⟨dx, hx, h1, h2, h3, h4⟩ := id hF
  have pS : (2 : Int) ^ 2 ≤ 2 ^ sc := GM.pow_le' h1
  have pT := GM.pow_pos' tl
  refine ⟨_, (pss_one (ps_ret (pe_meth (pv 0) L.T.cl L.M_Form_word_of G_Form_word_of hr L.b_Form_word_of .nil pass0 (pa_cons (pv 1) (pa_cons (pe_op op_sub (pe_meth0 (pv 0) L.T.cl L.M_Form_top G_Form_top hr L.b_Form_top .nil pass0) pe_int) (pa_cons (pe_op op_sub (pe_op op_oneShl pe_int (pe_fld (pv 0) rfl)) pe_int) pa_nil)))))), ?_⟩
  refine ⟨_, rfl, x, dx, _, rfl, hx, rfl, _, rfl, _, rfl, x, dx, _, rfl, hx, rfl, x, sc, tl, rfl, hF, _, _, rfl, rfl, ?_⟩
  exact ⟨_, rfl, x, C, dx, _, _, rfl, hx, L.T.cl, L.T.nt, fl_t _ _, tl, rfl, rfl, by omega, _, _, rfl, rfl, x, sc, tl, _, _, _, rfl, hF, hg, by omega, by omega, by omega, by omega, q⟩
end
section
variable {P : Program} {w : World} {K : PySem.W.Frag} {mg : Str → Option Value} {base : Heap}
variable {C : Addr} {CD : Addr} {za : Nat → Addr} {zl : Nat → FuncData} {t73 t74 t75 tg_NEAR tg_CUT tg_UP tg_DOWN : Tok} {dO : Addr} {esO : Array DictEntry} {nO : Nat}
def Fit (n : Int) : Prop := 0 ≤ n ∧ Builtin.Int.intBits n ≤ 4000
theorem fit_shl {n : Int} {j : Nat} (h : Fit n) (hj : j ≤ 100000) : CShl n (j : Int) := by
  refine shl_ok (n := 4000) ?_ (by omega)
  exact Nat.lt_of_lt_of_le (PyProof.Rows.natAbs_lt_pow_bits n) (Nat.pow_le_pow_right (by decide) h.2)
theorem fit_div {n : Int} {j : Nat} (h : Fit n) : Fit (n / 2 ^ j) := by
  have hp := GM.pow_pos' j
  have h0 : 0 ≤ n / 2 ^ j := Int.ediv_nonneg h.1 (by omega)
  have h1 : n / 2 ^ j ≤ n := Int.ediv_le_self _ h.1
  refine ⟨h0, ?_⟩
  refine Nat.le_trans (PyProof.Rows.intBits_le (k := Builtin.Int.intBits n) ?_) h.2
  have := PyProof.Rows.natAbs_lt_pow_bits n
  exact Nat.lt_of_le_of_lt (by omega) this
def spCut : Sp := fun vs H Q _ => ∃ n b : Int, vs = [.int n, .int b] ∧ Fit n ∧ -10000 ≤ b ∧ b ≤ 10000 ∧
  ∀ p, H p = none → Q (.ref p) (upd H p (.tup [.int (GR.cutQ n b), .bl (GR.cutR n b)]))
theorem ok_cut_off (B : Bl mg) (L : LL K mg C CD za zl t73 t74 t75 tg_NEAR tg_CUT tg_UP tg_DOWN w dO esO nO) : FnOk P w K mg base CX0 1 (za 1) (zl 1) ["number", "by"] spCut := by
  refine L.F_cut_off.ok sc_cut_off (fun vs H Q E h => ?_) (fun cdv A outer s H vs Q E hr h => ?_)
  · obtain ⟨n, b, rfl, _⟩ := h
    rfl
  obtain ⟨n, b, rfl, hf, h1, h2, q⟩ := h
  refine ⟨_, (pss_cons (ps_if (pt_cmpR op_lt (pv 1) pe_int (nomark _)) (pss_one (ps_ret (pe_tup (pa_cons (pe_op op_shlN (pv 0) (pe_un un_neg (pv 1))) (pa_cons pe_bl pa_nil))))) pss_nil)
    (pss_cons (ps_set (i := 2) sc_cut_off.nd rfl (.inl rfl) (pe_op op_shrN (pv 0) (pv 1)))
    (pss_one (ps_ret (pe_tup (pa_cons (pv 2) (pa_cons (pe_cmpR op_ne (pe_op op_shlN (pv 2) (pv 1)) (pv 0) (nomark _)) pa_nil))))))), ?_⟩
  refine ⟨_, rfl, _, _, rfl, rfl, _, rfl, ite2 (fun c => ?_) (fun c => ?_)⟩
  · have c1 : b < 0 := of_decide_eq_true c
    unfold GR.cutQ GR.cutR at q
    rw [if_pos c1, if_pos c1] at q
    refine ⟨_, rfl, _, rfl, _, rfl, _, (-b).toNat, rfl, congrArg V.int (by omega), fit_shl hf (by omega), (by show 2 ≤ sizeLine; decide), fun p np => ?_⟩
    exact q p np
  · have c1 : ¬ b < 0 := of_decide_eq_false (Bool.eq_false_iff.mpr c)
    unfold GR.cutQ GR.cutR at q
    rw [if_neg c1, if_neg c1] at q
    refine ⟨_, rfl, _, rfl, _, b.toNat, rfl, congrArg V.int (by omega), ?_⟩
    refine ⟨_, rfl, _, rfl, _, rfl, _, b.toNat, rfl, congrArg V.int (by omega), fit_shl (fit_div hf) (by omega), _, rfl, rfl, (by show 2 ≤ sizeLine; decide), fun p np => ?_⟩
    rw [dvi]
    exact q p np
def spLea (C : Addr) : Sp := fun vs H Q _ => ∃ (x : Addr) (sc tl : Nat), vs = [.ref x] ∧ FAt C H x sc tl ∧ Q (.int (GR.lea sc tl)) H
theorem ok_least_power (B : Bl mg) (L : LL K mg C CD za zl t73 t74 t75 tg_NEAR tg_CUT tg_UP tg_DOWN w dO esO nO) : FnOk P w K mg base CX0 2 (za 3) (zl 3) ["form"] (spLea C) := by
  have G_Form_bias : FnOk P w K mg base CX0 1 (za 68) (zl 68) ["self"] (spBias C) := (ok_Form_bias B L).mono (by decide)
  refine L.F_least_power.ok sc_least_power (fun vs H Q E h => ?_) (fun cdv A outer s H vs Q E hr h => ?_)
  · obtain ⟨x, sc, tl, rfl, _⟩ := h
    rfl
  obtain ⟨x, sc, tl, rfl, hF, q⟩ := h
  obtain ⟨dx, hx, h1, h2, h3, h4⟩ := id hF
  refine ⟨_, (pss_one (ps_ret (pe_op op_sub (pe_op op_sub pe_int (pe_meth0 (pv 0) L.T.cl L.M_Form_bias G_Form_bias hr L.b_Form_bias .nil pass0)) (pe_fld (pv 0) rfl)))), ?_⟩
  exact ⟨_, rfl, x, dx, _, rfl, hx, rfl, x, sc, tl, rfl, hF, _, _, rfl, rfl, _, rfl, x, C, dx, _, _, rfl, hx, L.T.cl, L.T.nt, fl_t _ _, _, _, rfl, rfl, q⟩
def spLap (C : Addr) : Sp := fun vs H Q _ => ∃ (x : Addr) (sc tl : Nat) (n p : Int), vs = [.ref x, .int n, .int p] ∧ FAt C H x sc tl ∧ Q (.int (GR.lap sc tl n p)) H
theorem ok_last_power (B : Bl mg) (L : LL K mg C CD za zl t73 t74 t75 tg_NEAR tg_CUT tg_UP tg_DOWN w dO esO nO) : FnOk P w K mg base CX0 3 (za 2) (zl 2) ["form", "number", "power"] (spLap C) := by
  have G_least_power : FnOk P w K mg base CX0 2 (za 3) (zl 3) ["form"] (spLea C) := (ok_least_power B L).mono (by decide)
  refine L.F_last_power.ok sc_last_power (fun vs H Q E h => ?_) (fun cdv A outer s H vs Q E hr h => ?_)
  · obtain ⟨x, sc, tl, n, p, rfl, _⟩ := h
    rfl
  obtain ⟨x, sc, tl, n, p, rfl, hF, q⟩ := h
  obtain ⟨dx, hx, h1, h2, h3, h4⟩ := id hF
  refine ⟨_, (pss_one (ps_ret (pe_callB (call_max2 rfl) (by rfl) B.max boot_max (pa_cons (pe_op op_sub (pe_op op_sub (pe_op op_add (pe_bits (pv 1)) (pv 2)) pe_int) (pe_fld (pv 0) rfl)) (pa_cons (pe_call G_least_power hr (by rfl) L.m_least_power L.F_least_power.kp L.b_least_power .nil pass0 (pa_cons (pv 0) pa_nil)) pa_nil))))), ?_⟩
  exact ⟨_, rfl, _, rfl, _, rfl, _, _, rfl, rfl, _, _, rfl, rfl, _, rfl, x, C, dx, _, _, rfl, hx, L.T.cl, L.T.nt, fl_t _ _, _, _, rfl, rfl, _, rfl, x, sc, tl, rfl, hF, _, _, rfl, q⟩
def spPart : Sp := fun vs H Q _ => ∃ (n b : Int) (m : Bool), vs = [.int n, .int b, .bl m] ∧ Fit n ∧ -9999 ≤ b ∧ b ≤ 9999 ∧
  ∀ p H', H p = none → Same H H' → H' p = some (.tup [.int (GR.prQ n b), .int (GR.prR n b m)]) → Q (.ref p) H'
theorem ok_parted (B : Bl mg) (L : LL K mg C CD za zl t73 t74 t75 tg_NEAR tg_CUT tg_UP tg_DOWN w dO esO nO) : FnOk P w K mg base CX0 2 (za 5) (zl 5) ["number", "by", "more"] spPart := by
  have G_cut_off : FnOk P w K mg base CX0 1 (za 1) (zl 1) ["number", "by"] spCut := (ok_cut_off B L).mono (by decide)
  refine L.F_parted.ok sc_parted (fun vs H Q E h => ?_) (fun cdv A outer s H vs Q E hr h => ?_)
  · obtain ⟨n, b, m, rfl, _⟩ := h
    rfl
  obtain ⟨n, b, m, rfl, hf, h1, h2, q⟩ := h
  refine ⟨_, (pss_cons (ps_asg (pe_call G_cut_off hr (by rfl) L.m_cut_off L.F_cut_off.kp L.b_cut_off .nil pass0 (pa_cons (pv 0) (pa_cons (pe_op op_sub (pv 1) pe_int) pa_nil))) (pg_tup (by rfl) (pgs_cons (pg_name (i := 3) sc_parted.nd rfl (.inl rfl)) (pgs_cons (pg_name (i := 4) sc_parted.nd rfl (.inl rfl)) pgs_nil))))
    (pss_one (ps_ret (pe_tup (pa_cons (pe_op op_shrN (pv 3) pe_int) (pa_cons (pe_op op_add (pe_op op_mul pe_int (pe_op op_andM (pv 3) pe_int)) (pe_ifExp (PW.pt (pw_or (pt_val (pv 4)) (pw_or1 (pt_val (pv 2))))) pe_int pe_int)) pa_nil)))))), ?_⟩
  refine ⟨_, rfl, _, rfl, _, _, rfl, rfl, n, b - 1, rfl, hf, by omega, by omega, fun t nt => ?_⟩
  have st := same_upd (o := .tup [.int (GR.cutQ n (b - 1)), .bl (GR.cutR n (b - 1))]) nt
  refine ⟨t, _, rfl, .inl (.inl upd_same), rfl, _, _, rfl, _, _, rfl, rfl, ?_⟩
  refine ⟨_, rfl, _, 1, rfl, rfl, _, rfl, _, 1, rfl, rfl, _, _, rfl, rfl, .inl ⟨by decide, by decide⟩, ?_⟩
  have fin : ∀ v : Int, (if (GR.cutR n (b - 1) || m) = true then (1 : Int) else 0) = v → ∀ p, (upd H t (.tup [.int (GR.cutQ n (b - 1)), .bl (GR.cutR n (b - 1))])) p = none →
      Q (.ref p) (upd (upd H t (.tup [.int (GR.cutQ n (b - 1)), .bl (GR.cutR n (b - 1))])) p (.tup [.int (GR.cutQ n (b - 1) / 2 ^ 1), .int (2 * (GR.cutQ n (b - 1) % 2 ^ 1) + v)])) := fun v hv p np => by
    refine q p _ (st.free np) (st.trans (same_upd np)) ?_
    rw [upd_same, ← hv]
    rfl
  refine ⟨_, rfl, _, rfl, ite2 (fun c => ?_) (fun c => ?_)⟩
  · refine ⟨_, _, rfl, rfl, (by show 2 ≤ sizeLine; decide), fun p np => fin 1 ?_ p np⟩
    rw [c]
    rfl
  · have c1 : GR.cutR n (b - 1) = false := Bool.eq_false_iff.mpr c
    refine ⟨_, rfl, _, rfl, ite2 (fun d => ?_) (fun d => ?_)⟩
    · refine ⟨_, _, rfl, rfl, (by show 2 ≤ sizeLine; decide), fun p np => fin 1 ?_ p np⟩
      rw [c1, d]
      rfl
    · refine ⟨_, _, rfl, rfl, (by show 2 ≤ sizeLine; decide), fun p np => fin 0 ?_ p np⟩
      rw [c1, Bool.eq_false_iff.mpr d]
      rfl
def spAway : Sp := fun vs H Q _ => ∃ (w : Str) (s : Int), vs = [.str w, .int s] ∧ Q (.bl (GR.away w s)) H
theorem ok_goes_away (B : Bl mg) (L : LL K mg C CD za zl t73 t74 t75 tg_NEAR tg_CUT tg_UP tg_DOWN w dO esO nO) : FnOk P w K mg base CX0 1 (za 7) (zl 7) ["way", "sign"] spAway := by
  refine L.F_goes_away.ok sc_goes_away (fun vs H Q E h => ?_) (fun cdv A outer s H vs Q E hr h => ?_)
  · obtain ⟨w, s, rfl, _⟩ := h
    rfl
  obtain ⟨w, s, rfl, q⟩ := h
  refine ⟨_, (pss_cons (ps_if (pt_cmpR op_eq (pv 0) (pe_glob (v := .str "cut") rfl L.g_CUT ⟨_, rfl⟩) (nomark _)) (pss_one (ps_ret pe_bl)) pss_nil)
    (pss_one (ps_ret (pe_cmpR op_eq (pv 1) (pe_ifExp (pt_cmpR op_eq (pv 0) (pe_glob (v := .str "up") rfl L.g_UP ⟨_, rfl⟩) (nomark _)) pe_int pe_int) (nomark _))))), ?_⟩
  unfold GR.away at q
  refine ⟨_, rfl, rfl, _, rfl, ite2 (fun c => ?_) (fun c => ?_)⟩
  · have c1 : w = "cut" := V.str.inj (of_decide_eq_true c)
    rw [if_pos c1] at q
    exact q
  · have c1 : ¬ w = "cut" := fun z => c (decide_eq_true (by rw [z]))
    rw [if_neg c1] at q
    refine ⟨_, rfl, _, rfl, rfl, _, rfl, ite2 (fun d => ?_) (fun d => ?_)⟩
    · have d1 : w = "up" := V.str.inj (of_decide_eq_true d)
      rw [if_pos d1, ← dvi] at q
      exact ⟨rfl, q⟩
    · have d1 : ¬ w = "up" := fun z => d (decide_eq_true (by rw [z]))
      rw [if_neg d1, ← dvi] at q
      exact ⟨rfl, q⟩
def spUp : Sp := fun vs H Q _ => ∃ (w : Str) (s m r : Int), vs = [.str w, .int s, .int m, .int r] ∧ Q (.bl (GR.gup w s m r)) H
theorem ok_goes_up (B : Bl mg) (L : LL K mg C CD za zl t73 t74 t75 tg_NEAR tg_CUT tg_UP tg_DOWN w dO esO nO) : FnOk P w K mg base CX0 2 (za 6) (zl 6) ["way", "sign", "many", "rest"] spUp := by
  have G_goes_away : FnOk P w K mg base CX0 1 (za 7) (zl 7) ["way", "sign"] spAway := (ok_goes_away B L).mono (by decide)
  refine L.F_goes_up.ok sc_goes_up (fun vs H Q E h => ?_) (fun cdv A outer s H vs Q E hr h => ?_)
  · obtain ⟨w, s, m, r, rfl, _⟩ := h
    rfl
  obtain ⟨w, s, m, r, rfl, q⟩ := h
  refine ⟨_, (pss_cons (ps_if (pt_cmpR op_eq (pv 0) (pe_glob (v := .str "near") rfl L.g_NEAR ⟨_, rfl⟩) (nomark _)) (pss_one (ps_ret (pe_or (pe_cmpR op_eq (pv 3) pe_int (nomark _)) (pe_one (pe_and (pe_cmpR op_eq (pv 3) pe_int (nomark _)) (pe_one (pe_cmpR op_eq (pe_op op_mod (pv 2) pe_int) pe_int (nomark _)))))))) pss_nil)
    (pss_one (ps_ret (pe_and (pe_cmpR op_ne (pv 3) pe_int (nomark _)) (pe_one (pe_call G_goes_away hr (by rfl) L.m_goes_away L.F_goes_away.kp L.b_goes_away .nil pass0 (pa_cons (pv 0) (pa_cons (pv 1) pa_nil)))))))), ?_⟩
  unfold GR.gup at q
  refine ⟨_, rfl, rfl, _, rfl, ite2 (fun c => ?_) (fun c => ?_)⟩
  · have c1 : w = "near" := V.str.inj (of_decide_eq_true c)
    rw [if_pos c1] at q
    refine ⟨_, rfl, rfl, _, rfl, ?_⟩
    by_cases d : r = 3
    · rw [decide_eq_true d, Bool.true_or] at q
      rw [dvi, decide_eq_true d]
      exact iteT q
    · rw [decide_eq_false d, Bool.false_or] at q
      rw [dvi, decide_eq_false d]
      refine iteF ?_
      refine ⟨_, rfl, rfl, _, rfl, ?_⟩
      by_cases e : r = 2
      · rw [decide_eq_true e, Bool.true_and, ← dvi] at q
        rw [dvi, decide_eq_true e]
        exact iteT ⟨_, rfl, _, _, rfl, rfl, (by show (0 : Int) < 2; decide), rfl, q⟩
      · rw [decide_eq_false e, Bool.false_and] at q
        rw [dvi, decide_eq_false e]
        exact iteF q
  · have c1 : ¬ w = "near" := fun z => c (decide_eq_true (by rw [z]))
    rw [if_neg c1] at q
    refine ⟨_, rfl, rfl, _, rfl, ?_⟩
    by_cases d : r = 0
    · rw [decide_eq_true d] at q
      rw [dvi, decide_eq_true d]
      exact iteF q
    · rw [decide_eq_false d] at q
      rw [dvi, decide_eq_false d]
      exact iteT ⟨_, rfl, _, rfl, _, _, rfl, q⟩
def spBey (C : Addr) : Sp := fun vs H Q _ => ∃ (x : Addr) (sc tl : Nat) (s : Int) (w : Str), vs = [.ref x, .int s, .str w] ∧ FAt C H x sc tl ∧ (s = 0 ∨ s = 1) ∧ Q (.int (GR.bey sc tl s w)) H
theorem ok_word_beyond (B : Bl mg) (L : LL K mg C CD za zl t73 t74 t75 tg_NEAR tg_CUT tg_UP tg_DOWN w dO esO nO) : FnOk P w K mg base CX0 3 (za 8) (zl 8) ["form", "sign", "way"] (spBey C) := by
  have G_goes_away : FnOk P w K mg base CX0 2 (za 7) (zl 7) ["way", "sign"] spAway := (ok_goes_away B L).mono (by decide)
  have G_Form_endless : FnOk P w K mg base CX0 2 (za 74) (zl 74) ["self", "sign"] (spNm C mEn mNo) := (ok_Form_endless B L).mono (by decide)
  have G_Form_greatest : FnOk P w K mg base CX0 2 (za 75) (zl 75) ["self", "sign"] (spNm C mGr tGr) := (ok_Form_greatest B L).mono (by decide)
  refine L.F_word_beyond.ok sc_word_beyond (fun vs H Q E h => ?_) (fun cdv A outer s H vs Q E hr h => ?_)
  · obtain ⟨x, sc, tl, s, w, rfl, _⟩ := h
    rfl
  obtain ⟨x, sc, tl, s, w, rfl, hF, hs, q⟩ := h
  obtain ⟨dx, hx, h1, h2, h3, h4⟩ := id hF
  refine ⟨_, (pss_cons (ps_if (PW.pt (pw_or (pt_cmpR op_eq (pv 2) (pe_glob (v := .str "near") rfl L.g_NEAR ⟨_, rfl⟩) (nomark _)) (pw_or1 (pt_val (pe_call G_goes_away hr (by rfl) L.m_goes_away L.F_goes_away.kp L.b_goes_away .nil pass0 (pa_cons (pv 2) (pa_cons (pv 1) pa_nil))))))) (pss_one (ps_ret (pe_meth (pv 0) L.T.cl L.M_Form_endless G_Form_endless hr L.b_Form_endless .nil pass0 (pa_cons (pv 1) pa_nil)))) pss_nil)
    (pss_one (ps_ret (pe_meth (pv 0) L.T.cl L.M_Form_greatest G_Form_greatest hr L.b_Form_greatest .nil pass0 (pa_cons (pv 1) pa_nil))))), ?_⟩
  unfold GR.bey at q
  have e1 : (decide (w = "near") || GR.away w s) = true → Q (.int (GR.wrd sc tl s (2 ^ sc - 1) 0)) H := fun z => by
    rw [if_pos z] at q
    exact q
  have e2 : ¬ (decide (w = "near") || GR.away w s) = true → Q (.int (GR.wrd sc tl s (2 ^ sc - 1 - 1) (2 ^ tl - 1))) H := fun z => by
    rw [if_neg z] at q
    exact q
  refine ⟨_, rfl, rfl, _, rfl, ite2 (fun c => ?_) (fun c => ?_)⟩
  · rw [dvs] at c
    exact ⟨_, rfl, x, dx, _, rfl, hx, rfl, _, rfl, x, sc, tl, s, rfl, hF, hs, e1 (by rw [c]; rfl)⟩
  · rw [dvs] at c
    refine ⟨_, rfl, _, rfl, _, _, rfl, _, rfl, ite2 (fun d => ?_) (fun d => ?_)⟩
    · exact ⟨_, rfl, x, dx, _, rfl, hx, rfl, _, rfl, x, sc, tl, s, rfl, hF, hs, e1 (by rw [d, Bool.or_true])⟩
    · exact ⟨_, rfl, x, dx, _, rfl, hx, rfl, _, rfl, x, sc, tl, s, rfl, hF, hs, e2 (by rw [Bool.eq_false_iff.mpr c, Bool.eq_false_iff.mpr d]; decide)⟩
def spFlg (C : Addr) : Sp := fun vs H Q _ => ∃ (x : Addr) (sc tl : Nat) (n p r : Int), vs = [.ref x, .int n, .int p, .int r] ∧ FAt C H x sc tl ∧
  ∀ t H', H t = none → Same H H' → H' t = some (.tup ((GR.flg sc n p r).map V.str)) → Q (.ref t) H'
theorem ok_flags_of_rest (B : Bl mg) (L : LL K mg C CD za zl t73 t74 t75 tg_NEAR tg_CUT tg_UP tg_DOWN w dO esO nO) : FnOk P w K mg base CX0 2 (za 9) (zl 9) ["form", "number", "power", "rest"] (spFlg C) := by
  have G_Form_bias : FnOk P w K mg base CX0 1 (za 68) (zl 68) ["self"] (spBias C) := (ok_Form_bias B L).mono (by decide)
  refine L.F_flags_of_rest.ok sc_flags_of_rest (fun vs H Q E h => ?_) (fun cdv A outer s H vs Q E hr h => ?_)
  · obtain ⟨x, sc, tl, n, p, r, rfl, _⟩ := h
    rfl
  obtain ⟨x, sc, tl, n, p, r, rfl, hF, q⟩ := h
  obtain ⟨dx, hx, h1, h2, h3, h4⟩ := id hF
  refine ⟨_, (pss_cons (ps_if (pt_cmpR op_eq (pv 3) pe_int (nomark _)) (pss_one (ps_ret (pe_tup pa_nil))) pss_nil)
    (pss_cons (ps_if (pt_cmpR op_le (pe_op op_add (pe_bits (pv 1)) (pv 2)) (pe_op op_sub pe_int (pe_meth0 (pv 0) L.T.cl L.M_Form_bias G_Form_bias hr L.b_Form_bias .nil pass0)) (nomark _)) (pss_one (ps_ret (pe_tup (pa_cons pe_str (pa_cons pe_str pa_nil))))) pss_nil)
    (pss_one (ps_ret (pe_tup (pa_cons pe_str pa_nil)))))), ?_⟩
  unfold GR.flg at q
  refine ⟨_, rfl, rfl, _, rfl, ite2 (fun c => ?_) (fun c => ?_)⟩
  · rw [dvi] at c
    rw [if_pos (of_decide_eq_true c)] at q
    exact ⟨Nat.zero_le _, fun t nt => q t _ nt (same_upd nt) upd_same⟩
  · rw [dvi] at c
    rw [if_neg (of_decide_eq_false (Bool.eq_false_iff.mpr c))] at q
    refine ⟨_, rfl, _, rfl, _, rfl, _, _, rfl, rfl, _, rfl, x, dx, _, rfl, hx, rfl, x, sc, tl, rfl, hF, _, _, rfl, rfl, _, _, rfl, rfl, _, rfl, ite2 (fun d => ?_) (fun d => ?_)⟩
    · have d1 := of_decide_eq_true d
      unfold GR.bl at q
      rw [if_pos d1] at q
      exact ⟨(by show 2 ≤ sizeLine; decide), fun t nt => q t _ nt (same_upd nt) upd_same⟩
    · have d1 := of_decide_eq_false (Bool.eq_false_iff.mpr d)
      unfold GR.bl at q
      rw [if_neg d1] at q
      exact ⟨(by show 1 ≤ sizeLine; decide), fun t nt => q t _ nt (same_upd nt) upd_same⟩
/-- at p stands a pair of a word and its flags -/
def PairAt (H : Hp) (p : Addr) (r : Int × List Str) : Prop := ∃ f, H p = some (.tup [.int r.1, .ref f]) ∧ H f = some (.tup (r.2.map V.str))
def spRnd (C : Addr) : Sp := fun vs H Q _ => ∃ (x : Addr) (sc tl : Nat) (s n p : Int) (w : Str) (m : Bool), vs = [.ref x, .int s, .int n, .int p, .str w, .bl m] ∧ FAt C H x sc tl ∧ (s = 0 ∨ s = 1) ∧ Fit n ∧ -4000 ≤ p ∧ p ≤ 4000 ∧ (m = true → n ≠ 0 ∧ p < GR.lap sc tl n p) ∧
  ∀ t H', H t = none → Same H H' → PairAt H' t (GR.rnd sc tl s n p w m) → Q (.ref t) H'
theorem lap_in {sc tl : Nat} {n p : Int} (hf : Fit n) (h1 : -4000 ≤ p) (h2 : p ≤ 4000) (hs : sc ≤ 8) (ht : tl ≤ 24) : -300 ≤ GR.lap sc tl n p ∧ GR.lap sc tl n p ≤ 8000 ∧ GR.lap sc tl n p - p ≤ 5000 ∧ -300 ≤ GR.lea sc tl ∧ GR.lea sc tl ≤ 2 ∧ GR.lea sc tl ≤ GR.lap sc tl n p := by
  have p8 : (2 : Int) ^ (sc - 1) ≤ 2 ^ 7 := GM.pow_le' (by omega)
  have p0 := GM.pow_pos' (sc - 1)
  have hb : GR.bl n ≤ 4000 := by
    have := hf.2
    unfold GR.bl
    omega
  have hb0 : 0 ≤ GR.bl n := by
    unfold GR.bl
    omega
  unfold GR.lap GR.lea
  split <;> omega
theorem ok_rounded (B : Bl mg) (L : LL K mg C CD za zl t73 t74 t75 tg_NEAR tg_CUT tg_UP tg_DOWN w dO esO nO) : FnOk P w K mg base CX0 4 (za 4) (zl 4) ["form", "sign", "number", "power", "way", "more"] (spRnd C) := by
  have G_last_power : FnOk P w K mg base CX0 3 (za 2) (zl 2) ["form", "number", "power"] (spLap C) := (ok_last_power B L).mono (by decide)
  have G_Form_nought : FnOk P w K mg base CX0 3 (za 73) (zl 73) ["self", "sign"] (spNm C mNo mNo) := (ok_Form_nought B L).mono (by decide)
  have G_parted : FnOk P w K mg base CX0 3 (za 5) (zl 5) ["number", "by", "more"] spPart := (ok_parted B L).mono (by decide)
  have G_goes_up : FnOk P w K mg base CX0 3 (za 6) (zl 6) ["way", "sign", "many", "rest"] spUp := (ok_goes_up B L).mono (by decide)
  have G_least_power : FnOk P w K mg base CX0 3 (za 3) (zl 3) ["form"] (spLea C) := (ok_least_power B L).mono (by decide)
  have G_Form_greatest : FnOk P w K mg base CX0 3 (za 75) (zl 75) ["self", "sign"] (spNm C mGr tGr) := (ok_Form_greatest B L).mono (by decide)
  have G_word_beyond : FnOk P w K mg base CX0 3 (za 8) (zl 8) ["form", "sign", "way"] (spBey C) := (ok_word_beyond B L).mono (by decide)
  have G_flags_of_rest : FnOk P w K mg base CX0 3 (za 9) (zl 9) ["form", "number", "power", "rest"] (spFlg C) := (ok_flags_of_rest B L).mono (by decide)
  refine L.F_rounded.ok sc_rounded (fun vs H Q E h => ?_) (fun cdv A outer s H vs Q E hr h => ?_)
  · obtain ⟨x, sc, tl, s, n, p, w, m, rfl, _⟩ := h
    rfl
  obtain ⟨x, sc, tl, s, n, p, w, m, rfl, hF, hs, hf, hp1, hp2, hm, q⟩ := h
  obtain ⟨dx, hx, h1, h2, h3, h4⟩ := id hF
  refine ⟨_, (pss_cons (ps_if (PW.pt (pw_and (pt_val (pv 5)) (pw_and1 (PW.pt (pw_or (pt_cmpR op_eq (pv 2) pe_int (nomark _)) (pw_or1 (pt_cmpR op_ge (pv 3) (pe_call G_last_power hr (by rfl) L.m_last_power L.F_last_power.kp L.b_last_power .nil pass0 (pa_cons (pv 0) (pa_cons (pv 2) (pa_cons (pv 3) pa_nil)))) (nomark _)))))))) (pss_one ps_never) pss_nil)
    (pss_cons (ps_if (pt_cmpR op_eq (pv 2) pe_int (nomark _)) (pss_one (ps_ret (pe_tup (pa_cons (pe_meth (pv 0) L.T.cl L.M_Form_nought G_Form_nought hr L.b_Form_nought .nil pass0 (pa_cons (pv 1) pa_nil)) (pa_cons (pe_tup pa_nil) pa_nil))))) pss_nil)
    (pss_cons (ps_set (i := 6) sc_rounded.nd rfl (.inl rfl) (pe_call G_last_power hr (by rfl) L.m_last_power L.F_last_power.kp L.b_last_power .nil pass0 (pa_cons (pv 0) (pa_cons (pv 2) (pa_cons (pv 3) pa_nil)))))
    (pss_cons (ps_asg (pe_call G_parted hr (by rfl) L.m_parted L.F_parted.kp L.b_parted .nil pass0 (pa_cons (pv 2) (pa_cons (pe_op op_sub (pv 6) (pv 3)) (pa_cons (pv 5) pa_nil)))) (pg_tup (by rfl) (pgs_cons (pg_name (i := 7) sc_rounded.nd rfl (.inl rfl)) (pgs_cons (pg_name (i := 8) sc_rounded.nd rfl (.inl rfl)) pgs_nil))))
    (pss_cons (ps_if (pt_val (pe_call G_goes_up hr (by rfl) L.m_goes_up L.F_goes_up.kp L.b_goes_up .nil pass0 (pa_cons (pv 4) (pa_cons (pv 1) (pa_cons (pv 7) (pa_cons (pv 8) pa_nil)))))) (pss_one (ps_aug (i := 7) sc_rounded.nd rfl (.inl rfl) pe_int iop_add)) pss_nil)
    (pss_cons (ps_set (i := 9) sc_rounded.nd rfl (.inl rfl) (pe_op op_add (pe_op op_shlN (pe_op op_sub (pv 6) (pe_call G_least_power hr (by rfl) L.m_least_power L.F_least_power.kp L.b_least_power .nil pass0 (pa_cons (pv 0) pa_nil))) (pe_fld (pv 0) rfl)) (pv 7)))
    (pss_cons (ps_if (pt_cmpR op_gt (pv 9) (pe_meth0 (pv 0) L.T.cl L.M_Form_greatest G_Form_greatest hr L.d_Form_greatest (val0 _) pass0) (nomark _)) (pss_one (ps_ret (pe_tup (pa_cons (pe_call G_word_beyond hr (by rfl) L.m_word_beyond L.F_word_beyond.kp L.b_word_beyond .nil pass0 (pa_cons (pv 0) (pa_cons (pv 1) (pa_cons (pv 4) pa_nil)))) (pa_cons (pe_tup (pa_cons pe_str (pa_cons pe_str pa_nil))) pa_nil))))) pss_nil)
    (pss_one (ps_ret (pe_tup (pa_cons (pe_op op_add (pe_meth (pv 0) L.T.cl L.M_Form_nought G_Form_nought hr L.b_Form_nought .nil pass0 (pa_cons (pv 1) pa_nil)) (pv 9)) (pa_cons (pe_call G_flags_of_rest hr (by rfl) L.m_flags_of_rest L.F_flags_of_rest.kp L.b_flags_of_rest .nil pass0 (pa_cons (pv 0) (pa_cons (pv 2) (pa_cons (pv 3) (pa_cons (pv 8) pa_nil))))) pa_nil)))))))))))), ?_⟩
  obtain ⟨i1, i2, i3, i4, i5, i6⟩ := lap_in (sc := sc) (tl := tl) hf hp1 hp2 h2 h4
  -- no refusal
  apply cutP
  case h2 =>
    intro rest
    refine ⟨_, rfl, _, rfl, ite2 (fun c => ?_) (fun c => rest)⟩
    obtain ⟨m1, m2⟩ := hm c
    refine ⟨_, rfl, rfl, _, rfl, ?_⟩
    rw [dvi, decide_eq_false m1]
    refine iteF ?_
    refine ⟨_, rfl, _, rfl, _, rfl, _, rfl, x, sc, tl, n, p, rfl, hF, _, _, rfl, rfl, _, rfl, ?_⟩
    rw [decide_eq_false (by omega)]
    exact iteF rest
  unfold GR.rnd at q
  refine ⟨_, rfl, rfl, _, rfl, ite2 (fun c => ?_) (fun c => ?_)⟩
  · rw [dvi] at c
    rw [if_pos (of_decide_eq_true c)] at q
    refine ⟨_, rfl, x, dx, _, rfl, hx, rfl, _, rfl, x, sc, tl, s, rfl, hF, hs, Nat.zero_le _, fun e ne => ?_⟩
    refine ⟨(by show 2 ≤ sizeLine; decide), fun t nt => ?_⟩
    have se := same_upd (o := .tup []) ne
    have st := same_upd (o := .tup [.int (GR.wrd sc tl s 0 0), .ref e]) nt
    exact q t _ (se.free nt) (se.trans st) ⟨e, upd_same, st _ _ upd_same⟩
  rw [dvi] at c
  rw [if_neg (of_decide_eq_false (Bool.eq_false_iff.mpr c))] at q
  refine ⟨_, rfl, _, rfl, _, rfl, x, sc, tl, n, p, rfl, hF, ?_⟩
  refine ⟨_, rfl, _, rfl, _, rfl, _, _, rfl, rfl, _, rfl, n, _, m, rfl, hf, by omega, by omega, fun pr H1 npr s1 epr => ?_⟩
  refine ⟨pr, _, rfl, .inl (.inl epr), rfl, _, _, rfl, _, _, rfl, rfl, ?_⟩
  have hF1 := hF.same s1
  have hx1 := s1 _ _ hx
  -- behind the step up
  apply cutP
  case h2 =>
    intro rest
    refine ⟨_, rfl, _, rfl, _, rfl, _, rfl, w, s, _, _, rfl, _, rfl, ite2 (fun c2 => ?_) (fun c2 => ?_)⟩
    · refine ⟨_, rfl, _, _, rfl, rfl, ?_⟩
      have e : GR.prQ n (GR.lap sc tl n p - p) + 1 = GR.mny sc tl s n p w m := by
        unfold GR.mny
        rw [if_pos c2]
      dsimp only
      rw [e]
      exact rest
    · have e : GR.prQ n (GR.lap sc tl n p - p) = GR.mny sc tl s n p w m := by
        unfold GR.mny
        rw [if_neg c2]
      dsimp only
      rw [e]
      exact rest
  refine ⟨_, rfl, _, rfl, x, sc, tl, rfl, hF1, _, _, rfl, rfl, _, rfl, x, C, dx, _, _, rfl, hx1, L.T.cl, L.T.nt, fl_t _ _, _, tl, rfl, rfl, shl_ok (n := 14) (by omega) (by omega), _, rfl, _, _, rfl, rfl, ?_⟩
  refine ⟨_, rfl, _, rfl, x, dx, _, rfl, hx1, rfl, x, sc, tl, 0, rfl, hF1, .inl rfl, _, _, rfl, rfl, _, rfl, ite2 (fun c3 => ?_) (fun c3 => ?_)⟩
  · have c4 : GR.siz sc tl s n p w m > GR.wrd sc tl 0 (2 ^ sc - 1 - 1) (2 ^ tl - 1) := of_decide_eq_true c3
    rw [if_pos c4] at q
    refine ⟨_, rfl, _, rfl, _, rfl, x, sc, tl, s, w, rfl, hF1, hs, (by show 2 ≤ sizeLine; decide), fun e ne => ?_⟩
    refine ⟨(by show 2 ≤ sizeLine; decide), fun t nt => ?_⟩
    have se := same_upd (o := .tup [.str "over", .str "rounded"]) ne
    have st := same_upd (o := .tup [.int (GR.bey sc tl s w), .ref e]) nt
    exact q t _ (s1.free (se.free nt)) (s1.trans (se.trans st)) ⟨e, upd_same, st _ _ upd_same⟩
  · have c4 : ¬ GR.siz sc tl s n p w m > GR.wrd sc tl 0 (2 ^ sc - 1 - 1) (2 ^ tl - 1) := of_decide_eq_false (Bool.eq_false_iff.mpr c3)
    rw [if_neg c4] at q
    refine ⟨_, rfl, x, dx, _, rfl, hx1, rfl, _, rfl, x, sc, tl, s, rfl, hF1, hs, _, rfl, _, _, rfl, rfl, ?_⟩
    refine ⟨_, rfl, _, rfl, _, rfl, _, rfl, x, sc, tl, n, p, _, rfl, hF1, fun e H2 ne s2 ee => ?_⟩
    refine ⟨(by show 2 ≤ sizeLine; decide), fun t nt => ?_⟩
    have st := same_upd (o := .tup [.int (GR.wrd sc tl s 0 0 + GR.siz sc tl s n p w m), .ref e]) nt
    exact q t _ (s1.free (s2.free nt)) (s1.trans (s2.trans st)) ⟨e, upd_same, st _ _ ee⟩
end
section
variable {P : Program} {w : World} {K : PySem.W.Frag} {mg : Str → Option Value} {base : Heap}
variable {C : Addr} {CD : Addr} {za : Nat → Addr} {zl : Nat → FuncData} {t73 t74 t75 tg_NEAR tg_CUT tg_UP tg_DOWN : Tok} {dO : Addr} {esO : Array DictEntry} {nO : Nat}
def spParts (C : Addr) : Sp := fun vs H Q _ => ∃ (x : Addr) (sc tl : Nat) (v : Int), vs = [.ref x, .int v] ∧ FAt C H x sc tl ∧
  ∀ p, H p = none → Q (.ref p) (upd H p (.tup [.int (GM.sgn sc tl v), .int (GM.scl sc tl v), .int (GM.tlp tl v)]))
theorem ok_Form_parts (B : Bl mg) (L : LL K mg C CD za zl t73 t74 t75 tg_NEAR tg_CUT tg_UP tg_DOWN w dO esO nO) : FnOk P w K mg base CX0 2 (za 70) (zl 70) ["self", "word"] (spParts C) := by
  have G_Form_top : FnOk P w K mg base CX0 1 (za 69) (zl 69) ["self"] (spTop C) := (ok_Form_top B L).mono (by decide)
  refine L.F_Form_parts.ok sc_Form_parts (fun vs H Q E h => ?_) (fun cdv A outer s H vs Q E hr h => ?_)
  · obtain ⟨x, sc, tl, v, rfl, _⟩ := h
    rfl
  obtain ⟨x, sc, tl, v, rfl, hF, q⟩ := h
  obtain ⟨dx, hx, h1, h2, h3, h4⟩ := id hF
  refine ⟨_, (pss_cons (ps_set (i := 2) sc_Form_parts.nd rfl (.inl rfl) (pe_op op_andM (pe_op op_shrN (pv 1) (pe_op op_add (pe_fld (pv 0) rfl) (pe_fld (pv 0) rfl))) pe_int))
    (pss_cons (ps_set (i := 3) sc_Form_parts.nd rfl (.inl rfl) (pe_op op_andM (pe_op op_shrN (pv 1) (pe_fld (pv 0) rfl)) (pe_meth0 (pv 0) L.T.cl L.M_Form_top G_Form_top hr L.b_Form_top .nil pass0)))
    (pss_cons (ps_set (i := 4) sc_Form_parts.nd rfl (.inl rfl) (pe_op op_andM (pv 1) (pe_op op_sub (pe_op op_oneShl pe_int (pe_fld (pv 0) rfl)) pe_int)))
    (pss_one (ps_ret (pe_tup (pa_cons (pv 2) (pa_cons (pv 3) (pa_cons (pv 4) pa_nil))))))))), ?_⟩
  refine ⟨_, rfl, _, rfl, x, C, dx, _, _, rfl, hx, L.T.cl, L.T.ns, fl_s _ _, _, rfl, x, C, dx, _, _, rfl, hx, L.T.cl, L.T.nt, fl_t _ _, _, _, rfl, rfl, _, sc + tl, rfl, rfl, _, 1, rfl, rfl, ?_⟩
  refine ⟨_, rfl, _, rfl, x, C, dx, _, _, rfl, hx, L.T.cl, L.T.nt, fl_t _ _, _, tl, rfl, rfl, _, rfl, x, dx, _, rfl, hx, rfl, x, sc, tl, rfl, hF, _, sc, rfl, rfl, ?_⟩
  refine ⟨_, rfl, _, rfl, x, C, dx, _, _, rfl, hx, L.T.cl, L.T.nt, fl_t _ _, tl, rfl, rfl, by omega, _, _, rfl, rfl, _, tl, rfl, rfl, ?_⟩
  refine ⟨_, rfl, _, rfl, _, rfl, (by show 3 ≤ sizeLine; decide), fun p np => ?_⟩
  exact q p np
def srt (m t : Nat) (s : Int) : Str := if GM.topS m t ≤ s then (if s = GM.topS m t then "endless" else "none") else if s = 0 then "nought" else if s / 2 ^ t = 0 then "small" else "plain"
theorem srt_none (m t : Nat) (s : Int) : srt m t s = "none" ↔ GM.topS m t < s := by
  unfold srt
  constructor
  · intro h
    by_cases c : GM.topS m t ≤ s
    · rw [if_pos c] at h
      by_cases e : s = GM.topS m t
      · rw [if_pos e] at h
        exact absurd h (by decide +kernel)
      · omega
    · rw [if_neg c] at h
      by_cases e : s = 0
      · rw [if_pos e] at h
        exact absurd h (by decide +kernel)
      · rw [if_neg e] at h
        by_cases e2 : s / 2 ^ t = 0
        · rw [if_pos e2] at h
          exact absurd h (by decide +kernel)
        · rw [if_neg e2] at h
          exact absurd h (by decide +kernel)
  · intro h
    rw [if_pos (by omega), if_neg (by omega)]
theorem srt_endless {m t : Nat} {s : Int} (h : ¬ GM.topS m t < s) : srt m t s = "endless" ↔ s = GM.topS m t := by
  unfold srt
  constructor
  · intro q
    by_cases c : GM.topS m t ≤ s
    · omega
    · rw [if_neg c] at q
      by_cases e : s = 0
      · rw [if_pos e] at q
        exact absurd q (by decide +kernel)
      · rw [if_neg e] at q
        by_cases e2 : s / 2 ^ t = 0
        · rw [if_pos e2] at q
          exact absurd q (by decide +kernel)
        · rw [if_neg e2] at q
          exact absurd q (by decide +kernel)
  · intro q
    rw [if_pos (by omega), if_pos q]
theorem srt_parts {m t : Nat} (hm : 1 ≤ m) {q r : Int} (q0 : 0 ≤ q) (q1 : q < 2 ^ m) (r0 : 0 ≤ r) (r1 : r < 2 ^ t) :
    srt m t (q * 2 ^ t + r) = if q = 0 then (if r = 0 then ("nought" : Str) else ("small" : Str)) else if q = 2 ^ m - 1 then (if r = 0 then ("endless" : Str) else ("none" : Str)) else ("plain" : Str) := by
  have hp := GM.pow_pos' t
  have hm2 : (2 : Int) ^ 1 ≤ 2 ^ m := GM.pow_le' hm
  have hd : (q * 2 ^ t + r) / 2 ^ t = q := by
    rw [Int.add_comm, Int.add_mul_ediv_right _ _ (by omega), Int.ediv_eq_zero_of_lt r0 r1, Int.zero_add]
  have hT : GM.topS m t = 2 ^ m * 2 ^ t - 2 ^ t := by
    unfold GM.topS
    rw [Int.sub_mul, Int.one_mul]
  have hqt : q = 2 ^ m - 1 ∨ (q + 1) * 2 ^ t ≤ (2 ^ m - 1) * 2 ^ t := by
    by_cases e : q = 2 ^ m - 1
    · exact .inl e
    · exact .inr (Int.mul_le_mul_of_nonneg_right (by omega) (by omega))
  unfold srt
  rw [hd]
  by_cases e : q = 2 ^ m - 1
  · have et : q * 2 ^ t = GM.topS m t := by rw [e]; rfl
    rw [if_pos (show GM.topS m t ≤ q * 2 ^ t + r by omega), if_neg (show ¬ q = 0 by omega), if_pos e]
    by_cases z : r = 0
    · rw [if_pos z, if_pos (by omega)]
    · rw [if_neg z, if_neg (by omega)]
  · have hlt : (q + 1) * 2 ^ t ≤ GM.topS m t := by
      rcases hqt with z | z
      · exact absurd z e
      · exact z
    rw [Int.add_mul, Int.one_mul] at hlt
    rw [if_neg (show ¬ GM.topS m t ≤ q * 2 ^ t + r by omega)]
    by_cases z : q = 0
    · rw [if_pos z, if_pos z]
      subst z
      rw [Int.zero_mul, Int.zero_add]
    · have : 1 * 2 ^ t ≤ q * 2 ^ t := Int.mul_le_mul_of_nonneg_right (by omega) (by omega)
      rw [if_neg (show ¬ q * 2 ^ t + r = 0 by omega), if_neg z, if_neg z, if_neg e]
def sz (m t : Nat) (v : Int) : Int := v % 2 ^ (m + t)
def spSort (C : Addr) : Sp := fun vs H Q _ => ∃ (x : Addr) (sc tl : Nat) (v : Int), vs = [.ref x, .int v] ∧ FAt C H x sc tl ∧ ∀ H', Same H H' → Q (.str (srt sc tl (sz sc tl v))) H'
theorem ok_Form_sort_of (B : Bl mg) (L : LL K mg C CD za zl t73 t74 t75 tg_NEAR tg_CUT tg_UP tg_DOWN w dO esO nO) : FnOk P w K mg base CX0 3 (za 72) (zl 72) ["self", "word"] (spSort C) := by
  have G_Form_parts : FnOk P w K mg base CX0 2 (za 70) (zl 70) ["self", "word"] (spParts C) := (ok_Form_parts B L).mono (by decide)
  have G_Form_top : FnOk P w K mg base CX0 2 (za 69) (zl 69) ["self"] (spTop C) := (ok_Form_top B L).mono (by decide)
  refine L.F_Form_sort_of.ok sc_Form_sort_of (fun vs H Q E h => ?_) (fun cdv A outer s H vs Q E hr h => ?_)
  · obtain ⟨x, sc, tl, v, rfl, _⟩ := h
    rfl
  obtain ⟨x, sc, tl, v, rfl, hF, q⟩ := h
  obtain ⟨dx, hx, h1, h2, h3, h4⟩ := id hF
  refine ⟨_, (pss_cons (ps_asg (pe_meth (pv 0) L.T.cl L.M_Form_parts G_Form_parts hr L.b_Form_parts .nil pass0 (pa_cons (pv 1) pa_nil)) (pg_tup (by rfl) (pgs_cons (pg_name (i := 2) sc_Form_sort_of.nd rfl (.inl rfl)) (pgs_cons (pg_name (i := 3) sc_Form_sort_of.nd rfl (.inl rfl)) (pgs_cons (pg_name (i := 4) sc_Form_sort_of.nd rfl (.inl rfl)) pgs_nil)))))
    (pss_cons (ps_if (pt_cmpR op_eq (pv 3) pe_int (nomark _)) (pss_one (ps_ret (pe_ifExp (pt_cmpR op_eq (pv 4) pe_int (nomark _)) pe_str pe_str))) pss_nil)
    (pss_cons (ps_if (pt_cmpR op_eq (pv 3) (pe_meth0 (pv 0) L.T.cl L.M_Form_top G_Form_top hr L.b_Form_top .nil pass0) (nomark _)) (pss_one (ps_ret (pe_ifExp (pt_cmpR op_eq (pv 4) pe_int (nomark _)) pe_str pe_str))) pss_nil)
    (pss_one (ps_ret pe_str))))), ?_⟩
  refine ⟨_, rfl, x, dx, _, rfl, hx, rfl, _, rfl, x, sc, tl, v, rfl, hF, fun p np => ?_⟩
  have sp := same_upd (o := .tup [.int (GM.sgn sc tl v), .int (GM.scl sc tl v), .int (GM.tlp tl v)]) np
  refine ⟨p, _, rfl, .inl (.inl upd_same), rfl, _, _, rfl, _, _, rfl, _, _, rfl, rfl, ?_⟩
  have hs := GM.scl_nn sc tl v
  have ht := GM.tlp_nn tl v
  have q' := q _ sp
  rw [show sz sc tl v = GM.scl sc tl v * 2 ^ tl + GM.tlp tl v from (GM.scl_tlp sc tl v).symm, srt_parts (by omega) hs.1 hs.2 ht.1 ht.2] at q'
  refine ⟨_, rfl, rfl, _, rfl, ite2 (fun c => ?_) (fun c => ?_)⟩
  · have c1 : GM.scl sc tl v = 0 := V.int.inj (of_decide_eq_true c)
    rw [if_pos c1] at q'
    refine ⟨_, rfl, rfl, _, rfl, ite2 (fun d => ?_) (fun d => ?_)⟩
    · have d1 : GM.tlp tl v = 0 := V.int.inj (of_decide_eq_true d)
      rw [if_pos d1] at q'
      exact q'
    · have d1 : ¬ GM.tlp tl v = 0 := fun z => d (decide_eq_true (by rw [z]))
      rw [if_neg d1] at q'
      exact q'
  have c1 : ¬ GM.scl sc tl v = 0 := fun z => c (decide_eq_true (by rw [z]))
  rw [if_neg c1] at q'
  refine ⟨_, rfl, _, rfl, x, dx, _, rfl, sp _ _ hx, rfl, x, sc, tl, rfl, hF.same sp, rfl, _, rfl, ite2 (fun c2 => ?_) (fun c2 => ?_)⟩
  · have c3 : GM.scl sc tl v = 2 ^ sc - 1 := V.int.inj (of_decide_eq_true c2)
    rw [if_pos c3] at q'
    refine ⟨_, rfl, rfl, _, rfl, ite2 (fun d => ?_) (fun d => ?_)⟩
    · have d1 : GM.tlp tl v = 0 := V.int.inj (of_decide_eq_true d)
      rw [if_pos d1] at q'
      exact q'
    · have d1 : ¬ GM.tlp tl v = 0 := fun z => d (decide_eq_true (by rw [z]))
      rw [if_neg d1] at q'
      exact q'
  · have c3 : ¬ GM.scl sc tl v = 2 ^ sc - 1 := fun z => c2 (decide_eq_true (by rw [z]))
    rw [if_neg c3] at q'
    exact q'
theorem in_two (x a b : Str) : inV (.str x) [.str a, .str b] = decide (a = x ∨ b = x) := by
  show ((a == x) || ((b == x) || false)) = _
  rw [Bool.or_false, Bool.eq_iff_iff, Bool.or_eq_true, beq_iff_eq, beq_iff_eq, decide_eq_true_iff]
theorem sz_div (m t : Nat) (v : Int) : sz m t v / 2 ^ t = GM.scl m t v := by
  have ht := GM.tlp_nn t v
  have hp := GM.pow_pos' t
  unfold sz
  rw [← GM.scl_tlp, Int.add_comm, Int.add_mul_ediv_right _ _ (by omega), Int.ediv_eq_zero_of_lt ht.1 ht.2, Int.zero_add]
theorem sz_mod (m t : Nat) (v : Int) : sz m t v % 2 ^ t = GM.tlp t v := by
  have ht := GM.tlp_nn t v
  unfold sz
  rw [← GM.scl_tlp, Int.add_comm, Int.add_mul_emod_self_right, Int.emod_eq_of_lt ht.1 ht.2]
theorem top_iff (m t : Nat) (v : Int) : GM.topS m t ≤ sz m t v ↔ GM.scl m t v = 2 ^ m - 1 := by
  have hs := GM.scl_nn m t v
  have ht := GM.tlp_nn t v
  have hp := GM.pow_pos' t
  have e : sz m t v = GM.scl m t v * 2 ^ t + GM.tlp t v := (GM.scl_tlp m t v).symm
  rw [e]
  unfold GM.topS
  constructor
  · intro h
    by_cases c : GM.scl m t v = 2 ^ m - 1
    · exact c
    · have : (GM.scl m t v + 1) * 2 ^ t ≤ (2 ^ m - 1) * 2 ^ t := Int.mul_le_mul_of_nonneg_right (by omega) (by omega)
      rw [Int.add_mul, Int.one_mul] at this
      omega
  · intro h
    rw [h]
    omega
theorem srt_top (m t : Nat) (s : Int) : (srt m t s = "endless" ∨ srt m t s = "none") ↔ GM.topS m t ≤ s := by
  constructor
  · intro h
    by_cases c : GM.topS m t < s
    · omega
    · rcases h with h | h
      · have := (srt_endless c).mp h
        omega
      · have := (srt_none m t s).mp h
        omega
  · intro h
    by_cases c : GM.topS m t < s
    · exact .inr ((srt_none m t s).mpr c)
    · exact .inl ((srt_endless c).mpr (by omega))
def P0 (sc tl : Nat) : Int := 1 - (2 ^ (sc - 1) - 1) - tl
def wn (sc tl : Nat) (v : Int) : Int := if GM.sgn sc tl v = 1 then -(GM.num tl (sz sc tl v)) else GM.num tl (sz sc tl v)
def wp (sc tl : Nat) (v : Int) : Int := P0 sc tl + (GM.ex tl (sz sc tl v) : Nat)
def spNamed0 (C : Addr) : Sp := fun vs H Q _ => ∃ (x : Addr) (sc tl : Nat), vs = [.ref x] ∧ FAt C H x sc tl ∧ Q (.int (0 * 2 ^ (sc + tl) + ((2 ^ sc - 1) * 2 ^ tl + 2 ^ (tl - 1)))) H
theorem ok_Form_none_word (B : Bl mg) (L : LL K mg C CD za zl t73 t74 t75 tg_NEAR tg_CUT tg_UP tg_DOWN w dO esO nO) : FnOk P w K mg base CX0 2 (za 76) (zl 76) ["self"] (spNamed0 C) := by
  have G_Form_word_of : FnOk P w K mg base CX0 1 (za 71) (zl 71) ["self", "sign", "scale", "tail"] (spWordOf C) := (ok_Form_word_of B L).mono (by decide)
  have G_Form_top : FnOk P w K mg base CX0 1 (za 69) (zl 69) ["self"] (spTop C) := (ok_Form_top B L).mono (by decide)
  refine L.F_Form_none_word.ok sc_Form_none_word (fun vs H Q E h => ?_) (fun cdv A outer s H vs Q E hr h => ?_)
  · obtain ⟨x, sc, tl, rfl, _⟩ := h
    rfl
  obtain ⟨x, sc, tl, rfl, hF, q⟩ := h
  obtain ⟨dx, hx, h1, h2, h3, h4⟩ := id hF
  have pS := GM.pow_pos' sc
  have pT := GM.pow_pos' tl
  have pT1 := GM.pow_pos' (tl - 1)
  have pTT : (2 : Int) ^ tl = 2 ^ (tl - 1) * 2 := by rw [← GM.pow_s]; congr 1; omega
  refine ⟨_, (pss_one (ps_ret (pe_meth (pv 0) L.T.cl L.M_Form_word_of G_Form_word_of hr L.b_Form_word_of .nil pass0 (pa_cons pe_int (pa_cons (pe_meth0 (pv 0) L.T.cl L.M_Form_top G_Form_top hr L.b_Form_top .nil pass0) (pa_cons (pe_op op_oneShl pe_int (pe_op op_sub (pe_fld (pv 0) rfl) pe_int)) pa_nil)))))), ?_⟩
  exact ⟨_, rfl, x, dx, _, rfl, hx, rfl, _, rfl, x, dx, _, rfl, hx, rfl, x, sc, tl, rfl, hF, _, rfl, x, C, dx, _, _, rfl, hx, L.T.cl, L.T.nt, fl_t _ _, _, _, rfl, rfl, tl - 1, rfl, congrArg V.int (by omega), by omega, x, sc, tl, _, _, _, rfl, hF, .inl rfl, by omega, by omega, by omega, by omega, q⟩
def WorthQ (H : Hp) (Q : VK) (sc tl : Nat) (v : Int) : Prop := (∀ H', Same H H' → GM.topS sc tl ≤ sz sc tl v → Q .non H') ∧ ∀ H' p, Same H H' → ¬ GM.topS sc tl ≤ sz sc tl v → H' p = some (.tup [.int (wn sc tl v), .int (wp sc tl v)]) → Q (.ref p) H'
def spWorth (C : Addr) : Sp := fun vs H Q _ => ∃ (x : Addr) (sc tl : Nat) (v : Int), vs = [.ref x, .int v] ∧ FAt C H x sc tl ∧ WorthQ H Q sc tl v
theorem ok_Form_worth (B : Bl mg) (L : LL K mg C CD za zl t73 t74 t75 tg_NEAR tg_CUT tg_UP tg_DOWN w dO esO nO) : FnOk P w K mg base CX0 3 (za 78) (zl 78) ["self", "word"] (spWorth C) := by
  have G_Form_parts : FnOk P w K mg base CX0 2 (za 70) (zl 70) ["self", "word"] (spParts C) := (ok_Form_parts B L).mono (by decide)
  have G_Form_top : FnOk P w K mg base CX0 2 (za 69) (zl 69) ["self"] (spTop C) := (ok_Form_top B L).mono (by decide)
  have G_Form_bias : FnOk P w K mg base CX0 2 (za 68) (zl 68) ["self"] (spBias C) := (ok_Form_bias B L).mono (by decide)
  refine L.F_Form_worth.ok sc_Form_worth (fun vs H Q E h => ?_) (fun cdv A outer s H vs Q E hr h => ?_)
  · obtain ⟨x, sc, tl, v, rfl, _⟩ := h
    rfl
  obtain ⟨x, sc, tl, v, rfl, hF, qn, qt⟩ := h
  obtain ⟨dx, hx, h1, h2, h3, h4⟩ := id hF
  refine ⟨_, (pss_cons (ps_asg (pe_meth (pv 0) L.T.cl L.M_Form_parts G_Form_parts hr L.b_Form_parts .nil pass0 (pa_cons (pv 1) pa_nil)) (pg_tup (by rfl) (pgs_cons (pg_name (i := 2) sc_Form_worth.nd rfl (.inl rfl)) (pgs_cons (pg_name (i := 3) sc_Form_worth.nd rfl (.inl rfl)) (pgs_cons (pg_name (i := 4) sc_Form_worth.nd rfl (.inl rfl)) pgs_nil)))))
    (pss_cons (ps_if (pt_cmpR op_eq (pv 3) (pe_meth0 (pv 0) L.T.cl L.M_Form_top G_Form_top hr L.b_Form_top .nil pass0) (nomark _)) (pss_one (ps_ret pe_non)) pss_nil)
    (pss_cons (ps_set (i := 5) sc_Form_worth.nd rfl (.inl rfl) (pe_ifExp (pt_cmpR op_eq (pv 3) pe_int (nomark _)) (pv 4) (pe_op op_add (pe_op op_oneShl pe_int (pe_fld (pv 0) rfl)) (pv 4))))
    (pss_cons (ps_set (i := 6) sc_Form_worth.nd rfl (.inl rfl) (pe_op op_sub (pe_op op_sub (pe_callB (call_max2 rfl) (by rfl) B.max boot_max (pa_cons (pv 3) (pa_cons pe_int pa_nil))) (pe_meth0 (pv 0) L.T.cl L.M_Form_bias G_Form_bias hr L.b_Form_bias .nil pass0)) (pe_fld (pv 0) rfl)))
    (pss_one (ps_ret (pe_tup (pa_cons (pe_ifExp (pt_cmpR op_eq (pv 2) pe_int (nomark _)) (pe_un un_neg (pv 5)) (pv 5)) (pa_cons (pv 6) pa_nil))))))))), ?_⟩
  refine ⟨_, rfl, x, dx, _, rfl, hx, rfl, _, rfl, x, sc, tl, v, rfl, hF, fun p np => ?_⟩
  have sp := same_upd (o := .tup [.int (GM.sgn sc tl v), .int (GM.scl sc tl v), .int (GM.tlp tl v)]) np
  refine ⟨p, _, rfl, .inl (.inl upd_same), rfl, _, _, rfl, _, _, rfl, _, _, rfl, rfl, ?_⟩
  have hs := GM.scl_nn sc tl v
  refine ⟨_, rfl, _, rfl, x, dx, _, rfl, sp _ _ hx, rfl, x, sc, tl, rfl, hF.same sp, rfl, _, rfl, ite2 (fun c => ?_) (fun c => ?_)⟩
  · have c1 : GM.scl sc tl v = 2 ^ sc - 1 := V.int.inj (of_decide_eq_true c)
    exact qn _ sp ((top_iff sc tl v).mpr c1)
  have c1 : ¬ GM.scl sc tl v = 2 ^ sc - 1 := fun z => c (decide_eq_true (by rw [z]))
  have c2 : ¬ GM.topS sc tl ≤ sz sc tl v := fun z => c1 ((top_iff sc tl v).mp z)
  try dsimp only [tNext, tSeq, tAsg]
  refine if_ev (fun z H' => z = .int (GM.num tl (sz sc tl v)) ∧ H' = upd H p (.tup [.int (GM.sgn sc tl v), .int (GM.scl sc tl v), .int (GM.tlp tl v)])) (fun Q' q' => ?_) ?_
  · refine ⟨_, rfl, rfl, _, rfl, ite2 (fun d => ?_) (fun d => ?_)⟩
    · have d1 : GM.scl sc tl v = 0 := V.int.inj (of_decide_eq_true d)
      refine ⟨_, rfl, q' _ _ ⟨congrArg V.int ?_, rfl⟩⟩
      unfold GM.num
      rw [sz_div, sz_mod, if_pos d1]
    · have d1 : ¬ GM.scl sc tl v = 0 := fun z => d (decide_eq_true (by rw [z]))
      refine ⟨_, rfl, x, C, dx, _, _, rfl, sp _ _ hx, L.T.cl, L.T.nt, fl_t _ _, tl, rfl, rfl, by omega, _, rfl, _, _, rfl, rfl, q' _ _ ⟨congrArg V.int ?_, rfl⟩⟩
      unfold GM.num
      rw [sz_div, sz_mod, if_neg d1]
  rintro z H' ⟨rfl, rfl⟩
  refine ⟨_, rfl, _, _, rfl, _, rfl, x, dx, _, rfl, sp _ _ hx, rfl, x, sc, tl, rfl, hF.same sp, _, _, rfl, rfl, _, rfl, x, C, dx, _, _, rfl, sp _ _ hx, L.T.cl, L.T.nt, fl_t _ _, _, _, rfl, rfl, ?_⟩
  have ep : (if (1 : Int) > GM.scl sc tl v then 1 else GM.scl sc tl v) - (2 ^ (sc - 1) - 1) - (tl : Int) = wp sc tl v := by
    unfold wp P0 GM.ex
    rw [sz_div]
    split <;> omega
  dsimp only
  rw [ep]
  try dsimp only [gName, tRet, tTup, tCons]
  refine if_ev (fun z H' => z = .int (wn sc tl v) ∧ H' = upd H p (.tup [.int (GM.sgn sc tl v), .int (GM.scl sc tl v), .int (GM.tlp tl v)])) (fun Q' q' => ?_) ?_
  · refine ⟨_, rfl, rfl, _, rfl, ite2 (fun d => ?_) (fun d => ?_)⟩
    · have d1 : GM.sgn sc tl v = 1 := V.int.inj (of_decide_eq_true d)
      refine ⟨_, rfl, _, rfl, q' _ _ ⟨congrArg V.int ?_, rfl⟩⟩
      unfold wn
      rw [if_pos d1]
    · have d1 : ¬ GM.sgn sc tl v = 1 := fun z => d (decide_eq_true (by rw [z]))
      refine ⟨_, rfl, q' _ _ ⟨congrArg V.int ?_, rfl⟩⟩
      unfold wn
      rw [if_neg d1]
  rintro z H' ⟨rfl, rfl⟩
  refine ⟨_, rfl, (by show 2 ≤ sizeLine; decide), fun t nt => ?_⟩
  exact qt _ t (sp.trans (same_upd nt)) c2 upd_same
end
section
variable {P : Program} {w : World} {K : PySem.W.Frag} {mg : Str → Option Value} {base : Heap}
variable {C : Addr} {CD : Addr} {za : Nat → Addr} {zl : Nat → FuncData} {t73 t74 t75 tg_NEAR tg_CUT tg_UP tg_DOWN : Tok} {dO : Addr} {esO : Array DictEntry} {nO : Nat}
def sx (sc tl : Nat) (a b : Int) : Int := if GM.sgn sc tl a = GM.sgn sc tl b then 0 else 1
def spSgn (C : Addr) : Sp := fun vs H Q _ => ∃ (x : Addr) (sc tl : Nat) (v : Int), vs = [.ref x, .int v] ∧ FAt C H x sc tl ∧ ∀ H', Same H H' → Q (.int (GM.sgn sc tl v)) H'
theorem ok_sign_of (B : Bl mg) (L : LL K mg C CD za zl t73 t74 t75 tg_NEAR tg_CUT tg_UP tg_DOWN w dO esO nO) : FnOk P w K mg base CX0 3 (za 18) (zl 18) ["form", "word"] (spSgn C) := by
  have G_Form_parts : FnOk P w K mg base CX0 2 (za 70) (zl 70) ["self", "word"] (spParts C) := (ok_Form_parts B L).mono (by decide)
  refine L.F_sign_of.ok sc_sign_of (fun vs H Q E h => ?_) (fun cdv A outer s H vs Q E hr h => ?_)
  · obtain ⟨x, sc, tl, v, rfl, _⟩ := h
    rfl
  obtain ⟨x, sc, tl, v, rfl, hF, q⟩ := h
  obtain ⟨dx, hx, h1, h2, h3, h4⟩ := id hF
  refine ⟨_, (pss_one (ps_ret (pe_ix ix_tup (pe_meth (pv 0) L.T.cl L.M_Form_parts G_Form_parts hr L.b_Form_parts .nil pass0 (pa_cons (pv 1) pa_nil)) pe_int (fun _ _ => rfl)))), ?_⟩
  refine ⟨_, rfl, x, dx, _, rfl, hx, rfl, _, rfl, x, sc, tl, v, rfl, hF, fun p np => ?_⟩
  refine ⟨p, _, _, _, rfl, rfl, .inl (.inl upd_same), rfl, ?_⟩
  exact q _ (same_upd np)
def spUnl (C : Addr) : Sp := fun vs H Q _ => ∃ (x : Addr) (sc tl : Nat) (a b : Int), vs = [.ref x, .int a, .int b] ∧ FAt C H x sc tl ∧ ∀ H', Same H H' → Q (.int (sx sc tl a b)) H'
theorem sx_xor (sc tl : Nat) (a b : Int) : Builtin.bitXor (GM.sgn sc tl a) (GM.sgn sc tl b) = sx sc tl a b := by
  have ha := GM.sgn_01 (m := sc) (t := tl) (w := a)
  have hb := GM.sgn_01 (m := sc) (t := tl) (w := b)
  unfold sx
  rcases ha with ha | ha <;> rcases hb with hb | hb <;> rw [ha, hb] <;> decide
theorem ok_unlike_sign (B : Bl mg) (L : LL K mg C CD za zl t73 t74 t75 tg_NEAR tg_CUT tg_UP tg_DOWN w dO esO nO) : FnOk P w K mg base CX0 4 (za 19) (zl 19) ["form", "a", "b"] (spUnl C) := by
  have G_sign_of : FnOk P w K mg base CX0 3 (za 18) (zl 18) ["form", "word"] (spSgn C) := (ok_sign_of B L).mono (by decide)
  refine L.F_unlike_sign.ok sc_unlike_sign (fun vs H Q E h => ?_) (fun cdv A outer s H vs Q E hr h => ?_)
  · obtain ⟨x, sc, tl, a, b, rfl, _⟩ := h
    rfl
  obtain ⟨x, sc, tl, a, b, rfl, hF, q⟩ := h
  refine ⟨_, (pss_one (ps_ret (pe_op op_xor (pe_call G_sign_of hr (by rfl) L.m_sign_of L.F_sign_of.kp L.b_sign_of .nil pass0 (pa_cons (pv 0) (pa_cons (pv 1) pa_nil))) (pe_call G_sign_of hr (by rfl) L.m_sign_of L.F_sign_of.kp L.b_sign_of .nil pass0 (pa_cons (pv 0) (pa_cons (pv 2) pa_nil)))))), ?_⟩
  refine ⟨_, rfl, _, rfl, x, sc, tl, a, rfl, hF, fun H1 s1 => ?_⟩
  refine ⟨_, rfl, _, rfl, x, sc, tl, b, rfl, hF.same s1, fun H2 s2 => ?_⟩
  have q' := q _ (s1.trans s2)
  rw [← sx_xor] at q'
  exact ⟨_, _, rfl, rfl, q'⟩
def noneW (sc tl : Nat) : Int := (2 ^ sc - 1) * 2 ^ tl + 2 ^ (tl - 1)
def spBad (C : Addr) : Sp := fun vs H Q _ => ∃ (x : Addr) (sc tl : Nat), vs = [.ref x] ∧ FAt C H x sc tl ∧ ∀ t H', H t = none → Same H H' → PairAt H' t (noneW sc tl, ["bad"]) → Q (.ref t) H'
theorem ok_bad (B : Bl mg) (L : LL K mg C CD za zl t73 t74 t75 tg_NEAR tg_CUT tg_UP tg_DOWN w dO esO nO) : FnOk P w K mg base CX0 3 (za 16) (zl 16) ["form"] (spBad C) := by
  have G_Form_none_word : FnOk P w K mg base CX0 2 (za 76) (zl 76) ["self"] (spNamed0 C) := (ok_Form_none_word B L).mono (by decide)
  refine L.F_bad.ok sc_bad (fun vs H Q E h => ?_) (fun cdv A outer s H vs Q E hr h => ?_)
  · obtain ⟨x, sc, tl, rfl, _⟩ := h
    rfl
  obtain ⟨x, sc, tl, rfl, hF, q⟩ := h
  obtain ⟨dx, hx, h1, h2, h3, h4⟩ := id hF
  refine ⟨_, (pss_one (ps_ret (pe_tup (pa_cons (pe_meth0 (pv 0) L.T.cl L.M_Form_none_word G_Form_none_word hr L.b_Form_none_word .nil pass0) (pa_cons (pe_tup (pa_cons pe_str pa_nil)) pa_nil))))), ?_⟩
  refine ⟨_, rfl, x, dx, _, rfl, hx, rfl, x, sc, tl, rfl, hF, ?_⟩
  refine ⟨(by show 1 ≤ sizeLine; decide), fun e ne => ⟨(by show 2 ≤ sizeLine; decide), fun t nt => ?_⟩⟩
  have se := same_upd (o := .tup [.str "bad"]) ne
  rw [show (0 * 2 ^ (sc + tl) + ((2 ^ sc - 1) * 2 ^ tl + 2 ^ (tl - 1)) : Int) = noneW sc tl by unfold noneW; omega]
  exact q t _ (se.free nt) (se.trans (same_upd nt)) ⟨e, upd_same, same_upd nt _ _ upd_same⟩
def spEBN (C : Addr) : Sp := fun vs H Q _ => ∃ (x : Addr) (sc tl : Nat) (a b : Int), vs = [.ref x, .int a, .int b] ∧ FAt C H x sc tl ∧ ∀ (r : Bool) H', Same H H' → (r = true ↔ (srt sc tl (sz sc tl a) = "endless" ∨ srt sc tl (sz sc tl b) = "endless") ∧ (srt sc tl (sz sc tl a) = "nought" ∨ srt sc tl (sz sc tl b) = "nought")) → Q (.bl r) H'
theorem ok_is_endless_by_nought (B : Bl mg) (L : LL K mg C CD za zl t73 t74 t75 tg_NEAR tg_CUT tg_UP tg_DOWN w dO esO nO) : FnOk P w K mg base CX0 4 (za 17) (zl 17) ["form", "a", "b"] (spEBN C) := by
  have G_Form_sort_of : FnOk P w K mg base CX0 3 (za 72) (zl 72) ["self", "word"] (spSort C) := (ok_Form_sort_of B L).mono (by decide)
  refine L.F_is_endless_by_nought.ok sc_is_endless_by_nought (fun vs H Q E h => ?_) (fun cdv A outer s H vs Q E hr h => ?_)
  · obtain ⟨x, sc, tl, a, b, rfl, _⟩ := h
    rfl
  obtain ⟨x, sc, tl, a, b, rfl, hF, q⟩ := h
  obtain ⟨dx, hx, h1, h2, h3, h4⟩ := id hF
  refine ⟨_, (pss_cons (ps_set (i := 3) sc_is_endless_by_nought.nd rfl (.inl rfl) (pe_tup (pa_cons (pe_meth (pv 0) L.T.cl L.M_Form_sort_of G_Form_sort_of hr L.b_Form_sort_of .nil pass0 (pa_cons (pv 1) pa_nil)) (pa_cons (pe_meth (pv 0) L.T.cl L.M_Form_sort_of G_Form_sort_of hr L.b_Form_sort_of .nil pass0 (pa_cons (pv 2) pa_nil)) pa_nil))))
    (pss_one (ps_ret (pe_and (pe_cmpR op_in_seq pe_str (pv 3) (by rfl)) (pe_one (pe_cmpR op_in_seq pe_str (pv 3) (by rfl))))))), ?_⟩
  refine ⟨_, rfl, x, dx, _, rfl, hx, rfl, _, rfl, x, sc, tl, a, rfl, hF, fun H1 s1 => ?_⟩
  refine ⟨_, rfl, x, dx, _, rfl, s1 _ _ hx, rfl, _, rfl, x, sc, tl, b, rfl, hF.same s1, fun H2 s2 => ?_⟩
  refine ⟨(by show 2 ≤ sizeLine; decide), fun t nt => ?_⟩
  have ss := (s1.trans s2).trans (same_upd (o := .tup [.str (srt sc tl (sz sc tl a)), .str (srt sc tl (sz sc tl b))]) nt)
  refine ⟨_, rfl, t, _, rfl, .inr (.inl (.inl upd_same)), rfl, rfl, _, rfl, ite2 (fun c => ?_) (fun c => ?_)⟩
  · have c1 := of_decide_eq_true ((in_two _ _ _).symm.trans c)
    refine ⟨_, rfl, t, _, rfl, .inr (.inl (.inl upd_same)), rfl, rfl, ?_⟩
    refine q _ _ ss ?_
    show inV (.str "nought") [.str (srt sc tl (sz sc tl a)), .str (srt sc tl (sz sc tl b))] = true ↔ _
    rw [in_two, decide_eq_true_iff]
    exact ⟨fun z => ⟨c1, z⟩, fun z => z.2⟩
  · refine q _ _ ss ⟨fun z => Bool.noConfusion z, fun z => absurd (show inV (.str "endless") [.str (srt sc tl (sz sc tl a)), .str (srt sc tl (sz sc tl b))] = true by rw [in_two]; exact decide_eq_true z.1) c⟩
theorem wn_25 (sc : Nat) {tl : Nat} (v : Int) (h : tl ≤ 24) : -(2 ^ 25) < wn sc tl v ∧ wn sc tl v < 2 ^ 25 := by
  have hp := GM.pow_pos' tl
  have h24 : (2 : Int) ^ tl ≤ 2 ^ 24 := GM.pow_le' h
  have l := Int.emod_lt_of_pos (sz sc tl v) hp
  have n := Int.emod_nonneg (sz sc tl v) (show (2 : Int) ^ tl ≠ 0 by omega)
  unfold wn GM.num
  constructor <;> split <;> split <;> omega
theorem wn_64 (sc : Nat) {tl : Nat} (v : Int) (h : tl ≤ 24) : -(2 ^ 64) < wn sc tl v ∧ wn sc tl v < 2 ^ 64 := by
  have := wn_25 sc v h
  omega
def spProd (C : Addr) : Sp := fun vs H Q _ => ∃ (x : Addr) (sc tl : Nat) (a b : Int), vs = [.ref x, .int a, .int b] ∧ FAt C H x sc tl ∧
  ((GM.topS sc tl ≤ sz sc tl a ∨ GM.topS sc tl ≤ sz sc tl b) → ∀ H' t, Same H H' → H' t = some (.tup [.int (sx sc tl a b), .non]) → Q (.ref t) H') ∧
  (¬ GM.topS sc tl ≤ sz sc tl a → ¬ GM.topS sc tl ≤ sz sc tl b → ∀ H' t u, Same H H' → H' t = some (.tup [.int (sx sc tl a b), .ref u]) → H' u = some (.tup [.int (wn sc tl a * wn sc tl b), .int (wp sc tl a + wp sc tl b)]) → Q (.ref t) H')
theorem ok_product_of (B : Bl mg) (L : LL K mg C CD za zl t73 t74 t75 tg_NEAR tg_CUT tg_UP tg_DOWN w dO esO nO) : FnOk P w K mg base CX0 5 (za 21) (zl 21) ["form", "a", "b"] (spProd C) := by
  have G_unlike_sign : FnOk P w K mg base CX0 4 (za 19) (zl 19) ["form", "a", "b"] (spUnl C) := (ok_unlike_sign B L).mono (by decide)
  have G_Form_worth : FnOk P w K mg base CX0 4 (za 78) (zl 78) ["self", "word"] (spWorth C) := (ok_Form_worth B L).mono (by decide)
  refine L.F_product_of.ok sc_product_of (fun vs H Q E h => ?_) (fun cdv A outer s H vs Q E hr h => ?_)
  · obtain ⟨x, sc, tl, a, b, rfl, _⟩ := h
    rfl
  obtain ⟨x, sc, tl, a, b, rfl, hF, qn, qt⟩ := h
  refine ⟨_, (pss_cons (ps_set (i := 3) sc_product_of.nd rfl (.inl rfl) (pe_call G_unlike_sign hr (by rfl) L.m_unlike_sign L.F_unlike_sign.kp L.b_unlike_sign .nil pass0 (pa_cons (pv 0) (pa_cons (pv 1) (pa_cons (pv 2) pa_nil)))))
    (pss_cons (ps_set (i := 4) sc_product_of.nd rfl (.inl rfl) (pe_meth (pv 0) L.T.cl L.M_Form_worth G_Form_worth hr L.b_Form_worth .nil pass0 (pa_cons (pv 1) pa_nil)))
    (pss_cons (ps_set (i := 5) sc_product_of.nd rfl (.inl rfl) (pe_meth (pv 0) L.T.cl L.M_Form_worth G_Form_worth hr L.b_Form_worth .nil pass0 (pa_cons (pv 2) pa_nil)))
    (pss_cons (ps_if (PW.pt (pw_or (pt_cmpR op_isN (pv 4) pe_non (nomark _)) (pw_or1 (pt_cmpR op_isN (pv 5) pe_non (nomark _))))) (pss_one (ps_ret (pe_tup (pa_cons (pv 3) (pa_cons pe_non pa_nil))))) pss_nil)
    (pss_one (ps_ret (pe_tup (pa_cons (pv 3) (pa_cons (pe_tup (pa_cons (pe_op op_mul (pe_ix ix_tup (pv 4) pe_int (fun _ _ => rfl)) (pe_ix ix_tup (pv 5) pe_int (fun _ _ => rfl))) (pa_cons (pe_op op_add (pe_ix ix_tup (pv 4) pe_int (fun _ _ => rfl)) (pe_ix ix_tup (pv 5) pe_int (fun _ _ => rfl))) pa_nil))) pa_nil))))))))), ?_⟩
  refine ⟨_, rfl, _, rfl, _, rfl, x, sc, tl, a, b, rfl, hF, fun H1 s1 => ?_⟩
  obtain ⟨dx, hx, h1, h2, h3, h4⟩ := id (hF.same s1)
  refine ⟨_, rfl, x, dx, _, rfl, hx, rfl, _, rfl, x, sc, tl, a, rfl, hF.same s1, fun H2 s2 ca => ?_, fun H2 p s2 ca ep => ?_⟩
  · refine ⟨_, rfl, x, dx, _, rfl, s2 _ _ hx, rfl, _, rfl, x, sc, tl, b, rfl, (hF.same s1).same s2, fun H3 s3 cb => ?_, fun H3 p3 s3 cb ep3 => ?_⟩
    · refine ⟨_, rfl, rfl, _, rfl, iteT ?_⟩
      refine ⟨_, rfl, (by show 2 ≤ sizeLine; decide), fun t nt => ?_⟩
      exact qn (.inl ca) _ t (((s1.trans s2).trans s3).trans (same_upd nt)) upd_same
    · refine ⟨_, rfl, rfl, _, rfl, iteT ?_⟩
      refine ⟨_, rfl, (by show 2 ≤ sizeLine; decide), fun t nt => ?_⟩
      exact qn (.inl ca) _ t (((s1.trans s2).trans s3).trans (same_upd nt)) upd_same
  · refine ⟨_, rfl, x, dx, _, rfl, s2 _ _ hx, rfl, _, rfl, x, sc, tl, b, rfl, (hF.same s1).same s2, fun H3 s3 cb => ?_, fun H3 p3 s3 cb ep3 => ?_⟩
    · refine ⟨_, rfl, rfl, _, rfl, iteF ?_⟩
      refine ⟨_, rfl, rfl, _, rfl, iteT ?_⟩
      refine ⟨_, rfl, (by show 2 ≤ sizeLine; decide), fun t nt => ?_⟩
      exact qn (.inr cb) _ t (((s1.trans s2).trans s3).trans (same_upd nt)) upd_same
    · refine ⟨_, rfl, rfl, _, rfl, iteF ?_⟩
      refine ⟨_, rfl, rfl, _, rfl, iteF ?_⟩
      refine ⟨_, rfl, _, rfl, p, _, _, _, rfl, rfl, .inl (.inl (s3 _ _ ep)), rfl, _, rfl, p3, _, _, _, rfl, rfl, .inl (.inl ep3), rfl, _, _, rfl, rfl, .inl (wn_64 sc a h4), ?_⟩
      refine ⟨_, rfl, p, _, _, _, rfl, rfl, .inl (.inl (s3 _ _ ep)), rfl, _, rfl, p3, _, _, _, rfl, rfl, .inl (.inl ep3), rfl, _, _, rfl, rfl, ?_⟩
      refine ⟨(by show 2 ≤ sizeLine; decide), fun u nu => ⟨(by show 2 ≤ sizeLine; decide), fun t nt => ?_⟩⟩
      exact qt ca cb _ t u ((((s1.trans s2).trans s3).trans (same_upd nu)).trans (same_upd nt)) upd_same (same_upd nt _ _ upd_same)
def trn (sc tl : Nat) (v : Int) : Int := (1 - GM.sgn sc tl v) * 2 ^ (sc + tl) + sz sc tl v
def spTurned (C : Addr) : Sp := fun vs H Q _ => ∃ (x : Addr) (sc tl : Nat) (v : Int), vs = [.ref x, .int v] ∧ FAt C H x sc tl ∧ ∀ H', Same H H' → Q (.int (trn sc tl v)) H'
theorem ok_Form_turned (B : Bl mg) (L : LL K mg C CD za zl t73 t74 t75 tg_NEAR tg_CUT tg_UP tg_DOWN w dO esO nO) : FnOk P w K mg base CX0 3 (za 77) (zl 77) ["self", "word"] (spTurned C) := by
  have G_Form_parts : FnOk P w K mg base CX0 2 (za 70) (zl 70) ["self", "word"] (spParts C) := (ok_Form_parts B L).mono (by decide)
  have G_Form_word_of : FnOk P w K mg base CX0 2 (za 71) (zl 71) ["self", "sign", "scale", "tail"] (spWordOf C) := (ok_Form_word_of B L).mono (by decide)
  refine L.F_Form_turned.ok sc_Form_turned (fun vs H Q E h => ?_) (fun cdv A outer s H vs Q E hr h => ?_)
  · obtain ⟨x, sc, tl, v, rfl, _⟩ := h
    rfl
  obtain ⟨x, sc, tl, v, rfl, hF, q⟩ := h
  obtain ⟨dx, hx, h1, h2, h3, h4⟩ := id hF
  refine ⟨_, (pss_cons (ps_asg (pe_meth (pv 0) L.T.cl L.M_Form_parts G_Form_parts hr L.b_Form_parts .nil pass0 (pa_cons (pv 1) pa_nil)) (pg_tup (by rfl) (pgs_cons (pg_name (i := 2) sc_Form_turned.nd rfl (.inl rfl)) (pgs_cons (pg_name (i := 3) sc_Form_turned.nd rfl (.inl rfl)) (pgs_cons (pg_name (i := 4) sc_Form_turned.nd rfl (.inl rfl)) pgs_nil)))))
    (pss_one (ps_ret (pe_meth (pv 0) L.T.cl L.M_Form_word_of G_Form_word_of hr L.b_Form_word_of .nil pass0 (pa_cons (pe_op op_sub pe_int (pv 2)) (pa_cons (pv 3) (pa_cons (pv 4) pa_nil))))))), ?_⟩
  refine ⟨_, rfl, x, dx, _, rfl, hx, rfl, _, rfl, x, sc, tl, v, rfl, hF, fun p np => ?_⟩
  have sp := same_upd (o := .tup [.int (GM.sgn sc tl v), .int (GM.scl sc tl v), .int (GM.tlp tl v)]) np
  refine ⟨p, _, rfl, .inl (.inl upd_same), rfl, _, _, rfl, _, _, rfl, _, _, rfl, rfl, ?_⟩
  have hs := GM.scl_nn sc tl v
  have ht := GM.tlp_nn tl v
  have h01 := GM.sgn_01 (m := sc) (t := tl) (w := v)
  have q' := q _ sp
  unfold trn at q'
  rw [show sz sc tl v = GM.scl sc tl v * 2 ^ tl + GM.tlp tl v from (GM.scl_tlp sc tl v).symm] at q'
  exact ⟨_, rfl, x, dx, _, rfl, sp _ _ hx, rfl, _, rfl, _, _, rfl, rfl, _, rfl, _, rfl, x, sc, tl, _, _, _, rfl, hF.same sp, by omega, hs.1, hs.2, ht.1, ht.2, q'⟩
theorem snoc_take {α β : Type} (xs : List α) (f : α → β) {i : Nat} {a : α} (h : xs[i]? = some a) : (xs.take (i + 1)).map f = (xs.take i).map f ++ [f a] := by
  rw [List.take_add_one, h, List.map_append]
  rfl
theorem len_take {α β : Type} (xs : List α) (f : α → β) (i : Nat) (h : xs.length ≤ 900) : ((xs.take i).map f).length < sizeLine := by
  rw [List.length_map, List.length_take]
  exact small1000 (by omega)
theorem at_int' {xs : List Int} {i : Nat} {x : V} (h : (xs.map V.int)[i]? = some x) : ∃ v, xs[i]? = some v ∧ x = .int v := by
  rw [List.getElem?_map] at h
  cases e : xs[i]? with
  | none => rw [e] at h; cases h
  | some z => rw [e] at h; exact ⟨z, rfl, (Option.some.inj h).symm⟩
def spHN (K : PySem.W.Frag) (C : Addr) : Sp := fun vs H Q _ => ∃ (x t : Addr) (sc tl : Nat) (xs : List Int), vs = [.ref x, .ref t] ∧ FAt C H x sc tl ∧ SqT K H t (xs.map V.int) ∧ xs.length ≤ 900 ∧ ∀ (r : Bool) H', Same H H' → (r = true ↔ ∃ v ∈ xs, srt sc tl (sz sc tl v) = "none") → Q (.bl r) H'
theorem in_strs (x : Str) (ys : List Str) : inV (.str x) (ys.map V.str) = true ↔ x ∈ ys := by
  induction ys with
  | nil => exact ⟨fun z => Bool.noConfusion z, fun z => nomatch z⟩
  | cons y ys ih =>
    show ((y == x) || inV (.str x) (ys.map V.str)) = true ↔ _
    rw [Bool.or_eq_true, beq_iff_eq, ih, List.mem_cons]
    exact ⟨fun z => z.imp Eq.symm id, fun z => z.imp Eq.symm id⟩
theorem flat_strs (ys : List Str) : (ys.map V.str).all flatV = true := by
  induction ys with
  | nil => rfl
  | cons y ys ih => exact ih
theorem ok_has_none (B : Bl mg) (L : LL K mg C CD za zl t73 t74 t75 tg_NEAR tg_CUT tg_UP tg_DOWN w dO esO nO) : FnOk P w K mg base CX0 4 (za 15) (zl 15) ["form", "words"] (spHN K C) := by
  have G_Form_sort_of : FnOk P w K mg base CX0 3 (za 72) (zl 72) ["self", "word"] (spSort C) := (ok_Form_sort_of B L).mono (by decide)
  refine L.F_has_none.ok sc_has_none (fun vs H Q E h => ?_) (fun cdv A outer s H vs Q E hr h => ?_)
  · obtain ⟨x, t, sc, tl, xs, rfl, _⟩ := h
    rfl
  obtain ⟨x, t, sc, tl, xs, rfl, hF, hT, hl, q⟩ := h
  obtain ⟨dx, hx, h1, h2, h3, h4⟩ := id hF
  refine ⟨_, (pss_one (ps_ret (pe_cmpR op_in_seq pe_str (pe_lc (own := [("word", 2)]) (by rfl) sc_has_none.nd (pi_tup (pv 1)) (blkOk_by (own := [("word", 2)]) (N := ["form", "words", "word"]) (sc := defScope s_has_none) (by decide +kernel)) (fun _ _ _ _ _ => pg_name (i := 2) sc_has_none.nd rfl (Or.inl rfl)) (fun _ _ _ _ _ => pts_nil) (fun _ _ _ _ _ => (pe_meth (pv 0) L.T.cl L.M_Form_sort_of G_Form_sort_of hr L.b_Form_sort_of .nil pass0 (pa_cons (pv 2) pa_nil)))) (by rfl)))), ?_⟩
  refine ⟨_, rfl, t, rfl, ⟨_, hT⟩, fun D nD => ?_⟩
  refine lc_it (walk_tup (K := K) (a := t) (xs := xs.map V.int)) (fun i H9 => Same H H9 ∧ H9 D = some (.lst ((xs.take i).map fun v => V.str (srt sc tl (sz sc tl v))))) ⟨same_upd nD, upd_same⟩ (fun i H9 _ ⟨s9, _⟩ => Same.seqT s9 hT) ?_ ?_
  · rintro j z H9 H10 hj ⟨s9, eD3⟩ ⟨rfl, hz⟩
    obtain ⟨v, hv, rfl⟩ := at_int' hz
    refine ⟨rfl, yesT ?_⟩
    refine ⟨_, rfl, x, dx, _, rfl, s9 _ _ hx, rfl, _, rfl, x, sc, tl, v, rfl, hF.same s9, fun H11 s11 => ?_⟩
    refine ⟨_, s11 _ _ eD3, len_take _ _ _ hl, fun y u e => ?_, ?_⟩
    · rw [upd_ne (ne_of_none e nD)]
      exact s11 _ _ (s9 _ _ e)
    · rw [upd_same, snoc_take _ _ hv]
  rintro H9 ⟨s9, eD⟩
  rw [List.length_map, List.take_length] at eD
  have eD' : H9 D = some (.lst ((xs.map fun v => srt sc tl (sz sc tl v)).map V.str)) := by
    rw [eD, List.map_map]
    rfl
  refine ⟨D, _, rfl, .inl (SqL.of eD'), rfl, flat_strs _, ?_⟩
  refine q _ _ s9 ?_
  show inV (.str "none") _ = true ↔ _
  rw [in_strs, List.mem_map]
def UU (sc tl : Nat) : Int := (2 ^ sc - 1) * 2 ^ tl
theorem wrd_U (sc tl : Nat) (s : Int) : GR.wrd sc tl s (2 ^ sc - 1) 0 = s * 2 ^ (sc + tl) + UU sc tl ∧ GR.wrd sc tl s (2 ^ sc - 1 - 1) (2 ^ tl - 1) = s * 2 ^ (sc + tl) + (UU sc tl - 1) ∧ GR.wrd sc tl s 0 0 = s * 2 ^ (sc + tl) := by
  unfold GR.wrd UU
  refine ⟨by omega, ?_, by omega⟩
  rw [Int.sub_mul (2 ^ sc - 1) 1, Int.one_mul]
  omega
theorem fit_lt {x : Int} {k : Nat} (h0 : 0 ≤ x) (h : x < 2 ^ k) (hk : k ≤ 4000) : Fit x := by
  have c : ((2 ^ k : Nat) : Int) = (2 : Int) ^ k := PySem.W.kbt_cast _
  exact ⟨h0, Nat.le_trans (PyProof.Rows.intBits_le (k := k) (by omega)) hk⟩
theorem ex_in {sc tl : Nat} {u : Int} (hs : sc ≤ 8) (h : u ≤ UU sc tl) : GM.ex tl u ≤ 256 := by
  have hp := GM.pow_pos' tl
  have h8 : (2 : Int) ^ sc ≤ 2 ^ 8 := GM.pow_le' hs
  have : u / 2 ^ tl ≤ 2 ^ sc - 1 := by
    have := Int.ediv_le_ediv hp h
    unfold UU at this
    rw [Int.mul_ediv_cancel _ (by omega)] at this
    exact this
  unfold GM.ex
  omega
end
section
variable {P : Program} {w : World} {K : PySem.W.Frag} {mg : Str → Option Value} {base : Heap}
variable {C : Addr} {CD : Addr} {za : Nat → Addr} {zl : Nat → FuncData} {t73 t74 t75 tg_NEAR tg_CUT tg_UP tg_DOWN : Tok} {dO : Addr} {esO : Array DictEntry} {nO : Nat}
theorem bx2 {c : Int} {H : Hp} {b : Addr} (h : BoxAt (c + 2 ^ (2 - 1)) H b) : BoxAt (c + 2) H b := h
end
section
variable {P : Program} {w : World} {K : PySem.W.Frag} {mg : Str → Option Value} {base : Heap}
variable {C : Addr} {CD : Addr} {za : Nat → Addr} {zl : Nat → FuncData} {t73 t74 t75 tg_NEAR tg_CUT tg_UP tg_DOWN : Tok} {dO : Addr} {esO : Array DictEntry} {nO : Nat}
def ab (z : Int) : Int := if z < 0 then -z else z
theorem ab_nn (n : Int) : 0 ≤ ab n := by
  unfold ab
  split <;> omega
def TermAt (H : Hp) (t : Addr) (s : Int) : Option (Int × Int) → Prop
  | none => H t = some (.tup [.int s, .non])
  | some w => ∃ u, H t = some (.tup [.int s, .ref u]) ∧ H u = some (.tup [.int w.1, .int w.2])
theorem TermAt.same {H H' : Hp} {t : Addr} {s : Int} {o : Option (Int × Int)} (h : TermAt H t s o) (k : Same H H') : TermAt H' t s o := by
  cases o with
  | none => exact k _ _ h
  | some w => exact ⟨h.choose, k _ _ h.choose_spec.1, k _ _ h.choose_spec.2⟩
def wo (sc tl : Nat) (v : Int) : Option (Int × Int) := if GM.topS sc tl ≤ sz sc tl v then none else some (wn sc tl v, wp sc tl v)
def spTermOf (C : Addr) : Sp := fun vs H Q _ => ∃ (x : Addr) (sc tl : Nat) (v : Int), vs = [.ref x, .int v] ∧ FAt C H x sc tl ∧ ∀ t H', Same H H' → TermAt H' t (GM.sgn sc tl v) (wo sc tl v) → Q (.ref t) H'
theorem ok_term_of (B : Bl mg) (L : LL K mg C CD za zl t73 t74 t75 tg_NEAR tg_CUT tg_UP tg_DOWN w dO esO nO) : FnOk P w K mg base CX0 4 (za 20) (zl 20) ["form", "word"] (spTermOf C) := by
  have G_sign_of : FnOk P w K mg base CX0 3 (za 18) (zl 18) ["form", "word"] (spSgn C) := (ok_sign_of B L).mono (by decide)
  have G_Form_worth : FnOk P w K mg base CX0 3 (za 78) (zl 78) ["self", "word"] (spWorth C) := (ok_Form_worth B L).mono (by decide)
  refine L.F_term_of.ok sc_term_of (fun vs H Q E h => ?_) (fun cdv A outer s H vs Q E hr h => ?_)
  · obtain ⟨x, sc, tl, v, rfl, _⟩ := h
    rfl
  obtain ⟨x, sc, tl, v, rfl, hF, q⟩ := h
  refine ⟨_, (pss_one (ps_ret (pe_tup (pa_cons (pe_call G_sign_of hr (by rfl) L.m_sign_of L.F_sign_of.kp L.b_sign_of .nil pass0 (pa_cons (pv 0) (pa_cons (pv 1) pa_nil))) (pa_cons (pe_meth (pv 0) L.T.cl L.M_Form_worth G_Form_worth hr L.b_Form_worth .nil pass0 (pa_cons (pv 1) pa_nil)) pa_nil))))), ?_⟩
  refine ⟨_, rfl, _, rfl, x, sc, tl, v, rfl, hF, fun H1 s1 => ?_⟩
  obtain ⟨dx, hx, h1, h2, h3, h4⟩ := id (hF.same s1)
  refine ⟨_, rfl, x, dx, _, rfl, hx, rfl, _, rfl, x, sc, tl, v, rfl, hF.same s1, fun H2 s2 ca => ?_, fun H2 p s2 ca ep => ?_⟩
  · refine ⟨(by show 2 ≤ sizeLine; decide), fun t nt => ?_⟩
    refine q t _ ((s1.trans s2).trans (same_upd nt)) ?_
    unfold wo
    rw [if_pos ca]
    exact upd_same
  · refine ⟨(by show 2 ≤ sizeLine; decide), fun t nt => ?_⟩
    refine q t _ ((s1.trans s2).trans (same_upd nt)) ?_
    unfold wo
    rw [if_neg ca]
    exact ⟨p, upd_same, same_upd nt _ _ ep⟩
def nsg (s1 s2 : Int) (way : Str) : Int := if s1 = s2 then s1 else if way = "down" then 1 else 0
def spNsg : Sp := fun vs H Q _ => ∃ (s1 s2 : Int) (way : Str), vs = [.int s1, .int s2, .str way] ∧ Q (.int (nsg s1 s2 way)) H
theorem ok_nought_sign (B : Bl mg) (L : LL K mg C CD za zl t73 t74 t75 tg_NEAR tg_CUT tg_UP tg_DOWN w dO esO nO) : FnOk P w K mg base CX0 1 (za 23) (zl 23) ["sign", "other_sign", "way"] spNsg := by
  refine L.F_nought_sign.ok sc_nought_sign (fun vs H Q E h => ?_) (fun cdv A outer s H vs Q E hr h => ?_)
  · obtain ⟨s1, s2, way, rfl, _⟩ := h
    rfl
  obtain ⟨s1, s2, way, rfl, q⟩ := h
  refine ⟨_, (pss_cons (ps_if (pt_cmpR op_eq (pv 0) (pv 1) (nomark _)) (pss_one (ps_ret (pv 0))) pss_nil)
    (pss_one (ps_ret (pe_ifExp (pt_cmpR op_eq (pv 2) (pe_glob (v := .str "down") rfl L.g_DOWN ⟨_, rfl⟩) (nomark _)) pe_int pe_int)))), ?_⟩
  unfold nsg at q
  refine ⟨_, rfl, _, rfl, rfl, _, rfl, ite2 (fun c => ?_) (fun c => ?_)⟩
  · rw [if_pos (V.int.inj (of_decide_eq_true c))] at q
    exact ⟨_, rfl, q⟩
  · rw [if_neg (fun z => c (decide_eq_true (by rw [z])))] at q
    refine ⟨_, rfl, rfl, _, rfl, ite2 (fun d => ?_) (fun d => ?_)⟩
    · rw [if_pos (V.str.inj (of_decide_eq_true d))] at q
      exact q
    · rw [if_neg (fun z => d (decide_eq_true (by rw [z])))] at q
      exact q
def lwr (p e : Int) : Int := if e < p then e else p
def tgn (n p m e : Int) : Int := n * 2 ^ (p - lwr p e).toNat + m * 2 ^ (e - lwr p e).toNat
def Fi (n : Int) : Prop := n.natAbs < 2 ^ 60
theorem fi_shl {n : Int} {j : Nat} (h : Fi n) (hj : j ≤ 100000) : CShl n (j : Int) := shl_ok (n := 60) h (by omega)
def spWA (K : PySem.W.Frag) : Sp := fun vs H Q _ => ∃ (a b : Addr) (n p m e : Int), vs = [.ref a, .ref b] ∧ SqT K H a [.int n, .int p] ∧ SqT K H b [.int m, .int e] ∧ Fi n ∧ Fi m ∧ -1000 ≤ p ∧ p ≤ 1000 ∧ -1000 ≤ e ∧ e ≤ 1000 ∧ ∀ t H', Same H H' → H' t = some (.tup [.int (tgn n p m e), .int (lwr p e)]) → Q (.ref t) H'
theorem ok_worths_added (B : Bl mg) (L : LL K mg C CD za zl t73 t74 t75 tg_NEAR tg_CUT tg_UP tg_DOWN w dO esO nO) : FnOk P w K mg base CX0 1 (za 24) (zl 24) ["one", "other"] (spWA K) := by
  refine L.F_worths_added.ok sc_worths_added (fun vs H Q E h => ?_) (fun cdv A outer s H vs Q E hr h => ?_)
  · obtain ⟨a, b, n, p, m, e, rfl, _⟩ := h
    rfl
  obtain ⟨a, b, n, p, m, e, rfl, hA, hB, fn, fm, p1, p2, e1, e2, q⟩ := h
  refine ⟨_, (pss_cons (ps_asg (pv 0) (pg_tup (by rfl) (pgs_cons (pg_name (i := 2) sc_worths_added.nd rfl (.inl rfl)) (pgs_cons (pg_name (i := 3) sc_worths_added.nd rfl (.inl rfl)) pgs_nil))))
    (pss_cons (ps_asg (pv 1) (pg_tup (by rfl) (pgs_cons (pg_name (i := 4) sc_worths_added.nd rfl (.inl rfl)) (pgs_cons (pg_name (i := 5) sc_worths_added.nd rfl (.inl rfl)) pgs_nil))))
    (pss_cons (ps_set (i := 6) sc_worths_added.nd rfl (.inl rfl) (pe_callB (call_min2 rfl) (by rfl) B.min boot_min (pa_cons (pv 3) (pa_cons (pv 5) pa_nil))))
    (pss_one (ps_ret (pe_tup (pa_cons (pe_op op_add (pe_op op_shlN (pv 2) (pe_op op_sub (pv 3) (pv 6))) (pe_op op_shlN (pv 4) (pe_op op_sub (pv 5) (pv 6)))) (pa_cons (pv 6) pa_nil)))))))), ?_⟩
  have hl : lwr p e ≤ p ∧ lwr p e ≤ e ∧ -1000 ≤ lwr p e := by
    unfold lwr
    split <;> omega
  refine ⟨_, rfl, a, _, rfl, hA, rfl, _, _, rfl, _, _, rfl, rfl, ?_⟩
  refine ⟨_, rfl, b, _, rfl, hB, rfl, _, _, rfl, _, _, rfl, rfl, ?_⟩
  refine ⟨_, rfl, _, rfl, _, _, rfl, ?_⟩
  refine ⟨_, rfl, _, rfl, _, rfl, _, _, rfl, rfl, _, (p - lwr p e).toNat, rfl, congrArg V.int (show p - lwr p e = ((p - lwr p e).toNat : Nat) by omega), fi_shl fn (by omega), ?_⟩
  refine ⟨_, rfl, _, rfl, _, rfl, _, _, rfl, rfl, _, (e - lwr p e).toNat, rfl, congrArg V.int (show e - lwr p e = ((e - lwr p e).toNat : Nat) by omega), fi_shl fm (by omega), _, _, rfl, rfl, ?_⟩
  refine ⟨_, rfl, (by show 2 ≤ sizeLine; decide), fun t nt => ?_⟩
  exact q t _ (same_upd nt) upd_same
def endW (sc tl : Nat) (s : Int) : Int := s * 2 ^ (sc + tl) + ((2 ^ sc - 1) * 2 ^ tl + 0)
def totR (sc tl : Nat) (n p : Int) (s : Int) (way : Str) : Int × List Str :=
  if n = 0 then (s * 2 ^ (sc + tl), []) else GR.rnd sc tl (if n < 0 then 1 else 0) (ab n) p way false
def tadR (sc tl : Nat) (s1 : Int) (o1 : Option (Int × Int)) (s2 : Int) (o2 : Option (Int × Int)) (way : Str) : Int × List Str :=
  match o1, o2 with
  | none, none => if s1 = s2 then (endW sc tl s1, []) else (noneW sc tl, ["bad"])
  | none, some _ => (endW sc tl s1, [])
  | some _, none => (endW sc tl s2, [])
  | some w1, some w2 => totR sc tl (tgn w1.1 w1.2 w2.1 w2.2) (lwr w1.2 w2.2) (nsg s1 s2 way) way
def OFi (o : Option (Int × Int)) : Prop := ∀ w, o = some w → Fi w.1 ∧ -1000 ≤ w.2 ∧ w.2 ≤ 1000
theorem fi_tgn {n p m e : Int} (fn : Fi n) (fm : Fi m) (p1 : -1000 ≤ p) (p2 : p ≤ 1000) (e1 : -1000 ≤ e) (e2 : e ≤ 1000) : ab (tgn n p m e) < 2 ^ 3000 := by
  have hl : lwr p e ≤ p ∧ lwr p e ≤ e ∧ -1000 ≤ lwr p e := by
    unfold lwr
    split <;> omega
  have one : ∀ (x : Int) (k : Nat), Fi x → k ≤ 2000 → -(2 ^ 2060) < x * 2 ^ k ∧ x * 2 ^ k < 2 ^ 2060 := fun x k hx hk => by
    have e0 : (x * 2 ^ k).natAbs = x.natAbs * 2 ^ k := by
      rw [Int.natAbs_mul, Int.natAbs_pow]
      rfl
    have e1 : x.natAbs * 2 ^ k < 2 ^ 60 * 2 ^ 2000 := Nat.mul_lt_mul_of_lt_of_le hx (Nat.pow_le_pow_right (by decide) hk) (Nat.pow_pos (by decide))
    rw [← Nat.pow_add, ← e0] at e1
    have c : ((2 ^ 2060 : Nat) : Int) = (2 : Int) ^ 2060 := PySem.W.kbt_cast _
    generalize x * 2 ^ k = z at e1 ⊢
    omega
  have a1 := one n (p - lwr p e).toNat fn (by omega)
  have a2 := one m (e - lwr p e).toNat fm (by omega)
  have b1 : (2 : Int) ^ 2061 ≤ 2 ^ 3000 := GM.pow_le' (by decide)
  have b2 : (2 : Int) ^ 2061 = 2 ^ 2060 * 2 := GM.pow_s 2060
  unfold tgn ab
  split <;> omega
def spTA (C : Addr) : Sp := fun vs H Q _ => ∃ (x t1 t2 : Addr) (sc tl : Nat) (s1 s2 : Int) (o1 o2 : Option (Int × Int)) (way : Str), vs = [.ref x, .ref t1, .ref t2, .str way] ∧ FAt C H x sc tl ∧ TermAt H t1 s1 o1 ∧ TermAt H t2 s2 o2 ∧ (s1 = 0 ∨ s1 = 1) ∧ (s2 = 0 ∨ s2 = 1) ∧ OFi o1 ∧ OFi o2 ∧
  ∀ t H', Same H H' → PairAt H' t (tadR sc tl s1 o1 s2 o2 way) → Q (.ref t) H'
theorem nsg_01 {s1 s2 : Int} (h1 : s1 = 0 ∨ s1 = 1) (way : Str) : nsg s1 s2 way = 0 ∨ nsg s1 s2 way = 1 := by
  unfold nsg
  split
  · exact h1
  · split <;> simp
theorem ok_terms_added (B : Bl mg) (L : LL K mg C CD za zl t73 t74 t75 tg_NEAR tg_CUT tg_UP tg_DOWN w dO esO nO) : FnOk P w K mg base CX0 6 (za 22) (zl 22) ["form", "one", "other", "way"] (spTA C) := by
  have G_bad : FnOk P w K mg base CX0 5 (za 16) (zl 16) ["form"] (spBad C) := (ok_bad B L).mono (by decide)
  have G_Form_endless : FnOk P w K mg base CX0 5 (za 74) (zl 74) ["self", "sign"] (spNm C mEn mNo) := (ok_Form_endless B L).mono (by decide)
  have G_Form_nought : FnOk P w K mg base CX0 5 (za 73) (zl 73) ["self", "sign"] (spNm C mNo mNo) := (ok_Form_nought B L).mono (by decide)
  have G_nought_sign : FnOk P w K mg base CX0 5 (za 23) (zl 23) ["sign", "other_sign", "way"] spNsg := (ok_nought_sign B L).mono (by decide)
  have G_worths_added : FnOk P w K mg base CX0 5 (za 24) (zl 24) ["one", "other"] (spWA K) := (ok_worths_added B L).mono (by decide)
  have G_rounded : FnOk P w K mg base CX0 5 (za 4) (zl 4) ["form", "sign", "number", "power", "way", "more"] (spRnd C) := (ok_rounded B L).mono (by decide)
  refine L.F_terms_added.ok sc_terms_added (fun vs H Q E h => ?_) (fun cdv A outer s H vs Q E hr h => ?_)
  · obtain ⟨x, t1, t2, sc, tl, s1, s2, o1, o2, way, rfl, _⟩ := h
    rfl
  obtain ⟨x, t1, t2, sc, tl, s1, s2, o1, o2, way, rfl, hF, T1, T2, b1, b2, f1, f2, q⟩ := h
  obtain ⟨dx, hx, h1, h2, h3, h4⟩ := id hF
  refine ⟨_, (pss_cons (ps_asg (pv 1) (pg_tup (by rfl) (pgs_cons (pg_name (i := 4) sc_terms_added.nd rfl (.inl rfl)) (pgs_cons (pg_name (i := 5) sc_terms_added.nd rfl (.inl rfl)) pgs_nil))))
    (pss_cons (ps_asg (pv 2) (pg_tup (by rfl) (pgs_cons (pg_name (i := 6) sc_terms_added.nd rfl (.inl rfl)) (pgs_cons (pg_name (i := 7) sc_terms_added.nd rfl (.inl rfl)) pgs_nil))))
    (pss_cons (ps_if (PW.pt (pw_and (pt_cmpR op_isN (pv 5) pe_non (nomark _)) (pw_and (pt_cmpR op_isN (pv 7) pe_non (nomark _)) (pw_and1 (pt_cmpR op_ne (pv 4) (pv 6) (nomark _)))))) (pss_one (ps_ret (pe_call G_bad hr (by rfl) L.m_bad L.F_bad.kp L.b_bad .nil pass0 (pa_cons (pv 0) pa_nil)))) pss_nil)
    (pss_cons (ps_if (pt_cmpR op_isN (pv 5) pe_non (nomark _)) (pss_one (ps_ret (pe_tup (pa_cons (pe_meth (pv 0) L.T.cl L.M_Form_endless G_Form_endless hr L.b_Form_endless .nil pass0 (pa_cons (pv 4) pa_nil)) (pa_cons (pe_tup pa_nil) pa_nil))))) pss_nil)
    (pss_cons (ps_if (pt_cmpR op_isN (pv 7) pe_non (nomark _)) (pss_one (ps_ret (pe_tup (pa_cons (pe_meth (pv 0) L.T.cl L.M_Form_endless G_Form_endless hr L.b_Form_endless .nil pass0 (pa_cons (pv 6) pa_nil)) (pa_cons (pe_tup pa_nil) pa_nil))))) pss_nil)
    (pss_cons (ps_asg (pe_call G_worths_added hr (by rfl) L.m_worths_added L.F_worths_added.kp L.b_worths_added .nil pass0 (pa_cons (pv 5) (pa_cons (pv 7) pa_nil))) (pg_tup (by rfl) (pgs_cons (pg_name (i := 8) sc_terms_added.nd rfl (.inl rfl)) (pgs_cons (pg_name (i := 9) sc_terms_added.nd rfl (.inl rfl)) pgs_nil))))
    (pss_cons (ps_if (pt_cmpR op_eq (pv 8) pe_int (nomark _)) (pss_one (ps_ret (pe_tup (pa_cons (pe_meth (pv 0) L.T.cl L.M_Form_nought G_Form_nought hr L.b_Form_nought .nil pass0 (pa_cons (pe_call G_nought_sign hr (by rfl) L.m_nought_sign L.F_nought_sign.kp L.b_nought_sign .nil pass0 (pa_cons (pv 4) (pa_cons (pv 6) (pa_cons (pv 3) pa_nil)))) pa_nil)) (pa_cons (pe_tup pa_nil) pa_nil))))) pss_nil)
    (pss_one (ps_ret (pe_callN G_rounded hr (by rfl) L.m_rounded L.F_rounded.kp (L.kb_rounded_way).choose_spec pass0 (pa_cons (pv 0) (pa_cons (pe_ifExp (pt_cmpR op_lt (pv 8) pe_int (nomark _)) pe_int pe_int) (pa_cons (pe_callB call_abs (by rfl) B.abs boot_abs (pa_cons (pv 8) pa_nil)) (pa_cons (pv 9) pa_nil)))) (pk_cons (pv 3) pk_nil))))))))))), ?_⟩
  have en : ∀ (s : Int) (H1 : Hp) (Q' : VK), (s = 0 ∨ s = 1) → Same H H1 → (∀ t H', Same H H' → PairAt H' t (endW sc tl s, []) → Q' (.ref t) H') → ∀ e, H1 e = none → ∀ t, (upd H1 e (.tup [])) t = none → Q' (.ref t) (upd (upd H1 e (.tup [])) t (.tup [.int (s * 2 ^ (sc + tl) + ((2 ^ sc - 1) * 2 ^ tl + 0)), .ref e])) := fun s H1 Q' hs s1 q' e ne t nt => q' t _ ((s1.trans (same_upd ne)).trans (same_upd nt)) ⟨e, upd_same, same_upd nt _ _ upd_same⟩
  cases o1 with
  | none =>
    cases o2 with
    | none =>
      refine ⟨_, rfl, t1, _, rfl, .inl (.inl T1), rfl, _, _, rfl, _, _, rfl, rfl, ?_⟩
      refine ⟨_, rfl, t2, _, rfl, .inl (.inl T2), rfl, _, _, rfl, _, _, rfl, rfl, ?_⟩
      refine ⟨_, rfl, rfl, _, rfl, iteT ?_⟩
      refine ⟨_, rfl, rfl, _, rfl, iteT ?_⟩
      refine ⟨_, rfl, _, rfl, rfl, _, rfl, ite2 (fun c => ?_) (fun c => ?_)⟩
      · have c1 : ¬ s1 = s2 := fun z => by
          rw [z] at c
          simp at c
        refine ⟨_, rfl, x, sc, tl, rfl, hF, fun u H3 nu s3 pu => ?_⟩
        refine q u _ s3 ?_
        show PairAt H3 u (if s1 = s2 then (endW sc tl s1, []) else (noneW sc tl, ["bad"]))
        rw [if_neg c1]
        exact pu
      · have c1 : s1 = s2 := Classical.byContradiction fun z => c (by simpa using z)
        refine ⟨_, rfl, rfl, _, rfl, iteT ?_⟩
        refine ⟨_, rfl, x, dx, _, rfl, hx, rfl, _, rfl, x, sc, tl, _, rfl, hF, b1, Nat.zero_le _, fun e ne => ⟨(by show 2 ≤ sizeLine; decide), fun t nt => ?_⟩⟩
        refine en s1 H Q b1 (Same.refl _) (fun t H' k p => q t H' k ?_) e ne t nt
        show PairAt H' t (if s1 = s2 then (endW sc tl s1, []) else (noneW sc tl, ["bad"]))
        rw [if_pos c1]
        exact p
    | some w2 =>
      obtain ⟨u2, T2, U2⟩ := T2
      refine ⟨_, rfl, t1, _, rfl, .inl (.inl T1), rfl, _, _, rfl, _, _, rfl, rfl, ?_⟩
      refine ⟨_, rfl, t2, _, rfl, .inl (.inl T2), rfl, _, _, rfl, _, _, rfl, rfl, ?_⟩
      refine ⟨_, rfl, rfl, _, rfl, iteT ?_⟩
      refine ⟨_, rfl, rfl, _, rfl, iteF ?_⟩
      refine iteF ?_
      refine ⟨_, rfl, rfl, _, rfl, iteT ?_⟩
      refine ⟨_, rfl, x, dx, _, rfl, hx, rfl, _, rfl, x, sc, tl, _, rfl, hF, b1, Nat.zero_le _, fun e ne => ⟨(by show 2 ≤ sizeLine; decide), fun t nt => ?_⟩⟩
      exact en s1 H Q b1 (Same.refl _) q e ne t nt
  | some w1 =>
    obtain ⟨u1, T1, U1⟩ := T1
    cases o2 with
    | none =>
      refine ⟨_, rfl, t1, _, rfl, .inl (.inl T1), rfl, _, _, rfl, _, _, rfl, rfl, ?_⟩
      refine ⟨_, rfl, t2, _, rfl, .inl (.inl T2), rfl, _, _, rfl, _, _, rfl, rfl, ?_⟩
      refine ⟨_, rfl, rfl, _, rfl, iteF ?_⟩
      refine iteF ?_
      refine ⟨_, rfl, rfl, _, rfl, iteF ?_⟩
      refine ⟨_, rfl, rfl, _, rfl, iteT ?_⟩
      refine ⟨_, rfl, x, dx, _, rfl, hx, rfl, _, rfl, x, sc, tl, _, rfl, hF, b2, Nat.zero_le _, fun e ne => ⟨(by show 2 ≤ sizeLine; decide), fun t nt => ?_⟩⟩
      exact en s2 H Q b2 (Same.refl _) q e ne t nt
    | some w2 =>
      obtain ⟨u2, T2, U2⟩ := T2
      obtain ⟨fa, pa1, pa2⟩ := f1 w1 rfl
      obtain ⟨fb, pb1, pb2⟩ := f2 w2 rfl
      refine ⟨_, rfl, t1, _, rfl, .inl (.inl T1), rfl, _, _, rfl, _, _, rfl, rfl, ?_⟩
      refine ⟨_, rfl, t2, _, rfl, .inl (.inl T2), rfl, _, _, rfl, _, _, rfl, rfl, ?_⟩
      refine ⟨_, rfl, rfl, _, rfl, iteF ?_⟩
      refine iteF ?_
      refine ⟨_, rfl, rfl, _, rfl, iteF ?_⟩
      refine ⟨_, rfl, rfl, _, rfl, iteF ?_⟩
      refine ⟨_, rfl, _, rfl, u1, u2, w1.1, w1.2, w2.1, w2.2, rfl, .inl (.inl U1), .inl (.inl U2), fa, fb, pa1, pa2, pb1, pb2, fun v H1 k1 ev => ?_⟩
      refine ⟨v, _, rfl, .inl (.inl ev), rfl, _, _, rfl, _, _, rfl, rfl, ?_⟩
      have hb := fi_tgn fa fb pa1 pa2 pb1 pb2
      have hl : lwr w1.2 w2.2 ≤ 1000 ∧ -1000 ≤ lwr w1.2 w2.2 := by
        unfold lwr
        split <;> omega
      change ∀ t H', Same H H' → PairAt H' t (totR sc tl (tgn w1.1 w1.2 w2.1 w2.2) (lwr w1.2 w2.2) (nsg s1 s2 way) way) → Q (.ref t) H' at q
      generalize tgn w1.1 w1.2 w2.1 w2.2 = n at *
      generalize lwr w1.2 w2.2 = p at *
      unfold totR at q
      have F1 := hF.same k1
      refine ⟨_, rfl, rfl, _, rfl, ite2 (fun c => ?_) (fun c => ?_)⟩
      · rw [if_pos (V.int.inj (of_decide_eq_true c))] at q
        refine ⟨_, rfl, x, dx, _, rfl, k1 _ _ hx, rfl, _, rfl, _, rfl, _, rfl, _, _, _, rfl, x, sc, tl, _, rfl, F1, nsg_01 b1 way, Nat.zero_le _, fun e ne => ⟨(by show 2 ≤ sizeLine; decide), fun t nt => ?_⟩⟩
        refine q t _ ((k1.trans (same_upd ne)).trans (same_upd nt)) ⟨e, ?_, same_upd nt _ _ upd_same⟩
        rw [upd_same]
        show some (HO.tup [.int (nsg s1 s2 way * 2 ^ (sc + tl) + (0 * 2 ^ tl + 0)), .ref e]) = _
        rw [Int.zero_mul, Int.add_zero, Int.add_zero]
      · rw [if_neg (fun z => c (decide_eq_true (by rw [z])))] at q
        refine ⟨_, rfl, if_ev (fun z H' => z = .int (if n < 0 then 1 else 0) ∧ H' = H1) (fun Q' q' => ?_) ?_⟩
        · refine ⟨_, rfl, _, _, rfl, rfl, _, rfl, ite2 (fun d => ?_) (fun d => ?_)⟩
          · exact q' _ _ ⟨by rw [if_pos (of_decide_eq_true d)], rfl⟩
          · exact q' _ _ ⟨by rw [if_neg (of_decide_eq_false (Bool.eq_false_iff.mpr d))], rfl⟩
        rintro z H' ⟨rfl, rfl⟩
        refine ⟨_, rfl, n, rfl, _, rfl, _, rfl, rfl, rfl, x, sc, tl, _, _, _, way, false, rfl, F1, (by split <;> simp), fit_lt (ab_nn n) (k := 3000) hb (by decide), by omega, by omega, (fun z => nomatch z), fun t3 H4 nt3 s4 P3 => ?_⟩
        exact q t3 _ (k1.trans s4) P3
end
section
variable {P : Program} {w : World} {K : PySem.W.Frag} {mg : Str → Option Value} {base : Heap}
variable {C : Addr} {CD : Addr} {za : Nat → Addr} {zl : Nat → FuncData} {t73 t74 t75 tg_NEAR tg_CUT tg_UP tg_DOWN : Tok} {dO : Addr} {esO : Array DictEntry} {nO : Nat}
theorem wp_in {sc tl : Nat} {v : Int} (h1 : 2 ≤ sc) (h2 : sc ≤ 8) (h4 : tl ≤ 24) (h : ¬ GM.topS sc tl ≤ sz sc tl v) : -400 ≤ wp sc tl v ∧ wp sc tl v ≤ 400 := by
  have e : GM.ex tl (sz sc tl v) ≤ 256 := ex_in (sc := sc) h2 (by show _ ≤ GM.topS sc tl; omega)
  have p8 : (2 : Int) ^ (sc - 1) ≤ 2 ^ 7 := GM.pow_le' (by omega)
  have p0 := GM.pow_pos' (sc - 1)
  unfold wp P0
  omega
theorem fi_wn {sc tl : Nat} (v : Int) (h4 : tl ≤ 24) : Fi (wn sc tl v) := by
  have := wn_25 sc v h4
  unfold Fi
  omega
theorem ofi_wo {sc tl : Nat} (v : Int) (h1 : 2 ≤ sc) (h2 : sc ≤ 8) (h4 : tl ≤ 24) : OFi (wo sc tl v) := by
  intro w e
  unfold wo at e
  by_cases c : GM.topS sc tl ≤ sz sc tl v
  · rw [if_pos c] at e
    cases e
  · rw [if_neg c] at e
    have e' := Option.some.inj e
    subst e'
    have := wp_in h1 h2 h4 c
    exact ⟨fi_wn v h4, by omega, by omega⟩
def addR (sc tl : Nat) (a b : Int) (way : Str) : Int × List Str :=
  if srt sc tl (sz sc tl a) = "none" ∨ srt sc tl (sz sc tl b) = "none" then (noneW sc tl, [])
  else tadR sc tl (GM.sgn sc tl a) (wo sc tl a) (GM.sgn sc tl b) (wo sc tl b) way
def spAdd (C : Addr) : Sp := fun vs H Q _ => ∃ (x : Addr) (sc tl : Nat) (a b : Int) (way : Str), vs = [.ref x, .int a, .int b, .str way] ∧ FAt C H x sc tl ∧
  ∀ t H', Same H H' → PairAt H' t (addR sc tl a b way) → Q (.ref t) H'
theorem ok_added (B : Bl mg) (L : LL K mg C CD za zl t73 t74 t75 tg_NEAR tg_CUT tg_UP tg_DOWN w dO esO nO) : FnOk P w K mg base CX0 7 (za 10) (zl 10) ["form", "a", "b", "way"] (spAdd C) := by
  have G_has_none : FnOk P w K mg base CX0 6 (za 15) (zl 15) ["form", "words"] (spHN K C) := (ok_has_none B L).mono (by decide)
  have G_Form_none_word : FnOk P w K mg base CX0 6 (za 76) (zl 76) ["self"] (spNamed0 C) := (ok_Form_none_word B L).mono (by decide)
  have G_terms_added : FnOk P w K mg base CX0 6 (za 22) (zl 22) ["form", "one", "other", "way"] (spTA C) := (ok_terms_added B L).mono (by decide)
  have G_term_of : FnOk P w K mg base CX0 6 (za 20) (zl 20) ["form", "word"] (spTermOf C) := (ok_term_of B L).mono (by decide)
  refine L.F_added.ok sc_added (fun vs H Q E h => ?_) (fun cdv A outer s H vs Q E hr h => ?_)
  · obtain ⟨x, sc, tl, a, b, way, rfl, _⟩ := h
    rfl
  obtain ⟨x, sc, tl, a, b, way, rfl, hF, q⟩ := h
  obtain ⟨dx, hx, h1, h2, h3, h4⟩ := id hF
  refine ⟨_, (pss_cons (ps_if (pt_val (pe_call G_has_none hr (by rfl) L.m_has_none L.F_has_none.kp L.b_has_none .nil pass0 (pa_cons (pv 0) (pa_cons (pe_tup (pa_cons (pv 1) (pa_cons (pv 2) pa_nil))) pa_nil)))) (pss_one (ps_ret (pe_tup (pa_cons (pe_meth0 (pv 0) L.T.cl L.M_Form_none_word G_Form_none_word hr L.b_Form_none_word .nil pass0) (pa_cons (pe_tup pa_nil) pa_nil))))) pss_nil)
    (pss_one (ps_ret (pe_call G_terms_added hr (by rfl) L.m_terms_added L.F_terms_added.kp L.b_terms_added .nil pass0 (pa_cons (pv 0) (pa_cons (pe_call G_term_of hr (by rfl) L.m_term_of L.F_term_of.kp L.b_term_of .nil pass0 (pa_cons (pv 0) (pa_cons (pv 1) pa_nil))) (pa_cons (pe_call G_term_of hr (by rfl) L.m_term_of L.F_term_of.kp L.b_term_of .nil pass0 (pa_cons (pv 0) (pa_cons (pv 2) pa_nil))) (pa_cons (pv 3) pa_nil)))))))), ?_⟩
  refine ⟨_, rfl, _, rfl, _, rfl, (by show 2 ≤ sizeLine; decide), fun t nt => ?_⟩
  have st := same_upd (o := .tup [.int a, .int b]) nt
  refine ⟨x, t, sc, tl, [a, b], rfl, hF.same st, .inl (.inl upd_same), Nat.le_of_ble_eq_true rfl, fun r H1 s1 hr1 => ?_⟩
  have w1 := st.trans s1
  have e1 : r = true ↔ (srt sc tl (sz sc tl a) = "none" ∨ srt sc tl (sz sc tl b) = "none") := by
    rw [hr1]
    simp
  unfold addR at q
  refine ⟨_, rfl, ite2 (fun c => ?_) (fun c => ?_)⟩
  · refine ⟨_, rfl, x, dx, _, rfl, w1 _ _ hx, rfl, x, sc, tl, rfl, hF.same w1, Nat.zero_le _, fun e ne => ⟨(by show 2 ≤ sizeLine; decide), fun u nu => ?_⟩⟩
    have se := same_upd (o := .tup []) ne
    rw [show (0 * 2 ^ (sc + tl) + ((2 ^ sc - 1) * 2 ^ tl + 2 ^ (tl - 1)) : Int) = noneW sc tl by unfold noneW; omega]
    rw [if_pos (e1.mp c)] at q
    exact q u _ ((w1.trans se).trans (same_upd nu)) ⟨e, upd_same, same_upd nu _ _ upd_same⟩
  rw [if_neg (fun z => c (e1.mpr z))] at q
  refine ⟨_, rfl, _, rfl, _, rfl, x, sc, tl, a, rfl, hF.same w1, fun t1 H2 s2 T1 => ?_⟩
  have w2 := w1.trans s2
  refine ⟨_, rfl, _, rfl, x, sc, tl, b, rfl, hF.same w2, fun t2 H3 s3 T2 => ?_⟩
  have w3 := w2.trans s3
  refine ⟨_, rfl, x, t1, t2, sc, tl, _, _, _, _, way, rfl, hF.same w3, T1.same s3, T2, GM.sgn_01, GM.sgn_01, ofi_wo a h1 h2 h4, ofi_wo b h1 h2 h4, fun t4 H4 s4 P4 => ?_⟩
  exact q t4 _ (w3.trans s4) P4
def spTake2 (C : Addr) : Sp := fun vs H Q _ => ∃ (x : Addr) (sc tl : Nat) (a b : Int) (way : Str), vs = [.ref x, .int a, .int b, .str way] ∧ FAt C H x sc tl ∧
  ∀ t H', Same H H' → PairAt H' t (addR sc tl a (trn sc tl b) way) → Q (.ref t) H'
theorem ok_taken (B : Bl mg) (L : LL K mg C CD za zl t73 t74 t75 tg_NEAR tg_CUT tg_UP tg_DOWN w dO esO nO) : FnOk P w K mg base CX0 8 (za 11) (zl 11) ["form", "a", "b", "way"] (spTake2 C) := by
  have G_added : FnOk P w K mg base CX0 7 (za 10) (zl 10) ["form", "a", "b", "way"] (spAdd C) := (ok_added B L).mono (by decide)
  have G_Form_turned : FnOk P w K mg base CX0 7 (za 77) (zl 77) ["self", "word"] (spTurned C) := (ok_Form_turned B L).mono (by decide)
  refine L.F_taken.ok sc_taken (fun vs H Q E h => ?_) (fun cdv A outer s H vs Q E hr h => ?_)
  · obtain ⟨x, sc, tl, a, b, way, rfl, _⟩ := h
    rfl
  obtain ⟨x, sc, tl, a, b, way, rfl, hF, q⟩ := h
  obtain ⟨dx, hx, h1, h2, h3, h4⟩ := id hF
  refine ⟨_, (pss_one (ps_ret (pe_callN G_added hr (by rfl) L.m_added L.F_added.kp (L.kb_added_way).choose_spec pass0 (pa_cons (pv 0) (pa_cons (pv 1) (pa_cons (pe_meth (pv 0) L.T.cl L.M_Form_turned G_Form_turned hr L.b_Form_turned .nil pass0 (pa_cons (pv 2) pa_nil)) pa_nil))) (pk_cons (pv 3) pk_nil)))), ?_⟩
  refine ⟨_, rfl, _, rfl, _, rfl, x, dx, _, rfl, hx, rfl, _, rfl, x, sc, tl, b, rfl, hF, fun H1 s1 => ?_⟩
  exact ⟨_, rfl, rfl, rfl, x, sc, tl, a, _, way, rfl, hF.same s1, fun t H2 s2 P2 => q t _ (s1.trans s2) P2⟩
end
section
variable {P : Program} {w : World} {K : PySem.W.Frag} {mg : Str → Option Value} {base : Heap}
variable {C : Addr} {CD : Addr} {za : Nat → Addr} {zl : Nat → FuncData} {t73 t74 t75 tg_NEAR tg_CUT tg_UP tg_DOWN : Tok} {dO : Addr} {esO : Array DictEntry} {nO : Nat}
theorem sx_01 (sc tl : Nat) (a b : Int) : sx sc tl a b = 0 ∨ sx sc tl a b = 1 := by
  unfold sx
  split <;> simp
def po (sc tl : Nat) (a b : Int) : Option (Int × Int) := if GM.topS sc tl ≤ sz sc tl a ∨ GM.topS sc tl ≤ sz sc tl b then none else some (wn sc tl a * wn sc tl b, wp sc tl a + wp sc tl b)
theorem fi_mul {x y : Int} (hx : -(2 ^ 25) < x ∧ x < 2 ^ 25) (hy : -(2 ^ 25) < y ∧ y < 2 ^ 25) : Fi (x * y) := by
  have e : (x * y).natAbs = x.natAbs * y.natAbs := Int.natAbs_mul x y
  have h : x.natAbs * y.natAbs ≤ (2 ^ 25 - 1) * (2 ^ 25 - 1) := Nat.mul_le_mul (by omega) (by omega)
  unfold Fi
  rw [e]
  omega
theorem ofi_po {sc tl : Nat} (a b : Int) (h1 : 2 ≤ sc) (h2 : sc ≤ 8) (h4 : tl ≤ 24) : OFi (po sc tl a b) := by
  intro w e
  unfold po at e
  by_cases c : GM.topS sc tl ≤ sz sc tl a ∨ GM.topS sc tl ≤ sz sc tl b
  · rw [if_pos c] at e
    cases e
  · rw [if_neg c] at e
    have e' := Option.some.inj e
    subst e'
    have i1 := wp_in h1 h2 h4 (fun z => c (.inl z))
    have i2 := wp_in h1 h2 h4 (fun z => c (.inr z))
    exact ⟨fi_mul (wn_25 sc a h4) (wn_25 sc b h4), by show -1000 ≤ wp sc tl a + wp sc tl b; omega, by show wp sc tl a + wp sc tl b ≤ 1000; omega⟩
def joinR (sc tl : Nat) (a b c : Int) (way : Str) : Int × List Str :=
  if srt sc tl (sz sc tl a) = "none" ∨ srt sc tl (sz sc tl b) = "none" ∨ srt sc tl (sz sc tl c) = "none" then (noneW sc tl, [])
  else if (srt sc tl (sz sc tl a) = "endless" ∨ srt sc tl (sz sc tl b) = "endless") ∧ (srt sc tl (sz sc tl a) = "nought" ∨ srt sc tl (sz sc tl b) = "nought") then (noneW sc tl, ["bad"])
  else tadR sc tl (sx sc tl a b) (po sc tl a b) (GM.sgn sc tl c) (wo sc tl c) way
def spJoin (C : Addr) : Sp := fun vs H Q _ => ∃ (x : Addr) (sc tl : Nat) (a b c : Int) (way : Str), vs = [.ref x, .int a, .int b, .int c, .str way] ∧ FAt C H x sc tl ∧
  ∀ t H', Same H H' → PairAt H' t (joinR sc tl a b c way) → Q (.ref t) H'
theorem ok_joined (B : Bl mg) (L : LL K mg C CD za zl t73 t74 t75 tg_NEAR tg_CUT tg_UP tg_DOWN w dO esO nO) : FnOk P w K mg base CX0 7 (za 14) (zl 14) ["form", "a", "b", "c", "way"] (spJoin C) := by
  have G_has_none : FnOk P w K mg base CX0 6 (za 15) (zl 15) ["form", "words"] (spHN K C) := (ok_has_none B L).mono (by decide)
  have G_Form_none_word : FnOk P w K mg base CX0 6 (za 76) (zl 76) ["self"] (spNamed0 C) := (ok_Form_none_word B L).mono (by decide)
  have G_is_endless_by_nought : FnOk P w K mg base CX0 6 (za 17) (zl 17) ["form", "a", "b"] (spEBN C) := (ok_is_endless_by_nought B L).mono (by decide)
  have G_bad : FnOk P w K mg base CX0 6 (za 16) (zl 16) ["form"] (spBad C) := (ok_bad B L).mono (by decide)
  have G_terms_added : FnOk P w K mg base CX0 6 (za 22) (zl 22) ["form", "one", "other", "way"] (spTA C) := (ok_terms_added B L).mono (by decide)
  have G_product_of : FnOk P w K mg base CX0 6 (za 21) (zl 21) ["form", "a", "b"] (spProd C) := (ok_product_of B L).mono (by decide)
  have G_term_of : FnOk P w K mg base CX0 6 (za 20) (zl 20) ["form", "word"] (spTermOf C) := (ok_term_of B L).mono (by decide)
  refine L.F_joined.ok sc_joined (fun vs H Q E h => ?_) (fun cdv A outer s H vs Q E hr h => ?_)
  · obtain ⟨x, sc, tl, a, b, c, way, rfl, _⟩ := h
    rfl
  obtain ⟨x, sc, tl, a, b, c, way, rfl, hF, q⟩ := h
  obtain ⟨dx, hx, h1, h2, h3, h4⟩ := id hF
  refine ⟨_, (pss_cons (ps_if (pt_val (pe_call G_has_none hr (by rfl) L.m_has_none L.F_has_none.kp L.b_has_none .nil pass0 (pa_cons (pv 0) (pa_cons (pe_tup (pa_cons (pv 1) (pa_cons (pv 2) (pa_cons (pv 3) pa_nil)))) pa_nil)))) (pss_one (ps_ret (pe_tup (pa_cons (pe_meth0 (pv 0) L.T.cl L.M_Form_none_word G_Form_none_word hr L.b_Form_none_word .nil pass0) (pa_cons (pe_tup pa_nil) pa_nil))))) pss_nil)
    (pss_cons (ps_if (pt_val (pe_call G_is_endless_by_nought hr (by rfl) L.m_is_endless_by_nought L.F_is_endless_by_nought.kp L.b_is_endless_by_nought .nil pass0 (pa_cons (pv 0) (pa_cons (pv 1) (pa_cons (pv 2) pa_nil))))) (pss_one (ps_ret (pe_call G_bad hr (by rfl) L.m_bad L.F_bad.kp L.b_bad .nil pass0 (pa_cons (pv 0) pa_nil)))) pss_nil)
    (pss_one (ps_ret (pe_call G_terms_added hr (by rfl) L.m_terms_added L.F_terms_added.kp L.b_terms_added .nil pass0 (pa_cons (pv 0) (pa_cons (pe_call G_product_of hr (by rfl) L.m_product_of L.F_product_of.kp L.b_product_of .nil pass0 (pa_cons (pv 0) (pa_cons (pv 1) (pa_cons (pv 2) pa_nil)))) (pa_cons (pe_call G_term_of hr (by rfl) L.m_term_of L.F_term_of.kp L.b_term_of .nil pass0 (pa_cons (pv 0) (pa_cons (pv 3) pa_nil))) (pa_cons (pv 4) pa_nil))))))))), ?_⟩
  refine ⟨_, rfl, _, rfl, _, rfl, _, rfl, (by show 3 ≤ sizeLine; decide), fun t nt => ?_⟩
  have st := same_upd (o := .tup [.int a, .int b, .int c]) nt
  refine ⟨x, t, sc, tl, [a, b, c], rfl, hF.same st, .inl (.inl upd_same), Nat.le_of_ble_eq_true rfl, fun r H1 s1 hr1 => ?_⟩
  have w1 := st.trans s1
  have e1 : r = true ↔ (srt sc tl (sz sc tl a) = "none" ∨ srt sc tl (sz sc tl b) = "none" ∨ srt sc tl (sz sc tl c) = "none") := by
    rw [hr1]
    simp
  unfold joinR at q
  refine ⟨_, rfl, ite2 (fun cn => ?_) (fun cn => ?_)⟩
  · refine ⟨_, rfl, x, dx, _, rfl, w1 _ _ hx, rfl, x, sc, tl, rfl, hF.same w1, Nat.zero_le _, fun e ne => ⟨(by show 2 ≤ sizeLine; decide), fun u nu => ?_⟩⟩
    have se := same_upd (o := .tup []) ne
    rw [show (0 * 2 ^ (sc + tl) + ((2 ^ sc - 1) * 2 ^ tl + 2 ^ (tl - 1)) : Int) = noneW sc tl by unfold noneW; omega]
    rw [if_pos (e1.mp cn)] at q
    exact q u _ ((w1.trans se).trans (same_upd nu)) ⟨e, upd_same, same_upd nu _ _ upd_same⟩
  rw [if_neg (fun z => cn (e1.mpr z))] at q
  refine ⟨_, rfl, _, rfl, _, rfl, x, sc, tl, a, b, rfl, hF.same w1, fun r2 H2 s2 e2 => ?_⟩
  have w2 := w1.trans s2
  refine ⟨_, rfl, ite2 (fun c2 => ?_) (fun c2 => ?_)⟩
  · refine ⟨_, rfl, x, sc, tl, rfl, hF.same w2, fun u H3 nu s3 pu => ?_⟩
    rw [if_pos (e2.mp c2)] at q
    exact q u _ (w2.trans s3) pu
  rw [if_neg (fun z => c2 (e2.mpr z))] at q
  have go : ∀ (t1 : Addr) (H3 : Hp), Same H2 H3 → TermAt H3 t1 (sx sc tl a b) (po sc tl a b) → FAt C H3 x sc tl := fun _ _ k _ => (hF.same w2).same k
  refine ⟨_, rfl, _, rfl, _, rfl, _, rfl, x, sc, tl, a, b, rfl, hF.same w2, fun ct H3 t1 s3 et => ?_, fun na nb H3 t1 u s3 et eu => ?_⟩
  · have T1 : TermAt H3 t1 (sx sc tl a b) (po sc tl a b) := by
      unfold po
      rw [if_pos ct]
      exact et
    have w3 := w2.trans s3
    refine ⟨_, rfl, _, rfl, x, sc, tl, c, rfl, hF.same w3, fun t2 H4 s4 T2 => ?_⟩
    have w4 := w3.trans s4
    refine ⟨_, rfl, x, t1, t2, sc, tl, _, _, _, _, way, rfl, hF.same w4, T1.same s4, T2, sx_01 sc tl a b, GM.sgn_01, ofi_po a b h1 h2 h4, ofi_wo c h1 h2 h4, fun t4 H5 s5 P5 => ?_⟩
    exact q t4 _ (w4.trans s5) P5
  · have T1 : TermAt H3 t1 (sx sc tl a b) (po sc tl a b) := by
      unfold po
      rw [if_neg (fun z => z.elim na nb)]
      exact ⟨u, et, eu⟩
    have w3 := w2.trans s3
    refine ⟨_, rfl, _, rfl, x, sc, tl, c, rfl, hF.same w3, fun t2 H4 s4 T2 => ?_⟩
    have w4 := w3.trans s4
    refine ⟨_, rfl, x, t1, t2, sc, tl, _, _, _, _, way, rfl, hF.same w4, T1.same s4, T2, sx_01 sc tl a b, GM.sgn_01, ofi_po a b h1 h2 h4, ofi_wo c h1 h2 h4, fun t4 H5 s5 P5 => ?_⟩
    exact q t4 _ (w4.trans s5) P5
end
section
variable {P : Program} {w : World} {K : PySem.W.Frag} {mg : Str → Option Value} {base : Heap}
variable {C : Addr} {CD : Addr} {za : Nat → Addr} {zl : Nat → FuncData} {t73 t74 t75 tg_NEAR tg_CUT tg_UP tg_DOWN : Tok} {dO : Addr} {esO : Array DictEntry} {nO : Nat}
theorem abs_in {x y : Int} (hx : -(2 ^ 25) < x ∧ x < 2 ^ 25) (hy : -(2 ^ 25) < y ∧ y < 2 ^ 25) : 0 ≤ ab (x * y) ∧ ab (x * y) < 2 ^ 50 := by
  have e : (x * y).natAbs = x.natAbs * y.natAbs := Int.natAbs_mul x y
  have h : x.natAbs * y.natAbs ≤ (2 ^ 25 - 1) * (2 ^ 25 - 1) := Nat.mul_le_mul (by omega) (by omega)
  rw [← e] at h
  unfold ab
  generalize x * y = z at h
  split <;> omega
def mulR (sc tl : Nat) (a b : Int) (way : Str) : Int × List Str :=
  if srt sc tl (sz sc tl a) = "none" ∨ srt sc tl (sz sc tl b) = "none" then (noneW sc tl, [])
  else if (srt sc tl (sz sc tl a) = "endless" ∨ srt sc tl (sz sc tl b) = "endless") ∧ (srt sc tl (sz sc tl a) = "nought" ∨ srt sc tl (sz sc tl b) = "nought") then (noneW sc tl, ["bad"])
  else if GM.topS sc tl ≤ sz sc tl a ∨ GM.topS sc tl ≤ sz sc tl b then (sx sc tl a b * 2 ^ (sc + tl) + ((2 ^ sc - 1) * 2 ^ tl + 0), [])
  else GR.rnd sc tl (sx sc tl a b) (ab (wn sc tl a * wn sc tl b)) (wp sc tl a + wp sc tl b) way false
def spMul (C : Addr) : Sp := fun vs H Q _ => ∃ (x : Addr) (sc tl : Nat) (a b : Int) (way : Str), vs = [.ref x, .int a, .int b, .str way] ∧ FAt C H x sc tl ∧
  ∀ t H', Same H H' → PairAt H' t (mulR sc tl a b way) → Q (.ref t) H'
theorem ok_multiplied (B : Bl mg) (L : LL K mg C CD za zl t73 t74 t75 tg_NEAR tg_CUT tg_UP tg_DOWN w dO esO nO) : FnOk P w K mg base CX0 6 (za 12) (zl 12) ["form", "a", "b", "way"] (spMul C) := by
  have G_has_none : FnOk P w K mg base CX0 5 (za 15) (zl 15) ["form", "words"] (spHN K C) := (ok_has_none B L).mono (by decide)
  have G_Form_none_word : FnOk P w K mg base CX0 5 (za 76) (zl 76) ["self"] (spNamed0 C) := (ok_Form_none_word B L).mono (by decide)
  have G_is_endless_by_nought : FnOk P w K mg base CX0 5 (za 17) (zl 17) ["form", "a", "b"] (spEBN C) := (ok_is_endless_by_nought B L).mono (by decide)
  have G_bad : FnOk P w K mg base CX0 5 (za 16) (zl 16) ["form"] (spBad C) := (ok_bad B L).mono (by decide)
  have G_product_of : FnOk P w K mg base CX0 5 (za 21) (zl 21) ["form", "a", "b"] (spProd C) := (ok_product_of B L).mono (by decide)
  have G_Form_endless : FnOk P w K mg base CX0 5 (za 74) (zl 74) ["self", "sign"] (spNm C mEn mNo) := (ok_Form_endless B L).mono (by decide)
  have G_rounded : FnOk P w K mg base CX0 5 (za 4) (zl 4) ["form", "sign", "number", "power", "way", "more"] (spRnd C) := (ok_rounded B L).mono (by decide)
  refine L.F_multiplied.ok sc_multiplied (fun vs H Q E h => ?_) (fun cdv A outer s H vs Q E hr h => ?_)
  · obtain ⟨x, sc, tl, a, b, way, rfl, _⟩ := h
    rfl
  obtain ⟨x, sc, tl, a, b, way, rfl, hF, q⟩ := h
  obtain ⟨dx, hx, h1, h2, h3, h4⟩ := id hF
  refine ⟨_, (pss_cons (ps_if (pt_val (pe_call G_has_none hr (by rfl) L.m_has_none L.F_has_none.kp L.b_has_none .nil pass0 (pa_cons (pv 0) (pa_cons (pe_tup (pa_cons (pv 1) (pa_cons (pv 2) pa_nil))) pa_nil)))) (pss_one (ps_ret (pe_tup (pa_cons (pe_meth0 (pv 0) L.T.cl L.M_Form_none_word G_Form_none_word hr L.b_Form_none_word .nil pass0) (pa_cons (pe_tup pa_nil) pa_nil))))) pss_nil)
    (pss_cons (ps_if (pt_val (pe_call G_is_endless_by_nought hr (by rfl) L.m_is_endless_by_nought L.F_is_endless_by_nought.kp L.b_is_endless_by_nought .nil pass0 (pa_cons (pv 0) (pa_cons (pv 1) (pa_cons (pv 2) pa_nil))))) (pss_one (ps_ret (pe_call G_bad hr (by rfl) L.m_bad L.F_bad.kp L.b_bad .nil pass0 (pa_cons (pv 0) pa_nil)))) pss_nil)
    (pss_cons (ps_asg (pe_call G_product_of hr (by rfl) L.m_product_of L.F_product_of.kp L.b_product_of .nil pass0 (pa_cons (pv 0) (pa_cons (pv 1) (pa_cons (pv 2) pa_nil)))) (pg_tup (by rfl) (pgs_cons (pg_name (i := 4) sc_multiplied.nd rfl (.inl rfl)) (pgs_cons (pg_name (i := 5) sc_multiplied.nd rfl (.inl rfl)) pgs_nil))))
    (pss_cons (ps_if (pt_cmpR op_isN (pv 5) pe_non (nomark _)) (pss_one (ps_ret (pe_tup (pa_cons (pe_meth (pv 0) L.T.cl L.M_Form_endless G_Form_endless hr L.b_Form_endless .nil pass0 (pa_cons (pv 4) pa_nil)) (pa_cons (pe_tup pa_nil) pa_nil))))) pss_nil)
    (pss_cons (ps_asg (pv 5) (pg_tup (by rfl) (pgs_cons (pg_name (i := 6) sc_multiplied.nd rfl (.inl rfl)) (pgs_cons (pg_name (i := 7) sc_multiplied.nd rfl (.inl rfl)) pgs_nil))))
    (pss_one (ps_ret (pe_callN G_rounded hr (by rfl) L.m_rounded L.F_rounded.kp (L.kb_rounded_way).choose_spec pass0 (pa_cons (pv 0) (pa_cons (pv 4) (pa_cons (pe_callB call_abs (by rfl) B.abs boot_abs (pa_cons (pv 6) pa_nil)) (pa_cons (pv 7) pa_nil)))) (pk_cons (pv 3) pk_nil))))))))), ?_⟩
  refine ⟨_, rfl, _, rfl, _, rfl, (by show 2 ≤ sizeLine; decide), fun t nt => ?_⟩
  have st := same_upd (o := .tup [.int a, .int b]) nt
  refine ⟨x, t, sc, tl, [a, b], rfl, hF.same st, .inl (.inl upd_same), Nat.le_of_ble_eq_true rfl, fun r H1 s1 hr1 => ?_⟩
  have w1 := st.trans s1
  have e1 : r = true ↔ (srt sc tl (sz sc tl a) = "none" ∨ srt sc tl (sz sc tl b) = "none") := by
    rw [hr1]
    simp
  refine ⟨_, rfl, ite2 (fun c => ?_) (fun c => ?_)⟩
  · refine ⟨_, rfl, x, dx, _, rfl, w1 _ _ hx, rfl, x, sc, tl, rfl, hF.same w1, Nat.zero_le _, fun e ne => ⟨(by show 2 ≤ sizeLine; decide), fun u nu => ?_⟩⟩
    have se := same_upd (o := .tup []) ne
    rw [show (0 * 2 ^ (sc + tl) + ((2 ^ sc - 1) * 2 ^ tl + 2 ^ (tl - 1)) : Int) = noneW sc tl by unfold noneW; omega]
    refine q u _ ((w1.trans se).trans (same_upd nu)) ?_
    unfold mulR
    rw [if_pos (e1.mp c)]
    exact ⟨e, upd_same, same_upd nu _ _ upd_same⟩
  have n1 := fun z => c (e1.mpr z)
  refine ⟨_, rfl, _, rfl, _, rfl, x, sc, tl, a, b, rfl, hF.same w1, fun r2 H2 s2 e2 => ?_⟩
  have w2 := w1.trans s2
  refine ⟨_, rfl, ite2 (fun c2 => ?_) (fun c2 => ?_)⟩
  · refine ⟨_, rfl, x, sc, tl, rfl, hF.same w2, fun u H3 nu s3 pu => ?_⟩
    refine q u _ (w2.trans s3) ?_
    unfold mulR
    rw [if_neg n1, if_pos (e2.mp c2)]
    exact pu
  have n2 := fun z => c2 (e2.mpr z)
  refine ⟨_, rfl, _, rfl, _, rfl, x, sc, tl, a, b, rfl, hF.same w2, fun ct H3 u s3 eu => ?_, fun na nb H3 u v s3 eu ev => ?_⟩
  · have w3 := w2.trans s3
    refine ⟨u, _, rfl, .inl (.inl eu), rfl, _, _, rfl, _, _, rfl, rfl, ?_⟩
    refine ⟨_, rfl, rfl, _, rfl, iteT ?_⟩
    refine ⟨_, rfl, x, dx, _, rfl, w3 _ _ hx, rfl, _, rfl, x, sc, tl, _, rfl, hF.same w3, sx_01 sc tl a b, Nat.zero_le _, fun e ne => ⟨(by show 2 ≤ sizeLine; decide), fun t2 nt2 => ?_⟩⟩
    have se := same_upd (o := .tup []) ne
    refine q t2 _ ((w3.trans se).trans (same_upd nt2)) ?_
    unfold mulR
    rw [if_neg n1, if_neg n2, if_pos ct]
    exact ⟨e, upd_same, same_upd nt2 _ _ upd_same⟩
  · have w3 := w2.trans s3
    refine ⟨u, _, rfl, .inl (.inl eu), rfl, _, _, rfl, _, _, rfl, rfl, ?_⟩
    refine ⟨_, rfl, rfl, _, rfl, iteF ?_⟩
    refine ⟨_, rfl, v, _, rfl, .inl (.inl ev), rfl, _, _, rfl, _, _, rfl, rfl, ?_⟩
    have ia := wp_in h1 h2 h4 na
    have ib := wp_in h1 h2 h4 nb
    have im := abs_in (wn_25 sc a h4) (wn_25 sc b h4)
    refine ⟨_, rfl, _, rfl, _, rfl, _, rfl, _, rfl, _, rfl, rfl, rfl, x, sc, tl, _, _, _, way, false, rfl, hF.same w3, sx_01 sc tl a b, fit_lt im.1 im.2 (by decide), by omega, by omega, (fun z => nomatch z), fun t3 H4 nt3 s4 P3 => ?_⟩
    refine q t3 _ (w3.trans s4) ?_
    unfold mulR
    rw [if_neg n1, if_neg n2, if_neg (fun z => z.elim na nb)]
    exact P3
end
section
variable {P : Program} {w : World} {K : PySem.W.Frag} {mg : Str → Option Value} {base : Heap}
variable {C : Addr} {CD : Addr} {za : Nat → Addr} {zl : Nat → FuncData} {t73 t74 t75 tg_NEAR tg_CUT tg_UP tg_DOWN : Tok} {dO : Addr} {esO : Array DictEntry} {nO : Nat}
theorem quo_ok {sc tl k : Nat} {x y p : Int} (hx : 0 < x) (hy : 0 < y) (hy2 : y < 2 ^ (tl + 1)) (hk : 2 * tl + 2 ≤ k) : 0 < x * 2 ^ k / y ∧ p < GR.lap sc tl (x * 2 ^ k / y) p := by
  have pk := GM.pow_pos' k
  have p1 := GM.pow_pos' (tl + 1)
  have l1 : (2 : Int) ^ (tl + 1) * 2 ^ (tl + 1) ≤ x * 2 ^ k := by
    rw [← GM.pow_add']
    have a : (2 : Int) ^ (tl + 1 + (tl + 1)) ≤ 2 ^ k := GM.pow_le' (by omega)
    have b : 1 * 2 ^ k ≤ x * 2 ^ k := Int.mul_le_mul_of_nonneg_right (by omega) (by omega)
    omega
  have hq : (2 : Int) ^ (tl + 1) ≤ x * 2 ^ k / y := by
    refine (Int.le_ediv_iff_mul_le hy).mpr ?_
    have : (2 : Int) ^ (tl + 1) * y ≤ 2 ^ (tl + 1) * 2 ^ (tl + 1) := Int.mul_le_mul_of_nonneg_left (by omega) (by omega)
    omega
  have h0 : 0 < x * 2 ^ k / y := by omega
  refine ⟨h0, ?_⟩
  generalize x * 2 ^ k / y = q at *
  obtain ⟨m, hm, g1, g2⟩ := GR.bl_in h0
  have hm1 : tl + 1 ≤ m := by
    rcases Nat.lt_or_ge m (tl + 1) with c | c
    · have := GM.pow_le' (show m + 1 ≤ tl + 1 by omega)
      omega
    · exact c
  unfold GR.lap
  split <;> omega
def quoR (sc tl k : Nat) (s x p y e : Int) (w : Str) : Int × List Str := GR.rnd sc tl s (x * 2 ^ k / y) (p - e - k) w (!decide (x * 2 ^ k % y = 0))
theorem quo_eq {sc tl : Nat} {s x p y e : Int} {w : Str} (j : Nat) (hx : 0 < x) (hy : 0 < y) (hy2 : y < 2 ^ (tl + 1)) : quoR sc tl (2 * tl + 2 + j) s x p y e w = quoR sc tl (2 * tl + 2) s x p y e w := by
  have pj := GM.pow_pos' j
  have pk := GM.pow_pos' (2 * tl + 2)
  have ek : (2 : Int) ^ (2 * tl + 2 + j) = 2 ^ (2 * tl + 2) * 2 ^ j := GM.pow_add' _ _
  have eq : x * 2 ^ (2 * tl + 2 + j) / y / 2 ^ j = x * 2 ^ (2 * tl + 2) / y := by
    rw [Int.ediv_ediv_of_nonneg (Int.le_of_lt hy), ek, ← Int.mul_assoc, Int.mul_ediv_mul_of_pos_left _ _ pj]
  have ok := quo_ok (sc := sc) (p := p - e - ((2 * tl + 2 : Nat) : Int)) hx hy hy2 (Nat.le_refl (2 * tl + 2))
  have ep : p - e - ((2 * tl + 2 + j : Nat) : Int) + j = p - e - ((2 * tl + 2 : Nat) : Int) := by omega
  unfold quoR
  rw [GR.rnd_cut j (by rw [eq]; exact ok.1) (by rw [eq, ep]; exact ok.2), eq, ep]
  congr 1
  rw [Bool.eq_iff_iff, Bool.or_eq_true, Bool.not_eq_true', Bool.not_eq_true', Bool.not_eq_true', decide_eq_false_iff_not, decide_eq_false_iff_not, decide_eq_false_iff_not]
  have dm1 := Int.emod_add_mul_ediv (x * 2 ^ (2 * tl + 2 + j)) y
  have key : (x * 2 ^ (2 * tl + 2 + j) / y % 2 ^ j = 0 ∧ x * 2 ^ (2 * tl + 2 + j) % y = 0) ↔ x * 2 ^ (2 * tl + 2) % y = 0 := by
    constructor
    · rintro ⟨a, b⟩
      rw [b, Int.zero_add] at dm1
      have dm2 := Int.emod_add_mul_ediv (x * 2 ^ (2 * tl + 2 + j) / y) (2 ^ j)
      rw [a, Int.zero_add, eq] at dm2
      have e3 : (y * (x * 2 ^ (2 * tl + 2) / y)) * 2 ^ j = (x * 2 ^ (2 * tl + 2)) * 2 ^ j := by
        rw [Int.mul_assoc y, Int.mul_comm _ (2 ^ j), dm2, dm1, ek, Int.mul_assoc]
      have := Int.eq_of_mul_eq_mul_right (by omega) e3
      rw [← this, Int.mul_emod_right]
    · intro a
      have dm2 := Int.emod_add_mul_ediv (x * 2 ^ (2 * tl + 2)) y
      rw [a, Int.zero_add] at dm2
      have e2 : x * 2 ^ (2 * tl + 2 + j) = y * (x * 2 ^ (2 * tl + 2) / y * 2 ^ j) := by
        rw [ek, ← Int.mul_assoc, ← Int.mul_assoc, dm2]
      refine ⟨?_, ?_⟩
      · rw [e2, Int.mul_ediv_cancel_left _ (by omega), Int.mul_emod_left]
      · rw [e2, Int.mul_emod_right]
  constructor
  · intro h z
    have := key.mpr z
    exact h.elim (fun y => y this.1) (fun y => y this.2)
  · intro h
    by_cases z : x * 2 ^ (2 * tl + 2 + j) / y % 2 ^ j = 0
    · exact .inr (fun y => h (key.mp ⟨z, y⟩))
    · exact .inl z
def divR (sc tl : Nat) (a b : Int) (way : Str) : Int × List Str :=
  if srt sc tl (sz sc tl a) = "none" ∨ srt sc tl (sz sc tl b) = "none" then (noneW sc tl, [])
  else if (srt sc tl (sz sc tl a) = "nought" ∧ srt sc tl (sz sc tl b) = "nought") ∨ (srt sc tl (sz sc tl a) = "endless" ∧ srt sc tl (sz sc tl b) = "endless") then (noneW sc tl, ["bad"])
  else if srt sc tl (sz sc tl a) = "endless" then (endW sc tl (sx sc tl a b), [])
  else if srt sc tl (sz sc tl b) = "endless" ∨ srt sc tl (sz sc tl a) = "nought" then (sx sc tl a b * 2 ^ (sc + tl), [])
  else if srt sc tl (sz sc tl b) = "nought" then (endW sc tl (sx sc tl a b), ["bynought"])
  else quoR sc tl (2 * tl + 2) (sx sc tl a b) (ab (wn sc tl a)) (wp sc tl a) (ab (wn sc tl b)) (wp sc tl b) way
theorem sz_nn (sc tl : Nat) (v : Int) : 0 ≤ sz sc tl v := Int.emod_nonneg _ (by have := GM.pow_pos' (sc + tl); omega)
theorem srt_nought (m t : Nat) (s : Int) : srt m t s = "nought" ↔ (¬ GM.topS m t ≤ s ∧ s = 0) := by
  unfold srt
  constructor
  · intro h
    by_cases c : GM.topS m t ≤ s
    · rw [if_pos c] at h
      by_cases e : s = GM.topS m t
      · rw [if_pos e] at h
        exact absurd h (by decide +kernel)
      · rw [if_neg e] at h
        exact absurd h (by decide +kernel)
    · rw [if_neg c] at h
      by_cases e : s = 0
      · exact ⟨c, e⟩
      · rw [if_neg e] at h
        by_cases e2 : s / 2 ^ t = 0
        · rw [if_pos e2] at h
          exact absurd h (by decide +kernel)
        · rw [if_neg e2] at h
          exact absurd h (by decide +kernel)
  · intro h
    rw [if_neg h.1, if_pos h.2]
theorem num_zero {tl : Nat} {u : Int} (h0 : 0 ≤ u) : 0 ≤ GM.num tl u ∧ (GM.num tl u = 0 ↔ u = 0) := by
  have hp := GM.pow_pos' tl
  have n := Int.emod_nonneg u (show (2 : Int) ^ tl ≠ 0 by omega)
  have d := Int.emod_add_mul_ediv u (2 ^ tl)
  unfold GM.num
  by_cases c : u / 2 ^ tl = 0
  · rw [if_pos c]
    rw [c, Int.mul_zero, Int.add_zero] at d
    omega
  · rw [if_neg c]
    refine ⟨by omega, fun z => by omega, fun z => ?_⟩
    rw [z] at c
    exact absurd (Int.zero_ediv _) c
theorem num_in2 {tl : Nat} {u : Int} (h0 : 0 ≤ u) : GM.num tl u < 2 ^ (tl + 1) := by
  have hp := GM.pow_pos' tl
  have p1 : (2 : Int) ^ (tl + 1) = 2 ^ tl * 2 := GM.pow_s _
  have l := Int.emod_lt_of_pos u hp
  unfold GM.num
  split <;> omega
theorem ab_wn {sc tl : Nat} {v : Int} (hn : ¬ srt sc tl (sz sc tl v) = "nought") (ht : ¬ GM.topS sc tl ≤ sz sc tl v) : 0 < ab (wn sc tl v) ∧ ab (wn sc tl v) < 2 ^ (tl + 1) := by
  have h := num_zero (tl := tl) (sz_nn sc tl v)
  have l := num_in2 (tl := tl) (sz_nn sc tl v)
  have nz : ¬ GM.num tl (sz sc tl v) = 0 := fun z => hn ((srt_nought _ _ _).mpr ⟨ht, h.2.mp z⟩)
  unfold wn ab
  split <;> split <;> omega
theorem quo_fit {x y : Int} {k : Nat} (hx : 0 < x) (hx2 : x < 2 ^ 25) (hy : 0 < y) (hk : k ≤ 100) : Fit (x * 2 ^ k / y) := by
  have pk := GM.pow_pos' k
  have a : 0 ≤ x * 2 ^ k := Int.mul_nonneg (by omega) (by omega)
  have b : x * 2 ^ k / y ≤ x * 2 ^ k := Int.ediv_le_self _ a
  have c : x * 2 ^ k < 2 ^ 25 * 2 ^ k := Int.mul_lt_mul_of_pos_right hx2 pk
  have d : (2 : Int) ^ 25 * 2 ^ k ≤ 2 ^ 125 := by
    rw [← GM.pow_add']
    exact GM.pow_le' (by omega)
  exact fit_lt (k := 125) (Int.ediv_nonneg a (by omega)) (by omega) (by decide)
def spQR (K : PySem.W.Frag) (C : Addr) : Sp := fun vs H Q _ => ∃ (x oa ob : Addr) (sc tl : Nat) (s n p m e : Int) (way : Str), vs = [.ref x, .int s, .ref oa, .ref ob, .str way] ∧ FAt C H x sc tl ∧ (s = 0 ∨ s = 1) ∧ SqT K H oa [.int n, .int p] ∧ SqT K H ob [.int m, .int e] ∧ 0 < ab n ∧ ab n < 2 ^ (tl + 1) ∧ 0 < ab m ∧ ab m < 2 ^ (tl + 1) ∧ -400 ≤ p ∧ p ≤ 400 ∧ -400 ≤ e ∧ e ≤ 400 ∧
  ∀ t H', Same H H' → PairAt H' t (quoR sc tl (2 * tl + 2) s (ab n) p (ab m) e way) → Q (.ref t) H'
theorem ok_quotient_rounded (B : Bl mg) (L : LL K mg C CD za zl t73 t74 t75 tg_NEAR tg_CUT tg_UP tg_DOWN w dO esO nO) : FnOk P w K mg base CX0 6 (za 25) (zl 25) ["form", "sign", "one", "other", "way"] (spQR K C) := by
  have G_rounded : FnOk P w K mg base CX0 5 (za 4) (zl 4) ["form", "sign", "number", "power", "way", "more"] (spRnd C) := (ok_rounded B L).mono (by decide)
  refine L.F_quotient_rounded.ok sc_quotient_rounded (fun vs H Q E h => ?_) (fun cdv A outer s H vs Q E hr h => ?_)
  · obtain ⟨x, oa, ob, sc, tl, s, n, p, m, e, way, rfl, _⟩ := h
    rfl
  obtain ⟨x, oa, ob, sc, tl, s, n, p, m, e, way, rfl, hF, hs, hA, hB, n0, n1, m0, m1, p1, p2, e1, e2, q⟩ := h
  obtain ⟨dx, hx, h1, h2, h3, h4⟩ := id hF
  refine ⟨_, (pss_cons (ps_asg (pv 2) (pg_tup (by rfl) (pgs_cons (pg_name (i := 5) sc_quotient_rounded.nd rfl (.inl rfl)) (pgs_cons (pg_name (i := 6) sc_quotient_rounded.nd rfl (.inl rfl)) pgs_nil))))
    (pss_cons (ps_asg (pv 3) (pg_tup (by rfl) (pgs_cons (pg_name (i := 7) sc_quotient_rounded.nd rfl (.inl rfl)) (pgs_cons (pg_name (i := 8) sc_quotient_rounded.nd rfl (.inl rfl)) pgs_nil))))
    (pss_cons (ps_set (i := 9) sc_quotient_rounded.nd rfl (.inl rfl) (pe_op op_add (pe_op op_mul pe_int (pe_fld (pv 0) rfl)) pe_int))
    (pss_cons (ps_asg (pe_callB call_divmodW (by rfl) B.divmod boot_divmod (pa_cons (pe_op op_shlN (pe_callB call_abs (by rfl) B.abs boot_abs (pa_cons (pv 5) pa_nil)) (pv 9)) (pa_cons (pe_callB call_abs (by rfl) B.abs boot_abs (pa_cons (pv 7) pa_nil)) pa_nil))) (pg_tup (by rfl) (pgs_cons (pg_name (i := 10) sc_quotient_rounded.nd rfl (.inl rfl)) (pgs_cons (pg_name (i := 11) sc_quotient_rounded.nd rfl (.inl rfl)) pgs_nil))))
    (pss_one (ps_ret (pe_callN G_rounded hr (by rfl) L.m_rounded L.F_rounded.kp (L.kb_rounded_way_more).choose_spec pass0 (pa_cons (pv 0) (pa_cons (pv 1) (pa_cons (pv 10) (pa_cons (pe_op op_sub (pe_op op_sub (pv 6) (pv 8)) (pv 9)) pa_nil)))) (pk_cons (pv 4) (pk_cons (pe_cmpR op_ne (pv 11) pe_int (nomark _)) pk_nil))))))))), ?_⟩
  have p25 : (2 : Int) ^ (tl + 1) ≤ 2 ^ 25 := GM.pow_le' (by omega)
  refine ⟨_, rfl, oa, _, rfl, hA, rfl, _, _, rfl, _, _, rfl, rfl, ?_⟩
  refine ⟨_, rfl, ob, _, rfl, hB, rfl, _, _, rfl, _, _, rfl, rfl, ?_⟩
  refine ⟨_, rfl, x, C, dx, _, _, rfl, hx, L.T.cl, L.T.nt, fl_t _ _, _, _, rfl, rfl, .inl ⟨by decide, by decide⟩, _, _, rfl, rfl, ?_⟩
  have pk := GM.pow_pos' (2 * tl + 2)
  have pb : ab n * 2 ^ (2 * tl + 2) < 2 ^ 25 * 2 ^ (2 * tl + 2) := Int.mul_lt_mul_of_pos_right (by omega) pk
  refine ⟨_, rfl, n, rfl, _, rfl, _, 2 * tl + 2, rfl, congrArg V.int (by omega), shl_ok (n := 25) (by show (ab n).natAbs < _; omega) (by omega), _, rfl, m, rfl, _, _, rfl, divp_small m0 (by show ab m < 2 ^ 250; omega), fun P np => ?_⟩
  have sP := same_upd (o := .tup [.int (ab n * 2 ^ (2 * tl + 2) / ab m), .int (ab n * 2 ^ (2 * tl + 2) % ab m)]) np
  refine ⟨P, _, rfl, .inl (.inl upd_same), rfl, _, _, rfl, _, _, rfl, rfl, ?_⟩
  have F1 := hF.same sP
  refine ⟨_, rfl, _, rfl, _, rfl, _, rfl, _, rfl, _, _, rfl, rfl, _, rfl, _, _, rfl, rfl, _, rfl, _, rfl, rfl, rfl, rfl, ?_⟩
  have ok := quo_ok (sc := sc) (p := p - e - (2 * (tl : Int) + 2)) n0 m0 m1 (Nat.le_refl (2 * tl + 2))
  refine ⟨x, sc, tl, s, _, _, way, _, rfl, F1, hs, quo_fit (x := ab n) (y := ab m) n0 (by omega) m0 (by omega), by omega, by omega, fun _ => ⟨by have := ok.1; show ¬ ab n * 2 ^ (2 * tl + 2) / ab m = 0; omega, ok.2⟩, fun t3 H4 nt3 s4 P3 => ?_⟩
  refine q t3 _ (sP.trans s4) ?_
  unfold quoR
  rw [dvi] at P3
  rw [show p - e - ((2 * tl + 2 : Nat) : Int) = p - e - (2 * (tl : Int) + 2) by omega]
  exact P3
def spDiv (C : Addr) : Sp := fun vs H Q _ => ∃ (x : Addr) (sc tl : Nat) (a b : Int) (way : Str), vs = [.ref x, .int a, .int b, .str way] ∧ FAt C H x sc tl ∧
  ∀ t H', Same H H' → PairAt H' t (divR sc tl a b way) → Q (.ref t) H'
theorem srt_dif (sc tl : Nat) (s : Int) : ¬ (srt sc tl s = "endless" ∧ srt sc tl s = "nought") := fun h => by
  rw [h.1] at h
  exact absurd h.2 (by decide +kernel)
theorem ok_divided (B : Bl mg) (L : LL K mg C CD za zl t73 t74 t75 tg_NEAR tg_CUT tg_UP tg_DOWN w dO esO nO) : FnOk P w K mg base CX0 7 (za 13) (zl 13) ["form", "a", "b", "way"] (spDiv C) := by
  have G_has_none : FnOk P w K mg base CX0 6 (za 15) (zl 15) ["form", "words"] (spHN K C) := (ok_has_none B L).mono (by decide)
  have G_Form_none_word : FnOk P w K mg base CX0 6 (za 76) (zl 76) ["self"] (spNamed0 C) := (ok_Form_none_word B L).mono (by decide)
  have G_Form_sort_of : FnOk P w K mg base CX0 6 (za 72) (zl 72) ["self", "word"] (spSort C) := (ok_Form_sort_of B L).mono (by decide)
  have G_unlike_sign : FnOk P w K mg base CX0 6 (za 19) (zl 19) ["form", "a", "b"] (spUnl C) := (ok_unlike_sign B L).mono (by decide)
  have G_bad : FnOk P w K mg base CX0 6 (za 16) (zl 16) ["form"] (spBad C) := (ok_bad B L).mono (by decide)
  have G_Form_endless : FnOk P w K mg base CX0 6 (za 74) (zl 74) ["self", "sign"] (spNm C mEn mNo) := (ok_Form_endless B L).mono (by decide)
  have G_Form_nought : FnOk P w K mg base CX0 6 (za 73) (zl 73) ["self", "sign"] (spNm C mNo mNo) := (ok_Form_nought B L).mono (by decide)
  have G_Form_worth : FnOk P w K mg base CX0 6 (za 78) (zl 78) ["self", "word"] (spWorth C) := (ok_Form_worth B L).mono (by decide)
  have G_quotient_rounded : FnOk P w K mg base CX0 6 (za 25) (zl 25) ["form", "sign", "one", "other", "way"] (spQR K C) := (ok_quotient_rounded B L).mono (by decide)
  refine L.F_divided.ok sc_divided (fun vs H Q E h => ?_) (fun cdv A outer s H vs Q E hr h => ?_)
  · obtain ⟨x, sc, tl, a, b, way, rfl, _⟩ := h
    rfl
  obtain ⟨x, sc, tl, a, b, way, rfl, hF, q⟩ := h
  obtain ⟨dx, hx, h1, h2, h3, h4⟩ := id hF
  refine ⟨_, (pss_cons (ps_if (pt_val (pe_call G_has_none hr (by rfl) L.m_has_none L.F_has_none.kp L.b_has_none .nil pass0 (pa_cons (pv 0) (pa_cons (pe_tup (pa_cons (pv 1) (pa_cons (pv 2) pa_nil))) pa_nil)))) (pss_one (ps_ret (pe_tup (pa_cons (pe_meth0 (pv 0) L.T.cl L.M_Form_none_word G_Form_none_word hr L.b_Form_none_word .nil pass0) (pa_cons (pe_tup pa_nil) pa_nil))))) pss_nil)
    (pss_cons (ps_set (i := 4) sc_divided.nd rfl (.inl rfl) (pe_meth (pv 0) L.T.cl L.M_Form_sort_of G_Form_sort_of hr L.b_Form_sort_of .nil pass0 (pa_cons (pv 1) pa_nil)))
    (pss_cons (ps_set (i := 5) sc_divided.nd rfl (.inl rfl) (pe_meth (pv 0) L.T.cl L.M_Form_sort_of G_Form_sort_of hr L.b_Form_sort_of .nil pass0 (pa_cons (pv 2) pa_nil)))
    (pss_cons (ps_set (i := 6) sc_divided.nd rfl (.inl rfl) (pe_call G_unlike_sign hr (by rfl) L.m_unlike_sign L.F_unlike_sign.kp L.b_unlike_sign .nil pass0 (pa_cons (pv 0) (pa_cons (pv 1) (pa_cons (pv 2) pa_nil)))))
    (pss_cons (ps_if (PW.pt (pw_and (pt_cmpR op_eq (pv 4) (pv 5) (nomark _)) (pw_and1 (pt_cmpR op_in_seq (pv 4) (pe_tup (pa_cons pe_str (pa_cons pe_str pa_nil))) (by rfl))))) (pss_one (ps_ret (pe_call G_bad hr (by rfl) L.m_bad L.F_bad.kp L.b_bad .nil pass0 (pa_cons (pv 0) pa_nil)))) pss_nil)
    (pss_cons (ps_if (pt_cmpR op_eq (pv 4) pe_str (nomark _)) (pss_one (ps_ret (pe_tup (pa_cons (pe_meth (pv 0) L.T.cl L.M_Form_endless G_Form_endless hr L.b_Form_endless .nil pass0 (pa_cons (pv 6) pa_nil)) (pa_cons (pe_tup pa_nil) pa_nil))))) pss_nil)
    (pss_cons (ps_if (PW.pt (pw_or (pt_cmpR op_eq (pv 5) pe_str (nomark _)) (pw_or1 (pt_cmpR op_eq (pv 4) pe_str (nomark _))))) (pss_one (ps_ret (pe_tup (pa_cons (pe_meth (pv 0) L.T.cl L.M_Form_nought G_Form_nought hr L.b_Form_nought .nil pass0 (pa_cons (pv 6) pa_nil)) (pa_cons (pe_tup pa_nil) pa_nil))))) pss_nil)
    (pss_cons (ps_if (pt_cmpR op_eq (pv 5) pe_str (nomark _)) (pss_one (ps_ret (pe_tup (pa_cons (pe_meth (pv 0) L.T.cl L.M_Form_endless G_Form_endless hr L.b_Form_endless .nil pass0 (pa_cons (pv 6) pa_nil)) (pa_cons (pe_tup (pa_cons pe_str pa_nil)) pa_nil))))) pss_nil)
    (pss_one (ps_ret (pe_call G_quotient_rounded hr (by rfl) L.m_quotient_rounded L.F_quotient_rounded.kp L.b_quotient_rounded .nil pass0 (pa_cons (pv 0) (pa_cons (pv 6) (pa_cons (pe_meth (pv 0) L.T.cl L.M_Form_worth G_Form_worth hr L.b_Form_worth .nil pass0 (pa_cons (pv 1) pa_nil)) (pa_cons (pe_meth (pv 0) L.T.cl L.M_Form_worth G_Form_worth hr L.b_Form_worth .nil pass0 (pa_cons (pv 2) pa_nil)) (pa_cons (pv 3) pa_nil)))))))))))))))), ?_⟩
  refine ⟨_, rfl, _, rfl, _, rfl, (by show 2 ≤ sizeLine; decide), fun t nt => ?_⟩
  have st := same_upd (o := .tup [.int a, .int b]) nt
  refine ⟨x, t, sc, tl, [a, b], rfl, hF.same st, .inl (.inl upd_same), Nat.le_of_ble_eq_true rfl, fun r H1 s1 hr1 => ?_⟩
  have w1 := st.trans s1
  have e1 : r = true ↔ (srt sc tl (sz sc tl a) = "none" ∨ srt sc tl (sz sc tl b) = "none") := by
    rw [hr1]
    simp
  unfold divR at q
  refine ⟨_, rfl, ite2 (fun c => ?_) (fun c => ?_)⟩
  · refine ⟨_, rfl, x, dx, _, rfl, w1 _ _ hx, rfl, x, sc, tl, rfl, hF.same w1, Nat.zero_le _, fun e ne => ⟨(by show 2 ≤ sizeLine; decide), fun u nu => ?_⟩⟩
    have se := same_upd (o := .tup []) ne
    rw [show (0 * 2 ^ (sc + tl) + ((2 ^ sc - 1) * 2 ^ tl + 2 ^ (tl - 1)) : Int) = noneW sc tl by unfold noneW; omega]
    rw [if_pos (e1.mp c)] at q
    exact q u _ ((w1.trans se).trans (same_upd nu)) ⟨e, upd_same, same_upd nu _ _ upd_same⟩
  have n1 := fun z => c (e1.mpr z)
  rw [if_neg n1] at q
  refine ⟨_, rfl, x, dx, _, rfl, w1 _ _ hx, rfl, _, rfl, x, sc, tl, a, rfl, hF.same w1, fun H2 s2 => ?_⟩
  have w2 := w1.trans s2
  refine ⟨_, rfl, x, dx, _, rfl, w2 _ _ hx, rfl, _, rfl, x, sc, tl, b, rfl, hF.same w2, fun H3 s3 => ?_⟩
  have w3 := w2.trans s3
  refine ⟨_, rfl, _, rfl, _, rfl, x, sc, tl, a, b, rfl, hF.same w3, fun H4 s4 => ?_⟩
  have w4 := w3.trans s4
  have tpa := srt_top sc tl (sz sc tl a)
  have tpb := srt_top sc tl (sz sc tl b)
  have wnA := fun hn ht => ab_wn (sc := sc) (tl := tl) (v := a) hn ht
  have wnB := fun hn ht => ab_wn (sc := sc) (tl := tl) (v := b) hn ht
  have s01 := sx_01 sc tl a b
  have sd := srt_dif sc tl (sz sc tl a)
  try dsimp only [tNext, tSeq, gName]
  refine ifS_ev (fun r H' => (r = true ↔ ((srt sc tl (sz sc tl a) = "nought" ∧ srt sc tl (sz sc tl b) = "nought") ∨ (srt sc tl (sz sc tl a) = "endless" ∧ srt sc tl (sz sc tl b) = "endless"))) ∧ Same H4 H') (fun Q' q' => ?_) (fun HX hX => ?_) (fun HX hX => ?_)
  · refine ⟨_, rfl, _, rfl, rfl, _, rfl, ite2 (fun ca => ?_) (fun ca => ?_)⟩
    · have ca1 : srt sc tl (sz sc tl a) = srt sc tl (sz sc tl b) := V.str.inj (of_decide_eq_true ca)
      refine ⟨_, rfl, (by show 2 ≤ sizeLine; decide), fun U nU => ?_⟩
      refine ⟨U, _, rfl, .inr (.inl (.inl upd_same)), rfl, rfl, _, rfl, q' _ _ ⟨?_, same_upd nU⟩⟩
      show inV (.str (srt sc tl (sz sc tl a))) [.str "nought", .str "endless"] = true ↔ _
      rw [in_two, decide_eq_true_iff, ← ca1]
      exact ⟨fun z => z.imp (fun y => ⟨y.symm, y.symm⟩) (fun y => ⟨y.symm, y.symm⟩), fun z => z.imp (fun y => y.1.symm) (fun y => y.1.symm)⟩
    · have ca1 : ¬ srt sc tl (sz sc tl a) = srt sc tl (sz sc tl b) := fun z => ca (decide_eq_true (congrArg V.str z))
      exact q' _ _ ⟨⟨fun z => Bool.noConfusion z, fun z => absurd (z.elim (fun y => y.1.trans y.2.symm) (fun y => y.1.trans y.2.symm)) ca1⟩, Same.refl _⟩
  · have w5 := w4.trans hX.2
    refine ⟨_, rfl, x, sc, tl, rfl, hF.same w5, fun u H6 nu s6 pu => ?_⟩
    rw [if_pos (hX.1.mp rfl)] at q
    exact q u _ (w5.trans s6) pu
  have w5 := w4.trans hX.2
  rw [if_neg (mt hX.1.mpr (by decide))] at q
  have F5 := hF.same w5
  refine ⟨_, rfl, rfl, _, rfl, ite2 (fun ca => ?_) (fun ca => ?_)⟩
  · rw [if_pos (V.str.inj (of_decide_eq_true ca))] at q
    refine ⟨_, rfl, x, dx, _, rfl, w5 _ _ hx, rfl, _, rfl, x, sc, tl, _, rfl, F5, s01, Nat.zero_le _, fun e ne => ⟨(by show 2 ≤ sizeLine; decide), fun u nu => ?_⟩⟩
    exact q u _ ((w5.trans (same_upd ne)).trans (same_upd nu)) ⟨e, upd_same, same_upd nu _ _ upd_same⟩
  have ca1 : ¬ srt sc tl (sz sc tl a) = "endless" := fun z => ca (decide_eq_true (congrArg V.str z))
  rw [if_neg ca1] at q
  have noughtGo : (srt sc tl (sz sc tl b) = "endless" ∨ srt sc tl (sz sc tl a) = "nought") → ∀ e, HX e = none → ∀ u, (upd HX e (.tup [])) u = none → Q (.ref u) (upd (upd HX e (.tup [])) u (.tup [.int (sx sc tl a b * 2 ^ (sc + tl) + (0 * 2 ^ tl + 0)), .ref e])) := fun hc e ne u nu => by
    rw [if_pos hc] at q
    refine q u _ ((w5.trans (same_upd ne)).trans (same_upd nu)) ⟨e, ?_, same_upd nu _ _ upd_same⟩
    rw [upd_same, Int.zero_mul, Int.add_zero, Int.add_zero]
  refine ⟨_, rfl, rfl, _, rfl, ite2 (fun cb => ?_) (fun cb => ?_)⟩
  · have cb1 := V.str.inj (of_decide_eq_true cb)
    refine iteT ?_
    refine ⟨_, rfl, x, dx, _, rfl, w5 _ _ hx, rfl, _, rfl, x, sc, tl, _, rfl, F5, s01, Nat.zero_le _, fun e ne => ⟨(by show 2 ≤ sizeLine; decide), fun u nu => ?_⟩⟩
    exact noughtGo (.inl cb1) e ne u nu
  have cb1 : ¬ srt sc tl (sz sc tl b) = "endless" := fun z => cb (decide_eq_true (congrArg V.str z))
  refine ⟨_, rfl, rfl, _, rfl, ite2 (fun cc => ?_) (fun cc => ?_)⟩
  · have cc1 := V.str.inj (of_decide_eq_true cc)
    refine ⟨_, rfl, x, dx, _, rfl, w5 _ _ hx, rfl, _, rfl, x, sc, tl, _, rfl, F5, s01, Nat.zero_le _, fun e ne => ⟨(by show 2 ≤ sizeLine; decide), fun u nu => ?_⟩⟩
    exact noughtGo (.inr cc1) e ne u nu
  have cc1 : ¬ srt sc tl (sz sc tl a) = "nought" := fun z => cc (decide_eq_true (congrArg V.str z))
  rw [if_neg (fun z => z.elim cb1 cc1)] at q
  refine ⟨_, rfl, rfl, _, rfl, ite2 (fun cd => ?_) (fun cd => ?_)⟩
  · rw [if_pos (V.str.inj (of_decide_eq_true cd))] at q
    refine ⟨_, rfl, x, dx, _, rfl, w5 _ _ hx, rfl, _, rfl, x, sc, tl, _, rfl, F5, s01, (by show 1 ≤ sizeLine; decide), fun e ne => ⟨(by show 2 ≤ sizeLine; decide), fun u nu => ?_⟩⟩
    exact q u _ ((w5.trans (same_upd ne)).trans (same_upd nu)) ⟨e, upd_same, same_upd nu _ _ upd_same⟩
  have cd1 : ¬ srt sc tl (sz sc tl b) = "nought" := fun z => cd (decide_eq_true (congrArg V.str z))
  rw [if_neg cd1] at q
  have na : ¬ GM.topS sc tl ≤ sz sc tl a := fun z => (tpa.mpr z).elim ca1 (fun z => n1 (.inl z))
  have nb : ¬ GM.topS sc tl ≤ sz sc tl b := fun z => (tpb.mpr z).elim cb1 (fun z => n1 (.inr z))
  have ia := wp_in h1 h2 h4 na
  have ib := wp_in h1 h2 h4 nb
  refine ⟨_, rfl, _, rfl, _, rfl, x, dx, _, rfl, w5 _ _ hx, rfl, _, rfl, x, sc, tl, a, rfl, F5, fun H6 s6 z => absurd z na, fun H6 pa s6 _ ea => ?_⟩
  have w6 := w5.trans s6
  refine ⟨_, rfl, x, dx, _, rfl, w6 _ _ hx, rfl, _, rfl, x, sc, tl, b, rfl, hF.same w6, fun H7 s7 z => absurd z nb, fun H7 pb s7 _ eb => ?_⟩
  have w7 := w6.trans s7
  refine ⟨_, rfl, x, pa, pb, sc, tl, _, _, _, _, _, way, rfl, hF.same w7, s01, .inl (.inl (s7 _ _ ea)), .inl (.inl eb), (wnA cc1 na).1, (wnA cc1 na).2, (wnB cd1 nb).1, (wnB cd1 nb).2, ia.1, ia.2, ib.1, ib.2, fun t3 H8 s8 P3 => ?_⟩
  exact q t3 _ (w7.trans s8) P3
end
section
variable {M : Model} {A : Around} {E : Value → Shared → Prop} {s : Shared}
theorem ks_callKW {f : Value} {first : List Value} {pos : Pos} {Q : Value → Shared → Prop} {P : Heap → Prop} {args : List (Bool × Sem Value)} {kws : List (Option Str × Sem Value)} (hst : args.any (·.1) = true)
    (hk : ∀ h, P h → ∃ k, (k = Keeper.frame ∨ k = Keeper.machine ∨ k = Keeper.boundFrame) ∧ PySem.W.Looks M h (keeperOf f) k)
    (h : wpAny M A (evalArgs f true args kws) (fun a s₁ => P s₁.heap ∧ wpAny M A (call f (first ++ a.pos) a.kw) Q E s₁) E s) : wpAny M A (callWith pos f first args kws) Q E s := by
  unfold callWith
  refine wpAny_bind (wpAny_holding (wpAny_mono h (fun a s₁ h₁ => wpAny_bind (wpAny_standAt ?_)) fun _ _ x => x))
  obtain ⟨k, hk', L⟩ := hk _ h₁.1
  simp only [hst, Bool.true_or]
  refine wpAny_bind (L.here ?_)
  have tail : ∀ {t : Sem Value}, wpAny M A t Q E s₁ → wpAny M A (t >>= fun r => holding [r] point >>= fun _ => pure r) Q E s₁ :=
    fun ht => wpAny_bind (wpAny_mono ht (fun r s₂ hr => wpAny_bind (wpAny_holding (wpAny_point (wpAny_pure hr)))) fun _ _ x => x)
  have marked (mk : Value) : wpAny M A (callMarked mk f (first ++ a.pos) a.kw) Q E s₁ := by unfold callMarked; exact PySem.Calls.wpAny_keep h₁.2
  rcases hk' with rfl | rfl | rfl <;> dsimp only <;> first | exact tail (marked _) | exact tail (wpAny_operating h₁.2)
end
structure HeldN (P : Program) (w : World) (K : PySem.W.Frag) (mg : Str → Option Value) (base : Heap) (k : Nat) (f : Addr) (n : Nat) (ks : List Str) (sp : Sp) (gV : List V → List V → List V) : Prop where
  ex : ∃ (fd : FuncData) (ps : List Str) (g : List Value → List Value → List Value), FnOk P w K mg base CX0 k f fd ps sp ∧ PySem.W.keepIn K (.ref f) = true ∧ KBn K fd ps n ks g gV
def tCallLS (i m : Nat) (S : Addr → Nat → Sp → (List V → List V → List V) → Prop) (t tk : TA) : TE := fun σ H Q => ∃ f n sp gV, σ[i]? = some (some (.ref f)) ∧ S f n sp gV ∧ t σ H fun vs H1 => tk σ H1 fun zs H2 => vs.length = n ∧ zs.length = m ∧ sp (gV vs zs) H2 Q E0
section
variable {X : Cx} {k i : Nat} {ks : List Str} {x : Str} {p pos : Pos} {e : Expr} {es : List Expr} {kws : List Keyword} {t tk : TA} {S : Addr → Nat → Sp → (List V → List V → List V) → Prop}
theorem pe_callLS (A : ∀ f n sp gV, S f n sp gV → HeldN X.prog X.w X.K X.mg X.base k f n ks sp gV) (hr : Room k X.A) (hN : X.N[i]? = some x) (hv : Vis X.env.scope x) (ha : PA X (e :: es) t) (hkw : PK X kws tk)
    (hall : (backToKw pos (keywordEach kws X.env)).all (·.1.isSome) = true := by rfl) (hks : (backToKw pos (keywordEach kws X.env)).filterMap (·.1) = ks := by rfl)
    (hdb : (x == ("__debug__" : Str)) = false := by decide) (hcd : (x == ("__classdict__" : Str)) = false := by decide)
    (he : starEach (e :: es) X.env = (false, eval e X.env) :: starEach es X.env := by rfl) (hst : (backTo pos (starEach (e :: es) X.env)).any (·.1) = true := by rfl) :
    PE X (.Call (.Name x p) (e :: es) kws pos) (tCallLS i ks.length S t tk) := by
  refine ⟨fun pins s σ H Q I h => ?_⟩
  obtain ⟨f, n, sp, gV, hs, hS, ht⟩ := h
  obtain ⟨fd, ps, g, F, hk, hb⟩ := (A f n sp gV hS).ex
  refine wpAny_Call_Name_kw (thn ((pe_var (pos := p) hN hv hdb hcd).run pins s σ H (fun v H1 => v = .ref f ∧ H1 = H) I ⟨.ref f, hs, rfl, rfl⟩) fun u s1 ⟨v, H1, I1, r1, q1⟩ => ?_)
  obtain ⟨rfl, rfl⟩ := q1
  cases r1
  refine ks_callKW hst (PySem.W.keeps_K hk) (evalArgs_kw2 hall (thn (ha.run pos pins s1 σ _ _ I1 ht) fun us s2 ⟨vs, H2, I2, r, q⟩ => ?_) he)
  refine thn (hkw.run pos pins s2 σ H2 _ I2 q) fun ws s3 ⟨zs, H3, I3, rz, l1, l2, q3⟩ => ⟨I3.kIn, ?_⟩
  rw [hks]
  exact run_fnN F hr hb pass0 I3 r rz l1 l2 q3
theorem ix_kd {d : Addr} {es : Array DictEntry} {n : Nat} (D : KDict X.K X.w d es n) : IxR X (fun x y H Q => ∃ (z : Str) (u0 : Value) (v0 : V), x = .ref d ∧ y = .str z ∧ PySem.W.nsIn X.K d z = some (some u0) ∧ RelV v0 u0 ∧ Q v0 H) := by
  intro value slice pins s σ H x y v u Q I rx ry h hs
  obtain ⟨z, u0, v0, rfl, rfl, e, r, q⟩ := h
  cases rx
  obtain ⟨t, rfl⟩ := ry
  exact tail_any (kd_type D I) PySem.F.slot_dict_getitem.lookup (wpAny_getItem_of (PySem.strKind_is X.prog X.w z t) (PySem.W.mapOf_K (prog := X.prog) I.kIn D.at_ D.lit) (PySem.W.find_K D.at_ e) ⟨v0, H, I.tok _, r, q⟩) hs
end
section
variable {P : Program} {w : World} {K : PySem.W.Frag} {mg : Str → Option Value} {base : Heap}
variable {C : Addr} {CD : Addr} {za : Nat → Addr} {zl : Nat → FuncData} {t73 t74 t75 tg_NEAR tg_CUT tg_UP tg_DOWN : Tok} {dO : Addr} {esO : Array DictEntry} {nO : Nat}
def doneR (sc tl : Nat) (op : Str) (ws : List Int) (way : Str) : Option (Int × List Str) :=
  match ws with
  | [a, b] => if op = "add" then some (addR sc tl a b way) else if op = "take" then some (addR sc tl a (trn sc tl b) way) else if op = "times" then some (mulR sc tl a b way) else if op = "over" then some (divR sc tl a b way) else none
  | [a, b, c] => if op = "join" then some (joinR sc tl a b c way) else none
  | _ => none
def spDone (K : PySem.W.Frag) (C : Addr) : Sp := fun vs H Q _ => ∃ (x u : Addr) (sc tl : Nat) (op way : Str) (ws : List Int) (r : Int × List Str), vs = [.ref x, .str op, .ref u, .str way] ∧ FAt C H x sc tl ∧ (SqT K H u (ws.map V.int) ∨ SqL K H u (ws.map V.int)) ∧ doneR sc tl op ws way = some r ∧
  ∀ t H', Same H H' → PairAt H' t r → Q (.ref t) H'
def gApp : List V → List V → List V := fun vs zs => vs ++ zs
def SOps (C aA aT aM aO aJ : Addr) : Addr → Nat → Sp → (List V → List V → List V) → Prop := fun f n sp gV => (f = aA ∧ n = 3 ∧ sp = spAdd C ∧ gV = gApp) ∨ (f = aT ∧ n = 3 ∧ sp = spTake2 C ∧ gV = gApp) ∨ (f = aM ∧ n = 3 ∧ sp = spMul C ∧ gV = gApp) ∨ (f = aO ∧ n = 3 ∧ sp = spDiv C ∧ gV = gApp) ∨ (f = aJ ∧ n = 4 ∧ sp = spJoin C ∧ gV = gApp)
theorem ok_done (B : Bl mg) (L : LL K mg C CD za zl t73 t74 t75 tg_NEAR tg_CUT tg_UP tg_DOWN w dO esO nO) : FnOk P w K mg base CX0 9 (za 26) (zl 26) ["form", "op", "words", "way"] (spDone K C) := by
  have G_added : FnOk P w K mg base CX0 8 (za 10) (zl 10) ["form", "a", "b", "way"] (spAdd C) := (ok_added B L).mono (by decide)
  have G_taken : FnOk P w K mg base CX0 8 (za 11) (zl 11) ["form", "a", "b", "way"] (spTake2 C) := (ok_taken B L).mono (by decide)
  have G_multiplied : FnOk P w K mg base CX0 8 (za 12) (zl 12) ["form", "a", "b", "way"] (spMul C) := (ok_multiplied B L).mono (by decide)
  have G_divided : FnOk P w K mg base CX0 8 (za 13) (zl 13) ["form", "a", "b", "way"] (spDiv C) := (ok_divided B L).mono (by decide)
  have G_joined : FnOk P w K mg base CX0 8 (za 14) (zl 14) ["form", "a", "b", "c", "way"] (spJoin C) := (ok_joined B L).mono (by decide)
  refine L.F_done.ok sc_done (fun vs H Q E h => ?_) (fun cdv A outer s H vs Q E hr h => ?_)
  · obtain ⟨x, u, sc, tl, op, way, ws, r, rfl, _⟩ := h
    rfl
  obtain ⟨x, u, sc, tl, op, way, ws, r, rfl, hF, hU, hr0, q⟩ := h
  have AS : ∀ f n sp gV, SOps C (za 10) (za 11) (za 12) (za 13) (za 14) f n sp gV → HeldN P w K mg base 8 f n ["way"] sp gV := fun f n sp gV hS => by
    rcases hS with ⟨rfl, rfl, rfl, rfl⟩ | ⟨rfl, rfl, rfl, rfl⟩ | ⟨rfl, rfl, rfl, rfl⟩ | ⟨rfl, rfl, rfl, rfl⟩ | ⟨rfl, rfl, rfl, rfl⟩
    · exact ⟨⟨_, _, _, G_added, L.F_added.kp, L.kb_added_way.choose_spec⟩⟩
    · exact ⟨⟨_, _, _, G_taken, L.F_taken.kp, L.kb_taken_way.choose_spec⟩⟩
    · exact ⟨⟨_, _, _, G_multiplied, L.F_multiplied.kp, L.kb_multiplied_way.choose_spec⟩⟩
    · exact ⟨⟨_, _, _, G_divided, L.F_divided.kp, L.kb_divided_way.choose_spec⟩⟩
    · exact ⟨⟨_, _, _, G_joined, L.F_joined.kp, L.kb_joined_way.choose_spec⟩⟩
  refine ⟨_, (pss_cons (ps_set (i := 4) sc_done.nd rfl (.inl rfl) (pe_ix (ix_kd L.OPS_D) (pe_glob (v := .ref dO) rfl L.m_OPS rfl) (pv 1) (fun _ _ => rfl)))
    (pss_one (ps_ret (pe_callLS (k := 8) (i := 4) (S := SOps C (za 10) (za 11) (za 12) (za 13) (za 14)) AS hr rfl (Or.inl rfl) (pa_cons (pv 0) (StX.pa_star (pv 2) pa_nil)) (pk_cons (pv 3) pk_nil))))), ?_⟩
  unfold doneR at hr0
  split at hr0
  · rename_i a b
    split at hr0
    · rename_i e
      subst e
      have hr' := Option.some.inj hr0
      subst hr'
      refine ⟨_, rfl, _, .ref (za 10), V.ref (za 10), rfl, rfl, L.o_add, rfl, ?_⟩
      exact ⟨(za 10), _, _, _, rfl, .inl ⟨rfl, rfl, rfl, rfl⟩, _, rfl, _, rfl, u, _, rfl, hU, _, rfl, rfl, rfl, x, sc, tl, a, b, way, rfl, hF, q⟩
    split at hr0
    · rename_i e
      subst e
      have hr' := Option.some.inj hr0
      subst hr'
      refine ⟨_, rfl, _, .ref (za 11), V.ref (za 11), rfl, rfl, L.o_take, rfl, ?_⟩
      exact ⟨(za 11), _, _, _, rfl, .inr (.inl ⟨rfl, rfl, rfl, rfl⟩), _, rfl, _, rfl, u, _, rfl, hU, _, rfl, rfl, rfl, x, sc, tl, a, b, way, rfl, hF, q⟩
    split at hr0
    · rename_i e
      subst e
      have hr' := Option.some.inj hr0
      subst hr'
      refine ⟨_, rfl, _, .ref (za 12), V.ref (za 12), rfl, rfl, L.o_times, rfl, ?_⟩
      exact ⟨(za 12), _, _, _, rfl, .inr (.inr (.inl ⟨rfl, rfl, rfl, rfl⟩)), _, rfl, _, rfl, u, _, rfl, hU, _, rfl, rfl, rfl, x, sc, tl, a, b, way, rfl, hF, q⟩
    split at hr0
    · rename_i e
      subst e
      have hr' := Option.some.inj hr0
      subst hr'
      refine ⟨_, rfl, _, .ref (za 13), V.ref (za 13), rfl, rfl, L.o_over, rfl, ?_⟩
      exact ⟨(za 13), _, _, _, rfl, .inr (.inr (.inr (.inl ⟨rfl, rfl, rfl, rfl⟩))), _, rfl, _, rfl, u, _, rfl, hU, _, rfl, rfl, rfl, x, sc, tl, a, b, way, rfl, hF, q⟩
    cases hr0
  · rename_i a b c
    split at hr0
    · rename_i e
      subst e
      have hr' := Option.some.inj hr0
      subst hr'
      refine ⟨_, rfl, _, .ref (za 14), V.ref (za 14), rfl, rfl, L.o_join, rfl, ?_⟩
      exact ⟨(za 14), _, _, _, rfl, .inr (.inr (.inr (.inr ⟨rfl, rfl, rfl, rfl⟩))), _, rfl, _, rfl, u, _, rfl, hU, _, rfl, rfl, rfl, x, sc, tl, a, b, c, way, rfl, hF, q⟩
    cases hr0
  · cases hr0
end
section
variable {P : Program} {w : World} {K : PySem.W.Frag} {mg : Str → Option Value} {base : Heap}
variable {C : Addr} {CD : Addr} {za : Nat → Addr} {zl : Nat → FuncData} {t73 t74 t75 tg_NEAR tg_CUT tg_UP tg_DOWN : Tok} {dO : Addr} {esO : Array DictEntry} {nO : Nat}
theorem dp_pair {H : Hp} {p : Addr} {r : Int × List Str} (h : PairAt H p r) : Dp K H (.ref p) (.tuple [.int r.1, .tuple (r.2.map PyData.str)]) := by
  obtain ⟨f, e1, e2⟩ := h
  refine .tup (.inl (.inl e1)) (.cons (.int _) (.cons (.tup (.inl (.inl e2)) ?_) .nil))
  generalize r.2 = l
  induction l with
  | nil => exact .nil
  | cons x l ih => exact .cons (.str x) ih
theorem lv_pair3 (r : Int × List Str) (h : r.2.length ≤ 1000) : Lv 3 (.tuple [.int r.1, .tuple (r.2.map PyData.str)]) := by
  refine ⟨by show 2 ≤ 1000000; decide, fun d hd => ?_⟩
  rcases List.mem_cons.mp hd with e | hd
  · rw [e]
    trivial
  · rcases List.mem_cons.mp hd with e | hd
    · rw [e]
      refine ⟨by rw [List.length_map]; omega, fun d hd => ?_⟩
      obtain ⟨x, _, rfl⟩ := List.mem_map.mp hd
      trivial
    · exact nomatch hd
theorem rnd_len (sc tl : Nat) (s n p : Int) (w : Str) (m : Bool) : (GR.rnd sc tl s n p w m).2.length ≤ 1000 := by
  unfold GR.rnd GR.flg
  repeat' split
  all_goals first | exact (by decide : 2 ≤ 1000) | exact (by decide : 0 ≤ 1000) | exact (by decide : 1 ≤ 1000)
theorem PairAt.same {H H' : Hp} {p : Addr} {r : Int × List Str} (h : PairAt H p r) (s : Same H H') : PairAt H' p r := by
  obtain ⟨f, e1, e2⟩ := h
  exact ⟨f, s _ _ e1, s _ _ e2⟩
theorem mul_len (sc tl : Nat) (a b : Int) (w : Str) : (mulR sc tl a b w).2.length ≤ 1000 := by
  unfold mulR
  split
  · exact (by decide : 0 ≤ 1000)
  split
  · exact (by decide : 1 ≤ 1000)
  split
  · exact (by decide : 0 ≤ 1000)
  exact rnd_len _ _ _ _ _ _ _
theorem rnd_len0 (sc tl : Nat) (n p s : Int) (w : Str) : (totR sc tl n p s w).2.length ≤ 1000 := by
  unfold totR
  split
  · exact (by decide : 0 ≤ 1000)
  · exact rnd_len _ _ _ _ _ _ _
theorem tad_len (sc tl : Nat) (s1 s2 : Int) (o1 o2 : Option (Int × Int)) (w : Str) : (tadR sc tl s1 o1 s2 o2 w).2.length ≤ 1000 := by
  unfold tadR
  split
  · split
    · exact (by decide : 0 ≤ 1000)
    · exact (by decide : 1 ≤ 1000)
  · exact (by decide : 0 ≤ 1000)
  · exact (by decide : 0 ≤ 1000)
  · exact rnd_len0 _ _ _ _ _ _
theorem join_len (sc tl : Nat) (a b c : Int) (w : Str) : (joinR sc tl a b c w).2.length ≤ 1000 := by
  unfold joinR
  split
  · exact (by decide : 0 ≤ 1000)
  split
  · exact (by decide : 1 ≤ 1000)
  exact tad_len _ _ _ _ _ _ _
theorem add_len (sc tl : Nat) (a b : Int) (w : Str) : (addR sc tl a b w).2.length ≤ 1000 := by
  unfold addR
  split
  · exact (by decide : 0 ≤ 1000)
  exact tad_len _ _ _ _ _ _ _
theorem div_len (sc tl : Nat) (a b : Int) (w : Str) : (divR sc tl a b w).2.length ≤ 1000 := by
  unfold divR
  repeat' split
  all_goals first | exact (by decide : 0 ≤ 1000) | exact (by decide : 1 ≤ 1000) | exact rnd_len _ _ _ _ _ _ _
theorem ab_num (sc tl : Nat) (v : Int) : ab (wn sc tl v) = GM.num tl (sz sc tl v) := by
  have h := (num_zero (tl := tl) (sz_nn sc tl v)).1
  unfold wn ab
  split <;> split <;> omega
def hdv (sc tl : Nat) (v : Int) : Bool := decide (("small" : Str) = srt sc tl (sz sc tl v) ∨ ("plain" : Str) = srt sc tl (sz sc tl v))
def spHH (K : PySem.W.Frag) (C : Addr) : Sp := fun vs H Q _ => ∃ (x t : Addr) (sc tl : Nat) (xs : List Int), vs = [.ref x, .ref t] ∧ FAt C H x sc tl ∧ SqT K H t (xs.map V.int) ∧ xs.length ≤ 900 ∧ ∀ H', Same H H' → Q (.bl (xs.all (hdv sc tl))) H'
theorem ok_have_heads (B : Bl mg) (L : LL K mg C CD za zl t73 t74 t75 tg_NEAR tg_CUT tg_UP tg_DOWN w dO esO nO) : FnOk P w K mg base CX0 4 (za 37) (zl 37) ["form", "words"] (spHH K C) := by
  have G_Form_sort_of : FnOk P w K mg base CX0 3 (za 72) (zl 72) ["self", "word"] (spSort C) := (ok_Form_sort_of B L).mono (by decide)
  refine L.F_have_heads.ok sc_have_heads (fun vs H Q E h => ?_) (fun cdv A outer s H vs Q E hr h => ?_)
  · obtain ⟨x, t, sc, tl, xs, rfl, _⟩ := h
    rfl
  obtain ⟨x, t, sc, tl, xs, rfl, hF, hT, hl, q⟩ := h
  obtain ⟨dx, hx, h1, h2, h3, h4⟩ := id hF
  refine ⟨_, (pss_one (ps_ret (pe_callB (cr_all rfl) (by rfl) B.all boot_all (pa_cons (pe_lc (own := [("word", 2)]) (by rfl) sc_have_heads.nd (pi_tup (pv 1)) (blkOk_by (own := [("word", 2)]) (N := ["form", "words", "word"]) (sc := defScope s_have_heads) (by decide +kernel)) (fun _ _ _ _ _ => pg_name (i := 2) sc_have_heads.nd rfl (Or.inl rfl)) (fun _ _ _ _ _ => pts_nil) (fun _ _ _ _ _ => (pe_cmpR (op_in_seqK (K := K)) (pe_meth (pv 0) L.T.cl L.M_Form_sort_of G_Form_sort_of hr L.b_Form_sort_of .nil pass0 (pa_cons (pv 2) pa_nil)) (pe_tup (pa_cons pe_str (pa_cons pe_str pa_nil))) (by rfl)))) pa_nil)))), ?_⟩
  refine ⟨_, rfl, t, rfl, ⟨_, hT⟩, fun D nD => ?_⟩
  refine lc_it (walk_tup (K := K) (a := t) (xs := xs.map V.int)) (fun i H9 => Same H H9 ∧ H9 D = some (.lst ((xs.take i).map fun v => V.bl (hdv sc tl v)))) ⟨same_upd nD, upd_same⟩ (fun i H9 _ ⟨s9, _⟩ => Same.seqT s9 hT) ?_ ?_
  · rintro j z H9 H10 hj ⟨s9, eD3⟩ ⟨rfl, hz⟩
    obtain ⟨v, hv, rfl⟩ := at_int' hz
    refine ⟨rfl, yesT ?_⟩
    refine ⟨_, rfl, x, dx, _, rfl, s9 _ _ hx, rfl, _, rfl, x, sc, tl, v, rfl, hF.same s9, fun H11 s11 => ?_⟩
    refine ⟨(by show 2 ≤ sizeLine; decide), fun U nU => ?_⟩
    have sU := same_upd (o := .tup [.str "small", .str "plain"]) nU
    have eD11 := sU _ _ (s11 _ _ eD3)
    refine ⟨U, _, rfl, .inr (.inl (.inl upd_same)), rfl, rfl, ?_⟩
    refine ⟨_, eD11, len_take _ _ _ hl, fun y u e => ?_, ?_⟩
    · rw [upd_ne (ne_of_none e nD)]
      exact sU _ _ (s11 _ _ (s9 _ _ e))
    · rw [upd_same, snoc_take _ _ hv]
      have : inV (.str (srt sc tl (sz sc tl v))) [.str "small", .str "plain"] = hdv sc tl v := in_two _ _ _
      show some (HO.lst (_ ++ [V.bl (inV (.str (srt sc tl (sz sc tl v))) [.str "small", .str "plain"])])) = _
      rw [this]
  rintro H9 ⟨s9, eD⟩
  rw [List.length_map, List.take_length] at eD
  have eD' : H9 D = some (.lst ((xs.map (hdv sc tl)).map V.bl)) := by
    rw [eD, List.map_map]
    rfl
  refine ⟨D, _, rfl, .inl (.inl eD'), ?_⟩
  have q' := q _ s9
  rw [show xs.all (hdv sc tl) = (xs.map (hdv sc tl)).all id by rw [List.all_map]; rfl] at q'
  exact q'
def StepAt (H : Hp) (t : Addr) (nm : Str) (r : Int × List Str) : Prop := ∃ f, H t = some (.tup [.str nm, .int r.1, .ref f]) ∧ H f = some (.tup (r.2.map V.str))
theorem StepAt.same {H H' : Hp} {t : Addr} {nm : Str} {r : Int × List Str} (h : StepAt H t nm r) (s : Same H H') : StepAt H' t nm r := by
  obtain ⟨f, e1, e2⟩ := h
  exact ⟨f, s _ _ e1, s _ _ e2⟩
def spPS (K : PySem.W.Frag) (C : Addr) : Sp := fun vs H Q _ => ∃ (x u : Addr) (sc tl : Nat) (nm op way : Str) (ws : List Int) (r : Int × List Str), vs = [.str nm, .ref x, .str op, .ref u, .str way] ∧ FAt C H x sc tl ∧ (SqT K H u (ws.map V.int) ∨ SqL K H u (ws.map V.int)) ∧ doneR sc tl op ws way = some r ∧
  ∀ t H', Same H H' → StepAt H' t nm r → Q (.ref t) H'
theorem ok_plain_step (B : Bl mg) (L : LL K mg C CD za zl t73 t74 t75 tg_NEAR tg_CUT tg_UP tg_DOWN w dO esO nO) : FnOk P w K mg base CX0 10 (za 39) (zl 39) ["name", "form", "op", "words", "way"] (spPS K C) := by
  have G_done : FnOk P w K mg base CX0 9 (za 26) (zl 26) ["form", "op", "words", "way"] (spDone K C) := (ok_done B L).mono (by decide)
  refine L.F_plain_step.ok sc_plain_step (fun vs H Q E h => ?_) (fun cdv A outer s H vs Q E hr h => ?_)
  · obtain ⟨x, u, sc, tl, nm, op, way, ws, r, rfl, _⟩ := h
    rfl
  obtain ⟨x, u, sc, tl, nm, op, way, ws, r, rfl, hF, hU, hr0, q⟩ := h
  refine ⟨_, (pss_cons (ps_asg (pe_callN G_done hr (by rfl) L.m_done L.F_done.kp (L.kb_done_way).choose_spec pass0 (pa_cons (pv 1) (pa_cons (pv 2) (pa_cons (pv 3) pa_nil))) (pk_cons (pv 4) pk_nil)) (pg_tup (by rfl) (pgs_cons (pg_name (i := 5) sc_plain_step.nd rfl (.inl rfl)) (pgs_cons (pg_name (i := 6) sc_plain_step.nd rfl (.inl rfl)) pgs_nil))))
    (pss_one (ps_ret (pe_tup (pa_cons (pv 0) (pa_cons (pv 5) (pa_cons (pv 6) pa_nil))))))), ?_⟩
  refine ⟨_, rfl, _, rfl, _, rfl, _, rfl, rfl, rfl, x, u, sc, tl, op, way, ws, r, rfl, hF, hU, hr0, fun t H1 s1 P1 => ?_⟩
  obtain ⟨f, e1, e2⟩ := P1
  refine ⟨t, _, rfl, .inl (.inl e1), rfl, _, _, rfl, _, _, rfl, rfl, ?_⟩
  refine ⟨_, rfl, _, rfl, _, rfl, (by show 3 ≤ sizeLine; decide), fun v nv => ?_⟩
  exact q v _ (s1.trans (same_upd nv)) ⟨f, upd_same, same_upd nv _ _ e2⟩
theorem hdv_real {sc tl : Nat} {v : Int} (h : hdv sc tl v = true) : ¬ GM.topS sc tl ≤ sz sc tl v ∧ ¬ sz sc tl v = 0 := by
  unfold hdv at h
  have h := of_decide_eq_true h
  refine ⟨fun z => ?_, fun z => ?_⟩
  · rcases (srt_top sc tl (sz sc tl v)).mpr z with y | y <;> rw [y] at h <;> exact absurd h (by decide +kernel)
  · by_cases c : GM.topS sc tl ≤ sz sc tl v
    · rcases (srt_top sc tl (sz sc tl v)).mpr c with y | y <;> rw [y] at h <;> exact absurd h (by decide +kernel)
    · rw [(srt_nought sc tl _).mpr ⟨c, z⟩] at h
      exact absurd h (by decide +kernel)
def spHO (C : Addr) : Sp := fun vs H Q _ => ∃ (x : Addr) (sc tl : Nat) (v : Int), vs = [.ref x, .int v] ∧ FAt C H x sc tl ∧ ¬ GM.topS sc tl ≤ sz sc tl v ∧
  ∀ t H', H t = none → Same H H' → H' t = some (.tup [.int (GM.num tl (sz sc tl v)), .int (wp sc tl v)]) → Q (.ref t) H'
theorem ok_head_of (B : Bl mg) (L : LL K mg C CD za zl t73 t74 t75 tg_NEAR tg_CUT tg_UP tg_DOWN w dO esO nO) : FnOk P w K mg base CX0 4 (za 38) (zl 38) ["form", "word"] (spHO C) := by
  have G_Form_worth : FnOk P w K mg base CX0 3 (za 78) (zl 78) ["self", "word"] (spWorth C) := (ok_Form_worth B L).mono (by decide)
  refine L.F_head_of.ok sc_head_of (fun vs H Q E h => ?_) (fun cdv A outer s H vs Q E hr h => ?_)
  · obtain ⟨x, sc, tl, v, rfl, _⟩ := h
    rfl
  obtain ⟨x, sc, tl, v, rfl, hF, nt, q⟩ := h
  obtain ⟨dx, hx, h1, h2, h3, h4⟩ := id hF
  refine ⟨_, (pss_cons (ps_asg (pe_meth (pv 0) L.T.cl L.M_Form_worth G_Form_worth hr L.b_Form_worth .nil pass0 (pa_cons (pv 1) pa_nil)) (pg_tup (by rfl) (pgs_cons (pg_name (i := 2) sc_head_of.nd rfl (.inl rfl)) (pgs_cons (pg_name (i := 3) sc_head_of.nd rfl (.inl rfl)) pgs_nil))))
    (pss_one (ps_ret (pe_tup (pa_cons (pe_callB call_abs (by rfl) B.abs boot_abs (pa_cons (pv 2) pa_nil)) (pa_cons (pv 3) pa_nil)))))), ?_⟩
  refine ⟨_, rfl, x, dx, _, rfl, hx, rfl, _, rfl, x, sc, tl, v, rfl, hF, fun H1 s1 ca => absurd ca nt, fun H1 p s1 ca ep => ?_⟩
  refine ⟨p, _, rfl, .inl (.inl ep), rfl, _, _, rfl, _, _, rfl, rfl, ?_⟩
  refine ⟨_, rfl, _, rfl, _, rfl, (by show 2 ≤ sizeLine; decide), fun t nt => ?_⟩
  refine q t _ (s1.free nt) (s1.trans (same_upd nt)) ?_
  rw [upd_same, ← ab_num]
  rfl
def spRS (C : Addr) : Sp := fun vs H Q _ => ∃ (x : Addr) (sc tl : Nat) (s n p : Int) (way : Str) (more : Bool), vs = [.ref x, .int s, .int n, .int p, .str way, .bl more] ∧ FAt C H x sc tl ∧ (s = 0 ∨ s = 1) ∧ Fit n ∧ -4000 ≤ p ∧ p ≤ 4000 ∧ (more = true → n ≠ 0 ∧ p < GR.lap sc tl n p) ∧
  ∀ t H', Same H H' → StepAt H' t "round" (GR.rnd sc tl s n p way more) → Q (.ref t) H'
theorem ok_round_step (B : Bl mg) (L : LL K mg C CD za zl t73 t74 t75 tg_NEAR tg_CUT tg_UP tg_DOWN w dO esO nO) : FnOk P w K mg base CX0 6 (za 40) (zl 40) ["form", "sign", "total", "power", "way", "more"] (spRS C) := by
  have G_rounded : FnOk P w K mg base CX0 5 (za 4) (zl 4) ["form", "sign", "number", "power", "way", "more"] (spRnd C) := (ok_rounded B L).mono (by decide)
  refine L.F_round_step.ok sc_round_step (fun vs H Q E h => ?_) (fun cdv A outer s H vs Q E hr h => ?_)
  · obtain ⟨x, sc, tl, s, n, p, way, more, rfl, _⟩ := h
    rfl
  obtain ⟨x, sc, tl, s, n, p, way, more, rfl, hF, hs, hf, p1, p2, hm, q⟩ := h
  refine ⟨_, (pss_cons (ps_asg (pe_callN G_rounded hr (by rfl) L.m_rounded L.F_rounded.kp (L.kb_rounded_way_more).choose_spec pass0 (pa_cons (pv 0) (pa_cons (pv 1) (pa_cons (pv 2) (pa_cons (pv 3) pa_nil)))) (pk_cons (pv 4) (pk_cons (pv 5) pk_nil))) (pg_tup (by rfl) (pgs_cons (pg_name (i := 6) sc_round_step.nd rfl (.inl rfl)) (pgs_cons (pg_name (i := 7) sc_round_step.nd rfl (.inl rfl)) pgs_nil))))
    (pss_one (ps_ret (pe_tup (pa_cons pe_str (pa_cons (pv 6) (pa_cons (pv 7) pa_nil))))))), ?_⟩
  refine ⟨_, rfl, _, rfl, _, rfl, _, rfl, _, rfl, _, rfl, rfl, rfl, x, sc, tl, s, n, p, way, more, rfl, hF, hs, hf, by omega, by omega, hm, fun t H1 nt s1 P1 => ?_⟩
  obtain ⟨f, e1, e2⟩ := P1
  refine ⟨t, _, rfl, .inl (.inl e1), rfl, _, _, rfl, _, _, rfl, rfl, ?_⟩
  refine ⟨_, rfl, _, rfl, (by show 3 ≤ sizeLine; decide), fun v nv => ?_⟩
  exact q v _ (s1.trans (same_upd nv)) ⟨f, upd_same, same_upd nv _ _ e2⟩
end
section
variable {P : Program} {w : World} {K : PySem.W.Frag} {mg : Str → Option Value} {base : Heap}
variable {C : Addr} {CD : Addr} {za : Nat → Addr} {zl : Nat → FuncData} {t73 t74 t75 tg_NEAR tg_CUT tg_UP tg_DOWN : Tok} {dO : Addr} {esO : Array DictEntry} {nO : Nat}
def hk (tl : Nat) (n : Int) : Nat := tl + 1 - Builtin.Int.intBits n
def fhN (sc tl : Nat) (v : Int) : Int := GM.num tl (sz sc tl v) * 2 ^ hk tl (GM.num tl (sz sc tl v))
def fhP (sc tl : Nat) (v : Int) : Int := wp sc tl v - (hk tl (GM.num tl (sz sc tl v)) : Nat)
theorem num_lt42 {tl : Nat} {u : Int} (h : 0 ≤ u) : GM.num tl u < 2 * 2 ^ tl := by
  have hp := GM.pow_pos' tl
  have l := Int.emod_lt_of_pos u hp
  unfold GM.num
  split <;> omega
theorem bits_in42 {sc tl : Nat} (v : Int) : Builtin.Int.intBits (GM.num tl (sz sc tl v)) ≤ tl + 1 := by
  have h0 := (num_zero (tl := tl) (sz_nn sc tl v)).1
  have h1 := num_lt42 (tl := tl) (sz_nn sc tl v)
  refine PyProof.Rows.intBits_le ?_
  have e : ((2 ^ (tl + 1) : Nat) : Int) = (2 : Int) ^ (tl + 1) := PySem.W.kbt_cast _
  have e2 : (2 : Int) ^ (tl + 1) = 2 ^ tl * 2 := GM.pow_s tl
  omega
def spFH (C : Addr) : Sp := fun vs H Q _ => ∃ (x : Addr) (sc tl : Nat) (v : Int), vs = [.ref x, .int v] ∧ FAt C H x sc tl ∧ ¬ GM.topS sc tl ≤ sz sc tl v ∧
  ∀ t H', Same H H' → H' t = some (.tup [.int (fhN sc tl v), .int (fhP sc tl v)]) → Q (.ref t) H'
theorem ok_full_head (B : Bl mg) (L : LL K mg C CD za zl t73 t74 t75 tg_NEAR tg_CUT tg_UP tg_DOWN w dO esO nO) : FnOk P w K mg base CX0 5 (za 47) (zl 47) ["form", "word"] (spFH C) := by
  have G_head_of : FnOk P w K mg base CX0 4 (za 38) (zl 38) ["form", "word"] (spHO C) := (ok_head_of B L).mono (by decide)
  refine L.F_full_head.ok sc_full_head (fun vs H Q E h => ?_) (fun cdv A outer s H vs Q E hr h => ?_)
  · obtain ⟨x, sc, tl, v, rfl, _⟩ := h
    rfl
  obtain ⟨x, sc, tl, v, rfl, hF, nt, q⟩ := h
  refine ⟨_, (pss_cons (ps_asg (pe_call G_head_of hr (by rfl) L.m_head_of L.F_head_of.kp L.b_head_of .nil pass0 (pa_cons (pv 0) (pa_cons (pv 1) pa_nil))) (pg_tup (by rfl) (pgs_cons (pg_name (i := 2) sc_full_head.nd rfl (.inl rfl)) (pgs_cons (pg_name (i := 3) sc_full_head.nd rfl (.inl rfl)) pgs_nil))))
    (pss_cons (ps_set (i := 4) sc_full_head.nd rfl (.inl rfl) (pe_op op_sub (pe_op op_add (pe_fld (pv 0) rfl) pe_int) (pe_bits (pv 2))))
    (pss_one (ps_ret (pe_tup (pa_cons (pe_op op_shlN (pv 2) (pv 4)) (pa_cons (pe_op op_sub (pv 3) (pv 4)) pa_nil))))))), ?_⟩
  refine ⟨_, rfl, _, rfl, x, sc, tl, v, rfl, hF, nt, fun t H1 n1 s1 e1 => ?_⟩
  refine ⟨t, _, rfl, .inl (.inl e1), rfl, _, _, rfl, _, _, rfl, rfl, ?_⟩
  obtain ⟨dx, hx, h1, h2, h3, h4⟩ := id (hF.same s1)
  have hb := bits_in42 (sc := sc) (tl := tl) v
  have h0 := (num_zero (tl := tl) (sz_nn sc tl v)).1
  have h5 := num_lt42 (tl := tl) (sz_nn sc tl v)
  have p24 : (2 : Int) ^ tl ≤ 2 ^ 24 := GM.pow_le' h4
  try simp only [L2.start, List.map_cons, List.map_nil, List.length_cons, List.length_nil, List.replicate_succ, List.replicate_zero, List.cons_append, List.nil_append, List.set_cons_succ, List.set_cons_zero, Nat.reduceAdd, Nat.reduceSub, Nat.zero_add]
  refine ⟨_, rfl, x, C, dx, _, _, rfl, hx, L.T.cl, L.T.nt, fl_t _ _, _, _, rfl, rfl, _, rfl, GM.num tl (sz sc tl v), rfl, _, _, rfl, rfl, ?_⟩
  refine gI (show _ = ((hk tl (GM.num tl (sz sc tl v)) : Nat) : Int) from ?_) ?_
  · unfold hk
    omega
  try simp only [L2.start, List.map_cons, List.map_nil, List.length_cons, List.length_nil, List.replicate_succ, List.replicate_zero, List.cons_append, List.nil_append, List.set_cons_succ, List.set_cons_zero, Nat.reduceAdd, Nat.reduceSub, Nat.zero_add]
  refine ⟨_, rfl, _, rfl, _, hk tl (GM.num tl (sz sc tl v)), rfl, rfl, shl_ok (n := 26) (by omega) (by unfold hk; omega), _, rfl, _, rfl, _, _, rfl, rfl, (by show 2 ≤ sizeLine; decide), fun t2 nt2 => ?_⟩
  exact q t2 _ (s1.trans (same_upd nt2)) upd_same
def wof (ds : List Int) : Int := ds.foldl (fun w d => 2 * w + d) 0
def spWof (K : PySem.W.Frag) : Sp := fun vs H Q _ => ∃ (a : Addr) (ds : List Int), vs = [.ref a] ∧ SqL K H a (ds.map V.int) ∧ Q (.int (wof ds)) H
theorem wof_snoc {ds : List Int} {i : Nat} {d : Int} (h : ds[i]? = some d) : wof (ds.take (i + 1)) = 2 * wof (ds.take i) + d := by
  unfold wof
  rw [List.take_add_one, h, List.foldl_append]
  rfl
theorem ok_worth_of (B : Bl mg) (L : LL K mg C CD za zl t73 t74 t75 tg_NEAR tg_CUT tg_UP tg_DOWN w dO esO nO) : FnOk P w K mg base CX0 1 (za 31) (zl 31) ["digits"] (spWof K) := by
  refine L.F_worth_of.ok sc_worth_of (fun vs H Q E h => ?_) (fun cdv A outer s H vs Q E hr h => ?_)
  · obtain ⟨a, ds, rfl, _⟩ := h
    rfl
  obtain ⟨a, ds, rfl, hS, q⟩ := h
  refine ⟨_, (pss_cons (ps_set (i := 1) sc_worth_of.nd rfl (.inl rfl) pe_int)
    (pss_cons (ps_for PassesOwn.never rfl (pi_list (pv 0)) (pg_name (i := 2) sc_worth_of.nd rfl (.inl rfl)) (pss_one (ps_set (i := 1) sc_worth_of.nd rfl (.inl rfl) (pe_op op_add (pe_op op_mul pe_int (pv 1)) (pv 2)))))
    (pss_one (ps_ret (pv 1))))), ?_⟩
  refine ⟨_, rfl, a, rfl, ⟨_, hS⟩, for_list (K := K) (a := a) (xs := ds.map V.int) (fun i σ H3 => ∃ y2 : Option V, σ = [some (.ref a), some (.int (wof (ds.take i))), y2] ∧ H3 = H) ⟨none, rfl, rfl⟩ (fun i σ H3 _ ⟨_, _, e⟩ => by rw [e]; exact hS) ?_ ?_⟩
  · rintro i x σ H3 hx ⟨y2, rfl, rfl⟩
    obtain ⟨z, ez, rfl⟩ := at_int' hx
    refine ⟨_, rfl, _, _, rfl, rfl, .inl ⟨by decide, by decide⟩, _, rfl, _, _, rfl, rfl, some (.int z), ?_, rfl⟩
    rw [wof_snoc ez]
    rfl
  · rintro σ H3 ⟨y2, rfl, rfl⟩
    rw [List.length_map, List.take_length]
    exact ⟨_, rfl, q⟩
def DvF (f : Addr) (a b : Int) (way : Str) (sg : Bool) (l : Addr) (due : Int) (ov bb : V) (pw : Int) : List (Str × V) := [("form", .ref f), ("one", .int a), ("two", .int b), ("way", .str way), ("signed", .bl sg), ("told", .ref l), ("due", .int due), ("over", ov), ("by", bb), ("power", .int pw)]
structure DvAt (C CD : Addr) (H : Hp) (x f l : Addr) (sc tl : Nat) (a b : Int) (way : Str) (sg : Bool) (ds : List Int) (due : Int) (ov bb : V) (pw : Int) : Prop where
  row : ∃ dx, H x = some (.ins CD dx (DvF f a b way sg l due ov bb pw))
  fa : FAt C H f sc tl
  el : H l = some (.lst (ds.map V.int))
def dgt (sg : Bool) (tl : Nat) (y rest : Int) : Int := if sg = true then (if 2 ^ tl ≤ rest then 1 else if rest < -(2 ^ tl) then -1 else 0) else (if y ≤ rest then 1 else 0)
def spDig (C CD : Addr) : Sp := fun vs H Q _ => ∃ (x f l : Addr) (sc tl : Nat) (a b : Int) (way : Str) (sg : Bool) (ds : List Int) (due : Int) (ov : V) (y pw r : Int), vs = [.ref x, .int r] ∧ DvAt C CD H x f l sc tl a b way sg ds due ov (.int y) pw ∧ Q (.int (dgt sg tl y r)) H
theorem ok_Divider_digit_by (B : Bl mg) (L : LL K mg C CD za zl t73 t74 t75 tg_NEAR tg_CUT tg_UP tg_DOWN w dO esO nO) : FnOk P w K mg base CX0 1 (za 82) (zl 82) ["self", "rest"] (spDig C CD) := by
  refine L.F_Divider_digit_by.ok sc_Divider_digit_by (fun vs H Q E h => ?_) (fun cdv A outer s H vs Q E hr h => ?_)
  · obtain ⟨x, f, l, sc, tl, a, b, way, sg, ds, due, ov, y, pw, r, rfl, _⟩ := h
    rfl
  obtain ⟨x, f, l, sc, tl, a, b, way, sg, ds, due, ov, y, pw, r, rfl, ⟨⟨dx, hx⟩, ⟨df, hf, h1, h2, h3, h4⟩, el⟩, q⟩ := h
  refine ⟨_, (pss_cons (ps_if (pt_not (pt_val (pe_fld (pv 0) rfl))) (pss_one (ps_ret (pe_ifExp (pt_cmpR op_ge (pv 1) (pe_fld (pv 0) rfl) (nomark _)) pe_int pe_int))) pss_nil)
    (pss_cons (ps_set (i := 2) sc_Divider_digit_by.nd rfl (.inl rfl) (pe_op op_oneShl pe_int (pe_fld (pe_fld (pv 0) rfl) rfl)))
    (pss_cons (ps_if (pt_cmpR op_ge (pv 1) (pv 2) (nomark _)) (pss_one (ps_ret pe_int)) pss_nil)
    (pss_one (ps_ret (pe_ifExp (pt_cmpR op_lt (pv 1) (pe_un un_neg (pv 2)) (nomark _)) (pe_un un_neg pe_int) pe_int)))))), ?_⟩
  unfold dgt at q
  refine ⟨_, rfl, x, CD, dx, _, _, rfl, hx, L.T2.cl, L.T2.n_signed, rfl, ?_⟩
  cases sg with
  | false =>
    refine ⟨_, rfl, iteT ?_⟩
    rw [if_neg (by decide)] at q
    refine ⟨_, rfl, _, rfl, x, CD, dx, _, _, rfl, hx, L.T2.cl, L.T2.n_by, rfl, _, _, rfl, rfl, _, rfl, ite2 (fun c => ?_) (fun c => ?_)⟩
    · rw [if_pos (of_decide_eq_true c)] at q
      exact q
    · rw [if_neg (of_decide_eq_false (Bool.eq_false_iff.mpr c))] at q
      exact q
  | true =>
    refine ⟨_, rfl, iteF ?_⟩
    rw [if_pos rfl] at q
    refine ⟨_, rfl, x, CD, dx, _, _, rfl, hx, L.T2.cl, L.T2.n_form, rfl, f, C, df, _, _, rfl, hf, L.T.cl, L.T.nt, fl_t _ _, tl, rfl, rfl, by omega, ?_⟩
    try simp only [L2.start, List.map_cons, List.map_nil, List.length_cons, List.length_nil, List.replicate_succ, List.replicate_zero, List.cons_append, List.nil_append, List.set_cons_succ, List.set_cons_zero, Nat.reduceAdd, Nat.reduceSub, Nat.zero_add]
    refine ⟨_, rfl, _, rfl, _, _, rfl, rfl, _, rfl, ite2 (fun c => ?_) (fun c => ?_)⟩
    · rw [if_pos (of_decide_eq_true c)] at q
      exact q
    rw [if_neg (of_decide_eq_false (Bool.eq_false_iff.mpr c))] at q
    refine ⟨_, rfl, _, rfl, _, rfl, _, _, rfl, rfl, _, rfl, ite2 (fun c => ?_) (fun c => ?_)⟩
    · rw [if_pos (of_decide_eq_true c)] at q
      exact ⟨_, rfl, q⟩
    · rw [if_neg (of_decide_eq_false (Bool.eq_false_iff.mpr c))] at q
      exact q
def spLeft (C CD : Addr) : Sp := fun vs H Q _ => ∃ (x f l : Addr) (sc tl : Nat) (a b : Int) (way : Str) (sg : Bool) (ds : List Int) (due : Int) (ov bb : V) (pw : Int), vs = [.ref x] ∧ DvAt C CD H x f l sc tl a b way sg ds due ov bb pw ∧ Q (.int (due - (ds.length : Nat))) H
theorem ok_Divider_left (B : Bl mg) (L : LL K mg C CD za zl t73 t74 t75 tg_NEAR tg_CUT tg_UP tg_DOWN w dO esO nO) : FnOk P w K mg base CX0 1 (za 87) (zl 87) ["self"] (spLeft C CD) := by
  refine L.F_Divider_left.ok sc_Divider_left (fun vs H Q E h => ?_) (fun cdv A outer s H vs Q E hr h => ?_)
  · obtain ⟨x, f, l, sc, tl, a, b, way, sg, ds, due, ov, bb, pw, rfl, _⟩ := h
    rfl
  obtain ⟨x, f, l, sc, tl, a, b, way, sg, ds, due, ov, bb, pw, rfl, ⟨⟨dx, hx⟩, hF, el⟩, q⟩ := h
  refine ⟨_, (pss_one (ps_ret (pe_op op_sub (pe_fld (pv 0) rfl) (pe_callB call_len_seq (by rfl) B.len PySem.boot_len (pa_cons (pe_fld (pv 0) rfl) pa_nil))))), ?_⟩
  refine ⟨_, rfl, x, CD, dx, _, _, rfl, hx, L.T2.cl, L.T2.n_due, rfl, _, rfl, x, CD, dx, _, _, rfl, hx, L.T2.cl, L.T2.n_told, rfl, l, _, rfl, .inl (SqL.of el), _, _, rfl, rfl, ?_⟩
  rw [List.length_map]
  exact q
def spQuot (C CD : Addr) : Sp := fun vs H Q _ => ∃ (x f l : Addr) (sc tl : Nat) (a b : Int) (way : Str) (sg : Bool) (ds : List Int) (due : Int) (ov bb : V) (pw : Int), vs = [.ref x] ∧ DvAt C CD H x f l sc tl a b way sg ds due ov bb pw ∧ Q (.int (wof ds)) H
theorem ok_Divider_quotient (B : Bl mg) (L : LL K mg C CD za zl t73 t74 t75 tg_NEAR tg_CUT tg_UP tg_DOWN w dO esO nO) : FnOk P w K mg base CX0 2 (za 84) (zl 84) ["self"] (spQuot C CD) := by
  have G_worth_of : FnOk P w K mg base CX0 1 (za 31) (zl 31) ["digits"] (spWof K) := (ok_worth_of B L).mono (by decide)
  refine L.F_Divider_quotient.ok sc_Divider_quotient (fun vs H Q E h => ?_) (fun cdv A outer s H vs Q E hr h => ?_)
  · obtain ⟨x, f, l, sc, tl, a, b, way, sg, ds, due, ov, bb, pw, rfl, _⟩ := h
    rfl
  obtain ⟨x, f, l, sc, tl, a, b, way, sg, ds, due, ov, bb, pw, rfl, ⟨⟨dx, hx⟩, hF, el⟩, q⟩ := h
  refine ⟨_, (pss_one (ps_ret (pe_call G_worth_of hr (by rfl) L.m_worth_of L.F_worth_of.kp L.b_worth_of .nil pass0 (pa_cons (pe_fld (pv 0) rfl) pa_nil)))), ?_⟩
  exact ⟨_, rfl, x, CD, dx, _, _, rfl, hx, L.T2.cl, L.T2.n_told, rfl, l, ds, rfl, SqL.of el, q⟩
def Kx (x l : Addr) (H H' : Hp) : Prop := ∀ p u, H p = some u → p ≠ x → p ≠ l → H' p = some u
def rst (ds : List Int) (o : Int) : Int := if ds = [] then o else 2 * o
theorem DvAt.nfx {C CD : Addr} {H : Hp} {x f l : Addr} {sc tl : Nat} {a b : Int} {way : Str} {sg : Bool} {ds : List Int} {due : Int} {ov bb : V} {pw : Int} (h : DvAt C CD H x f l sc tl a b way sg ds due ov bb pw) : f ≠ x ∧ f ≠ l ∧ l ≠ x := by
  obtain ⟨⟨dx, hx⟩, ⟨df, hf, _⟩, el⟩ := h
  refine ⟨fun z => ?_, fun z => ?_, fun z => ?_⟩
  · rw [z, hx] at hf
    cases hf
  · rw [z, el] at hf
    cases hf
  · rw [z, hx] at el
    cases el
theorem dp_ints42 {H : Hp} : ∀ ds : List Int, DpAll K H (ds.map V.int) (ds.map PyData.int)
  | [] => .nil
  | d :: ds => .cons (.int d) (dp_ints42 ds)
theorem lay_ints42 : ∀ ds : List Int, PyData.canLayAll0 (ds.map PyData.int) = true ∧ PyData.depthAll (ds.map PyData.int) ≤ 1
  | [] => by
    refine ⟨rfl, ?_⟩
    show PyData.depthAll [] ≤ 1
    simp [PyData.depthAll]
  | d :: ds => by
    have ih := lay_ints42 ds
    constructor
    · simp [PyData.canLayAll0, PyData.canLay0, ih.1]
    · have := ih.2
      simp only [List.map_cons, PyData.depthAll, PyData.depth]
      omega
theorem shp_ints42 (ds : List Int) : PySem.SeqAt.shaped (.list (ds.map PyData.int)) = true := by
  have c := lay_ints42 ds
  have d : PyData.depth (.list (ds.map PyData.int)) ≤ 64 := by
    have := c.2
    simp only [PyData.depth]
    omega
  show (PyData.canLay0 (.list (ds.map PyData.int)) && decide (PyData.depth (.list (ds.map PyData.int)) ≤ 64)) = true
  rw [Bool.and_eq_true]
  exact ⟨by simp only [PyData.canLay0]; exact c.1, decide_eq_true d⟩
theorem eqv_nil42 (ds : List Int) : PyData.eqv (.list (ds.map PyData.int)) (.list []) = decide (ds = []) := by
  cases ds with
  | nil => decide +kernel
  | cons d ds => simp [PyData.eqv, PyData.eqvAll]
theorem gnext_asg42 {σ : L2.St} {H : Hp} {t : TE} {g : TG} {r : TS} {D : Ends} (h : t σ H (fun x H1 => g x σ H1 ({ D with nx := r D } : Ends).nx)) : tNext ({ D with nx := tSeq (tAsg t g) r D } : Ends) σ H := h
theorem DvAt.same {C CD : Addr} {H H' : Hp} {x f l : Addr} {sc tl : Nat} {a b : Int} {way : Str} {sg : Bool} {ds : List Int} {due : Int} {ov bb : V} {pw : Int} (h : DvAt C CD H x f l sc tl a b way sg ds due ov bb pw) (s : Same H H') : DvAt C CD H' x f l sc tl a b way sg ds due ov bb pw := by
  obtain ⟨⟨dx, hx⟩, hF, el⟩ := h
  exact ⟨⟨dx, s _ _ hx⟩, hF.same s, s _ _ el⟩
theorem dgt_in (sg : Bool) (tl : Nat) (y r : Int) : -1 ≤ dgt sg tl y r ∧ dgt sg tl y r ≤ 1 := by
  unfold dgt
  repeat' split
  all_goals omega
def spStep (C CD : Addr) : Sp := fun vs H Q _ => ∃ (x f l : Addr) (sc tl : Nat) (a b : Int) (way : Str) (sg : Bool) (ds : List Int) (due o y pw : Int), vs = [.ref x] ∧ DvAt C CD H x f l sc tl a b way sg ds due (.int o) (.int y) pw ∧ ¬ due - (ds.length : Nat) = 0 ∧ ds.length ≤ 900 ∧ -(2 ^ 40) ≤ o ∧ o ≤ 2 ^ 40 ∧ 0 ≤ y ∧ y ≤ 2 ^ 40 ∧
  ∀ H', DvAt C CD H' x f l sc tl a b way sg (ds ++ [dgt sg tl y (rst ds o)]) due (.int (rst ds o - dgt sg tl y (rst ds o) * y)) (.int y) pw → Kx x l H H' → Q (.int (dgt sg tl y (rst ds o))) H'
theorem ok_Divider_step (B : Bl mg) (L : LL K mg C CD za zl t73 t74 t75 tg_NEAR tg_CUT tg_UP tg_DOWN w dO esO nO) : FnOk P w K mg base CX0 3 (za 81) (zl 81) ["self"] (spStep C CD) := by
  have G_Divider_left : FnOk P w K mg base CX0 2 (za 87) (zl 87) ["self"] (spLeft C CD) := (ok_Divider_left B L).mono (by decide)
  have G_Divider_digit_by : FnOk P w K mg base CX0 2 (za 82) (zl 82) ["self", "rest"] (spDig C CD) := (ok_Divider_digit_by B L).mono (by decide)
  refine L.F_Divider_step.ok sc_Divider_step (fun vs H Q E h => ?_) (fun cdv A outer s H vs Q E hr h => ?_)
  · obtain ⟨x, f, l, sc, tl, a, b, way, sg, ds, due, o, y, pw, rfl, _⟩ := h
    rfl
  obtain ⟨x, f, l, sc, tl, a, b, way, sg, ds, due, o, y, pw, rfl, D, hd, hl, o0, o1, y0, y1, q⟩ := h
  refine ⟨_, (pss_cons (ps_if (pt_cmpR op_eq (pe_meth0 (pv 0) L.T2.cl L.M_Divider_left G_Divider_left hr L.b_Divider_left .nil pass0) pe_int (nomark _)) (pss_one ps_never) pss_nil)
    (pss_cons (ps_set (i := 1) sc_Divider_step.nd rfl (.inl rfl) (pe_ifExp (pt_cmpR (op_eqD hr.units) (pe_fld (pv 0) rfl) (pe_lst pa_nil) (nomark _)) (pe_fld (pv 0) rfl) (pe_op op_mul pe_int (pe_fld (pv 0) rfl))))
    (pss_cons (ps_set (i := 2) sc_Divider_step.nd rfl (.inl rfl) (pe_meth (pv 0) L.T2.cl L.M_Divider_digit_by G_Divider_digit_by hr L.b_Divider_digit_by .nil pass0 (pa_cons (pv 1) pa_nil)))
    (pss_cons (ps_fld (pv 0) (pe_op op_sub (pv 1) (pe_op op_mul (pv 2) (pe_fld (pv 0) rfl))) rfl)
    (pss_cons (ps_expr (pe_bm PySem.F.plainAttrs_list PySem.F.slot_list_append PySem.F.type_list_append mt_append (pe_fld (pv 0) rfl) (pa_cons (pv 2) pa_nil)))
    (pss_one (ps_ret (pv 2)))))))), ?_⟩
  obtain ⟨⟨dx, hx⟩, hF, el⟩ := id D
  refine ⟨_, rfl, x, dx, _, rfl, hx, rfl, x, f, l, sc, tl, a, b, way, sg, ds, due, .int o, .int y, pw, rfl, D, rfl, _, rfl, ite2 (fun c => absurd (V.int.inj (of_decide_eq_true c)) hd) (fun _ => ?_)⟩
  refine gnext_asg42 ?_
  refine if_ev (fun z H' => z = .int (rst ds o) ∧ Same H H') (fun Q' q' => ?_) ?_
  · refine ⟨_, rfl, x, CD, dx, _, _, rfl, hx, L.T2.cl, L.T2.n_told, rfl, Nat.zero_le _, fun e ne => ?_⟩
    have se := same_upd (o := .lst []) ne
    refine ⟨.list (ds.map PyData.int), .list [], .lst (SqL.of (se _ _ el)) (dp_ints42 ds), .lst (SqL.of upd_same) .nil, shp_ints42 ds, by decide +kernel, ?_⟩
    rw [eqv_nil42]
    refine ⟨_, rfl, ite2 (fun c => ?_) (fun c => ?_)⟩
    · refine ⟨_, rfl, x, CD, dx, _, _, rfl, se _ _ hx, L.T2.cl, L.T2.n_over, rfl, q' _ _ ⟨?_, se⟩⟩
      unfold rst
      rw [if_pos (of_decide_eq_true c)]
    · refine ⟨_, rfl, x, CD, dx, _, _, rfl, se _ _ hx, L.T2.cl, L.T2.n_over, rfl, _, _, rfl, rfl, .inl ⟨by decide, by omega⟩, q' _ _ ⟨?_, se⟩⟩
      unfold rst
      rw [if_neg (of_decide_eq_false (Bool.eq_false_iff.mpr c))]
  rintro _ H1 ⟨rfl, s1⟩
  try simp only [L2.start, List.map_cons, List.map_nil, List.length_cons, List.length_nil, List.replicate_succ, List.replicate_zero, List.cons_append, List.nil_append, List.set_cons_succ, List.set_cons_zero, Nat.reduceAdd, Nat.reduceSub, Nat.zero_add]
  have D1 := D.same s1
  obtain ⟨nfx, nfl, nlx⟩ := D1.nfx
  have dg := dgt_in sg tl y (rst ds o)
  refine ⟨_, rfl, x, dx, _, rfl, s1 _ _ hx, rfl, _, rfl, x, f, l, sc, tl, a, b, way, sg, ds, due, .int o, y, pw, rst ds o, rfl, D1, ?_⟩
  generalize dgt sg tl y (rst ds o) = d at *
  try simp only [L2.start, List.map_cons, List.map_nil, List.length_cons, List.length_nil, List.replicate_succ, List.replicate_zero, List.cons_append, List.nil_append, List.set_cons_succ, List.set_cons_zero, Nat.reduceAdd, Nat.reduceSub, Nat.zero_add]
  refine ⟨_, rfl, _, rfl, _, rfl, x, CD, dx, _, _, rfl, s1 _ _ hx, L.T2.cl, L.T2.n_by, rfl, _, _, rfl, rfl, .inl ⟨by omega, by omega⟩, _, _, rfl, rfl, _, rfl, x, CD, dx, _, rfl, s1 _ _ hx, L.T2.cl, L.T2.n_over, (by show 10 < 1000; decide), ?_⟩
  have elx : (upd H1 x (.ins CD dx (DvF f a b way sg l due (.int (rst ds o - d * y)) (.int y) pw))) l = some (.lst (ds.map V.int)) := by
    rw [upd_ne nlx]
    exact s1 _ _ el
  refine ⟨_, rfl, x, CD, dx, _, _, rfl, upd_same, L.T2.cl, L.T2.n_told, rfl, .inl ⟨rfl, _, SqL.of elx⟩, _, rfl, l, _, _, rfl, rfl, elx, (by rw [List.length_map]; exact small1000 (by omega)), ?_⟩
  refine ⟨_, rfl, q _ ⟨⟨dx, ?_⟩, ?_, ?_⟩ ?_⟩
  · rw [upd_ne nlx.symm, upd_same]
    rfl
  · obtain ⟨df, hf, hr4⟩ := D1.fa
    exact ⟨df, by rw [upd_ne nfl, upd_ne nfx]; exact hf, hr4⟩
  · rw [upd_same, List.map_append]
    rfl
  · intro p u e n m
    rw [upd_ne m, upd_ne n]
    exact s1 _ _ e
theorem DvAt.put {C CD : Addr} {H : Hp} {x f l : Addr} {sc tl : Nat} {a b : Int} {way : Str} {sg : Bool} {ds : List Int} {due : Int} {ov bb : V} {pw : Int} (h : DvAt C CD H x f l sc tl a b way sg ds due ov bb pw) (dx : Addr) (due' : Int) (ov' bb' : V) (pw' : Int) : DvAt C CD (upd H x (.ins CD dx (DvF f a b way sg l due' ov' bb' pw'))) x f l sc tl a b way sg ds due' ov' bb' pw' := by
  obtain ⟨nfx, nfl, nlx⟩ := h.nfx
  obtain ⟨_, ⟨df, hf, hr4⟩, el⟩ := h
  exact ⟨⟨dx, upd_same⟩, ⟨df, by rw [upd_ne nfx]; exact hf, hr4⟩, by rw [upd_ne nlx]; exact el⟩
def spBegin (C CD : Addr) : Sp := fun vs H Q _ => ∃ (x f l : Addr) (sc tl : Nat) (a b : Int) (way : Str) (sg : Bool) (due : Int) (ov bb : V) (pw : Int), vs = [.ref x] ∧ DvAt C CD H x f l sc tl a b way sg [] due ov bb pw ∧ ¬ GM.topS sc tl ≤ sz sc tl a ∧ ¬ GM.topS sc tl ≤ sz sc tl b ∧
  ∀ H', DvAt C CD H' x f l sc tl a b way sg [] ((tl : Int) + 3) (.int (fhN sc tl a)) (.int (fhN sc tl b)) (fhP sc tl a - fhP sc tl b - tl - 2) → (∀ p u, H p = some u → p ≠ x → H' p = some u) → Q .non H'
theorem ok_Divider_begin (B : Bl mg) (L : LL K mg C CD za zl t73 t74 t75 tg_NEAR tg_CUT tg_UP tg_DOWN w dO esO nO) : FnOk P w K mg base CX0 6 (za 80) (zl 80) ["self"] (spBegin C CD) := by
  have G_full_head : FnOk P w K mg base CX0 5 (za 47) (zl 47) ["form", "word"] (spFH C) := (ok_full_head B L).mono (by decide)
  refine L.F_Divider_begin.ok sc_Divider_begin (fun vs H Q E h => ?_) (fun cdv A outer s H vs Q E hr h => ?_)
  · obtain ⟨x, f, l, sc, tl, a, b, way, sg, due, ov, bb, pw, rfl, _⟩ := h
    rfl
  obtain ⟨x, f, l, sc, tl, a, b, way, sg, due, ov, bb, pw, rfl, D, na, nb, q⟩ := h
  refine ⟨_, (pss_cons (ps_asg (pe_call G_full_head hr (by rfl) L.m_full_head L.F_full_head.kp L.b_full_head .nil pass0 (pa_cons (pe_fld (pv 0) rfl) (pa_cons (pe_fld (pv 0) rfl) pa_nil))) (pg_tup (by rfl) (pgs_cons (pg_attr (pv 0)) (pgs_cons (pg_name (i := 1) sc_Divider_begin.nd rfl (.inl rfl)) pgs_nil))))
    (pss_cons (ps_asg (pe_call G_full_head hr (by rfl) L.m_full_head L.F_full_head.kp L.b_full_head .nil pass0 (pa_cons (pe_fld (pv 0) rfl) (pa_cons (pe_fld (pv 0) rfl) pa_nil))) (pg_tup (by rfl) (pgs_cons (pg_attr (pv 0)) (pgs_cons (pg_name (i := 2) sc_Divider_begin.nd rfl (.inl rfl)) pgs_nil))))
    (pss_cons (ps_fld (pv 0) (pe_op op_add (pe_fld (pe_fld (pv 0) rfl) rfl) pe_int) rfl)
    (pss_one (ps_fld (pv 0) (pe_op op_sub (pe_op op_sub (pe_op op_sub (pv 1) (pv 2)) (pe_fld (pe_fld (pv 0) rfl) rfl)) pe_int) rfl))))), ?_⟩
  obtain ⟨⟨dx, hx⟩, hF, el⟩ := id D
  obtain ⟨nfx, nfl, nlx⟩ := D.nfx
  refine ⟨_, rfl, x, CD, dx, _, _, rfl, hx, L.T2.cl, L.T2.n_form, rfl, _, rfl, x, CD, dx, _, _, rfl, hx, L.T2.cl, L.T2.n_one, rfl, f, sc, tl, a, rfl, hF, na, fun t1 H1 s1 e1 => ?_⟩
  refine ⟨t1, _, rfl, .inl (.inl e1), rfl, _, _, rfl, ?_⟩
  refine ⟨_, rfl, x, CD, dx, _, rfl, s1 _ _ hx, L.T2.cl, L.T2.n_over, (by show 10 < 1000; decide), ?_⟩
  refine ⟨_, _, rfl, rfl, ?_⟩
  have D2 := (D.same s1).put dx due (.int (fhN sc tl a)) bb pw
  obtain ⟨H2, hH2⟩ : ∃ H2, H2 = upd H1 x (.ins CD dx (DvF f a b way sg l due (.int (fhN sc tl a)) bb pw)) := ⟨_, rfl⟩
  have k2 : ∀ p u, H p = some u → p ≠ x → H2 p = some u := fun p u e n => by
    rw [hH2, upd_ne n]
    exact s1 _ _ e
  have hx2 : H2 x = some (.ins CD dx (DvF f a b way sg l due (.int (fhN sc tl a)) bb pw)) := by
    rw [hH2]
    exact upd_same
  rw [← hH2] at D2
  show tSeq _ _ _ _ (upd H1 x (.ins CD dx (DvF f a b way sg l due (.int (fhN sc tl a)) bb pw)))
  rw [← hH2]
  try simp only [L2.start, List.map_cons, List.map_nil, List.length_cons, List.length_nil, List.replicate_succ, List.replicate_zero, List.cons_append, List.nil_append, List.set_cons_succ, List.set_cons_zero, Nat.reduceAdd, Nat.reduceSub, Nat.zero_add]
  refine ⟨_, rfl, x, CD, dx, _, _, rfl, hx2, L.T2.cl, L.T2.n_form, rfl, _, rfl, x, CD, dx, _, _, rfl, hx2, L.T2.cl, L.T2.n_two, rfl, f, sc, tl, b, rfl, D2.fa, nb, fun t2 H3 s3 e3 => ?_⟩
  refine ⟨t2, _, rfl, .inl (.inl e3), rfl, _, _, rfl, ?_⟩
  refine ⟨_, rfl, x, CD, dx, _, rfl, s3 _ _ hx2, L.T2.cl, L.T2.n_by, (by show 10 < 1000; decide), ?_⟩
  refine ⟨_, _, rfl, rfl, ?_⟩
  have D4 := (D2.same s3).put dx due (.int (fhN sc tl a)) (.int (fhN sc tl b)) pw
  obtain ⟨H4, hH4⟩ : ∃ H4, H4 = upd H3 x (.ins CD dx (DvF f a b way sg l due (.int (fhN sc tl a)) (.int (fhN sc tl b)) pw)) := ⟨_, rfl⟩
  have k4 : ∀ p u, H p = some u → p ≠ x → H4 p = some u := fun p u e n => by
    rw [hH4, upd_ne n]
    exact s3 _ _ (k2 _ _ e n)
  have hx4 : H4 x = some (.ins CD dx (DvF f a b way sg l due (.int (fhN sc tl a)) (.int (fhN sc tl b)) pw)) := by
    rw [hH4]
    exact upd_same
  rw [← hH4] at D4
  show tSeq _ _ _ _ (upd H3 x (.ins CD dx (DvF f a b way sg l due (.int (fhN sc tl a)) (.int (fhN sc tl b)) pw)))
  rw [← hH4]
  try simp only [L2.start, List.map_cons, List.map_nil, List.length_cons, List.length_nil, List.replicate_succ, List.replicate_zero, List.cons_append, List.nil_append, List.set_cons_succ, List.set_cons_zero, Nat.reduceAdd, Nat.reduceSub, Nat.zero_add]
  obtain ⟨df, hf, h1, h2, h3, h4⟩ := id D4.fa
  refine ⟨_, rfl, x, CD, dx, _, _, rfl, hx4, L.T2.cl, L.T2.n_form, rfl, f, C, df, _, _, rfl, hf, L.T.cl, L.T.nt, fl_t _ _, _, _, rfl, rfl, ?_⟩
  refine ⟨_, rfl, x, CD, dx, _, rfl, hx4, L.T2.cl, L.T2.n_due, (by show 10 < 1000; decide), ?_⟩
  have D5 := D4.put dx ((tl : Int) + 3) (.int (fhN sc tl a)) (.int (fhN sc tl b)) pw
  obtain ⟨df, hf, h1, h2, h3, h4⟩ := id D5.fa
  refine ⟨_, rfl, _, rfl, _, _, rfl, rfl, _, rfl, x, CD, dx, _, _, rfl, upd_same, L.T2.cl, L.T2.n_form, rfl, f, C, df, _, _, rfl, hf, L.T.cl, L.T.nt, fl_t _ _, _, _, rfl, rfl, _, _, rfl, rfl, ?_⟩
  refine ⟨_, rfl, x, CD, dx, _, rfl, upd_same, L.T2.cl, L.T2.n_power, (by show 10 < 1000; decide), ?_⟩
  refine q _ (D5.put dx ((tl : Int) + 3) (.int (fhN sc tl a)) (.int (fhN sc tl b)) (fhP sc tl a - fhP sc tl b - tl - 2)) fun p u e n => ?_
  rw [upd_ne n, upd_ne n]
  exact k4 _ _ e n
theorem and_step (a b : Nat) : a &&& b = 2 * (a / 2 &&& b / 2) + (a % 2) * (b % 2) := by
  have h1 : (a &&& b) / 2 = a / 2 &&& b / 2 := by
    have := Nat.and_div_two_pow (a := a) (b := b) (n := 1)
    simpa using this
  have h2 : (a &&& b) % 2 = (a % 2) * (b % 2) := by
    have := Nat.and_mod_two_pow (a := a) (b := b) (n := 1)
    rw [show 2 ^ 1 = 2 from rfl] at this
    rw [this]
    have ha : a % 2 = 0 ∨ a % 2 = 1 := by omega
    have hb : b % 2 = 0 ∨ b % 2 = 1 := by omega
    rcases ha with ha | ha <;> rcases hb with hb | hb <;> rw [ha, hb] <;> rfl
  omega
theorem or_lt (k : Nat) : ∀ a b : Nat, a < 2 ^ k → b < 2 ^ k → a + b < 2 ^ k + (a &&& b) := by
  induction k with
  | zero =>
    intro a b ha hb
    have : a = 0 := by omega
    have : b = 0 := by omega
    subst a b
    decide
  | succ k ih =>
    intro a b ha hb
    rw [Nat.pow_succ] at ha hb ⊢
    have := ih (a / 2) (b / 2) (by omega) (by omega)
    rw [and_step a b]
    have ha : a % 2 = 0 ∨ a % 2 = 1 := by omega
    have hb : b % 2 = 0 ∨ b % 2 = 1 := by omega
    rcases ha with ha | ha <;> rcases hb with hb | hb <;> rw [ha, hb] <;> omega
theorem and_split (k a b : Nat) : a &&& b = (a / 2 ^ k &&& b / 2 ^ k) * 2 ^ k + (a % 2 ^ k &&& b % 2 ^ k) := by
  have h1 := Nat.and_div_two_pow (a := a) (b := b) (n := k)
  have h2 := Nat.and_mod_two_pow (a := a) (b := b) (n := k)
  rw [← h1, ← h2, Nat.mul_comm]
  exact (Nat.div_add_mod _ _).symm
theorem xor_high (k m n : Nat) : Builtin.bitXor (m : Int) (n : Int) / 2 ^ k = Builtin.bitXor ((m / 2 ^ k : Nat) : Int) ((n / 2 ^ k : Nat) : Int) := by
  have bx : ∀ x y : Nat, Builtin.bitXor (x : Int) (y : Int) = (x : Int) + y - 2 * ((x &&& y : Nat) : Int) := fun x y => by
    rw [bitXor_and]
    rfl
  rw [bx, bx]
  have hp := GM.pow_pos' k
  have c : ((2 ^ k : Nat) : Int) = (2 : Int) ^ k := PySem.W.kbt_cast _
  have e := and_split k m n
  have l := or_lt k (m % 2 ^ k) (n % 2 ^ k) (Nat.mod_lt _ (by omega)) (Nat.mod_lt _ (by omega))
  have l1 := Nat.and_le_left (n := m % 2 ^ k) (m := n % 2 ^ k)
  have l2 := Nat.and_le_right (n := m % 2 ^ k) (m := n % 2 ^ k)
  have dm := Nat.div_add_mod m (2 ^ k)
  have dn := Nat.div_add_mod n (2 ^ k)
  generalize m / 2 ^ k = mq at *
  generalize n / 2 ^ k = nq at *
  generalize m % 2 ^ k = mr at *
  generalize n % 2 ^ k = nr at *
  generalize mr &&& nr = r at *
  rw [e]
  generalize mq &&& nq = s
  rw [← dm, ← dn, Int.natCast_add, Int.natCast_add, Int.natCast_add, Int.natCast_mul, Int.natCast_mul, Int.natCast_mul, c]
  rw [show (2 : Int) ^ k * mq + mr + (2 ^ k * nq + nr) - 2 * (s * 2 ^ k + r) = (mr + nr - 2 * r) + (mq + nq - 2 * s) * 2 ^ k by rw [Int.sub_mul, Int.add_mul, Int.mul_add, Int.mul_comm (2 ^ k) mq, Int.mul_comm (2 ^ k) nq, Int.mul_assoc]; omega]
  rw [Int.add_mul_ediv_right _ _ (by omega), Int.ediv_eq_zero_of_lt (by omega) (by omega), Int.zero_add]
theorem wn_zero (sc tl : Nat) (v : Int) : (wn sc tl v = 0 ↔ sz sc tl v = 0) ∧ (GM.sgn sc tl v = 0 → 0 ≤ wn sc tl v) ∧ (GM.sgn sc tl v = 1 → wn sc tl v ≤ 0) := by
  have h := num_zero (tl := tl) (sz_nn sc tl v)
  unfold wn
  refine ⟨?_, ?_, ?_⟩
  · split
    · rw [← h.2]
      omega
    · exact h.2
  · intro z
    rw [if_neg (by omega)]
    exact h.1
  · intro z
    rw [if_pos z]
    omega
theorem zero_two {x y : Int} {i j : Nat} (h : x * 2 ^ i + y * 2 ^ j = 0) (hs : (0 ≤ x ∧ 0 ≤ y) ∨ (x ≤ 0 ∧ y ≤ 0)) : x = 0 ∧ y = 0 := by
  have pi := GM.pow_pos' i
  have pj := GM.pow_pos' j
  have key : ∀ {x y : Int}, x * 2 ^ i + y * 2 ^ j = 0 → 0 ≤ x → 0 ≤ y → x = 0 ∧ y = 0 := fun {x y} h hx hy => by
    have a := Int.mul_nonneg hx (Int.le_of_lt pi)
    have b := Int.mul_nonneg hy (Int.le_of_lt pj)
    have a0 : x * 2 ^ i = 0 := by omega
    have b0 : y * 2 ^ j = 0 := by omega
    exact ⟨(Int.mul_eq_zero.mp a0).resolve_right (by omega), (Int.mul_eq_zero.mp b0).resolve_right (by omega)⟩
  rcases hs with hs | hs
  · exact key h hs.1 hs.2
  · have := key (x := -x) (y := -y) (by rw [Int.neg_mul, Int.neg_mul]; omega) (by omega) (by omega)
    omega
theorem m3 (x a b c : Str) : x ∈ [a, b, c] ↔ (a = x ∨ b = x ∨ c = x) := by
  rw [List.mem_cons, List.mem_cons, List.mem_cons]
  exact ⟨fun z => z.elim (fun e => .inl e.symm) fun z => z.elim (fun e => .inr (.inl e.symm)) fun z => z.elim (fun e => .inr (.inr e.symm)) fun z => (nomatch z), fun z => z.elim (fun e => .inl e.symm) fun z => z.elim (fun e => .inr (.inl e.symm)) fun e => .inr (.inr (.inl e.symm))⟩
theorem m2 (x a b : Str) : x ∈ [a, b] ↔ (a = x ∨ b = x) := by
  rw [List.mem_cons, List.mem_cons]
  exact ⟨fun z => z.elim (fun e => .inl e.symm) fun z => z.elim (fun e => .inr e.symm) fun z => (nomatch z), fun z => z.elim (fun e => .inl e.symm) fun e => .inr (.inl e.symm)⟩
theorem ab_mul' (sc tl : Nat) (a b : Int) : ab (wn sc tl a * wn sc tl b) = GM.num tl (sz sc tl a) * GM.num tl (sz sc tl b) := by
  rw [← ab_num, ← ab_num]
  have e : ∀ z : Int, ab z = (z.natAbs : Int) := fun z => by
    unfold ab
    split <;> omega
  rw [e, e, e, Int.natAbs_mul, Int.natCast_mul]
end
section
variable {P : Program} {w : World} {K : PySem.W.Frag} {mg : Str → Option Value} {base : Heap}
variable {C : Addr} {CD : Addr} {za : Nat → Addr} {zl : Nat → FuncData} {t73 t74 t75 tg_NEAR tg_CUT tg_UP tg_DOWN : Tok} {dO : Addr} {esO : Array DictEntry} {nO : Nat}
theorem upd_twice {H : Hp} {x : Addr} {o o' : HO} : upd (upd H x o) x o' = upd H x o' := by
  funext y
  by_cases c : y = x
  · rw [c, upd_same, upd_same]
  · rw [upd_ne c, upd_ne c, upd_ne c]
theorem gnx42 {H H' : Hp} {T : L2.St → Hp → Prop} {σ : L2.St} (e : H = H') (h : T σ H') : T σ H := e ▸ h
def dvDue (sc tl : Nat) (a b : Int) : Int := if [a, b].all (hdv sc tl) = true then (tl : Int) + 3 else 0
def dvOv (sc tl : Nat) (a b : Int) : V := if [a, b].all (hdv sc tl) = true then .int (fhN sc tl a) else .non
def dvBy (sc tl : Nat) (a b : Int) : V := if [a, b].all (hdv sc tl) = true then .int (fhN sc tl b) else .non
def dvPw (sc tl : Nat) (a b : Int) : Int := if [a, b].all (hdv sc tl) = true then fhP sc tl a - fhP sc tl b - tl - 2 else 0
def spDvI (C CD : Addr) : Sp := fun vs H Q _ => ∃ (x dx f0 : Addr) (sc tl : Nat) (a b : Int) (way : Str) (sg : Bool), vs = [.ref x, .ref f0, .int a, .int b, .str way, .bl sg] ∧ H x = some (.ins CD dx []) ∧ FAt C H f0 sc tl ∧
  ∀ f l H', DvAt C CD H' x f l sc tl a b way sg [] (dvDue sc tl a b) (dvOv sc tl a b) (dvBy sc tl a b) (dvPw sc tl a b) → H l = none → H f = none → (∀ p u, H p = some u → p ≠ x → H' p = some u) → Q .non H'
theorem ok_Divider___init__ (B : Bl mg) (L : LL K mg C CD za zl t73 t74 t75 tg_NEAR tg_CUT tg_UP tg_DOWN w dO esO nO) : FnOk P w K mg base CX0 8 (za 79) (zl 79) ["self", "form", "a", "b", "way", "signed"] (spDvI C CD) := by
  have G_Form___init__ : FnOk P w K mg base CX0 6 (za 67) (zl 67) ["self", "scale", "tail"] (spInit C) := (ok_Form___init__ B L).mono (by decide)
  have G_have_heads : FnOk P w K mg base CX0 7 (za 37) (zl 37) ["form", "words"] (spHH K C) := (ok_have_heads B L).mono (by decide)
  have G_Divider_begin : FnOk P w K mg base CX0 7 (za 80) (zl 80) ["self"] (spBegin C CD) := (ok_Divider_begin B L).mono (by decide)
  refine L.F_Divider___init__.ok sc_Divider___init__ (fun vs H Q E h => ?_) (fun cdv A outer s H vs Q E hr h => ?_)
  · obtain ⟨x, dx, f0, sc, tl, a, b, way, sg, rfl, _⟩ := h
    rfl
  obtain ⟨x, dx, f0, sc, tl, a, b, way, sg, rfl, hx, hF0, q⟩ := h
  refine ⟨_, (pss_cons (ps_fld (pv 0) (pe_make L.M G_Form___init__ hr (by rfl) L.T.mgC L.b_Form___init__ .nil pass0 (pa_cons (pe_fld (pv 1) rfl) (pa_cons (pe_fld (pv 1) rfl) pa_nil))) rfl)
    (pss_cons (ps_fld (pv 0) (pv 2) rfl)
    (pss_cons (ps_fld (pv 0) (pv 3) rfl)
    (pss_cons (ps_fld (pv 0) (pv 4) rfl)
    (pss_cons (ps_fld (pv 0) (pv 5) rfl)
    (pss_cons (ps_fld (pv 0) (pe_lst pa_nil) rfl)
    (pss_cons (ps_fld (pv 0) pe_int rfl)
    (pss_cons (ps_fld (pv 0) pe_non rfl)
    (pss_cons (ps_fld (pv 0) pe_non rfl)
    (pss_cons (ps_fld (pv 0) pe_int rfl)
    (pss_one (ps_if (pt_val (pe_call G_have_heads hr (by rfl) L.m_have_heads L.F_have_heads.kp L.b_have_heads .nil pass0 (pa_cons (pe_fld (pv 0) rfl) (pa_cons (pe_tup (pa_cons (pv 2) (pa_cons (pv 3) pa_nil))) pa_nil)))) (pss_one (ps_expr (pe_meth0 (pv 0) L.T2.cl L.M_Divider_begin G_Divider_begin hr L.b_Divider_begin .nil pass0))) pss_nil)))))))))))), ?_⟩
  obtain ⟨d0, hf0, h1, h2, h3, h4⟩ := id hF0
  refine ⟨_, rfl, f0, C, d0, _, _, rfl, hf0, L.T.cl, L.T.ns, fl_s _ _, _, rfl, f0, C, d0, _, _, rfl, hf0, L.T.cl, L.T.nt, fl_t _ _, fun f df nf ndf ne => ?_⟩
  refine ⟨f, df, sc, tl, rfl, upd_same, h1, h2, h3, h4, fun H1 F1 kp => ⟨rfl, ?_⟩⟩
  have s1 : Same H H1 := made nf ndf ne kp
  have nfx : f ≠ x := (ne_of_none hx nf).symm
  refine ⟨_, rfl, x, CD, dx, _, rfl, s1 _ _ hx, L.T2.cl, L.T2.n_form, (by decide), ?_⟩
  refine ⟨_, rfl, _, rfl, x, CD, dx, _, rfl, upd_same, L.T2.cl, L.T2.n_one, (by show 1 < 1000; decide), ?_⟩
  rw [upd_twice]
  refine ⟨_, rfl, _, rfl, x, CD, dx, _, rfl, upd_same, L.T2.cl, L.T2.n_two, (by show 2 < 1000; decide), ?_⟩
  rw [upd_twice]
  refine ⟨_, rfl, _, rfl, x, CD, dx, _, rfl, upd_same, L.T2.cl, L.T2.n_way, (by show 3 < 1000; decide), ?_⟩
  rw [upd_twice]
  refine ⟨_, rfl, _, rfl, x, CD, dx, _, rfl, upd_same, L.T2.cl, L.T2.n_signed, (by show 4 < 1000; decide), ?_⟩
  rw [upd_twice]
  refine ⟨Nat.zero_le _, fun l nl => ?_⟩
  have nlx : l ≠ x := fun z => by
    rw [z, upd_same] at nl
    cases nl
  have nl1 : H1 l = none := by
    rw [upd_ne nlx] at nl
    exact nl
  have nl0 := s1.free nl1
  have nfl : f ≠ l := fun z => by
    obtain ⟨_, e, _⟩ := F1
    rw [z, nl1] at e
    cases e
  refine ⟨_, rfl, x, CD, dx, _, rfl, (by rw [upd_ne nlx.symm]; exact upd_same), L.T2.cl, L.T2.n_told, (by show 5 < 1000; decide), ?_⟩
  refine ⟨_, rfl, x, CD, dx, _, rfl, upd_same, L.T2.cl, L.T2.n_due, (by show 6 < 1000; decide), ?_⟩
  rw [upd_twice]
  refine ⟨_, rfl, x, CD, dx, _, rfl, upd_same, L.T2.cl, L.T2.n_over, (by show 7 < 1000; decide), ?_⟩
  rw [upd_twice]
  refine ⟨_, rfl, x, CD, dx, _, rfl, upd_same, L.T2.cl, L.T2.n_by, (by show 8 < 1000; decide), ?_⟩
  rw [upd_twice]
  refine ⟨_, rfl, x, CD, dx, _, rfl, upd_same, L.T2.cl, L.T2.n_power, (by show 9 < 1000; decide), ?_⟩
  rw [upd_twice]
  have D0 : DvAt C CD (upd (upd (upd H1 x (.ins CD dx [("form", .ref f), ("one", .int a), ("two", .int b), ("way", .str way), ("signed", .bl sg)])) l (.lst [])) x (.ins CD dx (DvF f a b way sg l 0 .non .non 0))) x f l sc tl a b way sg [] 0 .non .non 0 := by
    obtain ⟨d1, hf1, r1⟩ := F1
    exact ⟨⟨dx, upd_same⟩, ⟨d1, by rw [upd_ne nfx, upd_ne nfl, upd_ne nfx]; exact hf1, r1⟩, by rw [upd_ne nlx, upd_same]; rfl⟩
  have k0 : ∀ p u, H p = some u → p ≠ x → (upd (upd (upd H1 x (.ins CD dx [("form", .ref f), ("one", .int a), ("two", .int b), ("way", .str way), ("signed", .bl sg)])) l (.lst [])) x (.ins CD dx (DvF f a b way sg l 0 .non .non 0))) p = some u := fun p u e n => by
    rw [upd_ne n, upd_ne (ne_of_none e nl0), upd_ne n]
    exact s1 _ _ e
  refine gnx42 (H' := (upd (upd (upd H1 x (.ins CD dx [("form", .ref f), ("one", .int a), ("two", .int b), ("way", .str way), ("signed", .bl sg)])) l (.lst [])) x (.ins CD dx (DvF f a b way sg l 0 .non .non 0)))) rfl ?_
  generalize upd (upd (upd H1 x (.ins CD dx [("form", .ref f), ("one", .int a), ("two", .int b), ("way", .str way), ("signed", .bl sg)])) l (.lst [])) x (.ins CD dx (DvF f a b way sg l 0 .non .non 0)) = H2 at *
  obtain ⟨dx2, hx2⟩ := D0.row
  refine ⟨_, rfl, x, CD, dx2, _, _, rfl, hx2, L.T2.cl, L.T2.n_form, rfl, _, rfl, _, rfl, (by show 2 ≤ sizeLine; decide), fun t nt => ?_⟩
  have st := same_upd (o := .tup [.int a, .int b]) nt
  refine ⟨f, t, sc, tl, [a, b], rfl, D0.fa.same st, .inl (.inl upd_same), Nat.le_of_ble_eq_true rfl, fun H3 s3 => ?_⟩
  have D3 := (D0.same st).same s3
  unfold dvDue dvOv dvBy dvPw at q
  refine ⟨_, rfl, ite2 (fun c => ?_) (fun c => ?_)⟩
  · rw [if_pos c, if_pos c, if_pos c, if_pos c] at q
    have hab := List.all_eq_true.mp c
    obtain ⟨dx3, hx3⟩ := D3.row
    refine ⟨_, rfl, x, dx3, _, rfl, hx3, rfl, x, f, l, sc, tl, a, b, way, sg, 0, .non, .non, 0, rfl, D3, (hdv_real (hab a (by simp))).1, (hdv_real (hab b (by simp))).1, fun H4 D4 k4 => ?_⟩
    exact q f l _ D4 nl0 nf fun p u e n => k4 _ _ (s3 _ _ (st _ _ (k0 _ _ e n))) n
  · rw [if_neg c, if_neg c, if_neg c, if_neg c] at q
    exact q f l _ D3 nl0 nf fun p u e n => s3 _ _ (st _ _ (k0 _ _ e n))
theorem sx_01' (sc tl : Nat) (a b : Int) : sx sc tl a b = 0 ∨ sx sc tl a b = 1 := by
  unfold sx
  split <;> simp
def oQ (ds : List Int) (o : Int) : Int := wof ds - (if o < 0 then 1 else 0)
def spOut (C CD : Addr) : Sp := fun vs H Q _ => ∃ (x f l : Addr) (sc tl : Nat) (a b : Int) (way : Str) (sg : Bool) (ds : List Int) (due o y pw : Int), vs = [.ref x] ∧ DvAt C CD H x f l sc tl a b way sg ds due (.int o) (.int y) pw ∧ due - (ds.length : Nat) ≤ 0 ∧ Fit (oQ ds o) ∧ -4000 ≤ pw ∧ pw ≤ 4000 ∧ (¬ o = 0 → oQ ds o ≠ 0 ∧ pw < GR.lap sc tl (oQ ds o) pw) ∧
  ∀ t H', Same H H' → PairAt H' t (GR.rnd sc tl (sx sc tl a b) (oQ ds o) pw way (!decide (o = 0))) → Q (.ref t) H'
theorem ok_out1 (B : Bl mg) (L : LL K mg C CD za zl t73 t74 t75 tg_NEAR tg_CUT tg_UP tg_DOWN w dO esO nO) : FnOk P w K mg base CX0 9 (za 88) (zl 88) ["self"] (spOut C CD) := by
  have G_Divider_left : FnOk P w K mg base CX0 8 (za 87) (zl 87) ["self"] (spLeft C CD) := (ok_Divider_left B L).mono (by decide)
  have G_Divider_quotient : FnOk P w K mg base CX0 8 (za 84) (zl 84) ["self"] (spQuot C CD) := (ok_Divider_quotient B L).mono (by decide)
  have G_divided : FnOk P w K mg base CX0 8 (za 13) (zl 13) ["form", "a", "b", "way"] (spDiv C) := (ok_divided B L).mono (by decide)
  have G_unlike_sign : FnOk P w K mg base CX0 8 (za 19) (zl 19) ["form", "a", "b"] (spUnl C) := (ok_unlike_sign B L).mono (by decide)
  have G_rounded : FnOk P w K mg base CX0 8 (za 4) (zl 4) ["form", "sign", "number", "power", "way", "more"] (spRnd C) := (ok_rounded B L).mono (by decide)
  refine L.F_Divider_outcome.ok sc_Divider_outcome (fun vs H Q E h => ?_) (fun cdv A outer s H vs Q E hr h => ?_)
  · obtain ⟨x, f, l, sc, tl, a, b, way, sg, ds, due, o, y, pw, rfl, _⟩ := h
    rfl
  obtain ⟨x, f, l, sc, tl, a, b, way, sg, ds, due, o, y, pw, rfl, D, hd, hn, p0, p1, hm, q⟩ := h
  refine ⟨_, (pss_cons (ps_if (pt_cmpR op_gt (pe_meth0 (pv 0) L.T2.cl L.M_Divider_left G_Divider_left hr L.b_Divider_left .nil pass0) pe_int (nomark _)) (pss_one ps_never) pss_nil)
    (pss_cons (ps_if (pt_cmpR op_isN (pe_fld (pv 0) rfl) pe_non (nomark _)) (pss_one (ps_ret (pe_callN G_divided hr (by rfl) L.m_divided L.F_divided.kp (L.kb_divided_way).choose_spec pass0 (pa_cons (pe_fld (pv 0) rfl) (pa_cons (pe_fld (pv 0) rfl) (pa_cons (pe_fld (pv 0) rfl) pa_nil))) (pk_cons (pe_fld (pv 0) rfl) pk_nil)))) pss_nil)
    (pss_cons (ps_set (i := 1) sc_Divider_outcome.nd rfl (.inl rfl) (pe_op op_sub (pe_meth0 (pv 0) L.T2.cl L.M_Divider_quotient G_Divider_quotient hr L.b_Divider_quotient .nil pass0) (pe_ifExp (pt_cmpR op_lt (pe_fld (pv 0) rfl) pe_int (nomark _)) pe_int pe_int)))
    (pss_cons (ps_set (i := 2) sc_Divider_outcome.nd rfl (.inl rfl) (pe_cmpR op_ne (pe_fld (pv 0) rfl) pe_int (nomark _)))
    (pss_cons (ps_set (i := 3) sc_Divider_outcome.nd rfl (.inl rfl) (pe_call G_unlike_sign hr (by rfl) L.m_unlike_sign L.F_unlike_sign.kp L.b_unlike_sign .nil pass0 (pa_cons (pe_fld (pv 0) rfl) (pa_cons (pe_fld (pv 0) rfl) (pa_cons (pe_fld (pv 0) rfl) pa_nil)))))
    (pss_one (ps_ret (pe_callN G_rounded hr (by rfl) L.m_rounded L.F_rounded.kp (L.kb_rounded_way_more).choose_spec pass0 (pa_cons (pe_fld (pv 0) rfl) (pa_cons (pv 3) (pa_cons (pv 1) (pa_cons (pe_fld (pv 0) rfl) pa_nil)))) (pk_cons (pe_fld (pv 0) rfl) (pk_cons (pv 2) pk_nil)))))))))), ?_⟩
  obtain ⟨⟨dx, hx⟩, hF, el⟩ := id D
  refine ⟨_, rfl, x, dx, _, rfl, hx, rfl, x, f, l, sc, tl, a, b, way, sg, ds, due, .int o, .int y, pw, rfl, D, _, _, rfl, rfl, _, rfl, ite2 (fun c => ?_) (fun _ => ?_)⟩
  · have := of_decide_eq_true c
    omega
  refine ⟨_, rfl, x, CD, dx, _, _, rfl, hx, L.T2.cl, L.T2.n_by, rfl, rfl, _, rfl, iteF ?_⟩
  refine ⟨_, rfl, x, dx, _, rfl, hx, rfl, x, f, l, sc, tl, a, b, way, sg, ds, due, .int o, .int y, pw, rfl, D, ?_⟩
  refine if_ev (fun z H' => z = .int (if o < 0 then 1 else 0) ∧ H' = H) (fun Q' q' => ?_) ?_
  · refine ⟨_, rfl, x, CD, dx, _, _, rfl, hx, L.T2.cl, L.T2.n_over, rfl, _, _, rfl, rfl, _, rfl, ite2 (fun c => q' _ _ ⟨by rw [if_pos (of_decide_eq_true c)], rfl⟩) (fun c => q' _ _ ⟨by rw [if_neg (of_decide_eq_false (Bool.eq_false_iff.mpr c))], rfl⟩)⟩
  rintro _ _ ⟨rfl, rfl⟩
  refine ⟨_, _, rfl, rfl, ?_⟩
  refine gI (show _ = oQ ds o from rfl) ?_
  try simp only [L2.start, List.map_cons, List.map_nil, List.length_cons, List.length_nil, List.replicate_succ, List.replicate_zero, List.cons_append, List.nil_append, List.set_cons_succ, List.set_cons_zero, Nat.reduceAdd, Nat.reduceSub, Nat.zero_add]
  refine ⟨_, rfl, x, CD, dx, _, _, rfl, hx, L.T2.cl, L.T2.n_over, rfl, rfl, ?_⟩
  refine gB (show _ = !decide (o = 0) from by rw [dvi]) ?_
  try simp only [L2.start, List.map_cons, List.map_nil, List.length_cons, List.length_nil, List.replicate_succ, List.replicate_zero, List.cons_append, List.nil_append, List.set_cons_succ, List.set_cons_zero, Nat.reduceAdd, Nat.reduceSub, Nat.zero_add]
  refine ⟨_, rfl, x, CD, dx, _, _, rfl, hx, L.T2.cl, L.T2.n_form, rfl, _, rfl, x, CD, dx, _, _, rfl, hx, L.T2.cl, L.T2.n_one, rfl, _, rfl, x, CD, dx, _, _, rfl, hx, L.T2.cl, L.T2.n_two, rfl, f, sc, tl, a, b, rfl, hF, fun H1 s1 => ?_⟩
  try simp only [L2.start, List.map_cons, List.map_nil, List.length_cons, List.length_nil, List.replicate_succ, List.replicate_zero, List.cons_append, List.nil_append, List.set_cons_succ, List.set_cons_zero, Nat.reduceAdd, Nat.reduceSub, Nat.zero_add]
  have hx1 := s1 _ _ hx
  refine ⟨_, rfl, x, CD, dx, _, _, rfl, hx1, L.T2.cl, L.T2.n_form, rfl, _, rfl, _, rfl, _, rfl, x, CD, dx, _, _, rfl, hx1, L.T2.cl, L.T2.n_power, rfl, _, rfl, x, CD, dx, _, _, rfl, hx1, L.T2.cl, L.T2.n_way, rfl, _, rfl, rfl, rfl, f, sc, tl, sx sc tl a b, oQ ds o, pw, way, !decide (o = 0), rfl, hF.same s1, sx_01' sc tl a b, hn, p0, p1, fun z => hm (by simpa using z), fun t H2 nt s2 P2 => q t _ (s1.trans s2) P2⟩
end
section
variable {P : Program} {w : World} {K : PySem.W.Frag} {mg : Str → Option Value} {base : Heap}
variable {C : Addr} {CD : Addr} {za : Nat → Addr} {zl : Nat → FuncData} {t73 t74 t75 tg_NEAR tg_CUT tg_UP tg_DOWN : Tok} {dO : Addr} {esO : Array DictEntry} {nO : Nat}
def spOutN (C CD : Addr) : Sp := fun vs H Q _ => ∃ (x f l : Addr) (sc tl : Nat) (a b : Int) (way : Str) (sg : Bool) (ds : List Int) (due : Int) (ov : V) (pw : Int), vs = [.ref x] ∧ DvAt C CD H x f l sc tl a b way sg ds due ov .non pw ∧ due - (ds.length : Nat) ≤ 0 ∧
  ∀ t H', Same H H' → PairAt H' t (divR sc tl a b way) → Q (.ref t) H'
theorem ok_outN (B : Bl mg) (L : LL K mg C CD za zl t73 t74 t75 tg_NEAR tg_CUT tg_UP tg_DOWN w dO esO nO) : FnOk P w K mg base CX0 9 (za 88) (zl 88) ["self"] (spOutN C CD) := by
  have G_Divider_left : FnOk P w K mg base CX0 8 (za 87) (zl 87) ["self"] (spLeft C CD) := (ok_Divider_left B L).mono (by decide)
  have G_Divider_quotient : FnOk P w K mg base CX0 8 (za 84) (zl 84) ["self"] (spQuot C CD) := (ok_Divider_quotient B L).mono (by decide)
  have G_divided : FnOk P w K mg base CX0 8 (za 13) (zl 13) ["form", "a", "b", "way"] (spDiv C) := (ok_divided B L).mono (by decide)
  have G_unlike_sign : FnOk P w K mg base CX0 8 (za 19) (zl 19) ["form", "a", "b"] (spUnl C) := (ok_unlike_sign B L).mono (by decide)
  have G_rounded : FnOk P w K mg base CX0 8 (za 4) (zl 4) ["form", "sign", "number", "power", "way", "more"] (spRnd C) := (ok_rounded B L).mono (by decide)
  refine L.F_Divider_outcome.ok sc_Divider_outcome (fun vs H Q E h => ?_) (fun cdv A outer s H vs Q E hr h => ?_)
  · obtain ⟨x, f, l, sc, tl, a, b, way, sg, ds, due, ov, pw, rfl, _⟩ := h
    rfl
  obtain ⟨x, f, l, sc, tl, a, b, way, sg, ds, due, ov, pw, rfl, D, hd, q⟩ := h
  refine ⟨_, (pss_cons (ps_if (pt_cmpR op_gt (pe_meth0 (pv 0) L.T2.cl L.M_Divider_left G_Divider_left hr L.b_Divider_left .nil pass0) pe_int (nomark _)) (pss_one ps_never) pss_nil)
    (pss_cons (ps_if (pt_cmpR op_isN (pe_fld (pv 0) rfl) pe_non (nomark _)) (pss_one (ps_ret (pe_callN G_divided hr (by rfl) L.m_divided L.F_divided.kp (L.kb_divided_way).choose_spec pass0 (pa_cons (pe_fld (pv 0) rfl) (pa_cons (pe_fld (pv 0) rfl) (pa_cons (pe_fld (pv 0) rfl) pa_nil))) (pk_cons (pe_fld (pv 0) rfl) pk_nil)))) pss_nil)
    (pss_cons (ps_set (i := 1) sc_Divider_outcome.nd rfl (.inl rfl) (pe_op op_sub (pe_meth0 (pv 0) L.T2.cl L.M_Divider_quotient G_Divider_quotient hr L.b_Divider_quotient .nil pass0) (pe_ifExp (pt_cmpR op_lt (pe_fld (pv 0) rfl) pe_int (nomark _)) pe_int pe_int)))
    (pss_cons (ps_set (i := 2) sc_Divider_outcome.nd rfl (.inl rfl) (pe_cmpR op_ne (pe_fld (pv 0) rfl) pe_int (nomark _)))
    (pss_cons (ps_set (i := 3) sc_Divider_outcome.nd rfl (.inl rfl) (pe_call G_unlike_sign hr (by rfl) L.m_unlike_sign L.F_unlike_sign.kp L.b_unlike_sign .nil pass0 (pa_cons (pe_fld (pv 0) rfl) (pa_cons (pe_fld (pv 0) rfl) (pa_cons (pe_fld (pv 0) rfl) pa_nil)))))
    (pss_one (ps_ret (pe_callN G_rounded hr (by rfl) L.m_rounded L.F_rounded.kp (L.kb_rounded_way_more).choose_spec pass0 (pa_cons (pe_fld (pv 0) rfl) (pa_cons (pv 3) (pa_cons (pv 1) (pa_cons (pe_fld (pv 0) rfl) pa_nil)))) (pk_cons (pe_fld (pv 0) rfl) (pk_cons (pv 2) pk_nil)))))))))), ?_⟩
  obtain ⟨⟨dx, hx⟩, hF, el⟩ := id D
  refine ⟨_, rfl, x, dx, _, rfl, hx, rfl, x, f, l, sc, tl, a, b, way, sg, ds, due, ov, .non, pw, rfl, D, _, _, rfl, rfl, _, rfl, ite2 (fun c => ?_) (fun _ => ?_)⟩
  · have := of_decide_eq_true c
    omega
  refine ⟨_, rfl, x, CD, dx, _, _, rfl, hx, L.T2.cl, L.T2.n_by, rfl, rfl, _, rfl, iteT ?_⟩
  refine ⟨_, rfl, x, CD, dx, _, _, rfl, hx, L.T2.cl, L.T2.n_form, rfl, _, rfl, x, CD, dx, _, _, rfl, hx, L.T2.cl, L.T2.n_one, rfl, _, rfl, x, CD, dx, _, _, rfl, hx, L.T2.cl, L.T2.n_two, rfl, _, rfl, x, CD, dx, _, _, rfl, hx, L.T2.cl, L.T2.n_way, rfl, rfl, rfl, f, sc, tl, a, b, way, rfl, hF, fun t H1 s1 P1 => q t _ s1 P1⟩
def stp (sg : Bool) (tl : Nat) (y : Int) (p : List Int × Int) : List Int × Int := (p.1 ++ [dgt sg tl y (rst p.1 p.2)], rst p.1 p.2 - dgt sg tl y (rst p.1 p.2) * y)
def runD (sg : Bool) (tl : Nat) (y o : Int) : Nat → List Int × Int
  | 0 => ([], o)
  | j + 1 => stp sg tl y (runD sg tl y o j)
theorem runD_len (sg : Bool) (tl : Nat) (y o : Int) : ∀ j, (runD sg tl y o j).1.length = j
  | 0 => rfl
  | j + 1 => by
    show ((runD sg tl y o j).1 ++ [_]).length = j + 1
    rw [List.length_append, runD_len sg tl y o j]
    rfl
theorem wof_app (ds : List Int) (d : Int) : wof (ds ++ [d]) = 2 * wof ds + d := by
  unfold wof
  rw [List.foldl_append]
  rfl
structure DI (sg : Bool) (tl : Nat) (X Y : Int) (j : Nat) (p : List Int × Int) : Prop where
  eq : X * 2 ^ j = wof p.1 * Y + p.2
  lo : -Y < p.2
  hi : p.2 < Y
  un : sg = false → 0 ≤ p.2
  pw : Y = 2 ^ tl → 0 ≤ p.2
theorem dgt_step {sg : Bool} {tl : Nat} {Y r : Int} (hY : 2 ^ tl ≤ Y) (r0 : -(2 * Y) < r) (r1 : r < 2 * Y) (ru : sg = false → 0 ≤ r) (rp : Y = 2 ^ tl → 0 ≤ r) :
    -Y < r - dgt sg tl Y r * Y ∧ r - dgt sg tl Y r * Y < Y ∧ (sg = false → 0 ≤ r - dgt sg tl Y r * Y) ∧ (Y = 2 ^ tl → 0 ≤ r - dgt sg tl Y r * Y) := by
  have hp := GM.pow_pos' tl
  unfold dgt
  generalize (2 : Int) ^ tl = T at *
  cases sg with
  | false =>
    have ru := ru rfl
    rw [if_neg (by decide)]
    by_cases c : Y ≤ r
    · rw [if_pos c]
      exact ⟨by omega, by omega, fun _ => by omega, fun _ => by omega⟩
    · rw [if_neg c]
      exact ⟨by omega, by omega, fun _ => by omega, fun _ => by omega⟩
  | true =>
    rw [if_pos rfl]
    by_cases c : T ≤ r
    · rw [if_pos c]
      exact ⟨by omega, by omega, fun z => (by cases z), fun z => by omega⟩
    · rw [if_neg c]
      by_cases d : r < -T
      · rw [if_pos d]
        refine ⟨by omega, by omega, fun z => (by cases z), fun z => ?_⟩
        have := rp z
        omega
      · rw [if_neg d]
        refine ⟨?_, by omega, fun z => (by cases z), fun z => ?_⟩
        · by_cases e : Y = T
          · have := rp e
            omega
          · omega
        · have := rp z
          omega
theorem run_inv {sg : Bool} {tl : Nat} {X Y : Int} (X0 : 0 ≤ X) (X1 : X < 2 * Y) (hY : 2 ^ tl ≤ Y) : ∀ j, DI sg tl X Y j (runD sg tl Y X (j + 1))
  | 0 => by
    have hp := GM.pow_pos' tl
    obtain ⟨a, b, c, d⟩ := dgt_step (sg := sg) (r := X) hY (by omega) X1 (fun _ => X0) (fun _ => X0)
    refine ⟨?_, a, b, c, d⟩
    show X * 2 ^ 0 = wof ([] ++ [dgt sg tl Y X]) * Y + (X - dgt sg tl Y X * Y)
    rw [wof_app, show wof [] = 0 from rfl, Int.mul_zero, Int.zero_add]
    omega
  | j + 1 => by
    have hp := GM.pow_pos' tl
    have ih := run_inv (sg := sg) X0 X1 hY j
    have hl := runD_len sg tl Y X (j + 1)
    generalize hP : runD sg tl Y X (j + 1) = p at ih hl
    have hr : rst p.1 p.2 = 2 * p.2 := by
      unfold rst
      rw [if_neg (fun z => by rw [z] at hl; cases hl)]
    have h1 := ih.lo
    have h2 := ih.hi
    obtain ⟨a, b, c, d⟩ := dgt_step (sg := sg) (r := 2 * p.2) hY (by omega) (by omega) (fun z => by have := ih.un z; omega) (fun z => by have := ih.pw z; omega)
    have e2 : runD sg tl Y X (j + 1 + 1) = (p.1 ++ [dgt sg tl Y (2 * p.2)], 2 * p.2 - dgt sg tl Y (2 * p.2) * Y) := by
      show stp sg tl Y (runD sg tl Y X (j + 1)) = _
      rw [hP]
      unfold stp
      rw [hr]
    rw [e2]
    refine ⟨?_, a, b, c, d⟩
    show X * 2 ^ (j + 1) = wof (p.1 ++ [dgt sg tl Y (2 * p.2)]) * Y + (2 * p.2 - dgt sg tl Y (2 * p.2) * Y)
    have e3 : wof p.1 * Y * 2 = 2 * wof p.1 * Y := by rw [Int.mul_comm, Int.mul_assoc]
    rw [wof_app, GM.pow_s, ← Int.mul_assoc, ih.eq, Int.add_mul, Int.add_mul, e3]
    generalize 2 * wof p.1 * Y = A
    omega
theorem out_eq {sg : Bool} {tl j : Nat} {X Y : Int} {p : List Int × Int} (hY : 0 < Y) (h : DI sg tl X Y j p) : oQ p.1 p.2 = X * 2 ^ j / Y ∧ (p.2 = 0 ↔ X * 2 ^ j % Y = 0) := by
  have h1 := h.lo
  have h2 := h.hi
  have he := h.eq
  unfold oQ
  by_cases c : p.2 < 0
  · rw [if_pos c]
    obtain ⟨a, b⟩ := (Int.ediv_emod_unique (a := X * 2 ^ j) (q := wof p.1 - 1) (r := p.2 + Y) hY).mpr ⟨by rw [Int.mul_sub, Int.mul_one, Int.mul_comm Y, he]; omega, by omega, by omega⟩
    exact ⟨a.symm, fun z => by omega, fun z => by omega⟩
  · rw [if_neg c]
    obtain ⟨a, b⟩ := (Int.ediv_emod_unique (a := X * 2 ^ j) (q := wof p.1) (r := p.2) hY).mpr ⟨by rw [Int.mul_comm Y, he]; omega, by omega, by omega⟩
    exact ⟨by rw [a, Int.sub_zero], fun z => by omega, fun z => by omega⟩
theorem fhN_in {sc tl : Nat} {v : Int} (h : hdv sc tl v = true) : 2 ^ tl ≤ fhN sc tl v ∧ fhN sc tl v < 2 ^ (tl + 1) ∧ 0 < GM.num tl (sz sc tl v) ∧ hk tl (GM.num tl (sz sc tl v)) ≤ tl := by
  have hr := hdv_real h
  have nz := num_zero (tl := tl) (sz_nn sc tl v)
  have n0 : 0 < GM.num tl (sz sc tl v) := by
    have : ¬ GM.num tl (sz sc tl v) = 0 := fun z => hr.2 (nz.2.mp z)
    omega
  obtain ⟨k, ek, k1, k2⟩ := GR.bl_in n0
  have hb := bits_in42 (sc := sc) (tl := tl) v
  unfold GR.bl at ek
  unfold fhN hk
  generalize Builtin.Int.intBits (GM.num tl (sz sc tl v)) = B at *
  generalize GM.num tl (sz sc tl v) = n at *
  have eB : B = k + 1 := by omega
  subst eB
  obtain ⟨g, rfl⟩ : ∃ g, tl = k + g := ⟨tl - k, by omega⟩
  rw [show k + g + 1 - (k + 1) = g by omega]
  have pg := GM.pow_pos' g
  have a := Int.mul_le_mul_of_nonneg_right k1 (Int.le_of_lt pg)
  have b := Int.mul_lt_mul_of_pos_right k2 pg
  rw [← GM.pow_add'] at a b
  rw [show k + 1 + g = k + g + 1 by omega] at b
  exact ⟨a, b, n0, by omega⟩
theorem quo_ok2 {sc tl : Nat} {q p : Int} (hq : 2 ^ (tl + 1) ≤ q) : 0 < q ∧ p < GR.lap sc tl q p := by
  have p1 := GM.pow_pos' (tl + 1)
  have h0 : 0 < q := by omega
  refine ⟨h0, ?_⟩
  obtain ⟨m, hm, g1, g2⟩ := GR.bl_in h0
  have hm1 : tl + 1 ≤ m := by
    rcases Nat.lt_or_ge m (tl + 1) with c | c
    · have := GM.pow_le' (show m + 1 ≤ tl + 1 by omega)
      omega
    · exact c
  unfold GR.lap
  split <;> omega
theorem quo_eq2 {sc tl k : Nat} {s x p y e : Int} {w : Str} (j : Nat) (hy : 0 < y) (hq : 2 ^ (tl + 1) ≤ x * 2 ^ k / y) : quoR sc tl (k + j) s x p y e w = quoR sc tl k s x p y e w := by
  have pj := GM.pow_pos' j
  have pk := GM.pow_pos' k
  have ek : (2 : Int) ^ (k + j) = 2 ^ k * 2 ^ j := GM.pow_add' _ _
  have eq : x * 2 ^ (k + j) / y / 2 ^ j = x * 2 ^ k / y := by
    rw [Int.ediv_ediv_of_nonneg (Int.le_of_lt hy), ek, ← Int.mul_assoc, Int.mul_ediv_mul_of_pos_left _ _ pj]
  have ok := quo_ok2 (sc := sc) (tl := tl) (p := p - e - (k : Int)) hq
  have ep : p - e - ((k + j : Nat) : Int) + j = p - e - (k : Int) := by omega
  unfold quoR
  rw [GR.rnd_cut j (by rw [eq]; exact ok.1) (by rw [eq, ep]; exact ok.2), eq, ep]
  congr 1
  rw [Bool.eq_iff_iff, Bool.or_eq_true, Bool.not_eq_true', Bool.not_eq_true', Bool.not_eq_true', decide_eq_false_iff_not, decide_eq_false_iff_not, decide_eq_false_iff_not]
  have dm1 := Int.emod_add_mul_ediv (x * 2 ^ (k + j)) y
  have key : (x * 2 ^ (k + j) / y % 2 ^ j = 0 ∧ x * 2 ^ (k + j) % y = 0) ↔ x * 2 ^ k % y = 0 := by
    constructor
    · rintro ⟨a, b⟩
      rw [b, Int.zero_add] at dm1
      have dm2 := Int.emod_add_mul_ediv (x * 2 ^ (k + j) / y) (2 ^ j)
      rw [a, Int.zero_add, eq] at dm2
      have e3 : (y * (x * 2 ^ k / y)) * 2 ^ j = (x * 2 ^ k) * 2 ^ j := by
        rw [Int.mul_assoc y, Int.mul_comm _ (2 ^ j), dm2, dm1, ek, Int.mul_assoc]
      have := Int.eq_of_mul_eq_mul_right (by omega) e3
      rw [← this, Int.mul_emod_right]
    · intro a
      have dm2 := Int.emod_add_mul_ediv (x * 2 ^ k) y
      rw [a, Int.zero_add] at dm2
      have e2 : x * 2 ^ (k + j) = y * (x * 2 ^ k / y * 2 ^ j) := by
        rw [ek, ← Int.mul_assoc, ← Int.mul_assoc, dm2]
      refine ⟨?_, ?_⟩
      · rw [e2, Int.mul_ediv_cancel_left _ (by omega), Int.mul_emod_left]
      · rw [e2, Int.mul_emod_right]
  constructor
  · intro h z
    have := key.mpr z
    exact h.elim (fun y => y this.1) (fun y => y this.2)
  · intro h
    by_cases z : x * 2 ^ (k + j) / y % 2 ^ j = 0
    · exact .inr (fun y => h (key.mp ⟨z, y⟩))
    · exact .inl z
theorem quo_head {sc tl k g h : Nat} {s x p y e : Int} {w : Str} : quoR sc tl (k + h) s (x * 2 ^ g) (p - g) (y * 2 ^ h) (e - h) w = quoR sc tl (k + g) s x p y e w := by
  have ph := GM.pow_pos' h
  have e1 : x * 2 ^ g * 2 ^ (k + h) = x * 2 ^ (k + g) * 2 ^ h := by
    rw [GM.pow_add' k h, GM.pow_add' k g, Int.mul_assoc, Int.mul_assoc, Int.mul_assoc, ← Int.mul_assoc (2 ^ g), Int.mul_comm (2 ^ g) (2 ^ k), Int.mul_assoc]
  have e2 : p - (g : Int) - (e - (h : Int)) - ((k + h : Nat) : Int) = p - e - ((k + g : Nat) : Int) := by omega
  have e3 : x * 2 ^ (k + g) * 2 ^ h % (y * 2 ^ h) = x * 2 ^ (k + g) % y * 2 ^ h := by
    rw [Int.mul_comm _ (2 ^ h), Int.mul_comm y (2 ^ h), Int.mul_emod_mul_of_pos _ _ ph, Int.mul_comm]
  unfold quoR
  rw [e1, e2, Int.mul_ediv_mul_of_pos_left _ _ ph, e3]
  congr 2
  refine decide_eq_decide.mpr ⟨fun z => (Int.mul_eq_zero.mp z).resolve_right (by omega), fun z => by rw [z, Int.zero_mul]⟩
theorem head_quo {sc tl : Nat} {a b : Int} (ha : hdv sc tl a = true) (hb : hdv sc tl b = true) : 2 ^ (tl + 1) ≤ fhN sc tl a * 2 ^ (tl + 2) / fhN sc tl b := by
  have A := fhN_in ha
  have B := fhN_in hb
  have pt := GM.pow_pos' tl
  have p1 := GM.pow_pos' (tl + 1)
  have p2 := GM.pow_pos' (tl + 2)
  refine (Int.le_ediv_iff_mul_le (by omega)).mpr ?_
  have l1 : (2 : Int) ^ (tl + 1) * fhN sc tl b ≤ 2 ^ (tl + 1) * 2 ^ (tl + 1) := Int.mul_le_mul_of_nonneg_left (by omega) (by omega)
  have l2 : (2 : Int) ^ tl * 2 ^ (tl + 2) ≤ fhN sc tl a * 2 ^ (tl + 2) := Int.mul_le_mul_of_nonneg_right A.1 (by omega)
  rw [← GM.pow_add'] at l1 l2
  rw [show tl + (tl + 2) = tl + 1 + (tl + 1) by omega] at l2
  omega
theorem divR_heads {sc tl : Nat} {a b : Int} {w : Str} (ha : hdv sc tl a = true) (hb : hdv sc tl b = true) : divR sc tl a b w = quoR sc tl (2 * tl + 2) (sx sc tl a b) (GM.num tl (sz sc tl a)) (wp sc tl a) (GM.num tl (sz sc tl b)) (wp sc tl b) w := by
  have st : ∀ v, hdv sc tl v = true → ¬ srt sc tl (sz sc tl v) = "none" ∧ ¬ srt sc tl (sz sc tl v) = "nought" ∧ ¬ srt sc tl (sz sc tl v) = "endless" := fun v hv => by
    have r := hdv_real hv
    exact ⟨fun z => r.1 ((srt_top sc tl _).mp (.inr z)), fun z => r.2 ((srt_nought _ _ _).mp z).2, fun z => r.1 ((srt_top sc tl _).mp (.inl z))⟩
  have A := st a ha
  have B := st b hb
  unfold divR
  rw [if_neg (fun z => z.elim A.1 B.1), if_neg (fun z => z.elim (fun y => A.2.1 y.1) (fun y => A.2.2 y.1)), if_neg A.2.2, if_neg (fun z => z.elim B.2.2 A.2.1), if_neg B.2.1, ab_num, ab_num]
theorem div_head {sc tl : Nat} {a b : Int} {w : Str} (ha : hdv sc tl a = true) (hb : hdv sc tl b = true) : quoR sc tl (tl + 2) (sx sc tl a b) (fhN sc tl a) (fhP sc tl a) (fhN sc tl b) (fhP sc tl b) w = divR sc tl a b w := by
  have A := fhN_in ha
  have B := fhN_in hb
  have pt := GM.pow_pos' tl
  have Bn := num_lt42 (tl := tl) (sz_nn sc tl b)
  have ps : (2 : Int) ^ (tl + 1) = 2 ^ tl * 2 := GM.pow_s tl
  rw [divR_heads ha hb, ← quo_eq2 (k := tl + 2) (tl + hk tl (GM.num tl (sz sc tl b))) (by omega) (head_quo ha hb)]
  rw [show tl + 2 + (tl + hk tl (GM.num tl (sz sc tl b))) = 2 * tl + 2 + hk tl (GM.num tl (sz sc tl b)) by omega]
  unfold fhN fhP
  rw [quo_head]
  exact quo_eq _ A.2.2.1 B.2.2.1 (by omega)
/-- the outcome of a division is the rounded exact quotient -/
theorem dv_out {sg : Bool} {sc tl : Nat} {a b : Int} (w : Str) (ha : hdv sc tl a = true) (hb : hdv sc tl b = true) :
    GR.rnd sc tl (sx sc tl a b) (oQ (runD sg tl (fhN sc tl b) (fhN sc tl a) (tl + 3)).1 (runD sg tl (fhN sc tl b) (fhN sc tl a) (tl + 3)).2) (fhP sc tl a - fhP sc tl b - tl - 2) w (!decide ((runD sg tl (fhN sc tl b) (fhN sc tl a) (tl + 3)).2 = 0)) = divR sc tl a b w ∧
    2 ^ (tl + 1) ≤ oQ (runD sg tl (fhN sc tl b) (fhN sc tl a) (tl + 3)).1 (runD sg tl (fhN sc tl b) (fhN sc tl a) (tl + 3)).2 ∧
    oQ (runD sg tl (fhN sc tl b) (fhN sc tl a) (tl + 3)).1 (runD sg tl (fhN sc tl b) (fhN sc tl a) (tl + 3)).2 < 2 ^ (tl + 1) * 2 ^ (tl + 2) := by
  have A := fhN_in ha
  have B := fhN_in hb
  have pt := GM.pow_pos' tl
  have p2 := GM.pow_pos' (tl + 2)
  have ps : (2 : Int) ^ (tl + 1) = 2 ^ tl * 2 := GM.pow_s tl
  have I := run_inv (sg := sg) (tl := tl) (X := fhN sc tl a) (Y := fhN sc tl b) (by omega) (by omega) B.1 (tl + 2)
  rw [show tl + 2 + 1 = tl + 3 from rfl] at I
  obtain ⟨o1, o2⟩ := out_eq (by omega) I
  have hq := head_quo (sc := sc) (tl := tl) ha hb
  refine ⟨?_, ?_, ?_⟩
  · rw [← div_head ha hb]
    unfold quoR
    rw [o1, show fhP sc tl a - fhP sc tl b - ((tl + 2 : Nat) : Int) = fhP sc tl a - fhP sc tl b - tl - 2 by omega, decide_eq_decide.mpr o2]
  · rw [o1]
    exact hq
  · rw [o1]
    have l0 : 0 ≤ fhN sc tl a * 2 ^ (tl + 2) := Int.mul_nonneg (by omega) (by omega)
    have l1 : fhN sc tl a * 2 ^ (tl + 2) / fhN sc tl b ≤ fhN sc tl a * 2 ^ (tl + 2) := Int.ediv_le_self _ l0
    have l2 : fhN sc tl a * 2 ^ (tl + 2) < 2 ^ (tl + 1) * 2 ^ (tl + 2) := Int.mul_lt_mul_of_pos_right A.2.1 p2
    omega
def dvN (sc tl : Nat) (a b : Int) : Nat := if [a, b].all (hdv sc tl) = true then tl + 3 else 0
def dvDs (sg : Bool) (sc tl : Nat) (a b : Int) (j : Nat) : List Int := if [a, b].all (hdv sc tl) = true then (runD sg tl (fhN sc tl b) (fhN sc tl a) j).1 else []
def dvO (sg : Bool) (sc tl : Nat) (a b : Int) (j : Nat) : V := if [a, b].all (hdv sc tl) = true then .int (runD sg tl (fhN sc tl b) (fhN sc tl a) j).2 else .non
structure DvS (C CD : Addr) (H : Hp) (x f l : Addr) (sc tl : Nat) (a b : Int) (way : Str) (sg : Bool) (j : Nat) : Prop where
  at_ : DvAt C CD H x f l sc tl a b way sg (dvDs sg sc tl a b j) (dvDue sc tl a b) (dvO sg sc tl a b j) (dvBy sc tl a b) (dvPw sc tl a b)
  le : j ≤ dvN sc tl a b
theorem DvS.same {C CD : Addr} {H H' : Hp} {x f l : Addr} {sc tl : Nat} {a b : Int} {way : Str} {sg : Bool} {j : Nat} (h : DvS C CD H x f l sc tl a b way sg j) (s : Same H H') : DvS C CD H' x f l sc tl a b way sg j := ⟨h.at_.same s, h.le⟩
theorem dvDs_len {sg : Bool} {sc tl : Nat} {a b : Int} {j : Nat} (h : j ≤ dvN sc tl a b) : (dvDs sg sc tl a b j).length = j := by
  unfold dvN at h
  unfold dvDs
  by_cases c : [a, b].all (hdv sc tl) = true
  · rw [if_pos c, runD_len]
  · rw [if_neg c] at h ⊢
    show 0 = j
    omega
theorem dvDue_N (sc tl : Nat) (a b : Int) : dvDue sc tl a b = (dvN sc tl a b : Nat) := by
  unfold dvDue dvN
  split
  · omega
  · rfl
theorem dvN_le {sc tl : Nat} {a b : Int} (h : tl ≤ 24) : dvN sc tl a b ≤ 27 := by
  unfold dvN
  split <;> omega
theorem all2 {sc tl : Nat} {a b : Int} (h : [a, b].all (hdv sc tl) = true) : hdv sc tl a = true ∧ hdv sc tl b = true := ⟨List.all_eq_true.mp h a (by simp), List.all_eq_true.mp h b (by simp)⟩
theorem run_bnd {sg : Bool} {sc tl : Nat} {a b : Int} (h4 : tl ≤ 24) (h : [a, b].all (hdv sc tl) = true) (j : Nat) : -(2 ^ 40) ≤ (runD sg tl (fhN sc tl b) (fhN sc tl a) j).2 ∧ (runD sg tl (fhN sc tl b) (fhN sc tl a) j).2 ≤ 2 ^ 40 ∧ 0 ≤ fhN sc tl b ∧ fhN sc tl b ≤ 2 ^ 40 := by
  have A := fhN_in (all2 h).1
  have B := fhN_in (all2 h).2
  have pt := GM.pow_pos' tl
  have ps : (2 : Int) ^ (tl + 1) = 2 ^ tl * 2 := GM.pow_s tl
  have p25 : (2 : Int) ^ (tl + 1) ≤ 2 ^ 25 := GM.pow_le' (by omega)
  have r : -(2 ^ 40) ≤ (runD sg tl (fhN sc tl b) (fhN sc tl a) j).2 ∧ (runD sg tl (fhN sc tl b) (fhN sc tl a) j).2 ≤ 2 ^ 40 := by
    cases j with
    | zero =>
      show -(2 ^ 40) ≤ fhN sc tl a ∧ fhN sc tl a ≤ 2 ^ 40
      omega
    | succ j =>
      have I := run_inv (sg := sg) (tl := tl) (X := fhN sc tl a) (Y := fhN sc tl b) (by omega) (by omega) B.1 j
      have l := I.lo
      have h := I.hi
      omega
  exact ⟨r.1, r.2, by omega, by omega⟩
/-- the digit of step j -/
def dvD (sg : Bool) (sc tl : Nat) (a b : Int) (j : Nat) : Int := dgt sg tl (fhN sc tl b) (rst (runD sg tl (fhN sc tl b) (fhN sc tl a) j).1 (runD sg tl (fhN sc tl b) (fhN sc tl a) j).2)
def spStepS (C CD : Addr) : Sp := fun vs H Q _ => ∃ (x f l : Addr) (sc tl : Nat) (a b : Int) (way : Str) (sg : Bool) (j : Nat), vs = [.ref x] ∧ DvS C CD H x f l sc tl a b way sg j ∧ j < dvN sc tl a b ∧
  ∀ H', DvS C CD H' x f l sc tl a b way sg (j + 1) → Kx x l H H' → Q (.int (dvD sg sc tl a b j)) H'
theorem ok_stepS (B : Bl mg) (L : LL K mg C CD za zl t73 t74 t75 tg_NEAR tg_CUT tg_UP tg_DOWN w dO esO nO) : FnOk P w K mg base CX0 3 (za 81) (zl 81) ["self"] (spStepS C CD) := by
  refine (ok_Divider_step B L).imp fun vs H Q E h => ?_
  obtain ⟨x, f, l, sc, tl, a, b, way, sg, j, rfl, D, hj, q⟩ := h
  obtain ⟨D, le⟩ := D
  obtain ⟨df, hf, h1, h2, h3, h4⟩ := id D.fa
  have hl := dvDs_len (sg := sg) le
  have hd : [a, b].all (hdv sc tl) = true := by
    by_cases c : [a, b].all (hdv sc tl) = true
    · exact c
    · unfold dvN at hj
      rw [if_neg c] at hj
      omega
  have hN := dvDue_N sc tl a b
  have bn := run_bnd (sg := sg) h4 hd j
  have nl := dvN_le (sc := sc) (a := a) (b := b) h4
  unfold dvO dvBy at D
  rw [if_pos hd, if_pos hd] at D
  refine ⟨x, f, l, sc, tl, a, b, way, sg, _, _, _, _, _, rfl, D, by omega, by omega, bn.1, bn.2.1, bn.2.2.1, bn.2.2.2, fun H' D' k => ?_⟩
  have e : dvDs sg sc tl a b j = (runD sg tl (fhN sc tl b) (fhN sc tl a) j).1 := by
    unfold dvDs
    rw [if_pos hd]
  have r := q H' ⟨?_, by omega⟩ k
  · unfold dvD at r
    rw [e]
    exact r
  · rw [e] at D'
    unfold dvDs dvO dvBy
    rw [if_pos hd, if_pos hd, if_pos hd]
    exact D'
def spOutS (C CD : Addr) : Sp := fun vs H Q _ => ∃ (x f l : Addr) (sc tl : Nat) (a b : Int) (way : Str) (sg : Bool) (j : Nat), vs = [.ref x] ∧ DvS C CD H x f l sc tl a b way sg j ∧ j = dvN sc tl a b ∧
  ∀ t H', Same H H' → PairAt H' t (divR sc tl a b way) → Q (.ref t) H'
theorem ok_outS (B : Bl mg) (L : LL K mg C CD za zl t73 t74 t75 tg_NEAR tg_CUT tg_UP tg_DOWN w dO esO nO) : FnOk P w K mg base CX0 9 (za 88) (zl 88) ["self"] (spOutS C CD) := by
  refine (fn_or (ok_out1 B L) (ok_outN B L)).imp fun vs H Q E h => ?_
  obtain ⟨x, f, l, sc, tl, a, b, way, sg, j, rfl, ⟨D, le⟩, rfl, q⟩ := h
  obtain ⟨df, hf, h1, h2, h3, h4⟩ := id D.fa
  have hl := dvDs_len (sg := sg) le
  have hN := dvDue_N sc tl a b
  by_cases hd : [a, b].all (hdv sc tl) = true
  · refine .inl ?_
    have A := all2 hd
    have o := dv_out (sg := sg) way A.1 A.2
    have eN : dvN sc tl a b = tl + 3 := by
      unfold dvN
      rw [if_pos hd]
    rw [eN] at D hl
    have eD : dvDs sg sc tl a b (tl + 3) = (runD sg tl (fhN sc tl b) (fhN sc tl a) (tl + 3)).1 := by
      unfold dvDs
      rw [if_pos hd]
    unfold dvO dvBy dvPw at D
    rw [if_pos hd, if_pos hd, if_pos hd, eD] at D
    rw [eD] at hl
    have FA := fhN_in A.1
    have FB := fhN_in A.2
    have wa := wp_in h1 h2 h4 (hdv_real A.1).1
    have wb := wp_in h1 h2 h4 (hdv_real A.2).1
    have fp : -4000 ≤ fhP sc tl a - fhP sc tl b - tl - 2 ∧ fhP sc tl a - fhP sc tl b - tl - 2 ≤ 4000 := by
      unfold fhP
      omega
    have pk := GM.pow_pos' (tl + 1)
    have pl : (2 : Int) ^ (tl + 1) * 2 ^ (tl + 2) ≤ 2 ^ 125 := by
      rw [← GM.pow_add']
      exact GM.pow_le' (by omega)
    refine ⟨x, f, l, sc, tl, a, b, way, sg, _, _, _, _, _, rfl, D, by omega, fit_lt (k := 125) (by omega) (by omega) (by decide), fp.1, fp.2, fun _ => ?_, fun t H' s P => q t H' s ?_⟩
    · have k := quo_ok2 (sc := sc) (p := fhP sc tl a - fhP sc tl b - tl - 2) o.2.1
      exact ⟨by omega, k.2⟩
    · rw [← o.1]
      exact P
  · refine .inr ?_
    unfold dvBy at D
    rw [if_neg hd] at D
    exact ⟨x, f, l, sc, tl, a, b, way, sg, _, _, _, _, rfl, D, by omega, q⟩
theorem dv_zero (sg : Bool) (sc tl : Nat) (a b : Int) : dvDs sg sc tl a b 0 = [] ∧ dvO sg sc tl a b 0 = dvOv sc tl a b := by
  unfold dvDs dvO dvOv
  by_cases c : [a, b].all (hdv sc tl) = true
  · rw [if_pos c, if_pos c, if_pos c]
    exact ⟨rfl, rfl⟩
  · rw [if_neg c, if_neg c, if_neg c]
    exact ⟨rfl, rfl⟩
end
def ahd (ds : List Int) (i : Nat) : Int := if 0 < i then ds.getD (i - 1) 0 else 0
def bhd (ds : List Int) (i : Nat) : Int := ds.getD (i + 1) 0
def mk (ds : List Int) (i : Nat) : Bool := if ds.getD i 0 = 0 then false else !decide (V.int (bhd ds i) = V.int (if ahd ds i = 0 then -(ds.getD i 0) else ds.getD i 0))
def mkI (ds : List Int) (i : Nat) : Int := if mk ds i then 1 else 0
def marks (ds : List Int) : List Int := (List.range ds.length).map (mkI ds)
theorem marks_len (ds : List Int) : (marks ds).length = ds.length := by
  unfold marks
  rw [List.length_map, List.length_range]
theorem marks_take {ds : List Int} {i : Nat} (h : i < ds.length) : (marks ds).take (i + 1) = (marks ds).take i ++ [mkI ds i] := by
  have e : (marks ds)[i]? = some (mkI ds i) := by
    unfold marks
    rw [List.getElem?_map, List.getElem?_range h]
    rfl
  rw [List.take_add_one, e]
  rfl
theorem getD_of {ds : List Int} {i : Nat} {v : Int} (h : ds[i]? = some v) : ds.getD i 0 = v := by
  rw [List.getD_eq_getElem?_getD, h]
  rfl
theorem getD_out {ds : List Int} {i : Nat} (h : ds.length ≤ i) : ds.getD i 0 = 0 := by
  rw [List.getD_eq_getElem?_getD, List.getElem?_eq_none h]
  rfl
section
variable {P : Program} {w : World} {K : PySem.W.Frag} {mg : Str → Option Value} {base : Heap}
/-- a list or a tuple of these ints -/
def Sq (K : PySem.W.Frag) (H : Hp) (a : Addr) (ds : List Int) : Prop := SqL K H a (ds.map V.int) ∨ SqT K H a (ds.map V.int)
theorem Sq.same {H H' : Hp} {a : Addr} {ds : List Int} (h : Sq K H a ds) (s : Same H H') : Sq K H' a ds := h.elim (fun h => .inl (s.seq h)) (fun h => .inr (Same.seqT s h))
/-- a conditional expression by its value -/
theorem if_evz {t : TT} {ta tb : TE} {σ : L2.St} {H : Hp} {Q : VK} (z : V) (h : ∀ Q : VK, Q z H → tIf t ta tb σ H Q) (q : Q z H) : tIf t ta tb σ H Q := h Q q
theorem Sq.ix {H : Hp} {a : Addr} {ds : List Int} {k : Int} {v : V} {Q : VK} (h : Sq K H a ds) (e : atI (ds.map V.int) k = some v) (q : Q v H) : rIx K (.ref a) (.int k) H Q := by
  rcases h with h | h
  · exact .inl ⟨a, _, _, _, rfl, rfl, h, e, q⟩
  · exact .inr (.inl ⟨a, _, _, _, rfl, rfl, h, e, q⟩)
theorem at_of_int {ds : List Int} {k : Int} {j : Nat} {v : Int} (e : k = (j : Int)) (h : ds[j]? = some v) : atI (ds.map V.int) k = some (.int v) := at_of e (by rw [List.getElem?_map, h]; rfl)
theorem ahd_pos {ds : List Int} {i : Nat} (h : 0 < i) (hi : i < ds.length) : ds[i - 1]? = some (ahd ds i) := by
  unfold ahd
  have hl : i - 1 < ds.length := by omega
  rw [if_pos h, getD_of (List.getElem?_eq_getElem hl)]
  exact List.getElem?_eq_getElem hl
theorem ahd_zero {ds : List Int} {i : Nat} (h : ¬ 0 < i) : ahd ds i = 0 := if_neg h
theorem bhd_in {ds : List Int} {i : Nat} (h : i + 1 < ds.length) : ds[i + 1]? = some (bhd ds i) := by
  unfold bhd
  rw [getD_of (List.getElem?_eq_getElem h)]
  exact List.getElem?_eq_getElem h
theorem bhd_out {ds : List Int} {i : Nat} (h : ¬ i + 1 < ds.length) : bhd ds i = 0 := getD_out (by omega)
def spIsMark (K : PySem.W.Frag) : Sp := fun vs H Q _ => ∃ (a : Addr) (ds : List Int) (i : Nat), vs = [.ref a, .int (i : Int)] ∧ Sq K H a ds ∧ i < ds.length ∧ Q (.bl (mk ds i)) H
theorem ok_isMark {f : Addr} {fd : FuncData} {k : Nat} (F : Fun K "is_mark" "is_mark" s_is_mark f fd) (B : Bl mg) : FnOk P w K mg base CX0 (k + 1) f fd ["digits", "place"] (spIsMark K) := by
  refine F.ok sc_is_mark (fun vs H Q E h => ?_) (fun cdv A outer s H vs Q E hr h => ?_)
  · obtain ⟨a, ds, i, rfl, _⟩ := h
    rfl
  obtain ⟨a, ds, i, rfl, hS, hi, q⟩ := h
  refine ⟨_, pss_cons (ps_set (i := 2) sc_is_mark.nd rfl (.inl rfl) (pe_ix ix_seq (pv 0) (pv 1) (fun _ _ => rfl)))
    (pss_cons (ps_if (pt_cmpR op_eq (pv 2) pe_int (nomark _)) (pss_one (ps_ret pe_bl)) pss_nil)
    (pss_cons (ps_set (i := 3) sc_is_mark.nd rfl (.inl rfl) (pe_ifExp (pt_cmpR op_gt (pv 1) pe_int (nomark _)) (pe_ix ix_seq (pv 0) (pe_op op_sub (pv 1) pe_int) (fun _ _ => rfl)) pe_int))
    (pss_cons (ps_set (i := 4) sc_is_mark.nd rfl (.inl rfl) (pe_ifExp (pt_cmpR op_lt (pe_op op_add (pv 1) pe_int) (pe_callB call_len_seq (by rfl) B.len PySem.boot_len (pa_cons (pv 0) pa_nil)) (nomark _)) (pe_ix ix_seq (pv 0) (pe_op op_add (pv 1) pe_int) (fun _ _ => rfl)) pe_int))
    (pss_one (ps_ret (pe_cmpR op_ne (pv 4) (pe_ifExp (pt_cmpR op_eq (pv 3) pe_int (nomark _)) (pe_un un_neg (pv 2)) (pv 2)) (nomark _))))))), ?_⟩
  have e0 : ds[i]? = some ds[i] := List.getElem?_eq_getElem hi
  have g0 : ds.getD i 0 = ds[i] := getD_of e0
  refine ⟨_, rfl, _, rfl, hS.ix (at_of_int rfl e0) ?_⟩
  refine ⟨_, rfl, rfl, _, rfl, ite2 (fun c => ?_) (fun c => ?_)⟩
  · have c1 : ds[i] = 0 := V.int.inj (of_decide_eq_true c)
    have em : mk ds i = false := by
      unfold mk
      rw [g0, if_pos c1]
    rw [em] at q
    exact q
  have c1 : ¬ ds[i] = 0 := fun z => c (decide_eq_true (by rw [z]))
  try dsimp only [tNext, tSeq, tAsg, gName]
  refine if_evz (.int (ahd ds i)) (fun Q' q' => ?_) ?_
  · refine ⟨_, rfl, _, _, rfl, rfl, _, rfl, ite2 (fun d => ?_) (fun d => ?_)⟩
    · have d1 : (0 : Int) < (i : Int) := of_decide_eq_true d
      exact ⟨_, rfl, _, rfl, _, _, rfl, rfl, hS.ix (at_of_int (j := i - 1) (by omega) (ahd_pos (by omega) hi)) q'⟩
    · have d1 : ¬ (0 : Int) < (i : Int) := of_decide_eq_false (Bool.eq_false_iff.mpr d)
      rw [ahd_zero (by omega)] at q'
      exact q'
  try dsimp only [tNext, tSeq, tAsg, gName]
  refine if_evz (.int (bhd ds i)) (fun Q' q' => ?_) ?_
  · refine ⟨_, rfl, _, _, rfl, rfl, _, rfl, a, _, rfl, hS, _, _, rfl, rfl, _, rfl, ite2 (fun d => ?_) (fun d => ?_)⟩
    · have d1 : (i : Int) + 1 < (((ds.map V.int).length : Nat) : Int) := of_decide_eq_true d
      rw [List.length_map] at d1
      exact ⟨_, rfl, _, rfl, _, _, rfl, rfl, hS.ix (at_of_int (j := i + 1) (by omega) (bhd_in (by omega))) q'⟩
    · have d1 : ¬ (i : Int) + 1 < (((ds.map V.int).length : Nat) : Int) := of_decide_eq_false (Bool.eq_false_iff.mpr d)
      rw [List.length_map] at d1
      rw [bhd_out (by omega)] at q'
      exact q'
  have em : mk ds i = !decide (V.int (bhd ds i) = V.int (if ahd ds i = 0 then -ds[i] else ds[i])) := by
    unfold mk
    rw [g0, if_neg c1]
  rw [em] at q
  refine ⟨_, rfl, _, rfl, rfl, _, rfl, ite2 (fun d => ?_) (fun d => ?_)⟩
  · have d1 : ahd ds i = 0 := V.int.inj (of_decide_eq_true d)
    rw [if_pos d1] at q
    exact ⟨_, rfl, _, rfl, rfl, q⟩
  · have d1 : ¬ ahd ds i = 0 := fun z => d (decide_eq_true (by rw [z]))
    rw [if_neg d1] at q
    exact ⟨_, rfl, rfl, q⟩
def spMarksOf (K : PySem.W.Frag) : Sp := fun vs H Q _ => ∃ (a : Addr) (ds : List Int), vs = [.ref a] ∧ Sq K H a ds ∧ ds.length ≤ 1000 ∧
  ∀ (p : Addr) (H' : Hp), H p = none → Same H H' → H' p = some (.lst ((marks ds).map V.int)) → Q (.ref p) H'
theorem ok_marksOf {f g : Addr} {fd gd : FuncData} {k : Nat} (F : Fun K "marks_of" "marks_of" s_marks_of f fd) (FG : Fun K "is_mark" "is_mark" s_is_mark g gd) (bG : Binds K gd ["digits", "place"] []) (mG : mg "is_mark" = some (.ref g)) (B : Bl mg) :
    FnOk P w K mg base CX0 (k + 2) f fd ["digits"] (spMarksOf K) := by
  have G : FnOk P w K mg base CX0 (k + 1) g gd ["digits", "place"] (spIsMark K) := ok_isMark FG B
  refine F.ok sc_marks_of (fun vs H Q E h => ?_) (fun cdv A outer s H vs Q E hr h => ?_)
  · obtain ⟨a, ds, rfl, _⟩ := h
    rfl
  obtain ⟨a, ds, rfl, hS, hl, q⟩ := h
  refine ⟨_, pss_one (ps_ret (pe_lc (own := [("place", 1)]) (by rfl) sc_marks_of.nd (pi_range1 (by rfl) B.range (pa_cons (pe_callB call_len_seq (by rfl) B.len PySem.boot_len (pa_cons (pv 0) pa_nil)) pa_nil))
    (blkOk_by (own := [("place", 1)]) (N := ["digits", "place"]) (sc := defScope s_marks_of) (by decide +kernel)) (fun _ _ _ _ _ => pg_name (i := 1) sc_marks_of.nd rfl (Or.inl rfl)) (fun _ _ _ _ _ => pts_nil)
    (fun _ _ _ _ _ => pe_ifExp (pt_val (pe_call G hr (by rfl) mG FG.kp bG .nil pass0 (pa_cons (pv 0) (pa_cons (pv 1) pa_nil)))) pe_int pe_int))), ?_⟩
  refine ⟨_, rfl, a, _, rfl, hS, _, rfl, by omega, by rw [List.length_map]; omega, fun D nD => ?_⟩
  have sD : Same H (upd H D (.lst [])) := same_upd nD
  rw [List.length_map, Int.toNat_natCast]
  refine lc_range (fun i H3 => Same H H3 ∧ H3 D = some (.lst (((marks ds).take i).map V.int))) ⟨sD, upd_same⟩ ?_ ?_
  · rintro i H3 hi ⟨s3, eD⟩
    refine ⟨rfl, yesT ?_⟩
    refine ⟨_, rfl, _, rfl, a, ds, i, (by rw [Int.zero_add]; rfl), hS.same s3, hi, _, rfl, ?_⟩
    have fin : ∀ z : Int, z = mkI ds i → ∃ acc, H3 D = some (.lst acc) ∧ acc.length < sizeLine ∧ (Same H (upd H3 D (.lst (acc ++ [V.int z]))) ∧ (upd H3 D (.lst (acc ++ [V.int z]))) D = some (.lst (((marks ds).take (i + 1)).map V.int))) := fun z ez => by
      refine ⟨_, eD, ?_, fun b o e => ?_, ?_⟩
      · rw [List.length_map, List.length_take]
        exact Nat.lt_of_le_of_lt (Nat.min_le_left _ _) (small1000 (by omega))
      · rw [upd_ne (ne_of_none e nD)]
        exact s3 _ _ e
      · rw [upd_same, marks_take hi, ez, List.map_append]
        rfl
    refine ite2 (fun c => ?_) (fun c => ?_)
    · exact fin 1 (by unfold mkI; rw [if_pos c])
    · exact fin 0 (by unfold mkI; rw [if_neg c])
  · rintro H3 ⟨s3, eD⟩
    refine q D H3 nD s3 ?_
    rw [List.take_of_length_le (by rw [marks_len]; exact Nat.le_refl _)] at eD
    exact eD
end
section
variable {K : PySem.W.Frag}
theorem flat_ints : ∀ ds : List Int, (ds.map V.int).all flatV = true
  | [] => rfl
  | d :: ds => by
    rw [List.map_cons, List.all_cons, flat_ints ds]
    rfl
end
def marksS : Int → List Int → List Int
  | _, [] => []
  | p, d :: r => (if GG.isM p d (r.headD 0) then 1 else 0) :: marksS d r
theorem marksS_range : ∀ (ds : List Int) (p : Int), marksS p ds = (List.range ds.length).map fun i => if GG.isM (if i = 0 then p else ds.getD (i - 1) 0) (ds.getD i 0) (ds.getD (i + 1) 0) then (1 : Int) else 0
  | [], _ => rfl
  | d :: r, p => by
    show (if GG.isM p d (r.headD 0) then (1 : Int) else 0) :: marksS d r = (List.range (r.length + 1)).map _
    rw [List.range_succ_eq_map, List.map_cons, List.map_map, marksS_range r d]
    congr 1
    · have e : r.headD 0 = (d :: r).getD (0 + 1) 0 := by cases r <;> rfl
      rw [e]
      rfl
    · refine List.map_congr_left fun i _ => ?_
      have e : (if i = 0 then d else r.getD (i - 1) 0) = (d :: r).getD i 0 := by
        cases i <;> rfl
      rw [e]
      rfl
theorem marks_scan (ds : List Int) : marks ds = marksS 0 ds := by
  rw [marksS_range]
  unfold marks
  refine List.map_congr_left fun i _ => ?_
  unfold mkI mk GG.isM ahd bhd
  by_cases h : ds.getD i 0 = 0
  · rw [if_pos h, decide_eq_false (show ¬ ds.getD i 0 ≠ 0 from fun z => z h)]
    rfl
  · rw [if_neg h, decide_eq_true (show ds.getD i 0 ≠ 0 from h), Bool.true_and]
    have ea : (if 0 < i then ds.getD (i - 1) 0 else 0) = (if i = 0 then 0 else ds.getD (i - 1) 0) := by
      by_cases z : i = 0
      · rw [if_pos z, if_neg (by omega)]
      · rw [if_neg z, if_pos (by omega)]
    rw [ea]
    congr 2
    rw [Bool.eq_iff_iff, Bool.not_eq_true', decide_eq_false_iff_not, decide_eq_true_iff]
    constructor
    · exact fun n e => n (congrArg V.int e)
    · exact fun n e => n (V.int.inj e)
def fm (ds : List Int) : Nat := (marks ds).findIdx fun x => x == 1
theorem findIdx_scan : ∀ (ds : List Int) (p : Int), ((marksS p ds).findIdx fun x => x == 1) = GG.fmS p ds
  | [], _ => rfl
  | d :: r, p => by
    show (((if GG.isM p d (r.headD 0) then (1 : Int) else 0) :: marksS d r).findIdx fun x => x == 1) = (if GG.isM p d (r.headD 0) then 0 else GG.fmS d r + 1)
    rw [List.findIdx_cons, findIdx_scan r d]
    cases GG.isM p d (r.headD 0) <;> rfl
theorem fm_scan (ds : List Int) : fm ds = GG.fmS 0 ds := by
  unfold fm
  rw [marks_scan, findIdx_scan]
theorem fm_le (ds : List Int) : fm ds ≤ ds.length := by
  rw [fm_scan]
  exact GG.fmS_le 0 ds
theorem fm_none (ds : List Int) {m : Nat} (h : m < fm ds) : ∃ z, (marks ds)[m]? = some z ∧ z ≠ 1 := by
  have hl : m < (marks ds).length := Nat.lt_of_lt_of_le h (by rw [marks_len]; exact fm_le ds)
  refine ⟨(marks ds)[m], List.getElem?_eq_getElem hl, fun e => ?_⟩
  have := List.not_of_lt_findIdx h
  simp [e] at this
theorem fm_at (ds : List Int) (h : fm ds < ds.length) : (marks ds)[fm ds]? = some 1 := by
  have hl : fm ds < (marks ds).length := by rw [marks_len]; exact h
  have := List.findIdx_getElem (xs := marks ds) (p := fun x => x == 1) (w := hl)
  rw [List.getElem?_eq_getElem hl]
  have e : (marks ds)[List.findIdx (fun x => x == 1) (marks ds)]'hl = 1 := by simpa using this
  exact congrArg some e
theorem inV_one (ds : List Int) : inV (.int 1) ((marks ds).map V.int) = decide (fm ds < ds.length) := by
  rw [Bool.eq_iff_iff, decide_eq_true_iff]
  unfold inV
  rw [List.any_eq_true]
  constructor
  · rintro ⟨x, hx, e⟩
    obtain ⟨y, hy, rfl⟩ := List.mem_map.mp hx
    have : (marks ds).findIdx (fun x => x == 1) < (marks ds).length := List.findIdx_lt_length_of_exists ⟨y, hy, e⟩
    rw [marks_len] at this
    exact this
  · intro h
    exact ⟨.int 1, List.mem_map.mpr ⟨1, List.mem_of_getElem? (fm_at ds h), rfl⟩, rfl⟩
/-- what mend is, and that it's 0 or 1 -/
theorem mend_01 {a b : Int} {n : Nat} (ha : 0 ≤ a) (ha2 : a < 2 ^ n) (hb : 0 ≤ b) (hb2 : b < 2 ^ n) :
    ∃ m : Nat, m ≤ 1 ∧ (n : Int) - (Builtin.Int.intBits ((a - b).natAbs : Int) : Nat) - (fm (GG.dgr a b n) : Nat) = (m : Int) ∧ (fm (GG.dgr a b n) = n ↔ a = b) := by
  obtain ⟨m, h1, h2, h3⟩ := GG.guess_zeros (GG.dgr_dig a b n)
  rw [GG.wv_dgr_lt ha ha2 hb hb2, GG.dgr_len] at h2 h3
  rw [fm_scan]
  exact ⟨m, h1, by omega, fun e => by have := h3.mp e; omega, fun e => h3.mpr (by omega)⟩
section
variable {P : Program} {w : World} {K : PySem.W.Frag} {mg : Str → Option Value} {base : Heap}
def spDigitsOf : Sp := fun vs H Q _ => ∃ (a b : Int) (n : Nat), vs = [.int a, .int b, .int (n : Int)] ∧ n ≤ 1000 ∧
  ∀ (p : Addr) (H' : Hp), H p = none → Same H H' → H' p = some (.lst ((GG.dgr a b n).map V.int)) → Q (.ref p) H'
theorem place_nat {n i : Nat} (h : i < n) : (n : Int) - 1 + (i : Nat) * (-1) = ((n - 1 - i : Nat) : Int) := by omega
theorem take_dgr {a b : Int} {n i : Nat} (h : i < n) : (GG.dgr a b n).take (i + 1) = (GG.dgr a b n).take i ++ [GG.bit a (n - 1 - i) - GG.bit b (n - 1 - i)] := by
  rw [List.take_add_one, GG.dgr_get a b n i h]
  rfl
theorem ok_digitsOf {f : Addr} {fd : FuncData} {k : Nat} (F : Fun K "digits_of" "digits_of" s_digits_of f fd) (B : Bl mg) : FnOk P w K mg base CX0 (k + 1) f fd ["one", "other", "many"] spDigitsOf := by
  refine F.ok sc_digits_of (fun vs H Q E h => ?_) (fun cdv A outer s H vs Q E hr h => ?_)
  · obtain ⟨a, b, n, rfl, _⟩ := h
    rfl
  obtain ⟨a, b, n, rfl, hn, q⟩ := h
  refine ⟨_, pss_one (ps_ret (pe_lc (own := [("place", 3)]) (by rfl) sc_digits_of.nd (pi_range3 (by rfl) B.range (pa_cons (pe_op op_sub (pv 2) pe_int) (pa_cons (pe_un un_neg pe_int) (pa_cons (pe_un un_neg pe_int) pa_nil))))
    (blkOk_by (own := [("place", 3)]) (N := ["one", "other", "many", "place"]) (sc := defScope s_digits_of) (by decide +kernel)) (fun _ _ _ _ _ => pg_name (i := 3) sc_digits_of.nd rfl (Or.inl rfl)) (fun _ _ _ _ _ => pts_nil)
    (fun _ _ _ _ _ => pe_op op_sub (pe_op op_andM (pe_op op_shrN (pv 0) (pv 3)) pe_int) (pe_op op_andM (pe_op op_shrN (pv 1) (pv 3)) pe_int)))), ?_⟩
  refine ⟨_, rfl, _, _, rfl, rfl, _, rfl, _, rfl, _, _, _, ((n : Int) - 1 - -1).toNat, rfl, RgC.neg (by omega) (by omega) (by decide) (by decide), fun D nD => ?_⟩
  rw [show ((n : Int) - 1 - -1).toNat = n by omega]
  have sD : Same H (upd H D (.lst [])) := same_upd nD
  refine lc_it walk_rangeC (fun i H3 => Same H H3 ∧ H3 D = some (.lst (((GG.dgr a b n).take i).map V.int))) ⟨sD, upd_same⟩ (fun _ _ _ _ => trivial) ?_ ?_
  · rintro i x H3 H4 hi ⟨s3, eD⟩ ⟨rfl, rfl⟩
    show gName _ (V.int ((n : Int) - 1 + (i : Nat) * (-1))) _ _ _
    rw [place_nat hi]
    refine ⟨rfl, yesT ?_⟩
    refine ⟨_, rfl, _, rfl, _, _, rfl, rfl, _, 1, rfl, rfl, _, rfl, _, rfl, _, _, rfl, rfl, _, 1, rfl, rfl, _, _, rfl, rfl, _, eD, ?_, fun b o e => ?_, ?_⟩
    · rw [List.length_map, List.length_take]
      exact Nat.lt_of_le_of_lt (Nat.min_le_left _ _) (small1000 (by omega))
    · rw [upd_ne (ne_of_none e nD)]
      exact s3 _ _ e
    · rw [upd_same, take_dgr hi, List.map_append]
      rfl
  · rintro H3 ⟨s3, eD⟩
    refine q D H3 nD s3 ?_
    rw [List.take_of_length_le (by rw [GG.dgr_len]; exact Nat.le_refl _)] at eD
    exact eD
def spZerosOf : Sp := fun vs H Q _ => ∃ (x n : Int), vs = [.int x, .int n] ∧ Q (.int (n - (Builtin.Int.intBits (x.natAbs : Int) : Nat))) H
theorem abs_eq (x : Int) : (if x < 0 then -x else x) = (x.natAbs : Int) := by split <;> omega
theorem ok_zerosOf {f : Addr} {fd : FuncData} {k : Nat} (F : Fun K "zeros_of" "zeros_of" s_zeros_of f fd) (B : Bl mg) : FnOk P w K mg base CX0 (k + 1) f fd ["number", "many"] spZerosOf := by
  refine F.ok sc_zeros_of (fun vs H Q E h => ?_) (fun cdv A outer s H vs Q E hr h => ?_)
  · obtain ⟨x, n, rfl, _⟩ := h
    rfl
  obtain ⟨x, n, rfl, q⟩ := h
  refine ⟨_, pss_one (ps_ret (pe_op op_sub (pv 1) (pe_bits (pe_callB call_abs (by rfl) B.abs boot_abs (pa_cons (pv 0) pa_nil))))), ?_⟩
  rw [← abs_eq] at q
  exact ⟨_, rfl, _, rfl, _, rfl, _, rfl, _, _, rfl, rfl, q⟩
def spFirstMark (K : PySem.W.Frag) : Sp := fun vs H Q _ => ∃ (a : Addr) (ds : List Int), vs = [.ref a] ∧ Sq K H a ds ∧ ds.length ≤ 1000 ∧ ∀ H', Same H H' → Q (.int (fm ds : Nat)) H'
theorem ix_one {H : Hp} {u : Addr} {ys : List Int} {j : Nat} {Q : VK} (eu : SqL K H u (ys.map V.int)) (hj : ys[j]? = some 1) (hno : ∀ m, m < j → ∃ z, ys[m]? = some z ∧ z ≠ 1) (q : Q (.int (j : Nat)) H) : rIndex K (.ref u) [.int 1] H Q := by
  refine ⟨u, ys.map V.int, .int 1, j, .int 1, rfl, rfl, eu, rfl, ?_, ?_, rfl, ?_, q⟩
  · rw [List.all_eq_true]
    intro x hx
    obtain ⟨y, _, rfl⟩ := List.mem_map.mp hx
    rfl
  · rw [List.getElem?_map, hj]
    rfl
  · intro m z' hm e
    obtain ⟨z, ez, hz⟩ := hno m hm
    rw [List.getElem?_map, ez] at e
    cases e
    exact by simpa [eqV] using hz
theorem ok_firstMark {f g g2 : Addr} {fd gd gd2 : FuncData} {k : Nat} (F : Fun K "first_mark" "first_mark" s_first_mark f fd) (FM : Fun K "marks_of" "marks_of" s_marks_of g gd) (bM : Binds K gd ["digits"] []) (mM : mg "marks_of" = some (.ref g))
    (FI : Fun K "is_mark" "is_mark" s_is_mark g2 gd2) (bI : Binds K gd2 ["digits", "place"] []) (mI : mg "is_mark" = some (.ref g2)) (B : Bl mg) : FnOk P w K mg base CX0 (k + 3) f fd ["digits"] (spFirstMark K) := by
  have G : FnOk P w K mg base CX0 (k + 2) g gd ["digits"] (spMarksOf K) := ok_marksOf FM FI bI mI B
  refine F.ok sc_first_mark (fun vs H Q E h => ?_) (fun cdv A outer s H vs Q E hr h => ?_)
  · obtain ⟨a, ds, rfl, _⟩ := h
    rfl
  obtain ⟨a, ds, rfl, hS, hl, q⟩ := h
  refine ⟨_, pss_cons (ps_set (i := 1) sc_first_mark.nd rfl (.inl rfl) (pe_call G hr (by rfl) mM FM.kp bM .nil pass0 (pa_cons (pv 0) pa_nil)))
    (pss_one (ps_ret (pe_ifExp (pt_cmpR op_in_seq pe_int (pv 1) (by rfl)) (pe_bm PySem.F.plainAttrs_list PySem.F.slot_list_index PySem.F.type_list_index mt_index (pv 1) (pa_cons pe_int pa_nil)) (pe_callB call_len_seq (by rfl) B.len PySem.boot_len (pa_cons (pv 1) pa_nil))))), ?_⟩
  refine ⟨_, rfl, a, ds, rfl, hS, hl, fun u H1 nu s1 eu => ?_⟩
  have hu : SqL K H1 u ((marks ds).map V.int) := SqL.of eu
  refine ⟨_, rfl, u, _, rfl, .inl hu, rfl, flat_ints _, _, rfl, ?_⟩
  show if (inV (.int 1) ((marks ds).map V.int)) = true then _ else _
  rw [inV_one]
  have := fm_le ds
  refine ite2 (fun c => ?_) (fun c => ?_)
  · have c1 := of_decide_eq_true c
    exact ⟨_, rfl, .inl ⟨rfl, _, hu⟩, ix_one hu (fm_at ds c1) (fun m hm => fm_none ds hm) (q _ s1)⟩
  · have c1 : ¬ fm ds < ds.length := of_decide_eq_false (Bool.eq_false_iff.mpr c)
    refine ⟨_, rfl, u, _, rfl, .inl hu, ?_⟩
    have e : (((marks ds).map V.int).length : Int) = ((fm ds : Nat) : Int) := by
      rw [List.length_map, marks_len]
      omega
    rw [e]
    exact q _ s1
def spGuess : Sp := fun vs H Q _ => ∃ (a b : Int) (n : Nat), vs = [.int a, .int b, .int (n : Int)] ∧ n ≤ 1000 ∧ ∀ H', Same H H' → Q (.int (fm (GG.dgr a b n) : Nat)) H'
structure Prog (K : PySem.W.Frag) (mg : Str → Option Value) (g1 g2 g3 g4 g5 g6 : Addr) (d1 d2 d3 d4 d5 d6 : FuncData) : Prop where
  f1 : Fun K "digits_of" "digits_of" s_digits_of g1 d1
  b1 : Binds K d1 ["one", "other", "many"] []
  m1 : mg "digits_of" = some (.ref g1)
  f2 : Fun K "zeros_of" "zeros_of" s_zeros_of g2 d2
  b2 : Binds K d2 ["number", "many"] []
  m2 : mg "zeros_of" = some (.ref g2)
  f3 : Fun K "marks_of" "marks_of" s_marks_of g3 d3
  b3 : Binds K d3 ["digits"] []
  m3 : mg "marks_of" = some (.ref g3)
  f4 : Fun K "is_mark" "is_mark" s_is_mark g4 d4
  b4 : Binds K d4 ["digits", "place"] []
  m4 : mg "is_mark" = some (.ref g4)
  f5 : Fun K "first_mark" "first_mark" s_first_mark g5 d5
  b5 : Binds K d5 ["digits"] []
  m5 : mg "first_mark" = some (.ref g5)
  f6 : Fun K "guess" "guess" s_guess g6 d6
  b6 : Binds K d6 ["one", "other", "many"] []
  m6 : mg "guess" = some (.ref g6)
variable {g1 g2 g3 g4 g5 g6 : Addr} {d1 d2 d3 d4 d5 d6 : FuncData}
theorem okX_guess {k : Nat} (T : Prog K mg g1 g2 g3 g4 g5 g6 d1 d2 d3 d4 d5 d6) (B : Bl mg) : FnOk P w K mg base CX0 (k + 4) g6 d6 ["one", "other", "many"] spGuess := by
  have G1 : FnOk P w K mg base CX0 (k + 3) g1 d1 ["one", "other", "many"] spDigitsOf := ok_digitsOf T.f1 B
  have G5 : FnOk P w K mg base CX0 (k + 3) g5 d5 ["digits"] (spFirstMark K) := ok_firstMark T.f5 T.f3 T.b3 T.m3 T.f4 T.b4 T.m4 B
  refine T.f6.ok sc_guess (fun vs H Q E h => ?_) (fun cdv A outer s H vs Q E hr h => ?_)
  · obtain ⟨a, b, n, rfl, _⟩ := h
    rfl
  obtain ⟨a, b, n, rfl, hn, q⟩ := h
  refine ⟨_, pss_one (ps_ret (pe_call G5 hr (by rfl) T.m5 T.f5.kp T.b5 .nil pass0 (pa_cons (pe_call G1 hr (by rfl) T.m1 T.f1.kp T.b1 .nil pass0 (pa_cons (pv 0) (pa_cons (pv 1) (pa_cons (pv 2) pa_nil)))) pa_nil))), ?_⟩
  refine ⟨_, rfl, _, rfl, _, rfl, a, b, n, rfl, hn, fun p H1 np s1 ep => ?_⟩
  exact ⟨p, _, rfl, .inl (SqL.of ep), by rw [GG.dgr_len]; exact hn, fun H2 s2 => q _ (s1.trans s2)⟩
end
section
variable {X : Cx}
theorem ext_tup {prog : Program} {w : World} {A : Around} {s : Shared} {Q : Value → Shared → Prop} {E : Value → Shared → Prop} {l b : Addr} {its : List Value} {n : Nat} {o : Obj} {items : Array Value} {m : Nat} (hS : s.heap.get? l = some { cls := .type "list", data := .seq its.toArray n })
    (ho : s.heap.get? b = some o) (hc : o.cls = .type "tuple") (hd : o.data = .seq items m) (hz : its.length + items.size ≤ sizeLine)
    (hQ : Q .none { s with heap := s.heap.update l (Obj.mapSeq (· ++ items)) }) : wpAny (model prog w) A (call (.builtin "list.extend") [.ref l, .ref b]) Q E s := by
  refine wpAny_call_entry PySem.F.slot_list_extend ⟨_, hS, rfl⟩ PySem.F.entry_list_extend ?_ (PySem.F.args_list_extend_2 _ _)
  show wpAny _ _ (Builtin.List.listExtendWith (.ref l) (.ref b) .none) _ _ s
  unfold Builtin.List.listExtendWith
  refine wpAny_bind (wpAny_typeOf ⟨o, ho, hc⟩ ?_)
  have h1 : (Builtin.List.listSameRef (.ref l) (.ref b) || Value.type "tuple" == Value.type "list" || Value.type "tuple" == Value.type "tuple") = true := by simp
  simp only [h1, if_true]
  refine wpAny_bind ?_
  unfold Builtin.List.listItems
  refine wpAny_bind (wpAny_seqItems ho hd (wpAny_pure ?_))
  refine wpAny_bind ?_
  refine wpAny_bind (wpAny_seqItems hS rfl (wpAny_pure ?_))
  have hl2 : (!its.toArray.isEmpty && Builtin.List.listTooLong (its.toArray.size + items.size)) = false := by
    rw [notLongL (by rw [List.size_toArray]; exact hz), Bool.and_false]
  rw [if_neg (by rw [hl2]; exact Bool.false_ne_true)]
  show wpAny _ _ (updateSeq l (· ++ items) >>= fun _ => PySem.ret Value.none) _ _ s
  refine wpAny_bind (wpAny_updateSeq hS rfl ?_ (hz := by rw [List.size_toArray]; omega) (_hz' := by rw [Array.size_append, List.size_toArray]; omega))
  exact wpAny_pure ⟨_, rfl, hQ⟩
theorem mt_extT : MtM X "list.extend" (fun x vs H Q => ∃ l b xs zs, x = .ref l ∧ vs = [.ref b] ∧ H l = some (.lst xs) ∧ SqT X.K H b zs ∧ xs.length + zs.length ≤ sizeLine ∧ Q .non (upd H l (.lst (xs ++ zs)))) := by
  intro pins s σ H x vs v us Q I rx rv h
  obtain ⟨l, b, xs, zs, rfl, rfl, hH, hB, hz, q⟩ := h
  cases rx
  obtain ⟨u, rfl, ru⟩ := rv.one
  cases ru
  obtain ⟨z, its, n, r, hl, e⟩ := I.lstM hH
  obtain ⟨its2, r2, ⟨o2, eo2, hc2, n2, hd2⟩, hz2⟩ := I.tuple hB
  have hl2 := r2.length
  refine ext_tup e eo2 hc2 hd2 (by rw [List.size_toArray, ← hl, ← hl2]; exact hz) ?_
  refine ⟨.non, _, I.lset (its' := its ++ its2) hH e (by simp) (r.append r2) ?_, rfl, q⟩
  rw [List.length_append]
  omega
end
section
variable {P : Program} {w : World} {K : PySem.W.Frag} {mg : Str → Option Value} {base : Heap}
variable {C : Addr} {CD : Addr} {za : Nat → Addr} {zl : Nat → FuncData} {t73 t74 t75 tg_NEAR tg_CUT tg_UP tg_DOWN : Tok} {dO : Addr} {esO : Array DictEntry} {nO : Nat}
theorem ok_guess (B : Bl mg) (L : LL K mg C CD za zl t73 t74 t75 tg_NEAR tg_CUT tg_UP tg_DOWN w dO esO nO) : FnOk P w K mg base CX0 4 (za 36) (zl 36) ["one", "other", "many"] spGuess := by
  exact okX_guess ⟨L.F_digits_of, L.b_digits_of, L.m_digits_of, L.F_zeros_of, L.b_zeros_of, L.m_zeros_of, L.F_marks_of, L.b_marks_of, L.m_marks_of, L.F_is_mark, L.b_is_mark, L.m_is_mark, L.F_first_mark, L.b_first_mark, L.m_first_mark, L.F_guess, L.b_guess, L.m_guess⟩ B
theorem ok_zeros_of (B : Bl mg) (L : LL K mg C CD za zl t73 t74 t75 tg_NEAR tg_CUT tg_UP tg_DOWN w dO esO nO) : FnOk P w K mg base CX0 1 (za 32) (zl 32) ["number", "many"] spZerosOf := by
  exact ok_zerosOf L.F_zeros_of B
end
section
variable {P : Program} {w : World} {K : PySem.W.Frag} {mg : Str → Option Value} {base : Heap}
variable {C : Addr} {CD : Addr} {za : Nat → Addr} {zl : Nat → FuncData} {t73 t74 t75 tg_NEAR tg_CUT tg_UP tg_DOWN : Tok} {dO : Addr} {esO : Array DictEntry} {nO : Nat}
theorem num_in {tl : Nat} {u : Int} (h : 0 ≤ u) (ht : tl ≤ 24) : 0 ≤ GM.num tl u ∧ GM.num tl u < 2 ^ 25 := by
  have hp := GM.pow_pos' tl
  have h24 : (2 : Int) ^ tl ≤ 2 ^ 24 := GM.pow_le' ht
  have l := Int.emod_lt_of_pos u hp
  have n := Int.emod_nonneg u (show (2 : Int) ^ tl ≠ 0 by omega)
  unfold GM.num
  split <;> omega
def hd (sc tl : Nat) (v : Int) : Int := GM.num tl (sz sc tl v)
theorem hd_in (sc : Nat) {tl : Nat} (v : Int) (h4 : tl ≤ 24) : 0 ≤ hd sc tl v ∧ hd sc tl v < 2 ^ 25 := num_in (tl := tl) (u := sz sc tl v) (sz_nn sc tl v) h4
theorem num_lt {tl : Nat} {u : Int} (h : 0 ≤ u) : GM.num tl u < 2 * 2 ^ tl := by
  have hp := GM.pow_pos' tl
  have l := Int.emod_lt_of_pos u hp
  unfold GM.num
  split <;> omega
theorem num_big {tl : Nat} {u : Int} (h0 : 0 ≤ u) (h : 1 ≤ GM.ex tl u) : 2 ^ tl ≤ GM.num tl u := by
  have hp := GM.pow_pos' tl
  have n := Int.emod_nonneg u (show (2 : Int) ^ tl ≠ 0 by omega)
  unfold GM.ex at h
  unfold GM.num
  rw [if_neg (by omega)]
  omega
theorem ex_mono {tl : Nat} {u v : Int} (h : u ≤ v) : GM.ex tl u ≤ GM.ex tl v := by
  have := Int.ediv_le_ediv (GM.pow_pos' tl) h
  unfold GM.ex
  omega
theorem num_mono {tl : Nat} {u v : Int} (h0 : 0 ≤ u) (h : u ≤ v) (e : GM.ex tl u = GM.ex tl v) : GM.num tl u ≤ GM.num tl v := by
  have hp := GM.pow_pos' tl
  have q1 := Int.ediv_nonneg h0 (Int.le_of_lt hp)
  have q2 := Int.ediv_le_ediv hp h
  have d1 := Int.emod_add_mul_ediv u (2 ^ tl)
  have d2 := Int.emod_add_mul_ediv v (2 ^ tl)
  have m1 := Int.emod_nonneg u (show (2 : Int) ^ tl ≠ 0 by omega)
  have m2 := Int.emod_nonneg v (show (2 : Int) ^ tl ≠ 0 by omega)
  have l1 := Int.emod_lt_of_pos u hp
  unfold GM.ex at e
  unfold GM.num
  generalize u / 2 ^ tl = a at *
  generalize v / 2 ^ tl = b at *
  by_cases ca : a = 0
  · rw [if_pos ca]
    subst ca
    rw [Int.mul_zero, Int.add_zero] at d1
    by_cases cb : b = 0
    · rw [if_pos cb]
      subst cb
      rw [Int.mul_zero, Int.add_zero] at d2
      omega
    · rw [if_neg cb]
      omega
  · rw [if_neg ca, if_neg (by omega)]
    have : a = b := by omega
    subst this
    omega
def sNu (sc tl : Nat) (g l : Int) : Int := GR.cutQ (4 * hd sc tl l) (wp sc tl g - wp sc tl l)
def sMo (sc tl : Nat) (g l : Int) : Bool := GR.cutR (4 * hd sc tl l) (wp sc tl g - wp sc tl l)
def mTo (g l : Int) (more alike : Bool) : Int := if alike then g + l else g - l - (if more then 1 else 0)
def sTo (sc tl : Nat) (g l : Int) : Int := mTo (4 * hd sc tl g) (sNu sc tl g l) (sMo sc tl g l) (decide (GM.sgn sc tl g = GM.sgn sc tl l))
theorem div_le_half {n : Int} {d : Nat} (h0 : 0 ≤ n) : n / 2 ^ (d + 1) * 2 ≤ n ∧ 0 ≤ n / 2 ^ (d + 1) := by
  have hp := GM.pow_pos' (d + 1)
  have q0 := Int.ediv_nonneg h0 (Int.le_of_lt hp)
  have h2 : (2 : Int) ^ 1 ≤ 2 ^ (d + 1) := GM.pow_le' (by omega)
  have m := Int.ediv_mul_le n (show (2 : Int) ^ (d + 1) ≠ 0 by omega)
  have := Int.mul_le_mul_of_nonneg_left h2 q0
  exact ⟨by omega, q0⟩
structure Sf (sc tl : Nat) (g l : Int) : Prop where
  le : wp sc tl l ≤ wp sc tl g
  n0 : 0 ≤ sNu sc tl g l
  nl : sNu sc tl g l ≤ 4 * hd sc tl g
  t0 : 0 ≤ sTo sc tl g l
  mo : sMo sc tl g l = true → 2 * 2 ^ tl ≤ sTo sc tl g l
  z : sTo sc tl g l = 0 → GM.sgn sc tl g ≠ GM.sgn sc tl l ∧ hd sc tl g = hd sc tl l ∧ wp sc tl g = wp sc tl l
  mf : sMo sc tl g l = true → sNu sc tl g l < 2 ^ tl ∧ 2 ^ tl ≤ hd sc tl g
theorem sum_facts {sc tl : Nat} {g l : Int} (h3 : 1 ≤ tl) (h : sz sc tl l ≤ sz sc tl g) (hg : ¬ sz sc tl g = 0) : Sf sc tl g l := by
  have g0 := sz_nn sc tl g
  have l0 := sz_nn sc tl l
  have em := ex_mono (tl := tl) h
  have nz := num_zero (tl := tl) g0
  have nzl := num_zero (tl := tl) l0
  have ll := num_lt (tl := tl) l0
  have hp := GM.pow_pos' tl
  have h2 : (2 : Int) ^ 1 ≤ 2 ^ tl := GM.pow_le' h3
  have ew : wp sc tl g - wp sc tl l = ((GM.ex tl (sz sc tl g) - GM.ex tl (sz sc tl l) : Nat) : Int) := by
    unfold wp
    omega
  have eN : sNu sc tl g l = 4 * hd sc tl l / 2 ^ (GM.ex tl (sz sc tl g) - GM.ex tl (sz sc tl l)) := by
    unfold sNu GR.cutQ
    rw [ew, if_neg (by omega), Int.toNat_natCast]
  have eM : sMo sc tl g l = !decide (4 * hd sc tl l / 2 ^ (GM.ex tl (sz sc tl g) - GM.ex tl (sz sc tl l)) * 2 ^ (GM.ex tl (sz sc tl g) - GM.ex tl (sz sc tl l)) = 4 * hd sc tl l) := by
    unfold sMo GR.cutR
    rw [ew, if_neg (by omega), Int.toNat_natCast]
  have hG : 0 < hd sc tl g := by
    have : ¬ hd sc tl g = 0 := fun z => hg (nz.2.mp z)
    have : 0 ≤ hd sc tl g := nz.1
    omega
  have hL : 0 ≤ hd sc tl l := nzl.1
  have hL2 : hd sc tl l < 2 * 2 ^ tl := ll
  have big : 1 ≤ GM.ex tl (sz sc tl g) → 2 ^ tl ≤ hd sc tl g := num_big g0
  have mono : GM.ex tl (sz sc tl l) = GM.ex tl (sz sc tl g) → hd sc tl l ≤ hd sc tl g := num_mono l0 h
  have sm : sMo sc tl g l = true → sNu sc tl g l < 2 ^ tl ∧ 2 ^ tl ≤ hd sc tl g := by
    intro m
    rw [eM] at m
    have m' : ¬ (4 * hd sc tl l / 2 ^ (GM.ex tl (sz sc tl g) - GM.ex tl (sz sc tl l)) * 2 ^ (GM.ex tl (sz sc tl g) - GM.ex tl (sz sc tl l)) = 4 * hd sc tl l) := by simpa using m
    rw [eN]
    have hd3 : 3 ≤ GM.ex tl (sz sc tl g) - GM.ex tl (sz sc tl l) := by
      generalize GM.ex tl (sz sc tl g) - GM.ex tl (sz sc tl l) = d at m'
      match d with
      | 0 => exact absurd (by rw [Int.pow_zero, Int.ediv_one, Int.mul_one]) m'
      | 1 => exact absurd (by rw [show (2 : Int) ^ 1 = 2 by decide]; omega) m'
      | 2 => exact absurd (by rw [show (2 : Int) ^ 2 = 4 by decide]; omega) m'
      | d + 3 => omega
    refine ⟨?_, big (by omega)⟩
    obtain ⟨d, ed⟩ : ∃ d, GM.ex tl (sz sc tl g) - GM.ex tl (sz sc tl l) = d + 3 := ⟨_, (Nat.sub_add_cancel hd3).symm⟩
    rw [ed]
    have h8 : (2 : Int) ^ 3 ≤ 2 ^ (d + 3) := GM.pow_le' (by omega)
    have hq := GM.pow_pos' (d + 3)
    have q0 := Int.ediv_nonneg (show 0 ≤ 4 * hd sc tl l by omega) (Int.le_of_lt hq)
    have mm := Int.ediv_mul_le (4 * hd sc tl l) (show (2 : Int) ^ (d + 3) ≠ 0 by omega)
    have := Int.mul_le_mul_of_nonneg_left h8 q0
    omega
  have key : 0 ≤ sNu sc tl g l ∧ sNu sc tl g l ≤ 4 * hd sc tl g ∧ (sNu sc tl g l = 4 * hd sc tl g → GM.ex tl (sz sc tl g) = GM.ex tl (sz sc tl l) ∧ hd sc tl g = hd sc tl l) := by
    rw [eN]
    by_cases c : GM.ex tl (sz sc tl g) = GM.ex tl (sz sc tl l)
    · rw [c, Nat.sub_self, Int.pow_zero, Int.ediv_one]
      have := mono c.symm
      exact ⟨by omega, by omega, fun e => ⟨rfl, by omega⟩⟩
    · obtain ⟨d, ed⟩ : ∃ d, GM.ex tl (sz sc tl g) - GM.ex tl (sz sc tl l) = d + 1 := ⟨GM.ex tl (sz sc tl g) - GM.ex tl (sz sc tl l) - 1, by omega⟩
      rw [ed]
      have k := div_le_half (n := 4 * hd sc tl l) (d := d) (by omega)
      have b := big (by omega)
      exact ⟨k.2, by omega, fun e => absurd e (by omega)⟩
  have mf : sMo sc tl g l = true → sNu sc tl g l < 2 ^ tl ∧ 2 ^ tl ≤ hd sc tl g := sm
  refine ⟨by omega, key.1, key.2.1, ?_, fun m => ?_, fun e => ?_, mf⟩
  · unfold sTo mTo
    split
    · omega
    · cases hm : sMo sc tl g l with
      | false =>
        rw [if_neg (by decide)]
        omega
      | true =>
        have := mf hm
        rw [if_pos rfl]
        omega
  · have := mf m
    unfold sTo mTo
    rw [m]
    split
    · omega
    · rw [if_pos rfl]
      omega
  · unfold sTo mTo at e
    by_cases c : GM.sgn sc tl g = GM.sgn sc tl l
    · rw [if_pos (decide_eq_true c)] at e
      omega
    · rw [if_neg (by simpa using c)] at e
      cases hm : sMo sc tl g l with
      | false =>
        rw [hm, if_neg (by decide)] at e
        have k := key.2.2 (by omega)
        refine ⟨c, k.2, ?_⟩
        unfold wp
        rw [k.1]
      | true =>
        have := mf hm
        rw [hm, if_pos rfl] at e
        omega
theorem lap_big {sc tl : Nat} {n p : Int} (h : 2 * 2 ^ tl ≤ n) : n ≠ 0 ∧ p < GR.lap sc tl n p := by
  have hp := GM.pow_pos' tl
  obtain ⟨k, e1, e2, e3⟩ := GR.bl_in (n := n) (by omega)
  have : tl + 1 ≤ k := by
    apply Classical.byContradiction
    intro z
    have : (2 : Int) ^ (k + 1) ≤ 2 ^ (tl + 1) := GM.pow_le' (by omega)
    rw [GM.pow_s tl] at this
    omega
  refine ⟨by omega, ?_⟩
  unfold GR.lap
  split <;> omega
theorem add_zero {sc tl : Nat} {a b : Int} {way : Str} (na : ¬ GM.topS sc tl ≤ sz sc tl a) (nb : ¬ GM.topS sc tl ≤ sz sc tl b) (hs : GM.sgn sc tl a ≠ GM.sgn sc tl b) (hh : hd sc tl a = hd sc tl b) (hw : wp sc tl a = wp sc tl b) : addR sc tl a b way = ((if way = "down" then 1 else 0) * 2 ^ (sc + tl), []) := by
  have tp := srt_top sc tl
  unfold addR
  rw [if_neg (fun z => z.elim (fun e => na ((tp _).mp (.inr e))) (fun e => nb ((tp _).mp (.inr e))))]
  unfold wo
  rw [if_neg na, if_neg nb]
  show totR sc tl (tgn (wn sc tl a) (wp sc tl a) (wn sc tl b) (wp sc tl b)) _ (nsg _ _ way) way = _
  have hz : tgn (wn sc tl a) (wp sc tl a) (wn sc tl b) (wp sc tl b) = 0 := by
    unfold tgn lwr
    rw [hw, if_neg (by omega), Int.sub_self]
    show wn sc tl a * 2 ^ 0 + wn sc tl b * 2 ^ 0 = 0
    unfold hd at hh
    unfold wn
    rw [hh]
    have sa := GM.sgn_01 (m := sc) (t := tl) (w := a)
    have sb := GM.sgn_01 (m := sc) (t := tl) (w := b)
    rw [Int.pow_zero, Int.mul_one, Int.mul_one]
    rcases sa with sa | sa <;> rcases sb with sb | sb <;> rw [sa, sb] at hs ⊢ <;> simp at hs ⊢ <;> omega
  unfold totR
  rw [if_pos hz]
  unfold nsg
  rw [if_neg hs]
def osG (sc tl : Nat) (a b : Int) : Int × Int := if sz sc tl b ≤ sz sc tl a then (a, b) else (b, a)
def spSz (C : Addr) : Sp := fun vs H Q _ => ∃ (x : Addr) (sc tl : Nat) (v : Int), vs = [.ref x, .int v] ∧ FAt C H x sc tl ∧ ∀ H', Same H H' → Q (.int (sz sc tl v)) H'
theorem ok_size_of (B : Bl mg) (L : LL K mg C CD za zl t73 t74 t75 tg_NEAR tg_CUT tg_UP tg_DOWN w dO esO nO) : FnOk P w K mg base CX0 3 (za 29) (zl 29) ["form", "word"] (spSz C) := by
  have G_Form_parts : FnOk P w K mg base CX0 2 (za 70) (zl 70) ["self", "word"] (spParts C) := (ok_Form_parts B L).mono (by decide)
  have G_Form_word_of : FnOk P w K mg base CX0 2 (za 71) (zl 71) ["self", "sign", "scale", "tail"] (spWordOf C) := (ok_Form_word_of B L).mono (by decide)
  refine L.F_size_of.ok sc_size_of (fun vs H Q E h => ?_) (fun cdv A outer s H vs Q E hr h => ?_)
  · obtain ⟨x, sc, tl, v, rfl, _⟩ := h
    rfl
  obtain ⟨x, sc, tl, v, rfl, hF, q⟩ := h
  obtain ⟨dx, hx, h1, h2, h3, h4⟩ := id hF
  refine ⟨_, (pss_cons (ps_asg (pe_meth (pv 0) L.T.cl L.M_Form_parts G_Form_parts hr L.b_Form_parts .nil pass0 (pa_cons (pv 1) pa_nil)) (pg_tup (by rfl) (pgs_cons (pg_name (i := 2) sc_size_of.nd rfl (.inl rfl)) (pgs_cons (pg_name (i := 3) sc_size_of.nd rfl (.inl rfl)) (pgs_cons (pg_name (i := 4) sc_size_of.nd rfl (.inl rfl)) pgs_nil)))))
    (pss_one (ps_ret (pe_meth (pv 0) L.T.cl L.M_Form_word_of G_Form_word_of hr L.b_Form_word_of .nil pass0 (pa_cons pe_int (pa_cons (pv 3) (pa_cons (pv 4) pa_nil))))))), ?_⟩
  refine ⟨_, rfl, x, dx, _, rfl, hx, rfl, _, rfl, x, sc, tl, v, rfl, hF, fun p np => ?_⟩
  have sp := same_upd (o := .tup [.int (GM.sgn sc tl v), .int (GM.scl sc tl v), .int (GM.tlp tl v)]) np
  refine ⟨p, _, rfl, .inl (.inl upd_same), rfl, _, _, rfl, _, _, rfl, _, _, rfl, rfl, ?_⟩
  have pT := GM.pow_pos' tl
  have pS := GM.pow_pos' sc
  refine ⟨_, rfl, x, dx, _, rfl, sp _ _ hx, rfl, _, rfl, _, rfl, x, sc, tl, 0, GM.scl sc tl v, GM.tlp tl v, rfl, hF.same sp, .inl rfl, Int.emod_nonneg _ (by omega), Int.emod_lt_of_pos _ pS, Int.emod_nonneg _ (by omega), Int.emod_lt_of_pos _ pT, ?_⟩
  rw [Int.zero_mul, Int.zero_add, GM.scl_tlp]
  exact q _ sp
def spOrd (C : Addr) : Sp := fun vs H Q _ => ∃ (x : Addr) (sc tl : Nat) (a b : Int), vs = [.ref x, .int a, .int b] ∧ FAt C H x sc tl ∧ ∀ t H', Same H H' → H' t = some (.tup [.int (osG sc tl a b).1, .int (osG sc tl a b).2]) → Q (.ref t) H'
theorem ok_ordered (B : Bl mg) (L : LL K mg C CD za zl t73 t74 t75 tg_NEAR tg_CUT tg_UP tg_DOWN w dO esO nO) : FnOk P w K mg base CX0 4 (za 44) (zl 44) ["form", "a", "b"] (spOrd C) := by
  have G_size_of : FnOk P w K mg base CX0 3 (za 29) (zl 29) ["form", "word"] (spSz C) := (ok_size_of B L).mono (by decide)
  refine L.F_ordered.ok sc_ordered (fun vs H Q E h => ?_) (fun cdv A outer s H vs Q E hr h => ?_)
  · obtain ⟨x, sc, tl, a, b, rfl, _⟩ := h
    rfl
  obtain ⟨x, sc, tl, a, b, rfl, hF, q⟩ := h
  refine ⟨_, (pss_one (ps_ret (pe_ifExp (pt_cmpR op_ge (pe_call G_size_of hr (by rfl) L.m_size_of L.F_size_of.kp L.b_size_of .nil pass0 (pa_cons (pv 0) (pa_cons (pv 1) pa_nil))) (pe_call G_size_of hr (by rfl) L.m_size_of L.F_size_of.kp L.b_size_of .nil pass0 (pa_cons (pv 0) (pa_cons (pv 2) pa_nil))) (nomark _)) (pe_tup (pa_cons (pv 1) (pa_cons (pv 2) pa_nil))) (pe_tup (pa_cons (pv 2) (pa_cons (pv 1) pa_nil)))))), ?_⟩
  refine ⟨_, rfl, _, rfl, x, sc, tl, a, rfl, hF, fun H1 s1 => ?_⟩
  refine ⟨_, rfl, _, rfl, x, sc, tl, b, rfl, hF.same s1, fun H2 s2 => ?_⟩
  refine ⟨_, _, rfl, rfl, _, rfl, ite2 (fun c => ?_) (fun c => ?_)⟩
  · have c1 : sz sc tl b ≤ sz sc tl a := of_decide_eq_true c
    refine ⟨_, rfl, _, rfl, (by show 2 ≤ sizeLine; decide), fun t nt => ?_⟩
    refine q t _ ((s1.trans s2).trans (same_upd nt)) ?_
    unfold osG
    rw [if_pos c1]
    exact upd_same
  · have c1 : ¬ sz sc tl b ≤ sz sc tl a := of_decide_eq_false (Bool.eq_false_iff.mpr c)
    refine ⟨_, rfl, _, rfl, (by show 2 ≤ sizeLine; decide), fun t nt => ?_⟩
    refine q t _ ((s1.trans s2).trans (same_upd nt)) ?_
    unfold osG
    rw [if_neg c1]
    exact upd_same
def mMid (g l : Int) (more alike : Bool) (n : Nat) : List PyData := if alike then [.tuple [.str "sum", .int (mTo g l more alike)]] else [.tuple [.str "less", .int (mTo g l more alike)], .tuple [.str "guess", .int (fm (GG.dgr g l n) : Nat), .int ((n : Int) - (Builtin.Int.intBits ((mTo g l more alike).natAbs : Int) : Nat) - (fm (GG.dgr g l n) : Nat))]]
def spTot (K : PySem.W.Frag) : Sp := fun vs H Q _ => ∃ (g l : Int) (more alike : Bool) (n : Nat), vs = [.int g, .int l, .bl more, .bl alike, .int (n : Int)] ∧ n ≤ 1000 ∧
  ∀ t ls vs H', Same H H' → H' t = some (.tup [.int (mTo g l more alike), .ref ls]) → H' ls = some (.lst vs) → vs.length ≤ 2 → DpAll K H' vs (mMid g l more alike n) → Q (.ref t) H'
theorem ok_total_steps (B : Bl mg) (L : LL K mg C CD za zl t73 t74 t75 tg_NEAR tg_CUT tg_UP tg_DOWN w dO esO nO) : FnOk P w K mg base CX0 6 (za 41) (zl 41) ["greater", "lesser", "more", "alike", "many"] (spTot K) := by
  have G_guess : FnOk P w K mg base CX0 5 (za 36) (zl 36) ["one", "other", "many"] spGuess := (ok_guess B L).mono (by decide)
  have G_zeros_of : FnOk P w K mg base CX0 5 (za 32) (zl 32) ["number", "many"] spZerosOf := (ok_zeros_of B L).mono (by decide)
  refine L.F_total_steps.ok sc_total_steps (fun vs H Q E h => ?_) (fun cdv A outer s H vs Q E hr h => ?_)
  · obtain ⟨g, l, more, alike, n, rfl, _⟩ := h
    rfl
  obtain ⟨g, l, more, alike, n, rfl, hn, q⟩ := h
  refine ⟨_, (pss_cons (ps_if (pt_val (pv 3)) (pss_cons (ps_set (i := 5) sc_total_steps.nd rfl (.inl rfl) (pe_op op_add (pv 0) (pv 1)))
    (pss_one (ps_ret (pe_tup (pa_cons (pv 5) (pa_cons (pe_lst (pa_cons (pe_tup (pa_cons pe_str (pa_cons (pv 5) pa_nil))) pa_nil)) pa_nil)))))) pss_nil)
    (pss_cons (ps_set (i := 5) sc_total_steps.nd rfl (.inl rfl) (pe_op op_sub (pe_op op_sub (pv 0) (pv 1)) (pe_ifExp (pt_val (pv 2)) pe_int pe_int)))
    (pss_cons (ps_set (i := 6) sc_total_steps.nd rfl (.inl rfl) (pe_call G_guess hr (by rfl) L.m_guess L.F_guess.kp L.b_guess .nil pass0 (pa_cons (pv 0) (pa_cons (pv 1) (pa_cons (pv 4) pa_nil)))))
    (pss_one (ps_ret (pe_tup (pa_cons (pv 5) (pa_cons (pe_lst (pa_cons (pe_tup (pa_cons pe_str (pa_cons (pv 5) pa_nil))) (pa_cons (pe_tup (pa_cons pe_str (pa_cons (pv 6) (pa_cons (pe_op op_sub (pe_call G_zeros_of hr (by rfl) L.m_zeros_of L.F_zeros_of.kp L.b_zeros_of .nil pass0 (pa_cons (pv 5) (pa_cons (pv 4) pa_nil))) (pv 6)) pa_nil)))) pa_nil))) pa_nil)))))))), ?_⟩
  cases alike with
  | true =>
    refine ⟨_, rfl, _, rfl, iteT ?_⟩
    refine ⟨_, rfl, _, rfl, _, _, rfl, rfl, ?_⟩
    refine ⟨_, rfl, _, rfl, (by show 2 ≤ sizeLine; decide), fun t0 nt0 => ⟨(by show 1 ≤ sizeLine; decide), fun ls nls => ⟨(by show 2 ≤ sizeLine; decide), fun t nt => ?_⟩⟩⟩
    have s0 := same_upd (o := .tup [.str "sum", .int (g + l)]) nt0
    have sl := same_upd (o := .lst [.ref t0]) nls
    have st := same_upd (o := .tup [.int (g + l), .ref ls]) nt
    exact q t ls _ _ ((s0.trans sl).trans st) upd_same (st _ _ upd_same) (by show 1 ≤ 2; decide) (.cons (.tup (.inl (.inl ((sl.trans st) _ _ upd_same))) (.cons (.str _) (.cons (.int _) .nil))) .nil)
  | false =>
    refine ⟨_, rfl, _, rfl, iteF ?_⟩
    refine ⟨_, rfl, _, rfl, _, _, rfl, rfl, ?_⟩
    refine if_ev (fun z H' => z = .int (if more = true then 1 else 0) ∧ H = H') (fun Q' q' => ?_) ?_
    · refine ⟨_, rfl, _, rfl, ite2 (fun d => ?_) (fun d => ?_)⟩
      · exact q' _ _ ⟨by rw [if_pos d], rfl⟩
      · exact q' _ _ ⟨by rw [if_neg d], rfl⟩
    rintro z _ ⟨rfl, rfl⟩
    refine ⟨_, _, rfl, rfl, ?_⟩
    refine ⟨_, rfl, _, rfl, _, rfl, g, l, n, rfl, hn, fun H1 s1 => ?_⟩
    refine ⟨_, rfl, _, rfl, (by show 2 ≤ sizeLine; decide), fun t0 nt0 => ?_⟩
    refine ⟨_, rfl, _, rfl, _, rfl, _, _, rfl, _, rfl, _, _, rfl, rfl, (by show 3 ≤ sizeLine; decide), fun t1 nt1 => ⟨(by show 2 ≤ sizeLine; decide), fun ls nls => ⟨(by show 2 ≤ sizeLine; decide), fun t nt => ?_⟩⟩⟩
    have s0 := same_upd (o := .tup [.str "less", .int (g - l - (if more = true then 1 else 0))]) nt0
    have s2 := same_upd (o := .tup [.str "guess", .int (fm (GG.dgr g l n) : Nat), .int ((n : Int) - (Builtin.Int.intBits ((g - l - (if more = true then 1 else 0) : Int).natAbs : Int) : Nat) - (fm (GG.dgr g l n) : Nat))]) nt1
    have sl := same_upd (o := .lst [.ref t0, .ref t1]) nls
    have st := same_upd (o := .tup [.int (g - l - (if more = true then 1 else 0)), .ref ls]) nt
    exact q t ls _ _ (s1.trans (((s0.trans s2).trans sl).trans st)) upd_same (st _ _ upd_same) (by show 2 ≤ 2; decide) (.cons (.tup (.inl (.inl ((s2.trans (sl.trans st)) _ _ upd_same))) (.cons (.str _) (.cons (.int _) .nil))) (.cons (.tup (.inl (.inl ((sl.trans st) _ _ upd_same))) (.cons (.str _) (.cons (.int _) (.cons (.int _) .nil)))) .nil))
def toldD (nm : Str) (r : Int × List Str) : PyData := .tuple [.str nm, .int r.1, .tuple (r.2.map PyData.str)]
def sLast (sc tl : Nat) (g l : Int) (way : Str) : Int × List Str := if sTo sc tl g l = 0 then ((if way = "down" then 1 else 0) * 2 ^ (sc + tl), []) else GR.rnd sc tl (GM.sgn sc tl g) (sTo sc tl g l) (wp sc tl g - 2) way (sMo sc tl g l)
def sumD (sc tl : Nat) (g l : Int) (way : Str) : PyData := .list ([.tuple [.str "order", .int g, .int l], .tuple [.str "shift", .int (sNu sc tl g l), .bool (sMo sc tl g l)]] ++ (mMid (4 * hd sc tl g) (sNu sc tl g l) (sMo sc tl g l) (decide (GM.sgn sc tl g = GM.sgn sc tl l)) (tl + 3) ++ [toldD "round" (sLast sc tl g l way)]))
def addD (sc tl : Nat) (a b : Int) (way : Str) : PyData := if [a, b].all (hdv sc tl) = true then sumD sc tl (osG sc tl a b).1 (osG sc tl a b).2 way else .list [toldD "told" (addR sc tl a b way)]
theorem dp_strs3 {H : Hp} : ∀ ds : List Str, DpAll K H (ds.map V.str) (ds.map PyData.str)
  | [] => .nil
  | d :: ds => .cons (.str d) (dp_strs3 ds)
theorem dp_step {H : Hp} {t : Addr} {nm : Str} {r : Int × List Str} (h : StepAt H t nm r) : Dp K H (.ref t) (toldD nm r) := by
  obtain ⟨f, e1, e2⟩ := h
  exact .tup (.inl (.inl e1)) (.cons (.str _) (.cons (.int _) (.cons (.tup (.inl (.inl e2)) (dp_strs3 r.2)) .nil)))
theorem dp_app {H : Hp} : ∀ {vs us : List V} {ds es : List PyData}, DpAll K H vs ds → DpAll K H us es → DpAll K H (vs ++ us) (ds ++ es)
  | _, _, _, _, .nil, h => h
  | _, _, _, _, .cons h1 h2, h => .cons h1 (dp_app h2 h)
theorem os_or (sc tl : Nat) (a b : Int) : (osG sc tl a b = (a, b) ∧ sz sc tl b ≤ sz sc tl a) ∨ (osG sc tl a b = (b, a) ∧ sz sc tl a ≤ sz sc tl b) := by
  unfold osG
  by_cases c : sz sc tl b ≤ sz sc tl a
  · rw [if_pos c]
    exact .inl ⟨rfl, c⟩
  · rw [if_neg c]
    exact .inr ⟨rfl, by omega⟩
def spAS (K : PySem.W.Frag) (C : Addr) : Sp := fun vs H Q _ => ∃ (x : Addr) (sc tl : Nat) (a b : Int) (way : Str), vs = [.ref x, .int a, .int b, .str way] ∧ FAt C H x sc tl ∧
  ∀ l xs H', H l = none → Same H H' → H' l = some (.lst xs) → xs.length ≤ 5 → Dp K H' (.ref l) (addD sc tl a b way) → Q (.ref l) H'
theorem ok_add_steps (B : Bl mg) (L : LL K mg C CD za zl t73 t74 t75 tg_NEAR tg_CUT tg_UP tg_DOWN w dO esO nO) : FnOk P w K mg base CX0 11 (za 42) (zl 42) ["form", "a", "b", "way"] (spAS K C) := by
  have G_have_heads : FnOk P w K mg base CX0 10 (za 37) (zl 37) ["form", "words"] (spHH K C) := (ok_have_heads B L).mono (by decide)
  have G_plain_step : FnOk P w K mg base CX0 10 (za 39) (zl 39) ["name", "form", "op", "words", "way"] (spPS K C) := (ok_plain_step B L).mono (by decide)
  have G_ordered : FnOk P w K mg base CX0 10 (za 44) (zl 44) ["form", "a", "b"] (spOrd C) := (ok_ordered B L).mono (by decide)
  have G_head_of : FnOk P w K mg base CX0 10 (za 38) (zl 38) ["form", "word"] (spHO C) := (ok_head_of B L).mono (by decide)
  have G_cut_off : FnOk P w K mg base CX0 10 (za 1) (zl 1) ["number", "by"] spCut := (ok_cut_off B L).mono (by decide)
  have G_sign_of : FnOk P w K mg base CX0 10 (za 18) (zl 18) ["form", "word"] (spSgn C) := (ok_sign_of B L).mono (by decide)
  have G_total_steps : FnOk P w K mg base CX0 10 (za 41) (zl 41) ["greater", "lesser", "more", "alike", "many"] (spTot K) := (ok_total_steps B L).mono (by decide)
  have G_round_step : FnOk P w K mg base CX0 10 (za 40) (zl 40) ["form", "sign", "total", "power", "way", "more"] (spRS C) := (ok_round_step B L).mono (by decide)
  refine L.F_add_steps.ok sc_add_steps (fun vs H Q E h => ?_) (fun cdv A outer s H vs Q E hr h => ?_)
  · obtain ⟨x, sc, tl, a, b, way, rfl, _⟩ := h
    rfl
  obtain ⟨x, sc, tl, a, b, way, rfl, hF, q⟩ := h
  refine ⟨_, (pss_cons (ps_if (pt_not (pt_val (pe_call G_have_heads hr (by rfl) L.m_have_heads L.F_have_heads.kp L.b_have_heads .nil pass0 (pa_cons (pv 0) (pa_cons (pe_tup (pa_cons (pv 1) (pa_cons (pv 2) pa_nil))) pa_nil))))) (pss_one (ps_ret (pe_lst (pa_cons (pe_call G_plain_step hr (by rfl) L.m_plain_step L.F_plain_step.kp L.b_plain_step .nil pass0 (pa_cons pe_str (pa_cons (pv 0) (pa_cons pe_str (pa_cons (pe_tup (pa_cons (pv 1) (pa_cons (pv 2) pa_nil))) (pa_cons (pv 3) pa_nil)))))) pa_nil)))) pss_nil)
    (pss_cons (ps_asg (pe_call G_ordered hr (by rfl) L.m_ordered L.F_ordered.kp L.b_ordered .nil pass0 (pa_cons (pv 0) (pa_cons (pv 1) (pa_cons (pv 2) pa_nil)))) (pg_tup (by rfl) (pgs_cons (pg_name (i := 4) sc_add_steps.nd rfl (.inl rfl)) (pgs_cons (pg_name (i := 5) sc_add_steps.nd rfl (.inl rfl)) pgs_nil))))
    (pss_cons (ps_asg (pe_call G_head_of hr (by rfl) L.m_head_of L.F_head_of.kp L.b_head_of .nil pass0 (pa_cons (pv 0) (pa_cons (pv 4) pa_nil))) (pg_tup (by rfl) (pgs_cons (pg_name (i := 6) sc_add_steps.nd rfl (.inl rfl)) (pgs_cons (pg_name (i := 7) sc_add_steps.nd rfl (.inl rfl)) pgs_nil))))
    (pss_cons (ps_asg (pe_call G_head_of hr (by rfl) L.m_head_of L.F_head_of.kp L.b_head_of .nil pass0 (pa_cons (pv 0) (pa_cons (pv 5) pa_nil))) (pg_tup (by rfl) (pgs_cons (pg_name (i := 8) sc_add_steps.nd rfl (.inl rfl)) (pgs_cons (pg_name (i := 9) sc_add_steps.nd rfl (.inl rfl)) pgs_nil))))
    (pss_cons (ps_asg (pe_call G_cut_off hr (by rfl) L.m_cut_off L.F_cut_off.kp L.b_cut_off .nil pass0 (pa_cons (pe_op op_mul pe_int (pv 8)) (pa_cons (pe_op op_sub (pv 7) (pv 9)) pa_nil))) (pg_tup (by rfl) (pgs_cons (pg_name (i := 10) sc_add_steps.nd rfl (.inl rfl)) (pgs_cons (pg_name (i := 11) sc_add_steps.nd rfl (.inl rfl)) pgs_nil))))
    (pss_cons (ps_set (i := 12) sc_add_steps.nd rfl (.inl rfl) (pe_call G_sign_of hr (by rfl) L.m_sign_of L.F_sign_of.kp L.b_sign_of .nil pass0 (pa_cons (pv 0) (pa_cons (pv 4) pa_nil))))
    (pss_cons (ps_set (i := 13) sc_add_steps.nd rfl (.inl rfl) (pe_cmpR op_eq (pv 12) (pe_call G_sign_of hr (by rfl) L.m_sign_of L.F_sign_of.kp L.b_sign_of .nil pass0 (pa_cons (pv 0) (pa_cons (pv 5) pa_nil))) (nomark _)))
    (pss_cons (ps_asg (pe_call G_total_steps hr (by rfl) L.m_total_steps L.F_total_steps.kp L.b_total_steps .nil pass0 (pa_cons (pe_op op_mul pe_int (pv 6)) (pa_cons (pv 10) (pa_cons (pv 11) (pa_cons (pv 13) (pa_cons (pe_op op_add (pe_fld (pv 0) rfl) pe_int) pa_nil)))))) (pg_tup (by rfl) (pgs_cons (pg_name (i := 14) sc_add_steps.nd rfl (.inl rfl)) (pgs_cons (pg_name (i := 15) sc_add_steps.nd rfl (.inl rfl)) pgs_nil))))
    (pss_cons (ps_if (pt_cmpR op_eq (pv 14) pe_int (nomark _)) (pss_one (ps_set (i := 16) sc_add_steps.nd rfl (.inl rfl) (pe_call G_plain_step hr (by rfl) L.m_plain_step L.F_plain_step.kp L.b_plain_step .nil pass0 (pa_cons pe_str (pa_cons (pv 0) (pa_cons pe_str (pa_cons (pe_tup (pa_cons (pv 1) (pa_cons (pv 2) pa_nil))) (pa_cons (pv 3) pa_nil)))))))) (pss_one (ps_set (i := 16) sc_add_steps.nd rfl (.inl rfl) (pe_call G_round_step hr (by rfl) L.m_round_step L.F_round_step.kp L.b_round_step .nil pass0 (pa_cons (pv 0) (pa_cons (pv 12) (pa_cons (pv 14) (pa_cons (pe_op op_sub (pv 7) pe_int) (pa_cons (pv 3) (pa_cons (pv 11) pa_nil))))))))))
    (pss_one (ps_ret (pe_lst (pa_cons (pe_tup (pa_cons pe_str (pa_cons (pv 4) (pa_cons (pv 5) pa_nil)))) (pa_cons (pe_tup (pa_cons pe_str (pa_cons (pv 10) (pa_cons (pv 11) pa_nil)))) (StX.pa_star (pv 15) (pa_cons (pv 16) pa_nil)))))))))))))))), ?_⟩
  refine ⟨_, rfl, _, rfl, _, rfl, (by show 2 ≤ sizeLine; decide), fun t nt => ?_⟩
  have st := same_upd (o := .tup [.int a, .int b]) nt
  refine ⟨x, t, sc, tl, [a, b], rfl, hF.same st, .inl (.inl upd_same), Nat.le_of_ble_eq_true rfl, fun H1 s1 => ?_⟩
  have w1 := st.trans s1
  unfold addD at q
  cases hr2 : [a, b].all (hdv sc tl) with
  | false =>
    rw [hr2, if_neg (by decide)] at q
    refine ⟨_, rfl, iteT ?_⟩
    refine ⟨_, rfl, _, rfl, _, rfl, (by show 2 ≤ sizeLine; decide), fun u nu => ?_⟩
    have su := same_upd (o := .tup [.int a, .int b]) nu
    have w2 := w1.trans su
    refine ⟨_, rfl, x, u, sc, tl, "told", "add", way, [a, b], addR sc tl a b way, rfl, hF.same w2, .inl (.inl (.inl upd_same)), (by unfold doneR; rfl), fun v H2 s2 P2 => ?_⟩
    refine ⟨(by show 1 ≤ sizeLine; decide), fun l nl => ?_⟩
    have sl := same_upd (o := .lst [.ref v]) nl
    exact q l _ _ ((w2.trans s2).free nl) ((w2.trans s2).trans sl) upd_same (by show 1 ≤ 5; decide) (.lst (SqL.of upd_same) (.cons (dp_step (P2.same sl)) .nil))
  | true =>
    rw [hr2, if_pos rfl] at q
    refine ⟨_, rfl, iteF ?_⟩
    obtain ⟨dx, hx, h1, h2, h3, h4⟩ := id hF
    have hab := List.all_eq_true.mp hr2
    have ra := hdv_real (hab a (by simp))
    have rb := hdv_real (hab b (by simp))
    refine ⟨_, rfl, _, rfl, _, rfl, x, sc, tl, a, b, rfl, hF.same w1, fun o H2 s2 eo => ?_⟩
    have hz : ∀ way, GM.sgn sc tl (osG sc tl a b).1 ≠ GM.sgn sc tl (osG sc tl a b).2 → hd sc tl (osG sc tl a b).1 = hd sc tl (osG sc tl a b).2 → wp sc tl (osG sc tl a b).1 = wp sc tl (osG sc tl a b).2 → addR sc tl a b way = ((if way = "down" then 1 else 0) * 2 ^ (sc + tl), []) := fun way e1 e2 e3 => by
      rcases os_or sc tl a b with ⟨e, _⟩ | ⟨e, _⟩ <;> rw [e] at e1 e2 e3
      · exact add_zero ra.1 rb.1 e1 e2 e3
      · exact add_zero ra.1 rb.1 (Ne.symm e1) e2.symm e3.symm
    obtain ⟨rg, rl, hle⟩ : (¬ GM.topS sc tl ≤ sz sc tl (osG sc tl a b).1 ∧ ¬ sz sc tl (osG sc tl a b).1 = 0) ∧ (¬ GM.topS sc tl ≤ sz sc tl (osG sc tl a b).2 ∧ ¬ sz sc tl (osG sc tl a b).2 = 0) ∧ sz sc tl (osG sc tl a b).2 ≤ sz sc tl (osG sc tl a b).1 := by
      rcases os_or sc tl a b with ⟨e, c⟩ | ⟨e, c⟩ <;> rw [e]
      · exact ⟨ra, rb, c⟩
      · exact ⟨rb, ra, c⟩
    generalize (osG sc tl a b).1 = g at *
    generalize (osG sc tl a b).2 = l at *
    have sf := sum_facts h3 hle rg.2
    have kg := hd_in sc g h4
    have kl := hd_in sc l h4
    have ig := wp_in h1 h2 h4 rg.1
    have il := wp_in h1 h2 h4 rl.1
    refine ⟨o, _, rfl, .inl (.inl eo), rfl, _, _, rfl, _, _, rfl, rfl, ?_⟩
    have w2 := w1.trans s2
    refine ⟨_, rfl, _, rfl, x, sc, tl, g, rfl, hF.same w2, rg.1, fun p1 H3 n3 s3 e3 => ?_⟩
    refine ⟨p1, _, rfl, .inl (.inl e3), rfl, _, _, rfl, _, _, rfl, rfl, ?_⟩
    have w3 := w2.trans s3
    try simp only [L2.start, List.map_cons, List.map_nil, List.length_cons, List.length_nil, List.replicate_succ, List.replicate_zero, List.cons_append, List.nil_append, List.set_cons_succ, List.set_cons_zero, Nat.reduceAdd, Nat.reduceSub, Nat.zero_add]
    refine ⟨_, rfl, _, rfl, x, sc, tl, l, rfl, hF.same w3, rl.1, fun p2 H4 n4 s4 e4 => ?_⟩
    refine ⟨p2, _, rfl, .inl (.inl e4), rfl, _, _, rfl, _, _, rfl, rfl, ?_⟩
    have w4 := w3.trans s4
    try simp only [L2.start, List.map_cons, List.map_nil, List.length_cons, List.length_nil, List.replicate_succ, List.replicate_zero, List.cons_append, List.nil_append, List.set_cons_succ, List.set_cons_zero, Nat.reduceAdd, Nat.reduceSub, Nat.zero_add]
    refine ⟨_, rfl, _, _, rfl, rfl, .inl ⟨by decide, by decide⟩, _, rfl, _, rfl, _, _, rfl, rfl, 4 * hd sc tl l, wp sc tl g - wp sc tl l, rfl, fit_lt (k := 30) (by omega) (by omega) (by decide), by omega, by omega, fun p3 n5 => ?_⟩
    have s5 := same_upd (o := .tup [.int (sNu sc tl g l), .bl (sMo sc tl g l)]) n5
    refine ⟨p3, _, rfl, .inl (.inl upd_same), rfl, _, _, rfl, _, _, rfl, rfl, ?_⟩
    have w5 := w4.trans s5
    try simp only [L2.start, List.map_cons, List.map_nil, List.length_cons, List.length_nil, List.replicate_succ, List.replicate_zero, List.cons_append, List.nil_append, List.set_cons_succ, List.set_cons_zero, Nat.reduceAdd, Nat.reduceSub, Nat.zero_add]
    refine ⟨_, rfl, _, rfl, x, sc, tl, g, rfl, hF.same w5, fun H6 s6 => ?_⟩
    have w6 := w5.trans s6
    refine ⟨_, rfl, _, rfl, _, rfl, x, sc, tl, l, rfl, hF.same w6, fun H7 s7 => ?_⟩
    have w7 := w6.trans s7
    refine ⟨rfl, gB (dvi _ _) ?_⟩
    try simp only [L2.start, List.map_cons, List.map_nil, List.length_cons, List.length_nil, List.replicate_succ, List.replicate_zero, List.cons_append, List.nil_append, List.set_cons_succ, List.set_cons_zero, Nat.reduceAdd, Nat.reduceSub, Nat.zero_add]
    refine ⟨_, rfl, _, _, rfl, rfl, .inl ⟨by decide, by decide⟩, _, rfl, _, rfl, _, rfl, _, rfl, x, C, dx, _, _, rfl, w7 _ _ hx, L.T.cl, L.T.nt, fl_t _ _, _, _, rfl, rfl, ?_⟩
    refine ⟨4 * hd sc tl g, sNu sc tl g l, sMo sc tl g l, decide (GM.sgn sc tl g = GM.sgn sc tl l), tl + 3, rfl, by omega, fun tt ls us H8 s8 et els lls D8 => ?_⟩
    have w8 := w7.trans s8
    refine ⟨tt, _, rfl, .inl (.inl et), rfl, _, _, rfl, _, _, rfl, rfl, ?_⟩
    try simp only [L2.start, List.map_cons, List.map_nil, List.length_cons, List.length_nil, List.replicate_succ, List.replicate_zero, List.cons_append, List.nil_append, List.set_cons_succ, List.set_cons_zero, Nat.reduceAdd, Nat.reduceSub, Nat.zero_add]
    have eT : mTo (4 * hd sc tl g) (sNu sc tl g l) (sMo sc tl g l) (decide (GM.sgn sc tl g = GM.sgn sc tl l)) = sTo sc tl g l := rfl
    refine ⟨_, rfl, rfl, _, rfl, ite2 (fun c => ?_) (fun c => ?_)⟩
    · have c0 : sTo sc tl g l = 0 := V.int.inj (of_decide_eq_true c)
      have zz := sf.z c0
      refine ⟨_, rfl, _, rfl, _, rfl, (by show 2 ≤ sizeLine; decide), fun u nu => ?_⟩
      have su := same_upd (o := .tup [.int a, .int b]) nu
      refine ⟨_, rfl, x, u, sc, tl, "round", "add", way, [a, b], addR sc tl a b way, rfl, hF.same (w8.trans su), .inl (.inl (.inl upd_same)), (by unfold doneR; rfl), fun v H9 s9' P9 => ?_⟩
      have s9 := su.trans s9'
      have w9 := w8.trans s9
      try simp only [L2.start, List.map_cons, List.map_nil, List.length_cons, List.length_nil, List.replicate_succ, List.replicate_zero, List.cons_append, List.nil_append, List.set_cons_succ, List.set_cons_zero, Nat.reduceAdd, Nat.reduceSub, Nat.zero_add]
      refine ⟨_, rfl, _, rfl, (by show 3 ≤ sizeLine; decide), fun t0 nt0 => ?_⟩
      have st0 := same_upd (o := .tup [.str "order", .int g, .int l]) nt0
      refine ⟨_, rfl, _, rfl, (by show 3 ≤ sizeLine; decide), fun t1 nt1 => ?_⟩
      have st1 := same_upd (o := .tup [.str "shift", .int (sNu sc tl g l), .bl (sMo sc tl g l)]) nt1
      have s01 := st0.trans st1
      refine ⟨_, rfl, ls, _, rfl, .inr (SqL.of (s01 _ _ (s9 _ _ els))), _, rfl, ?_⟩
      refine ⟨(by show _ ≤ sizeLine; rw [List.length_cons, List.length_cons, List.length_append]; exact Nat.le_of_lt (small1000 (by show _ + 1 + 1 + 1 ≤ 1000; omega))), fun lr nlr => ?_⟩
      have sl := same_upd (o := .lst (V.ref t0 :: V.ref t1 :: (us ++ [.ref v]))) nlr
      have w10 := (w9.trans s01).trans sl
      refine q lr _ _ ((w9.trans s01).free nlr) w10 upd_same (by rw [List.length_cons, List.length_cons, List.length_append]; show _ + 1 + 1 + 1 ≤ 5; omega) (.lst (SqL.of upd_same) (.cons (.tup (.inl (.inl ((st1.trans sl) _ _ upd_same))) (.cons (.str _) (.cons (.int _) (.cons (.int _) .nil)))) (.cons (.tup (.inl (.inl (sl _ _ upd_same))) (.cons (.str _) (.cons (.int _) (.cons (.bl _) .nil)))) (dp_app (ds := mMid (4 * hd sc tl g) (sNu sc tl g l) (sMo sc tl g l) (decide (GM.sgn sc tl g = GM.sgn sc tl l)) (tl + 3)) (es := [toldD "round" (sLast sc tl g l way)]) (Dp.sameAll (s9.trans (s01.trans sl)) _ _ D8) (.cons (dp_step ?_) .nil)))))
      unfold sLast
      rw [if_pos c0, ← hz way zz.1 zz.2.1 zz.2.2]
      exact P9.same (s01.trans sl)
    · have c0 : ¬ sTo sc tl g l = 0 := fun z => c (decide_eq_true (congrArg V.int z))
      have hm : sMo sc tl g l = true → sTo sc tl g l ≠ 0 ∧ wp sc tl g - 2 < GR.lap sc tl (sTo sc tl g l) (wp sc tl g - 2) := fun m => lap_big (sf.mo m)
      have tb : sTo sc tl g l < 2 ^ 40 := by
        have := sf.nl
        have := sf.n0
        unfold sTo mTo
        split
        · omega
        · split <;> omega
      refine ⟨_, rfl, _, rfl, _, rfl, _, rfl, _, _, rfl, rfl, _, rfl, _, rfl, x, sc, tl, GM.sgn sc tl g, sTo sc tl g l, wp sc tl g - 2, way, sMo sc tl g l, rfl, hF.same w8, GM.sgn_01, fit_lt sf.t0 tb (by decide), by omega, by omega, hm, fun v H9 s9 P9 => ?_⟩
      have w9 := w8.trans s9
      try simp only [L2.start, List.map_cons, List.map_nil, List.length_cons, List.length_nil, List.replicate_succ, List.replicate_zero, List.cons_append, List.nil_append, List.set_cons_succ, List.set_cons_zero, Nat.reduceAdd, Nat.reduceSub, Nat.zero_add]
      refine ⟨_, rfl, _, rfl, (by show 3 ≤ sizeLine; decide), fun t0 nt0 => ?_⟩
      have st0 := same_upd (o := .tup [.str "order", .int g, .int l]) nt0
      refine ⟨_, rfl, _, rfl, (by show 3 ≤ sizeLine; decide), fun t1 nt1 => ?_⟩
      have st1 := same_upd (o := .tup [.str "shift", .int (sNu sc tl g l), .bl (sMo sc tl g l)]) nt1
      have s01 := st0.trans st1
      refine ⟨_, rfl, ls, _, rfl, .inr (SqL.of (s01 _ _ (s9 _ _ els))), _, rfl, ?_⟩
      refine ⟨(by show _ ≤ sizeLine; rw [List.length_cons, List.length_cons, List.length_append]; exact Nat.le_of_lt (small1000 (by show _ + 1 + 1 + 1 ≤ 1000; omega))), fun lr nlr => ?_⟩
      have sl := same_upd (o := .lst (V.ref t0 :: V.ref t1 :: (us ++ [.ref v]))) nlr
      have w10 := (w9.trans s01).trans sl
      refine q lr _ _ ((w9.trans s01).free nlr) w10 upd_same (by rw [List.length_cons, List.length_cons, List.length_append]; show _ + 1 + 1 + 1 ≤ 5; omega) (.lst (SqL.of upd_same) (.cons (.tup (.inl (.inl ((st1.trans sl) _ _ upd_same))) (.cons (.str _) (.cons (.int _) (.cons (.int _) .nil)))) (.cons (.tup (.inl (.inl (sl _ _ upd_same))) (.cons (.str _) (.cons (.int _) (.cons (.bl _) .nil)))) (dp_app (ds := mMid (4 * hd sc tl g) (sNu sc tl g l) (sMo sc tl g l) (decide (GM.sgn sc tl g = GM.sgn sc tl l)) (tl + 3)) (es := [toldD "round" (sLast sc tl g l way)]) (Dp.sameAll (s9.trans (s01.trans sl)) _ _ D8) (.cons (dp_step ?_) .nil)))))
      unfold sLast
      rw [if_neg c0]
      exact P9.same (s01.trans sl)
end
section
variable {P : Program} {w : World} {K : PySem.W.Frag} {mg : Str → Option Value} {base : Heap}
variable {C : Addr} {CD : Addr} {za : Nat → Addr} {zl : Nat → FuncData} {t73 t74 t75 tg_NEAR tg_CUT tg_UP tg_DOWN : Tok} {dO : Addr} {esO : Array DictEntry} {nO : Nat}
def byN (tl : Nat) (pp hp : Int) : Nat := if (tl : Int) + 5 < pp - hp then tl + 5 else (pp - hp).toNat
def cuN (tl : Nat) (pp hp : Int) : Nat := (pp - hp).toNat - byN tl pp hp
def pl (tl : Nat) (P pp h hp : Int) : Int × Int × Int × Bool :=
  if 2 * (tl : Int) + 5 < hp - pp then (0, 8 * h, hp - 3, true)
  else if 0 ≤ hp - pp then (P, h * 2 ^ (hp - pp).toNat, pp, false)
  else (P * 2 ^ byN tl pp hp, h / 2 ^ cuN tl pp hp, pp - (byN tl pp hp : Nat), !decide (h / 2 ^ cuN tl pp hp * 2 ^ cuN tl pp hp = h))
def mx (x y : Int) : Int := if y > x then y else x
def mn (x y : Int) : Int := if y < x then y else x
structure Pf (sc tl : Nat) (P pp h hp : Int) : Prop where
  a0 : 0 ≤ (pl tl P pp h hp).1
  a1 : (pl tl P pp h hp).1 < 2 ^ 80
  b0 : 0 ≤ (pl tl P pp h hp).2.1
  b1 : (pl tl P pp h hp).2.1 < 2 ^ 80
  p0 : -3000 ≤ (pl tl P pp h hp).2.2.1
  p1 : (pl tl P pp h hp).2.2.1 ≤ 3000
  g0 : 0 < mx (pl tl P pp h hp).1 (pl tl P pp h hp).2.1
  t0 : ∀ al, 0 ≤ mTo (mx (pl tl P pp h hp).1 (pl tl P pp h hp).2.1) (mn (pl tl P pp h hp).1 (pl tl P pp h hp).2.1) (pl tl P pp h hp).2.2.2 al
  mo : ∀ al, (pl tl P pp h hp).2.2.2 = true → mTo (mx (pl tl P pp h hp).1 (pl tl P pp h hp).2.1) (mn (pl tl P pp h hp).1 (pl tl P pp h hp).2.1) (pl tl P pp h hp).2.2.2 al ≠ 0 ∧ (pl tl P pp h hp).2.2.1 < GR.lap sc tl (mTo (mx (pl tl P pp h hp).1 (pl tl P pp h hp).2.1) (mn (pl tl P pp h hp).1 (pl tl P pp h hp).2.1) (pl tl P pp h hp).2.2.2 al) (pl tl P pp h hp).2.2.1
  z : ∀ al, mTo (mx (pl tl P pp h hp).1 (pl tl P pp h hp).2.1) (mn (pl tl P pp h hp).1 (pl tl P pp h hp).2.1) (pl tl P pp h hp).2.2.2 al = 0 → al = false ∧ P * 2 ^ (pp - lwr pp hp).toNat = h * 2 ^ (hp - lwr pp hp).toNat
theorem by_in {tl : Nat} {pp hp : Int} (h : ¬ 0 ≤ hp - pp) : byN tl pp hp ≤ tl + 5 ∧ ((byN tl pp hp : Nat) : Int) + (cuN tl pp hp : Nat) = pp - hp ∧ (0 < cuN tl pp hp → byN tl pp hp = tl + 5) := by
  unfold cuN byN
  split <;> omega
theorem mTo_at (x y : Int) (m al : Bool) : (al = true → mTo (mx x y) (mn x y) m al = x + y) ∧ (al = false → mTo (mx x y) (mn x y) m al = (if x < y then y - x else x - y) - (if m = true then 1 else 0)) := by
  unfold mTo mx mn
  constructor
  · intro e
    rw [if_pos e]
    split <;> split <;> omega
  · intro e
    rw [if_neg (by rw [e]; decide)]
    split <;> split <;> split <;> omega
theorem lap_lea {sc tl : Nat} {n p : Int} (h0 : n ≠ 0) (h : p < GR.lea sc tl) : n ≠ 0 ∧ p < GR.lap sc tl n p := ⟨h0, Int.lt_of_lt_of_le h (GR.lap_ge sc tl n p)⟩
theorem pl_facts {sc tl : Nat} {P pp h hp : Int} (h4 : tl ≤ 24) (P0 : 1 ≤ P) (P1 : P < 2 ^ 50) (k0 : 1 ≤ h) (k1 : h < 2 * 2 ^ tl) (hl : hp = GR.lea sc tl ∨ 2 ^ tl ≤ h) (q0 : -900 ≤ pp) (q1 : pp ≤ 900) (r0 : -900 ≤ hp) (r1 : hp ≤ 900) : Pf sc tl P pp h hp := by
  have hp' := GM.pow_pos' tl
  have h24 : (2 : Int) ^ tl ≤ 2 ^ 24 := GM.pow_le' h4
  by_cases cA : 2 * (tl : Int) + 5 < hp - pp
  · have e : pl tl P pp h hp = (0, 8 * h, hp - 3, true) := by
      unfold pl
      rw [if_pos cA]
    have hm : ∀ al, 8 * h - 1 ≤ mTo (mx 0 (8 * h)) (mn 0 (8 * h)) true al := fun al => by
      have := mTo_at 0 (8 * h) true al
      cases al with
      | true => rw [this.1 rfl]; omega
      | false =>
        rw [this.2 rfl, if_pos (by omega), if_pos rfl]
        omega
    refine ⟨?_, ?_, ?_, ?_, ?_, ?_, ?_, fun al => ?_, fun al _ => ?_, fun al z => ?_⟩ <;> try rw [e]
    · exact Int.le_refl _
    · show (0 : Int) < _
      decide
    · show 0 ≤ 8 * h
      omega
    · show 8 * h < _
      omega
    · show _ ≤ hp - 3
      omega
    · show hp - 3 ≤ _
      omega
    · show 0 < mx 0 (8 * h)
      unfold mx
      rw [if_pos (by omega)]
      omega
    · have := hm al
      show 0 ≤ mTo (mx 0 (8 * h)) (mn 0 (8 * h)) true al
      omega
    · have := hm al
      show mTo (mx 0 (8 * h)) (mn 0 (8 * h)) true al ≠ 0 ∧ hp - 3 < _
      rcases hl with z | z
      · exact lap_lea (by omega) (by omega)
      · exact lap_big (by omega)
    · rw [e] at z
      have := hm al
      have z' : mTo (mx 0 (8 * h)) (mn 0 (8 * h)) true al = 0 := z
      omega
  by_cases cB : 0 ≤ hp - pp
  · have e : pl tl P pp h hp = (P, h * 2 ^ (hp - pp).toNat, pp, false) := by
      unfold pl
      rw [if_neg cA, if_pos cB]
    obtain ⟨d, ed⟩ : ∃ d, (hp - pp).toNat = d := ⟨_, rfl⟩
    have hd : d ≤ 53 := by omega
    have pd := GM.pow_pos' d
    have pd2 : (2 : Int) ^ d ≤ 2 ^ 53 := GM.pow_le' hd
    have m0 : 1 ≤ h * 2 ^ d := by
      have := Int.mul_pos (show 0 < h by omega) pd
      omega
    have m1 : h * 2 ^ d ≤ (2 * 2 ^ 24) * 2 ^ 53 := Int.mul_le_mul (by omega) pd2 (by omega) (by omega)
    have hlw : lwr pp hp = pp := by
      unfold lwr
      split <;> omega
    rw [ed] at e
    have hm : ∀ al, 0 ≤ mTo (mx P (h * 2 ^ d)) (mn P (h * 2 ^ d)) false al ∧ (mTo (mx P (h * 2 ^ d)) (mn P (h * 2 ^ d)) false al = 0 → al = false ∧ P = h * 2 ^ d) := fun al => by
      have := mTo_at P (h * 2 ^ d) false al
      cases al with
      | true =>
        rw [this.1 rfl]
        exact ⟨by omega, fun z => by omega⟩
      | false =>
        rw [this.2 rfl]
        rw [if_neg (show ¬ (false = true) by decide)]
        constructor
        · split <;> omega
        · intro z
          refine ⟨rfl, ?_⟩
          split at z <;> omega
    refine ⟨?_, ?_, ?_, ?_, ?_, ?_, ?_, fun al => ?_, fun al m => ?_, fun al z => ?_⟩ <;> try rw [e]
    · show 0 ≤ P
      omega
    · show P < _
      omega
    · show 0 ≤ h * 2 ^ d
      omega
    · show h * 2 ^ d < _
      omega
    · show _ ≤ pp
      omega
    · show pp ≤ _
      omega
    · show 0 < mx P (h * 2 ^ d)
      unfold mx
      split <;> omega
    · exact (hm al).1
    · rw [e] at m
      cases m
    · rw [e] at z
      have k := (hm al).2 z
      refine ⟨k.1, ?_⟩
      rw [hlw, Int.sub_self, ed]
      show P * 2 ^ 0 = _
      rw [Int.pow_zero, Int.mul_one]
      exact k.2
  · have e : pl tl P pp h hp = (P * 2 ^ byN tl pp hp, h / 2 ^ cuN tl pp hp, pp - (byN tl pp hp : Nat), !decide (h / 2 ^ cuN tl pp hp * 2 ^ cuN tl pp hp = h)) := by
      unfold pl
      rw [if_neg cA, if_neg cB]
    have hb := by_in (tl := tl) cB
    have hlw : lwr pp hp = hp := by
      unfold lwr
      split <;> omega
    have hdd : (pp - hp).toNat = byN tl pp hp + cuN tl pp hp := by omega
    generalize byN tl pp hp = y at *
    generalize cuN tl pp hp = d at *
    have py := GM.pow_pos' y
    have py2 : (2 : Int) ^ y ≤ 2 ^ 29 := GM.pow_le' (by omega)
    have m0 : 1 ≤ P * 2 ^ y := by
      have := Int.mul_pos (show 0 < P by omega) py
      omega
    have m1 : P * 2 ^ y ≤ (2 ^ 50 - 1) * 2 ^ 29 := Int.mul_le_mul (by omega) py2 (by omega) (by omega)
    have pd := GM.pow_pos' d
    have n0 := Int.ediv_nonneg (show 0 ≤ h by omega) (Int.le_of_lt pd)
    have n1 : h / 2 ^ d ≤ h := Int.ediv_le_self _ (by omega)
    have hmo : (!decide (h / 2 ^ d * 2 ^ d = h)) = true → 32 * 2 ^ tl ≤ P * 2 ^ y ∧ h / 2 ^ d < 2 ^ tl := fun m => by
      have m' : ¬ h / 2 ^ d * 2 ^ d = h := by simpa using m
      have hd0 : 0 < d := by
        apply Classical.byContradiction
        intro z
        have : d = 0 := by omega
        subst this
        exact m' (by rw [Int.pow_zero, Int.ediv_one, Int.mul_one])
      have ey := hb.2.2 hd0
      obtain ⟨d', rfl⟩ : ∃ d', d = d' + 1 := ⟨d - 1, by omega⟩
      have k := div_le_half (n := h) (d := d') (by omega)
      have e5 : (2 : Int) ^ y = 2 ^ tl * 32 := by rw [ey, GM.pow_add']; rfl
      have := Int.mul_le_mul_of_nonneg_right P0 (Int.le_of_lt py)
      rw [e5] at this ⊢
      exact ⟨by omega, by omega⟩
    have hm : ∀ (m al : Bool), 0 ≤ mTo (mx (P * 2 ^ y) (h / 2 ^ d)) (mn (P * 2 ^ y) (h / 2 ^ d)) m al + (if m = true then 1 else 0) ∧ (m = true → 32 * 2 ^ tl ≤ P * 2 ^ y → h / 2 ^ d < 2 ^ tl → 2 * 2 ^ tl ≤ mTo (mx (P * 2 ^ y) (h / 2 ^ d)) (mn (P * 2 ^ y) (h / 2 ^ d)) m al) ∧ (m = false → mTo (mx (P * 2 ^ y) (h / 2 ^ d)) (mn (P * 2 ^ y) (h / 2 ^ d)) m al = 0 → al = false ∧ P * 2 ^ y = h / 2 ^ d) := fun m al => by
      have := mTo_at (P * 2 ^ y) (h / 2 ^ d) m al
      cases al with
      | true =>
        rw [this.1 rfl]
        refine ⟨by split <;> omega, fun _ _ _ => by omega, fun _ z => by omega⟩
      | false =>
        rw [this.2 rfl]
        refine ⟨by split <;> split <;> omega, fun e1 e2 e3 => ?_, fun e1 z => ⟨rfl, ?_⟩⟩
        · rw [if_neg (by omega), if_pos e1]
          omega
        · rw [if_neg (show ¬ m = true by rw [e1]; decide)] at z
          split at z <;> omega
    refine ⟨?_, ?_, ?_, ?_, ?_, ?_, ?_, fun al => ?_, fun al m => ?_, fun al z => ?_⟩ <;> try rw [e]
    · show 0 ≤ P * 2 ^ y
      omega
    · show P * 2 ^ y < _
      omega
    · exact n0
    · show h / 2 ^ d < _
      omega
    · show _ ≤ pp - (y : Int)
      omega
    · show pp - (y : Int) ≤ _
      omega
    · show 0 < mx (P * 2 ^ y) (h / 2 ^ d)
      unfold mx
      split <;> omega
    · have k := hm (!decide (h / 2 ^ d * 2 ^ d = h)) al
      cases c : (!decide (h / 2 ^ d * 2 ^ d = h)) with
      | false =>
        rw [c] at k
        have := k.1
        rw [if_neg (by decide)] at this
        show 0 ≤ mTo (mx (P * 2 ^ y) (h / 2 ^ d)) (mn (P * 2 ^ y) (h / 2 ^ d)) false al
        omega
      | true =>
        have w := hmo c
        have := k.2.1 c w.1 w.2
        rw [c] at this
        show 0 ≤ mTo (mx (P * 2 ^ y) (h / 2 ^ d)) (mn (P * 2 ^ y) (h / 2 ^ d)) true al
        omega
    · rw [e] at m
      have w := hmo m
      exact lap_big ((hm _ al).2.1 m w.1 w.2)
    · rw [e] at z
      have cm : (!decide (h / 2 ^ d * 2 ^ d = h)) = false := by
        cases c : (!decide (h / 2 ^ d * 2 ^ d = h)) with
        | false => rfl
        | true =>
          have w := hmo c
          have := (hm _ al).2.1 c w.1 w.2
          have z' : mTo (mx (P * 2 ^ y) (h / 2 ^ d)) (mn (P * 2 ^ y) (h / 2 ^ d)) (!decide (h / 2 ^ d * 2 ^ d = h)) al = 0 := z
          omega
      have k := (hm _ al).2.2 cm z
      have cx : h / 2 ^ d * 2 ^ d = h := by simpa using cm
      refine ⟨k.1, ?_⟩
      rw [hlw, Int.sub_self, hdd, GM.pow_add', ← Int.mul_assoc, k.2, cx]
      show h = h * 2 ^ 0
      rw [Int.pow_zero, Int.mul_one]
theorem wn_mul (sc tl : Nat) (a b : Int) : wn sc tl a * wn sc tl b = if sx sc tl a b = 1 then -(hd sc tl a * hd sc tl b) else hd sc tl a * hd sc tl b := by
  unfold wn sx hd
  rcases GM.sgn_01 (m := sc) (t := tl) (w := a) with sa | sa <;> rcases GM.sgn_01 (m := sc) (t := tl) (w := b) with sb | sb <;> rw [sa, sb] <;> simp [Int.neg_mul, Int.mul_neg]
theorem join_zero {sc tl : Nat} {a b c : Int} {way : Str} (ra : ¬ GM.topS sc tl ≤ sz sc tl a ∧ ¬ sz sc tl a = 0) (rb : ¬ GM.topS sc tl ≤ sz sc tl b ∧ ¬ sz sc tl b = 0) (rc : ¬ GM.topS sc tl ≤ sz sc tl c ∧ ¬ sz sc tl c = 0) (hs : sx sc tl a b ≠ GM.sgn sc tl c)
    (he : hd sc tl a * hd sc tl b * 2 ^ (wp sc tl a + wp sc tl b - lwr (wp sc tl a + wp sc tl b) (wp sc tl c)).toNat = hd sc tl c * 2 ^ (wp sc tl c - lwr (wp sc tl a + wp sc tl b) (wp sc tl c)).toNat) : joinR sc tl a b c way = ((if way = "down" then 1 else 0) * 2 ^ (sc + tl), []) := by
  have tp := srt_top sc tl
  have nn : ∀ {v : Int}, ¬ GM.topS sc tl ≤ sz sc tl v → ¬ srt sc tl (sz sc tl v) = "none" ∧ ¬ srt sc tl (sz sc tl v) = "endless" := fun n => ⟨fun e => n ((tp _).mp (.inr e)), fun e => n ((tp _).mp (.inl e))⟩
  unfold joinR
  have c1 : ¬ (srt sc tl (sz sc tl a) = "none" ∨ srt sc tl (sz sc tl b) = "none" ∨ srt sc tl (sz sc tl c) = "none") := fun z => z.elim (nn ra.1).1 fun z => z.elim (nn rb.1).1 (nn rc.1).1
  have c2 : ¬ ((srt sc tl (sz sc tl a) = "endless" ∨ srt sc tl (sz sc tl b) = "endless") ∧ (srt sc tl (sz sc tl a) = "nought" ∨ srt sc tl (sz sc tl b) = "nought")) := fun z => z.1.elim (nn ra.1).2 (nn rb.1).2
  rw [if_neg c1, if_neg c2]
  have c3 : ¬ (GM.topS sc tl ≤ sz sc tl a ∨ GM.topS sc tl ≤ sz sc tl b) := fun z => z.elim ra.1 rb.1
  unfold po wo
  rw [if_neg c3, if_neg rc.1]
  show totR sc tl (tgn (wn sc tl a * wn sc tl b) (wp sc tl a + wp sc tl b) (wn sc tl c) (wp sc tl c)) _ (nsg _ _ way) way = _
  have hz : tgn (wn sc tl a * wn sc tl b) (wp sc tl a + wp sc tl b) (wn sc tl c) (wp sc tl c) = 0 := by
    unfold tgn
    rw [wn_mul]
    have hw : wn sc tl c = if GM.sgn sc tl c = 1 then -(hd sc tl c) else hd sc tl c := rfl
    rw [hw]
    have s1 := sx_01 sc tl a b
    have s2 := GM.sgn_01 (m := sc) (t := tl) (w := c)
    rcases s1 with s1 | s1 <;> rcases s2 with s2 | s2 <;> rw [s1, s2] at hs ⊢
    · exact absurd rfl hs
    · rw [if_neg (by decide), if_pos rfl, Int.neg_mul, he]
      omega
    · rw [if_pos rfl, if_neg (by decide), Int.neg_mul, he]
      omega
    · exact absurd rfl hs
  unfold totR
  rw [if_pos hz]
  unfold nsg
  rw [if_neg hs]
end
section
variable {P : Program} {w : World} {K : PySem.W.Frag} {mg : Str → Option Value} {base : Heap}
variable {C : Addr} {CD : Addr} {za : Nat → Addr} {zl : Nat → FuncData} {t73 t74 t75 tg_NEAR tg_CUT tg_UP tg_DOWN : Tok} {dO : Addr} {esO : Array DictEntry} {nO : Nat}
theorem gset_asgif0 {σ : L2.St} {H : Hp} {c : TT} {ta tb : TE} {g : TG} {r : TS} {D : Ends} (h : tIf c ta tb σ H (fun x H1 => g x σ H1 ({ D with nx := r D } : Ends).nx)) : tSeq (tAsg (tIf c ta tb) g) r D σ H := h
def spPH (C : Addr) : Sp := fun vs H Q _ => ∃ (x : Addr) (sc tl : Nat) (a b : Int), vs = [.ref x, .int a, .int b] ∧ FAt C H x sc tl ∧ ¬ GM.topS sc tl ≤ sz sc tl a ∧ ¬ GM.topS sc tl ≤ sz sc tl b ∧
  ∀ t H', Same H H' → H' t = some (.tup [.int (hd sc tl a * hd sc tl b), .int (wp sc tl a + wp sc tl b)]) → Q (.ref t) H'
theorem ok_product_of_heads (B : Bl mg) (L : LL K mg C CD za zl t73 t74 t75 tg_NEAR tg_CUT tg_UP tg_DOWN w dO esO nO) : FnOk P w K mg base CX0 5 (za 49) (zl 49) ["form", "a", "b"] (spPH C) := by
  have G_head_of : FnOk P w K mg base CX0 4 (za 38) (zl 38) ["form", "word"] (spHO C) := (ok_head_of B L).mono (by decide)
  refine L.F_product_of_heads.ok sc_product_of_heads (fun vs H Q E h => ?_) (fun cdv A outer s H vs Q E hr h => ?_)
  · obtain ⟨x, sc, tl, a, b, rfl, _⟩ := h
    rfl
  obtain ⟨x, sc, tl, a, b, rfl, hF, na, nb, q⟩ := h
  obtain ⟨dx, hx, h1, h2, h3, h4⟩ := id hF
  refine ⟨_, (pss_cons (ps_asg (pe_call G_head_of hr (by rfl) L.m_head_of L.F_head_of.kp L.b_head_of .nil pass0 (pa_cons (pv 0) (pa_cons (pv 1) pa_nil))) (pg_tup (by rfl) (pgs_cons (pg_name (i := 3) sc_product_of_heads.nd rfl (.inl rfl)) (pgs_cons (pg_name (i := 4) sc_product_of_heads.nd rfl (.inl rfl)) pgs_nil))))
    (pss_cons (ps_asg (pe_call G_head_of hr (by rfl) L.m_head_of L.F_head_of.kp L.b_head_of .nil pass0 (pa_cons (pv 0) (pa_cons (pv 2) pa_nil))) (pg_tup (by rfl) (pgs_cons (pg_name (i := 5) sc_product_of_heads.nd rfl (.inl rfl)) (pgs_cons (pg_name (i := 6) sc_product_of_heads.nd rfl (.inl rfl)) pgs_nil))))
    (pss_one (ps_ret (pe_tup (pa_cons (pe_op op_mul (pv 3) (pv 5)) (pa_cons (pe_op op_add (pv 4) (pv 6)) pa_nil))))))), ?_⟩
  have ka := hd_in sc a h4
  refine ⟨_, rfl, _, rfl, x, sc, tl, a, rfl, hF, na, fun p1 H1 n1 s1 e1 => ?_⟩
  refine ⟨p1, _, rfl, .inl (.inl e1), rfl, _, _, rfl, _, _, rfl, rfl, ?_⟩
  refine ⟨_, rfl, _, rfl, x, sc, tl, b, rfl, hF.same s1, nb, fun p2 H2 n2 s2 e2 => ?_⟩
  refine ⟨p2, _, rfl, .inl (.inl e2), rfl, _, _, rfl, _, _, rfl, rfl, ?_⟩
  refine ⟨_, rfl, _, rfl, _, _, rfl, rfl, .inl ⟨by show -(2 ^ 64) < hd sc tl a; omega, by show hd sc tl a < 2 ^ 64; omega⟩, _, rfl, _, rfl, _, _, rfl, rfl, (by show 2 ≤ sizeLine; decide), fun t nt => ?_⟩
  exact q t _ ((s1.trans s2).trans (same_upd nt)) upd_same
def spPl (C : Addr) : Sp := fun vs H Q _ => ∃ (x u v : Addr) (sc tl : Nat) (P pp h hp : Int), vs = [.ref x, .ref u, .ref v] ∧ FAt C H x sc tl ∧ H u = some (.tup [.int P, .int pp]) ∧ H v = some (.tup [.int h, .int hp]) ∧ 1 ≤ P ∧ P < 2 ^ 50 ∧ 1 ≤ h ∧ h < 2 ^ 25 ∧ -900 ≤ pp ∧ pp ≤ 900 ∧ -900 ≤ hp ∧ hp ≤ 900 ∧
  ∀ t H', Same H H' → H' t = some (.tup [.int (pl tl P pp h hp).1, .int (pl tl P pp h hp).2.1, .int (pl tl P pp h hp).2.2.1, .bl (pl tl P pp h hp).2.2.2]) → Q (.ref t) H'
theorem cut_pos {n b : Int} {d : Nat} (h : b = (d : Int)) : GR.cutQ n b = n / 2 ^ d ∧ GR.cutR n b = !decide (n / 2 ^ d * 2 ^ d = n) := by
  subst h
  unfold GR.cutQ GR.cutR
  rw [if_neg (by omega), if_neg (by omega), Int.toNat_natCast]
  exact ⟨rfl, rfl⟩
theorem ok_placed (B : Bl mg) (L : LL K mg C CD za zl t73 t74 t75 tg_NEAR tg_CUT tg_UP tg_DOWN w dO esO nO) : FnOk P w K mg base CX0 2 (za 50) (zl 50) ["form", "product", "term"] (spPl C) := by
  have G_cut_off : FnOk P w K mg base CX0 1 (za 1) (zl 1) ["number", "by"] spCut := (ok_cut_off B L).mono (by decide)
  refine L.F_placed.ok sc_placed (fun vs H Q E h => ?_) (fun cdv A outer s H vs Q E hr h => ?_)
  · obtain ⟨x, u, v, sc, tl, P, pp, h, hp, rfl, _⟩ := h
    rfl
  obtain ⟨x, u, v, sc, tl, P, pp, k, hp, rfl, hF, eu, ev, P0, P1, k0, k1, q0, q1, r0, r1, q⟩ := h
  obtain ⟨dx, hx, h1, h2, h3, h4⟩ := id hF
  refine ⟨_, (pss_cons (ps_asg (pv 1) (pg_tup (by rfl) (pgs_cons (pg_name (i := 3) sc_placed.nd rfl (.inl rfl)) (pgs_cons (pg_name (i := 4) sc_placed.nd rfl (.inl rfl)) pgs_nil))))
    (pss_cons (ps_asg (pv 2) (pg_tup (by rfl) (pgs_cons (pg_name (i := 5) sc_placed.nd rfl (.inl rfl)) (pgs_cons (pg_name (i := 6) sc_placed.nd rfl (.inl rfl)) pgs_nil))))
    (pss_cons (ps_set (i := 7) sc_placed.nd rfl (.inl rfl) (pe_op op_sub (pv 6) (pv 4)))
    (pss_cons (ps_if (pt_cmpR op_gt (pv 7) (pe_op op_add (pe_op op_mul pe_int (pe_fld (pv 0) rfl)) pe_int) (nomark _)) (pss_one (ps_ret (pe_tup (pa_cons pe_int (pa_cons (pe_op op_mul pe_int (pv 5)) (pa_cons (pe_op op_sub (pv 6) pe_int) (pa_cons pe_bl pa_nil))))))) pss_nil)
    (pss_cons (ps_if (pt_cmpR op_ge (pv 7) pe_int (nomark _)) (pss_one (ps_ret (pe_tup (pa_cons (pv 3) (pa_cons (pe_op op_shlN (pv 5) (pv 7)) (pa_cons (pv 4) (pa_cons pe_bl pa_nil))))))) pss_nil)
    (pss_cons (ps_set (i := 8) sc_placed.nd rfl (.inl rfl) (pe_callB (call_min2 rfl) (by rfl) B.min boot_min (pa_cons (pe_un un_neg (pv 7)) (pa_cons (pe_op op_add (pe_fld (pv 0) rfl) pe_int) pa_nil))))
    (pss_cons (ps_asg (pe_call G_cut_off hr (by rfl) L.m_cut_off L.F_cut_off.kp L.b_cut_off .nil pass0 (pa_cons (pv 5) (pa_cons (pe_op op_sub (pe_un un_neg (pv 7)) (pv 8)) pa_nil))) (pg_tup (by rfl) (pgs_cons (pg_name (i := 9) sc_placed.nd rfl (.inl rfl)) (pgs_cons (pg_name (i := 10) sc_placed.nd rfl (.inl rfl)) pgs_nil))))
    (pss_one (ps_ret (pe_tup (pa_cons (pe_op op_shlN (pv 3) (pv 8)) (pa_cons (pv 9) (pa_cons (pe_op op_sub (pv 4) (pv 8)) (pa_cons (pv 10) pa_nil)))))))))))))), ?_⟩
  refine ⟨_, rfl, u, _, rfl, .inl (.inl eu), rfl, _, _, rfl, _, _, rfl, rfl, ?_⟩
  refine ⟨_, rfl, v, _, rfl, .inl (.inl ev), rfl, _, _, rfl, _, _, rfl, rfl, ?_⟩
  refine ⟨_, rfl, _, rfl, _, _, rfl, rfl, ?_⟩
  try simp only [L2.start, List.map_cons, List.map_nil, List.length_cons, List.length_nil, List.replicate_succ, List.replicate_zero, List.cons_append, List.nil_append, List.set_cons_succ, List.set_cons_zero, Nat.reduceAdd, Nat.reduceSub, Nat.zero_add]
  unfold pl at q
  refine ⟨_, rfl, _, rfl, x, C, dx, _, _, rfl, hx, L.T.cl, L.T.nt, fl_t _ _, _, _, rfl, rfl, .inl ⟨by decide, by decide⟩, _, _, rfl, rfl, _, _, rfl, rfl, _, rfl, ite2 (fun c => ?_) (fun c => ?_)⟩
  · have c1 : 2 * (tl : Int) + 5 < hp - pp := of_decide_eq_true c
    rw [if_pos c1] at q
    refine ⟨_, rfl, _, _, rfl, rfl, .inl ⟨by decide, by decide⟩, _, rfl, _, _, rfl, rfl, (by show 4 ≤ sizeLine; decide), fun t nt => ?_⟩
    exact q t _ (same_upd nt) upd_same
  have c1 : ¬ 2 * (tl : Int) + 5 < hp - pp := of_decide_eq_false (Bool.eq_false_iff.mpr c)
  rw [if_neg c1] at q
  refine ⟨_, rfl, _, _, rfl, rfl, _, rfl, ite2 (fun c => ?_) (fun c => ?_)⟩
  · have c2 : 0 ≤ hp - pp := of_decide_eq_true c
    rw [if_pos c2] at q
    refine ⟨_, rfl, _, rfl, _, rfl, _, (hp - pp).toNat, rfl, congrArg V.int (by omega), shl_ok (n := 25) (by omega) (by omega), _, rfl, (by show 4 ≤ sizeLine; decide), fun t nt => ?_⟩
    exact q t _ (same_upd nt) upd_same
  have c2 : ¬ 0 ≤ hp - pp := of_decide_eq_false (Bool.eq_false_iff.mpr c)
  rw [if_neg c2] at q
  have hb := by_in (tl := tl) c2
  have eby : (if ((tl : Int) + 5) < -(hp - pp) then ((tl : Int) + 5) else -(hp - pp)) = ((byN tl pp hp : Nat) : Int) := by
    unfold byN
    split <;> split <;> omega
  refine ⟨_, rfl, _, rfl, _, rfl, x, C, dx, _, _, rfl, hx, L.T.cl, L.T.nt, fl_t _ _, _, _, rfl, rfl, _, _, rfl, gI eby ?_⟩
  have hc := cut_pos (n := k) (b := -(hp - pp) - ((byN tl pp hp : Nat) : Int)) (d := cuN tl pp hp) (by omega)
  refine ⟨_, rfl, _, rfl, _, rfl, _, rfl, _, _, rfl, rfl, k, -(hp - pp) - ((byN tl pp hp : Nat) : Int), rfl, fit_lt (k := 25) (by omega) (by omega) (by decide), by omega, by omega, fun p np => ?_⟩
  rw [hc.1, hc.2]
  have sp := same_upd (o := .tup [.int (k / 2 ^ cuN tl pp hp), .bl (!decide (k / 2 ^ cuN tl pp hp * 2 ^ cuN tl pp hp = k))]) np
  refine ⟨p, _, rfl, .inl (.inl upd_same), rfl, _, _, rfl, _, _, rfl, rfl, ?_⟩
  try simp only [L2.start, List.map_cons, List.map_nil, List.length_cons, List.length_nil, List.replicate_succ, List.replicate_zero, List.cons_append, List.nil_append, List.set_cons_succ, List.set_cons_zero, Nat.reduceAdd, Nat.reduceSub, Nat.zero_add]
  refine ⟨_, rfl, _, rfl, _, byN tl pp hp, rfl, rfl, shl_ok (n := 50) (by omega) (by omega), _, rfl, _, rfl, _, rfl, _, _, rfl, rfl, _, rfl, (by show 4 ≤ sizeLine; decide), fun t nt => ?_⟩
  exact q t _ (sp.trans (same_upd nt)) upd_same
def jpl (sc tl : Nat) (a b c : Int) : Int × Int × Int × Bool := pl tl (hd sc tl a * hd sc tl b) (wp sc tl a + wp sc tl b) (hd sc tl c) (wp sc tl c)
def jTo (sc tl : Nat) (a b c : Int) : Int := mTo (mx (jpl sc tl a b c).1 (jpl sc tl a b c).2.1) (mn (jpl sc tl a b c).1 (jpl sc tl a b c).2.1) (jpl sc tl a b c).2.2.2 (decide (sx sc tl a b = GM.sgn sc tl c))
def jSg (sc tl : Nat) (a b c : Int) : Int := if (jpl sc tl a b c).2.1 ≤ (jpl sc tl a b c).1 then sx sc tl a b else GM.sgn sc tl c
def jLast (sc tl : Nat) (a b c : Int) (way : Str) : Int × List Str := if jTo sc tl a b c = 0 then ((if way = "down" then 1 else 0) * 2 ^ (sc + tl), []) else GR.rnd sc tl (jSg sc tl a b c) (jTo sc tl a b c) (jpl sc tl a b c).2.2.1 way (jpl sc tl a b c).2.2.2
def jMid (sc tl : Nat) (a b c : Int) : List PyData := mMid (mx (jpl sc tl a b c).1 (jpl sc tl a b c).2.1) (mn (jpl sc tl a b c).1 (jpl sc tl a b c).2.1) (jpl sc tl a b c).2.2.2 (decide (sx sc tl a b = GM.sgn sc tl c)) (Builtin.Int.intBits (mx (jpl sc tl a b c).1 (jpl sc tl a b c).2.1))
def jsD (sc tl : Nat) (a b c : Int) (way : Str) : PyData := .list ([.tuple [.str "place", .int (jpl sc tl a b c).1, .int (jpl sc tl a b c).2.1, .int (jpl sc tl a b c).2.2.1, .bool (jpl sc tl a b c).2.2.2]] ++ (jMid sc tl a b c ++ [toldD "round" (jLast sc tl a b c way)]))
def joinD (sc tl : Nat) (a b c : Int) (way : Str) : PyData := if [a, b, c].all (hdv sc tl) = true then jsD sc tl a b c way else .list [toldD "told" (joinR sc tl a b c way)]
theorem hd_pos {sc tl : Nat} {v : Int} (h : ¬ sz sc tl v = 0) : 1 ≤ hd sc tl v := by
  have nz := num_zero (tl := tl) (sz_nn sc tl v)
  have : ¬ hd sc tl v = 0 := fun z => h (nz.2.mp z)
  have : 0 ≤ hd sc tl v := nz.1
  omega
theorem hd_lea (sc tl : Nat) (v : Int) : wp sc tl v = GR.lea sc tl ∨ 2 ^ tl ≤ hd sc tl v := by
  by_cases c : 1 ≤ GM.ex tl (sz sc tl v)
  · exact .inr (num_big (sz_nn sc tl v) c)
  · left
    unfold wp
    rw [show GM.ex tl (sz sc tl v) = 0 by omega]
    show P0 sc tl + 0 = GR.lea sc tl
    rw [Int.add_zero]
    rfl
theorem jp_facts {sc tl : Nat} {a b c : Int} (h1 : 2 ≤ sc) (h2 : sc ≤ 8) (h4 : tl ≤ 24) (ra : ¬ GM.topS sc tl ≤ sz sc tl a ∧ ¬ sz sc tl a = 0) (rb : ¬ GM.topS sc tl ≤ sz sc tl b ∧ ¬ sz sc tl b = 0) (rc : ¬ GM.topS sc tl ≤ sz sc tl c ∧ ¬ sz sc tl c = 0) :
    1 ≤ hd sc tl a * hd sc tl b ∧ hd sc tl a * hd sc tl b < 2 ^ 50 ∧ Pf sc tl (hd sc tl a * hd sc tl b) (wp sc tl a + wp sc tl b) (hd sc tl c) (wp sc tl c) := by
  have ka := hd_in sc a h4
  have kb := hd_in sc b h4
  have pa := hd_pos ra.2
  have pb := hd_pos rb.2
  have pc := hd_pos rc.2
  have ia := wp_in h1 h2 h4 ra.1
  have ib := wp_in h1 h2 h4 rb.1
  have ic := wp_in h1 h2 h4 rc.1
  have e := Int.mul_le_mul (show hd sc tl a ≤ 2 ^ 25 - 1 by omega) (show hd sc tl b ≤ 2 ^ 25 - 1 by omega) kb.1 (by decide)
  have f := Int.mul_pos (show 0 < hd sc tl a by omega) (show 0 < hd sc tl b by omega)
  have P0 : 1 ≤ hd sc tl a * hd sc tl b := by omega
  have P1 : hd sc tl a * hd sc tl b < 2 ^ 50 := by omega
  exact ⟨P0, P1, pl_facts h4 P0 P1 pc (num_lt (sz_nn sc tl c)) (hd_lea sc tl c) (by omega) (by omega) (by omega) (by omega)⟩
def spJS (K : PySem.W.Frag) (C : Addr) : Sp := fun vs H Q _ => ∃ (x : Addr) (sc tl : Nat) (a b c : Int) (way : Str), vs = [.ref x, .int a, .int b, .int c, .str way] ∧ FAt C H x sc tl ∧
  ∀ l xs H', H l = none → Same H H' → H' l = some (.lst xs) → xs.length ≤ 5 → Dp K H' (.ref l) (joinD sc tl a b c way) → Q (.ref l) H'
theorem ok_join_steps (B : Bl mg) (L : LL K mg C CD za zl t73 t74 t75 tg_NEAR tg_CUT tg_UP tg_DOWN w dO esO nO) : FnOk P w K mg base CX0 11 (za 48) (zl 48) ["form", "a", "b", "c", "way"] (spJS K C) := by
  have G_have_heads : FnOk P w K mg base CX0 10 (za 37) (zl 37) ["form", "words"] (spHH K C) := (ok_have_heads B L).mono (by decide)
  have G_plain_step : FnOk P w K mg base CX0 10 (za 39) (zl 39) ["name", "form", "op", "words", "way"] (spPS K C) := (ok_plain_step B L).mono (by decide)
  have G_product_of_heads : FnOk P w K mg base CX0 10 (za 49) (zl 49) ["form", "a", "b"] (spPH C) := (ok_product_of_heads B L).mono (by decide)
  have G_placed : FnOk P w K mg base CX0 10 (za 50) (zl 50) ["form", "product", "term"] (spPl C) := (ok_placed B L).mono (by decide)
  have G_head_of : FnOk P w K mg base CX0 10 (za 38) (zl 38) ["form", "word"] (spHO C) := (ok_head_of B L).mono (by decide)
  have G_sign_of : FnOk P w K mg base CX0 10 (za 18) (zl 18) ["form", "word"] (spSgn C) := (ok_sign_of B L).mono (by decide)
  have G_unlike_sign : FnOk P w K mg base CX0 10 (za 19) (zl 19) ["form", "a", "b"] (spUnl C) := (ok_unlike_sign B L).mono (by decide)
  have G_total_steps : FnOk P w K mg base CX0 10 (za 41) (zl 41) ["greater", "lesser", "more", "alike", "many"] (spTot K) := (ok_total_steps B L).mono (by decide)
  have G_round_step : FnOk P w K mg base CX0 10 (za 40) (zl 40) ["form", "sign", "total", "power", "way", "more"] (spRS C) := (ok_round_step B L).mono (by decide)
  refine L.F_join_steps.ok sc_join_steps (fun vs H Q E h => ?_) (fun cdv A outer s H vs Q E hr h => ?_)
  · obtain ⟨x, sc, tl, a, b, c, way, rfl, _⟩ := h
    rfl
  obtain ⟨x, sc, tl, a, b, c, way, rfl, hF, q⟩ := h
  refine ⟨_, (pss_cons (ps_if (pt_not (pt_val (pe_call G_have_heads hr (by rfl) L.m_have_heads L.F_have_heads.kp L.b_have_heads .nil pass0 (pa_cons (pv 0) (pa_cons (pe_tup (pa_cons (pv 1) (pa_cons (pv 2) (pa_cons (pv 3) pa_nil)))) pa_nil))))) (pss_one (ps_ret (pe_lst (pa_cons (pe_call G_plain_step hr (by rfl) L.m_plain_step L.F_plain_step.kp L.b_plain_step .nil pass0 (pa_cons pe_str (pa_cons (pv 0) (pa_cons pe_str (pa_cons (pe_tup (pa_cons (pv 1) (pa_cons (pv 2) (pa_cons (pv 3) pa_nil)))) (pa_cons (pv 4) pa_nil)))))) pa_nil)))) pss_nil)
    (pss_cons (ps_asg (pe_call G_placed hr (by rfl) L.m_placed L.F_placed.kp L.b_placed .nil pass0 (pa_cons (pv 0) (pa_cons (pe_call G_product_of_heads hr (by rfl) L.m_product_of_heads L.F_product_of_heads.kp L.b_product_of_heads .nil pass0 (pa_cons (pv 0) (pa_cons (pv 1) (pa_cons (pv 2) pa_nil)))) (pa_cons (pe_call G_head_of hr (by rfl) L.m_head_of L.F_head_of.kp L.b_head_of .nil pass0 (pa_cons (pv 0) (pa_cons (pv 3) pa_nil))) pa_nil)))) (pg_tup (by rfl) (pgs_cons (pg_name (i := 5) sc_join_steps.nd rfl (.inl rfl)) (pgs_cons (pg_name (i := 6) sc_join_steps.nd rfl (.inl rfl)) (pgs_cons (pg_name (i := 7) sc_join_steps.nd rfl (.inl rfl)) (pgs_cons (pg_name (i := 8) sc_join_steps.nd rfl (.inl rfl)) pgs_nil))))))
    (pss_cons (ps_set (i := 9) sc_join_steps.nd rfl (.inl rfl) (pe_call G_unlike_sign hr (by rfl) L.m_unlike_sign L.F_unlike_sign.kp L.b_unlike_sign .nil pass0 (pa_cons (pv 0) (pa_cons (pv 1) (pa_cons (pv 2) pa_nil)))))
    (pss_cons (ps_set (i := 10) sc_join_steps.nd rfl (.inl rfl) (pe_call G_sign_of hr (by rfl) L.m_sign_of L.F_sign_of.kp L.b_sign_of .nil pass0 (pa_cons (pv 0) (pa_cons (pv 3) pa_nil))))
    (pss_cons (ps_set (i := 11) sc_join_steps.nd rfl (.inl rfl) (pe_callB (call_max2 rfl) (by rfl) B.max boot_max (pa_cons (pv 5) (pa_cons (pv 6) pa_nil))))
    (pss_cons (ps_set (i := 12) sc_join_steps.nd rfl (.inl rfl) (pe_callB (call_min2 rfl) (by rfl) B.min boot_min (pa_cons (pv 5) (pa_cons (pv 6) pa_nil))))
    (pss_cons (ps_asg (pe_call G_total_steps hr (by rfl) L.m_total_steps L.F_total_steps.kp L.b_total_steps .nil pass0 (pa_cons (pv 11) (pa_cons (pv 12) (pa_cons (pv 8) (pa_cons (pe_cmpR op_eq (pv 9) (pv 10) (nomark _)) (pa_cons (pe_bits (pv 11)) pa_nil)))))) (pg_tup (by rfl) (pgs_cons (pg_name (i := 13) sc_join_steps.nd rfl (.inl rfl)) (pgs_cons (pg_name (i := 14) sc_join_steps.nd rfl (.inl rfl)) pgs_nil))))
    (pss_cons (ps_if (pt_cmpR op_eq (pv 13) pe_int (nomark _)) (pss_one (ps_set (i := 15) sc_join_steps.nd rfl (.inl rfl) (pe_call G_plain_step hr (by rfl) L.m_plain_step L.F_plain_step.kp L.b_plain_step .nil pass0 (pa_cons pe_str (pa_cons (pv 0) (pa_cons pe_str (pa_cons (pe_tup (pa_cons (pv 1) (pa_cons (pv 2) (pa_cons (pv 3) pa_nil)))) (pa_cons (pv 4) pa_nil)))))))) (pss_cons (ps_set (i := 16) sc_join_steps.nd rfl (.inl rfl) (pe_ifExp (pt_cmpR op_eq (pv 5) (pv 11) (nomark _)) (pv 9) (pv 10)))
    (pss_one (ps_set (i := 15) sc_join_steps.nd rfl (.inl rfl) (pe_call G_round_step hr (by rfl) L.m_round_step L.F_round_step.kp L.b_round_step .nil pass0 (pa_cons (pv 0) (pa_cons (pv 16) (pa_cons (pv 13) (pa_cons (pv 7) (pa_cons (pv 4) (pa_cons (pv 8) pa_nil)))))))))))
    (pss_one (ps_ret (pe_lst (pa_cons (pe_tup (pa_cons pe_str (pa_cons (pv 5) (pa_cons (pv 6) (pa_cons (pv 7) (pa_cons (pv 8) pa_nil)))))) (StX.pa_star (pv 14) (pa_cons (pv 15) pa_nil)))))))))))))), ?_⟩
  refine ⟨_, rfl, _, rfl, _, rfl, _, rfl, (by show 3 ≤ sizeLine; decide), fun t nt => ?_⟩
  have st := same_upd (o := .tup [.int a, .int b, .int c]) nt
  refine ⟨x, t, sc, tl, [a, b, c], rfl, hF.same st, .inl (.inl upd_same), Nat.le_of_ble_eq_true rfl, fun H1 s1 => ?_⟩
  have w1 := st.trans s1
  unfold joinD at q
  cases hr2 : [a, b, c].all (hdv sc tl) with
  | false =>
    rw [hr2, if_neg (by decide)] at q
    refine ⟨_, rfl, iteT ?_⟩
    refine ⟨_, rfl, _, rfl, _, rfl, _, rfl, (by show 3 ≤ sizeLine; decide), fun u nu => ?_⟩
    have su := same_upd (o := .tup [.int a, .int b, .int c]) nu
    have w2 := w1.trans su
    refine ⟨_, rfl, x, u, sc, tl, "told", "join", way, [a, b, c], joinR sc tl a b c way, rfl, hF.same w2, .inl (.inl (.inl upd_same)), (by unfold doneR; exact if_pos rfl), fun v H2 s2 P2 => ?_⟩
    refine ⟨(by show 1 ≤ sizeLine; decide), fun l nl => ?_⟩
    have sl := same_upd (o := .lst [.ref v]) nl
    exact q l _ _ ((w2.trans s2).free nl) ((w2.trans s2).trans sl) upd_same (by show 1 ≤ 5; decide) (.lst (SqL.of upd_same) (.cons (dp_step (P2.same sl)) .nil))
  | true =>
    rw [hr2, if_pos rfl] at q
    refine ⟨_, rfl, iteF ?_⟩
    obtain ⟨dx, hx, h1, h2, h3, h4⟩ := id hF
    have hab := List.all_eq_true.mp hr2
    have ra := hdv_real (hab a (by simp))
    have rb := hdv_real (hab b (by simp))
    have rc := hdv_real (hab c (by simp))
    obtain ⟨P0, P1, pf⟩ := jp_facts h1 h2 h4 ra rb rc
    have kc := hd_in sc c h4
    have pc := hd_pos rc.2
    have ia := wp_in h1 h2 h4 ra.1
    have ib := wp_in h1 h2 h4 rb.1
    have ic := wp_in h1 h2 h4 rc.1
    refine ⟨_, rfl, _, rfl, _, rfl, _, rfl, x, sc, tl, a, b, rfl, hF.same w1, ra.1, rb.1, fun u H2 s2 eu => ?_⟩
    have w2 := w1.trans s2
    refine ⟨_, rfl, _, rfl, x, sc, tl, c, rfl, hF.same w2, rc.1, fun v H3 n3 s3 ev => ?_⟩
    have w3 := w2.trans s3
    refine ⟨x, u, v, sc, tl, hd sc tl a * hd sc tl b, wp sc tl a + wp sc tl b, hd sc tl c, wp sc tl c, rfl, hF.same w3, s3 _ _ eu, ev, P0, P1, pc, kc.2, by omega, by omega, by omega, by omega, fun pt H4 s4 ept => ?_⟩
    have ept' : H4 pt = some (.tup [.int (jpl sc tl a b c).1, .int (jpl sc tl a b c).2.1, .int (jpl sc tl a b c).2.2.1, .bl (jpl sc tl a b c).2.2.2]) := ept
    refine ⟨pt, _, rfl, .inl (.inl ept'), rfl, _, _, rfl, _, _, rfl, _, _, rfl, _, _, rfl, rfl, ?_⟩
    have w4 := w3.trans s4
    try simp only [L2.start, List.map_cons, List.map_nil, List.length_cons, List.length_nil, List.replicate_succ, List.replicate_zero, List.cons_append, List.nil_append, List.set_cons_succ, List.set_cons_zero, Nat.reduceAdd, Nat.reduceSub, Nat.zero_add]
    have hA0 : 0 ≤ (jpl sc tl a b c).1 := pf.a0
    have hA1 : (jpl sc tl a b c).1 < 2 ^ 80 := pf.a1
    have hB0 : 0 ≤ (jpl sc tl a b c).2.1 := pf.b0
    have hB1 : (jpl sc tl a b c).2.1 < 2 ^ 80 := pf.b1
    have hP0 : -3000 ≤ (jpl sc tl a b c).2.2.1 := pf.p0
    have hP1 : (jpl sc tl a b c).2.2.1 ≤ 3000 := pf.p1
    have hT0 : 0 ≤ jTo sc tl a b c := pf.t0 _
    have hMo : (jpl sc tl a b c).2.2.2 = true → jTo sc tl a b c ≠ 0 ∧ (jpl sc tl a b c).2.2.1 < GR.lap sc tl (jTo sc tl a b c) (jpl sc tl a b c).2.2.1 := pf.mo _
    have hZ : jTo sc tl a b c = 0 → decide (sx sc tl a b = GM.sgn sc tl c) = false ∧ hd sc tl a * hd sc tl b * 2 ^ (wp sc tl a + wp sc tl b - lwr (wp sc tl a + wp sc tl b) (wp sc tl c)).toNat = hd sc tl c * 2 ^ (wp sc tl c - lwr (wp sc tl a + wp sc tl b) (wp sc tl c)).toNat := pf.z _
    have hmx : 0 ≤ mx (jpl sc tl a b c).1 (jpl sc tl a b c).2.1 ∧ mx (jpl sc tl a b c).1 (jpl sc tl a b c).2.1 < 2 ^ 80 := by
      unfold mx
      split <;> omega
    have hbits : Builtin.Int.intBits (mx (jpl sc tl a b c).1 (jpl sc tl a b c).2.1) ≤ 80 := PyProof.Rows.intBits_le (by
      have c80 : ((2 ^ 80 : Nat) : Int) = (2 : Int) ^ 80 := PySem.W.kbt_cast _
      omega)
    have tb : jTo sc tl a b c < 2 ^ 90 := by
      have : mn (jpl sc tl a b c).1 (jpl sc tl a b c).2.1 < 2 ^ 80 ∧ 0 ≤ mn (jpl sc tl a b c).1 (jpl sc tl a b c).2.1 := by
        unfold mn
        split <;> omega
      unfold jTo mTo
      split
      · omega
      · split <;> omega
    refine ⟨_, rfl, _, rfl, _, rfl, x, sc, tl, a, b, rfl, hF.same w4, fun H5 s5 => ?_⟩
    have w5 := w4.trans s5
    refine ⟨_, rfl, _, rfl, x, sc, tl, c, rfl, hF.same w5, fun H6 s6 => ?_⟩
    have w6 := w5.trans s6
    try simp only [L2.start, List.map_cons, List.map_nil, List.length_cons, List.length_nil, List.replicate_succ, List.replicate_zero, List.cons_append, List.nil_append, List.set_cons_succ, List.set_cons_zero, Nat.reduceAdd, Nat.reduceSub, Nat.zero_add]
    refine ⟨_, rfl, _, rfl, _, _, rfl, gI (show _ = mx (jpl sc tl a b c).1 (jpl sc tl a b c).2.1 from rfl) ?_⟩
    refine ⟨_, rfl, _, rfl, _, _, rfl, gI (show _ = mn (jpl sc tl a b c).1 (jpl sc tl a b c).2.1 from rfl) ?_⟩
    try simp only [L2.start, List.map_cons, List.map_nil, List.length_cons, List.length_nil, List.replicate_succ, List.replicate_zero, List.cons_append, List.nil_append, List.set_cons_succ, List.set_cons_zero, Nat.reduceAdd, Nat.reduceSub, Nat.zero_add]
    refine ⟨_, rfl, _, rfl, _, rfl, _, rfl, _, rfl, rfl, _, rfl, _, rfl, mx (jpl sc tl a b c).1 (jpl sc tl a b c).2.1, mn (jpl sc tl a b c).1 (jpl sc tl a b c).2.1, (jpl sc tl a b c).2.2.2, decide (sx sc tl a b = GM.sgn sc tl c), Builtin.Int.intBits (mx (jpl sc tl a b c).1 (jpl sc tl a b c).2.1), by rw [dvi]; rfl, by omega, fun tt ls us H8 s8 et els lls D8 => ?_⟩
    have w8 := w6.trans s8
    refine ⟨tt, _, rfl, .inl (.inl et), rfl, _, _, rfl, _, _, rfl, rfl, ?_⟩
    try simp only [L2.start, List.map_cons, List.map_nil, List.length_cons, List.length_nil, List.replicate_succ, List.replicate_zero, List.cons_append, List.nil_append, List.set_cons_succ, List.set_cons_zero, Nat.reduceAdd, Nat.reduceSub, Nat.zero_add]
    refine ⟨_, rfl, rfl, _, rfl, ite2 (fun cc => ?_) (fun cc => ?_)⟩
    · have c0 : jTo sc tl a b c = 0 := V.int.inj (of_decide_eq_true cc)
      have zz := hZ c0
      refine ⟨_, rfl, _, rfl, _, rfl, _, rfl, (by show 3 ≤ sizeLine; decide), fun u9 nu => ?_⟩
      have su := same_upd (o := .tup [.int a, .int b, .int c]) nu
      refine ⟨_, rfl, x, u9, sc, tl, "round", "join", way, [a, b, c], joinR sc tl a b c way, rfl, hF.same (w8.trans su), .inl (.inl (.inl upd_same)), (by unfold doneR; exact if_pos rfl), fun v9 H9 s9' P9 => ?_⟩
      have s9 := su.trans s9'
      have w9 := w8.trans s9
      try simp only [L2.start, List.map_cons, List.map_nil, List.length_cons, List.length_nil, List.replicate_succ, List.replicate_zero, List.cons_append, List.nil_append, List.set_cons_succ, List.set_cons_zero, Nat.reduceAdd, Nat.reduceSub, Nat.zero_add]
      refine ⟨_, rfl, _, rfl, _, rfl, _, rfl, (by show 5 ≤ sizeLine; decide), fun t0 nt0 => ?_⟩
      have st0 := same_upd (o := .tup [.str "place", .int (jpl sc tl a b c).1, .int (jpl sc tl a b c).2.1, .int (jpl sc tl a b c).2.2.1, .bl (jpl sc tl a b c).2.2.2]) nt0
      refine ⟨_, rfl, ls, _, rfl, .inr (SqL.of (st0 _ _ (s9 _ _ els))), _, rfl, ?_⟩
      refine ⟨(by show _ ≤ sizeLine; rw [List.length_cons, List.length_append]; exact Nat.le_of_lt (small1000 (by show _ + 1 + 1 ≤ 1000; omega))), fun lr nlr => ?_⟩
      have sl := same_upd (o := .lst (V.ref t0 :: (us ++ [.ref v9]))) nlr
      refine q lr _ _ ((w9.trans st0).free nlr) ((w9.trans st0).trans sl) upd_same (by rw [List.length_cons, List.length_append]; show _ + 1 + 1 ≤ 5; omega) (.lst (SqL.of upd_same) (.cons (.tup (.inl (.inl (sl _ _ upd_same))) (.cons (.str _) (.cons (.int _) (.cons (.int _) (.cons (.int _) (.cons (.bl _) .nil)))))) (dp_app (ds := jMid sc tl a b c) (es := [toldD "round" (jLast sc tl a b c way)]) (Dp.sameAll (s9.trans (st0.trans sl)) _ _ D8) (.cons (dp_step ?_) .nil))))
      unfold jLast
      rw [if_pos c0, ← join_zero ra rb rc (of_decide_eq_false zz.1) zz.2]
      exact P9.same (st0.trans sl)
    · have c0 : ¬ jTo sc tl a b c = 0 := fun z => cc (decide_eq_true (congrArg V.int z))
      refine gset_asgif0 ?_
      refine if_ev (fun z H' => z = .int (jSg sc tl a b c) ∧ H' = H8) (fun Q' q' => ?_) ?_
      · refine ⟨_, rfl, _, rfl, rfl, _, rfl, ite2 (fun d => ?_) (fun d => ?_)⟩
        · rw [dvi] at d
          have d1 : (jpl sc tl a b c).1 = mx (jpl sc tl a b c).1 (jpl sc tl a b c).2.1 := of_decide_eq_true d
          refine ⟨_, rfl, q' _ _ ⟨?_, rfl⟩⟩
          unfold jSg
          rw [if_pos]
          unfold mx at d1
          split at d1 <;> omega
        · rw [dvi] at d
          have d1 : ¬ (jpl sc tl a b c).1 = mx (jpl sc tl a b c).1 (jpl sc tl a b c).2.1 := of_decide_eq_false (Bool.eq_false_iff.mpr d)
          refine ⟨_, rfl, q' _ _ ⟨?_, rfl⟩⟩
          unfold jSg
          rw [if_neg]
          unfold mx at d1
          split at d1 <;> omega
      rintro _ _ ⟨rfl, rfl⟩
      have hs01 : jSg sc tl a b c = 0 ∨ jSg sc tl a b c = 1 := by
        unfold jSg
        split
        · exact sx_01 sc tl a b
        · exact GM.sgn_01
      refine ⟨_, rfl, _, rfl, _, rfl, _, rfl, _, rfl, _, rfl, x, sc, tl, jSg sc tl a b c, jTo sc tl a b c, (jpl sc tl a b c).2.2.1, way, (jpl sc tl a b c).2.2.2, rfl, hF.same w8, hs01, fit_lt hT0 tb (by decide), by omega, by omega, hMo, fun v9 H9 s9 P9 => ?_⟩
      have w9 := w8.trans s9
      try simp only [L2.start, List.map_cons, List.map_nil, List.length_cons, List.length_nil, List.replicate_succ, List.replicate_zero, List.cons_append, List.nil_append, List.set_cons_succ, List.set_cons_zero, Nat.reduceAdd, Nat.reduceSub, Nat.zero_add]
      refine ⟨_, rfl, _, rfl, _, rfl, _, rfl, (by show 5 ≤ sizeLine; decide), fun t0 nt0 => ?_⟩
      have st0 := same_upd (o := .tup [.str "place", .int (jpl sc tl a b c).1, .int (jpl sc tl a b c).2.1, .int (jpl sc tl a b c).2.2.1, .bl (jpl sc tl a b c).2.2.2]) nt0
      refine ⟨_, rfl, ls, _, rfl, .inr (SqL.of (st0 _ _ (s9 _ _ els))), _, rfl, ?_⟩
      refine ⟨(by show _ ≤ sizeLine; rw [List.length_cons, List.length_append]; exact Nat.le_of_lt (small1000 (by show _ + 1 + 1 ≤ 1000; omega))), fun lr nlr => ?_⟩
      have sl := same_upd (o := .lst (V.ref t0 :: (us ++ [.ref v9]))) nlr
      refine q lr _ _ ((w9.trans st0).free nlr) ((w9.trans st0).trans sl) upd_same (by rw [List.length_cons, List.length_append]; show _ + 1 + 1 ≤ 5; omega) (.lst (SqL.of upd_same) (.cons (.tup (.inl (.inl (sl _ _ upd_same))) (.cons (.str _) (.cons (.int _) (.cons (.int _) (.cons (.int _) (.cons (.bl _) .nil)))))) (dp_app (ds := jMid sc tl a b c) (es := [toldD "round" (jLast sc tl a b c way)]) (Dp.sameAll (s9.trans (st0.trans sl)) _ _ D8) (.cons (dp_step ?_) .nil))))
      unfold jLast
      rw [if_neg c0]
      exact P9.same (st0.trans sl)
end
end GZ
namespace GM
theorem bit01 (a : Int) (n : Nat) : bit a n = 0 ∨ bit a n = 1 := by
  unfold bit
  omega
theorem bit_two (n : Int) (i : Nat) : bit (2 * n) (i + 1) = bit n i := by
  unfold bit
  rw [pow_s, Int.mul_comm 2 n, Int.mul_ediv_mul_of_pos_left _ _ (by decide)]
def fo (n : Int) (p : Nat) : Int := bit (2 * n) (2 * p + 1) + bit (2 * n) (2 * p) - 2 * bit (2 * n) (2 * p + 2)
def fol (n : Int) : Nat → List Int
  | 0 => []
  | k + 1 => fo n k :: fol n k
def rol (o n : Int) : Nat → List Int
  | 0 => []
  | k + 1 => fo n k * o * 2 ^ (2 * k) :: rol o n k
def s4 (n : Int) : Nat → Int
  | 0 => 0
  | k + 1 => fo n k * 2 ^ (2 * k) + s4 n k
theorem fo_in (n : Int) (p : Nat) : -2 ≤ fo n p ∧ fo n p ≤ 2 := by
  unfold fo
  have h1 := bit01 (2 * n) (2 * p + 1)
  have h2 := bit01 (2 * n) (2 * p)
  have h3 := bit01 (2 * n) (2 * p + 2)
  omega
theorem fol_len (n : Int) : ∀ k, (fol n k).length = k
  | 0 => rfl
  | k + 1 => by
    show (fol n k).length + 1 = k + 1
    rw [fol_len n k]
theorem rol_len (o n : Int) : ∀ k, (rol o n k).length = k
  | 0 => rfl
  | k + 1 => by
    show (rol o n k).length + 1 = k + 1
    rw [rol_len o n k]
theorem fol_get (n : Int) : ∀ (k i : Nat), i < k → (fol n k)[i]? = some (fo n (k - 1 - i))
  | 0, i, h => absurd h (Nat.not_lt_zero i)
  | k + 1, 0, _ => rfl
  | k + 1, i + 1, h => by
    show (fol n k)[i]? = _
    rw [fol_get n k i (by omega), show k + 1 - 1 - (i + 1) = k - 1 - i by omega]
theorem rol_get (o n : Int) : ∀ (k i : Nat), i < k → (rol o n k)[i]? = some (fo n (k - 1 - i) * o * 2 ^ (2 * (k - 1 - i)))
  | 0, i, h => absurd h (Nat.not_lt_zero i)
  | k + 1, 0, _ => rfl
  | k + 1, i + 1, h => by
    show (rol o n k)[i]? = _
    rw [rol_get o n k i (by omega), show k + 1 - 1 - (i + 1) = k - 1 - i by omega]
theorem take_fol {n : Int} {k i : Nat} (h : i < k) : (fol n k).take (i + 1) = (fol n k).take i ++ [fo n (k - 1 - i)] := by
  rw [List.take_add_one, fol_get n k i h]
  rfl
theorem take_rol {o n : Int} {k i : Nat} (h : i < k) : (rol o n k).take (i + 1) = (rol o n k).take i ++ [fo n (k - 1 - i) * o * 2 ^ (2 * (k - 1 - i))] := by
  rw [List.take_add_one, rol_get o n k i h]
  rfl
theorem rol_sum (o n : Int) : ∀ k, (rol o n k).sum = o * s4 n k
  | 0 => by
    show (0 : Int) = o * 0
    omega
  | k + 1 => by
    show (fo n k * o * 2 ^ (2 * k) :: rol o n k).sum = o * (fo n k * 2 ^ (2 * k) + s4 n k)
    rw [List.sum_cons, rol_sum o n k, Int.mul_add, Int.mul_comm (fo n k) o, Int.mul_assoc]
theorem s4_eq (n : Int) : ∀ k, s4 n k = n % 2 ^ (2 * k) - 2 ^ (2 * k) * bit (2 * n) (2 * k)
  | 0 => by
    show (0 : Int) = n % 1 - 1 * (2 * n / 1 % 2)
    omega
  | k + 1 => by
    show fo n k * 2 ^ (2 * k) + s4 n k = _
    rw [s4_eq n k]
    have e1 := mod_step n (2 * k)
    have e2 := mod_step n (2 * k + 1)
    have b1 := bit_two n (2 * k)
    have b2 := bit_two n (2 * k + 1)
    have p1 : (2 : Int) ^ (2 * k + 1) = 2 ^ (2 * k) * 2 := pow_s _
    have p2 : (2 : Int) ^ (2 * (k + 1)) = 2 ^ (2 * k) * 4 := by
      rw [show 2 * (k + 1) = 2 * k + 1 + 1 by omega, pow_s, pow_s]
      omega
    rw [show 2 * k + 1 + 1 = 2 * (k + 1) by omega] at e2 b2
    unfold fo
    rw [show 2 * k + 2 = 2 * (k + 1) by omega, b1, b2, p2]
    rw [p2] at e2
    rw [p1] at e1 e2
    generalize (2 : Int) ^ (2 * k) = q at *
    rcases bit01 n (2 * k) with h | h <;> rcases bit01 n (2 * k + 1) with h' | h' <;> rcases bit01 (2 * n) (2 * k) with h'' | h'' <;> rw [h, h', h''] <;> rw [h] at e1 <;> rw [h'] at e2 <;> omega
theorem s4_all {n : Int} {k : Nat} (h0 : 0 ≤ n) (h : n < 2 ^ (2 * k + 1)) : s4 n (k + 1) = n := by
  rw [s4_eq, show 2 * (k + 1) = 2 * k + 1 + 1 by omega, bit_two]
  have hp := pow_s (2 * k + 1)
  have hb : bit n (2 * k + 1) = 0 := by
    unfold bit
    rw [Int.ediv_eq_zero_of_lt h0 h]
    rfl
  rw [hb, Int.mul_zero, Int.emod_eq_of_lt h0 (by omega)]
  omega
end GM
namespace GM
end GM
namespace GM
open PySem PyProof.Rows
abbrev An (x y : Int) : Int := Builtin.bitAnd x y
abbrev Or (x y : Int) : Int := Builtin.bitOr x y
abbrev Xo (x y : Int) : Int := Builtin.bitXor x y
theorem an_step (x y : Int) : An x y / 2 = An (x / 2) (y / 2) ∧ An x y % 2 = (x % 2) * (y % 2) := by
  have h := PySem.W.kbt_halves x y
  have hx : x % 2 = 0 ∨ x % 2 = 1 := by omega
  have hy : y % 2 = 0 ∨ y % 2 = 1 := by omega
  unfold An
  rcases hx with a | a <;> rcases hy with b | b <;> rw [a, b] at h ⊢
  · rw [if_neg (by decide)] at h
    omega
  · rw [if_neg (by decide)] at h
    omega
  · rw [if_neg (by decide)] at h
    omega
  · rw [if_pos (by decide)] at h
    omega
theorem or_step (x y : Int) : Or x y / 2 = Or (x / 2) (y / 2) ∧ Or x y % 2 = x % 2 + y % 2 - (x % 2) * (y % 2) := by
  obtain ⟨h1, h2⟩ := an_step x y
  have hx : x % 2 = 0 ∨ x % 2 = 1 := by omega
  have hy : y % 2 = 0 ∨ y % 2 = 1 := by omega
  unfold Or
  rw [bitOr_and, bitOr_and]
  unfold An at h1 h2
  rcases hx with a | a <;> rcases hy with b | b <;> rw [a, b] at h2 ⊢ <;> omega
theorem xo_step (x y : Int) : Xo x y / 2 = Xo (x / 2) (y / 2) ∧ Xo x y % 2 = (x % 2 + y % 2) % 2 := by
  obtain ⟨h1, h2⟩ := an_step x y
  have hx : x % 2 = 0 ∨ x % 2 = 1 := by omega
  have hy : y % 2 = 0 ∨ y % 2 = 1 := by omega
  unfold Xo
  rw [bitXor_and, bitXor_and]
  unfold An at h1 h2
  rcases hx with a | a <;> rcases hy with b | b <;> rw [a, b] at h2 ⊢ <;> omega
def x3 (x y z : Int) : Int := Xo (Xo x y) z
def mj (x y z : Int) : Int := Or (Or (An x y) (An x z)) (An y z)
theorem x3_step (x y z : Int) : x3 x y z / 2 = x3 (x / 2) (y / 2) (z / 2) ∧ x3 x y z % 2 = (x % 2 + y % 2 + z % 2) % 2 := by
  unfold x3
  obtain ⟨a1, a2⟩ := xo_step (Xo x y) z
  obtain ⟨b1, b2⟩ := xo_step x y
  rw [a1, a2, b1, b2]
  exact ⟨rfl, by omega⟩
theorem mj_step (x y z : Int) : mj x y z / 2 = mj (x / 2) (y / 2) (z / 2) ∧ mj x y z % 2 = (x % 2 + y % 2 + z % 2) / 2 := by
  unfold mj
  obtain ⟨a1, a2⟩ := or_step (Or (An x y) (An x z)) (An y z)
  obtain ⟨b1, b2⟩ := or_step (An x y) (An x z)
  obtain ⟨c1, c2⟩ := an_step x y
  obtain ⟨d1, d2⟩ := an_step x z
  obtain ⟨e1, e2⟩ := an_step y z
  refine ⟨by rw [a1, b1, c1, d1, e1], ?_⟩
  rw [a2, b2, c2, d2, e2]
  have hx : x % 2 = 0 ∨ x % 2 = 1 := by omega
  have hy : y % 2 = 0 ∨ y % 2 = 1 := by omega
  have hz : z % 2 = 0 ∨ z % 2 = 1 := by omega
  rcases hx with a | a <;> rcases hy with b | b <;> rcases hz with c | c <;> rw [a, b, c] <;> decide
/-- so many bits and the sign -/
def Sg (k : Nat) (x : Int) : Prop := x / 2 ^ k = 0 ∨ x / 2 ^ k = -1
theorem sg_iff {k : Nat} {x : Int} : Sg k x ↔ -(2 ^ k) ≤ x ∧ x < 2 ^ k := by
  have hp := pow_pos' k
  unfold Sg
  constructor
  · intro h
    have e := Int.emod_add_mul_ediv x (2 ^ k)
    have h1 := Int.emod_nonneg x (show (2 : Int) ^ k ≠ 0 by omega)
    have h2 := Int.emod_lt_of_pos x hp
    rcases h with z | z <;> rw [z] at e <;> omega
  · intro ⟨h1, h2⟩
    by_cases c : 0 ≤ x
    · exact .inl (Int.ediv_eq_zero_of_lt c h2)
    · right
      have : (x + 2 ^ k) / 2 ^ k = x / 2 ^ k + 1 := by
        have := Int.add_mul_ediv_right x 1 (show (2 : Int) ^ k ≠ 0 by omega)
        rw [Int.one_mul] at this
        exact this
      have h3 : (x + 2 ^ k) / 2 ^ k = 0 := Int.ediv_eq_zero_of_lt (by omega) (by omega)
      omega
theorem sum_sg : ∀ (k : Nat) (x y z : Int), Sg k x → Sg k y → Sg k z → x3 x y z + 2 * mj x y z = x + y + z
  | 0, x, y, z, hx, hy, hz => by
    unfold Sg at hx hy hz
    simp only [Int.pow_zero, Int.ediv_one] at hx hy hz
    rcases hx with a | a <;> rcases hy with b | b <;> rcases hz with c | c <;> subst a <;> subst b <;> subst c <;> decide
  | k + 1, x, y, z, hx, hy, hz => by
    have sh : ∀ {x : Int}, Sg (k + 1) x → Sg k (x / 2) := fun {x} h => by
      unfold Sg at h ⊢
      rw [Int.ediv_ediv_of_nonneg (by decide), show (2 : Int) * 2 ^ k = 2 ^ (k + 1) by rw [pow_s]; omega]
      exact h
    have ih := sum_sg k (x / 2) (y / 2) (z / 2) (sh hx) (sh hy) (sh hz)
    obtain ⟨a1, a2⟩ := x3_step x y z
    obtain ⟨b1, b2⟩ := mj_step x y z
    omega
theorem sg_ex (x : Int) : Sg x.natAbs x := by
  rw [sg_iff]
  have h : x.natAbs < 2 ^ x.natAbs := Nat.lt_two_pow_self
  have c : ((2 ^ x.natAbs : Nat) : Int) = (2 : Int) ^ x.natAbs := PySem.W.kbt_cast _
  omega
theorem sg_mono {j k : Nat} {x : Int} (h : Sg j x) (l : j ≤ k) : Sg k x := by
  rw [sg_iff] at h ⊢
  have := pow_le' l
  omega
theorem sum3 (x y z : Int) : 2 * mj x y z = x + y + z - x3 x y z := by
  have := sum_sg (x.natAbs + y.natAbs + z.natAbs) x y z (sg_mono (sg_ex x) (by omega)) (sg_mono (sg_ex y) (by omega)) (sg_mono (sg_ex z) (by omega))
  omega
def at3 (r : List Int) (j : Nat) : Int := r.getD j 0
def trip (r : List Int) (j : Nat) : List Int := [x3 (at3 r (3 * j)) (at3 r (3 * j + 1)) (at3 r (3 * j + 2)), at3 r (3 * j) + at3 r (3 * j + 1) + at3 r (3 * j + 2) - x3 (at3 r (3 * j)) (at3 r (3 * j + 1)) (at3 r (3 * j + 2))]
def acc (r : List Int) : Nat → List Int
  | 0 => []
  | j + 1 => acc r j ++ trip r j
def lv (r : List Int) : List Int := acc r (r.length / 3) ++ r.drop (r.length / 3 * 3)
theorem acc_len (r : List Int) : ∀ j, (acc r j).length = 2 * j
  | 0 => rfl
  | j + 1 => by
    show (acc r j ++ trip r j).length = _
    rw [List.length_append, acc_len r j]
    show 2 * j + 2 = _
    omega
theorem lv_len (r : List Int) : (lv r).length = 2 * (r.length / 3) + (r.length - r.length / 3 * 3) := by
  unfold lv
  rw [List.length_append, acc_len, List.length_drop]
theorem at3_get {r : List Int} {j : Nat} (h : j < r.length) : r[j]? = some (at3 r j) := by
  unfold at3
  rw [show r.getD j 0 = r[j] by simp [List.getD, List.getElem?_eq_getElem h]]
  exact List.getElem?_eq_getElem h
theorem take_s {r : List Int} {j : Nat} (h : j < r.length) : (r.take (j + 1)).sum = (r.take j).sum + at3 r j := by
  rw [List.take_add_one, at3_get h, List.sum_append]
  show _ + ([at3 r j] : List Int).sum = _
  rw [List.sum_cons, List.sum_nil]
  omega
theorem acc_sum (r : List Int) : ∀ j, 3 * j ≤ r.length → (acc r j).sum = (r.take (3 * j)).sum
  | 0, _ => rfl
  | j + 1, h => by
    show (acc r j ++ trip r j).sum = _
    rw [List.sum_append, acc_sum r j (by omega), show 3 * (j + 1) = 3 * j + 1 + 1 + 1 by omega, take_s (by omega), take_s (by omega), take_s (by omega)]
    unfold trip
    rw [List.sum_cons, List.sum_cons, List.sum_nil]
    omega
theorem lv_sum (r : List Int) : (lv r).sum = r.sum := by
  unfold lv
  rw [List.sum_append, acc_sum r _ (by omega), show r.length / 3 * 3 = 3 * (r.length / 3) by omega]
  rw [← List.sum_append, List.take_append_drop]
def lvn (r : List Int) : Nat → List Int
  | 0 => r
  | i + 1 => lv (lvn r i)
theorem lvn_sum (r : List Int) : ∀ i, (lvn r i).sum = r.sum
  | 0 => rfl
  | i + 1 => by
    show (lv (lvn r i)).sum = _
    rw [lv_sum, lvn_sum r i]
/-- n is where the levels end -/
def Ends (r : List Int) (n : Nat) : Prop := (∀ i, i < n → 2 < (lvn r i).length) ∧ (lvn r n).length ≤ 2
theorem lvn_len (r : List Int) : ∀ n, (∀ i, i < n → 2 < (lvn r i).length) → (lvn r n).length + n ≤ r.length
  | 0, _ => Nat.le_refl _
  | n + 1, h => by
    have ih := lvn_len r n fun i hi => h i (by omega)
    have h1 := h n (by omega)
    have h2 := lv_len (lvn r n)
    show (lv (lvn r n)).length + (n + 1) ≤ _
    omega
end GM
namespace GZ
open PySem PySem.Spec PyProof.Rows L2
section
variable {P : Program} {w : World} {K : PySem.W.Frag} {mg : Str → Option Value} {base : Heap}
variable {C : Addr} {CD : Addr} {za : Nat → Addr} {zl : Nat → FuncData} {t73 t74 t75 tg_NEAR tg_CUT tg_UP tg_DOWN : Tok} {dO : Addr} {esO : Array DictEntry} {nO : Nat}
def spFour : Sp := fun vs H Q _ => ∃ x : Int, vs = [.int x] ∧ Q (.int (x / 2 ^ 1 % 2 ^ 1 + x % 2 ^ 1 - 2 * (x / 2 ^ 2 % 2 ^ 1))) H
theorem ok_four_of (B : Bl mg) (L : LL K mg C CD za zl t73 t74 t75 tg_NEAR tg_CUT tg_UP tg_DOWN w dO esO nO) : FnOk P w K mg base CX0 1 (za 52) (zl 52) ["bits"] spFour := by
  refine L.F_four_of.ok sc_four_of (fun vs H Q E h => ?_) (fun cdv A outer s H vs Q E hr h => ?_)
  · obtain ⟨x, rfl, _⟩ := h
    rfl
  obtain ⟨x, rfl, q⟩ := h
  refine ⟨_, (pss_one (ps_ret (pe_op op_sub (pe_op op_add (pe_op op_andM (pe_op op_shrN (pv 0) pe_int) pe_int) (pe_op op_andM (pv 0) pe_int)) (pe_op op_mul pe_int (pe_op op_andM (pe_op op_shrN (pv 0) pe_int) pe_int))))), ?_⟩
  exact ⟨_, rfl, _, 1, rfl, rfl, _, 1, rfl, rfl, _, rfl, _, 1, rfl, rfl, _, _, rfl, rfl, _, rfl, _, 2, rfl, rfl, _, 1, rfl, rfl, _, _, rfl, rfl, .inl ⟨by decide, by decide⟩, _, _, rfl, rfl, q⟩
def kf (n : Int) : Nat := Builtin.Int.intBits n / 2 + 1
theorem fo_eq (n : Int) (p : Nat) : 2 * n / 2 ^ (2 * p) / 2 ^ 1 % 2 ^ 1 + 2 * n / 2 ^ (2 * p) % 2 ^ 1 - 2 * (2 * n / 2 ^ (2 * p) / 2 ^ 2 % 2 ^ 1) = GM.fo n p := by
  rw [GM.div_div, GM.div_div]
  rfl
def spFours : Sp := fun vs H Q _ => ∃ n : Int, vs = [.int n] ∧ 0 ≤ n ∧ n < 2 ^ 200 ∧
  ∀ (p : Addr) (H' : Hp), H p = none → Same H H' → H' p = some (.lst ((GM.fol n (kf n)).map V.int)) → Q (.ref p) H'
theorem kf_le {n : Int} (h0 : 0 ≤ n) (h1 : n < 2 ^ 200) : kf n ≤ 101 := by
  have : Builtin.Int.intBits n ≤ 200 := PyProof.Rows.intBits_le (by
    have c : ((2 ^ 200 : Nat) : Int) = (2 : Int) ^ 200 := PySem.W.kbt_cast _
    omega)
  unfold kf
  omega
theorem ok_fours_of (B : Bl mg) (L : LL K mg C CD za zl t73 t74 t75 tg_NEAR tg_CUT tg_UP tg_DOWN w dO esO nO) : FnOk P w K mg base CX0 2 (za 51) (zl 51) ["number"] spFours := by
  have G_four_of : FnOk P w K mg base CX0 1 (za 52) (zl 52) ["bits"] spFour := (ok_four_of B L).mono (by decide)
  refine L.F_fours_of.ok sc_fours_of (fun vs H Q E h => ?_) (fun cdv A outer s H vs Q E hr h => ?_)
  · obtain ⟨n, rfl, _⟩ := h
    rfl
  obtain ⟨n, rfl, h0, h1, q⟩ := h
  have hk := kf_le h0 h1
  refine ⟨_, (pss_cons (ps_set (i := 1) sc_fours_of.nd rfl (.inr rfl) (pe_op op_mul pe_int (pv 0)))
    (pss_one (ps_ret (pe_lc (own := [("place", 2)]) (by rfl) sc_fours_of.nd (pi_range3 (by rfl) B.range (pa_cons (pe_op op_fdiv (pe_bits (pv 0)) pe_int) (pa_cons (pe_un un_neg pe_int) (pa_cons (pe_un un_neg pe_int) pa_nil)))) (blkOk_by (own := [("place", 2)]) (N := ["number", "doubled", "place"]) (sc := defScope s_fours_of) (by decide +kernel)) (fun _ _ _ _ _ => pg_name (i := 2) sc_fours_of.nd rfl (Or.inl rfl)) (fun _ _ _ _ _ => pts_nil) (fun _ _ _ _ _ => (pe_call G_four_of hr (by rfl) L.m_four_of L.F_four_of.kp L.b_four_of .nil pass0 (pa_cons (pe_op op_shrN (pv 1) (pe_op op_mul pe_int (pv 2))) pa_nil))))))), ?_⟩
  refine ⟨_, rfl, _, _, rfl, rfl, .inl ⟨by decide, by decide⟩, ?_⟩
  refine ⟨_, rfl, _, rfl, _, _, rfl, rfl, ⟨by decide, by decide⟩, _, rfl, _, rfl, _, _, _, (((Builtin.Int.intBits n : Nat) : Int) / 2 - -1).toNat, rfl, RgC.neg (by omega) (by unfold kf at hk; omega) (by decide) (by decide), fun D nD => ?_⟩
  rw [show (((Builtin.Int.intBits n : Nat) : Int) / 2 - -1).toNat = kf n by unfold kf; omega]
  have sD : Same H (upd H D (.lst [])) := same_upd nD
  refine lc_it walk_rangeC (fun i H3 => Same H H3 ∧ H3 D = some (.lst (((GM.fol n (kf n)).take i).map V.int))) ⟨sD, upd_same⟩ (fun _ _ _ _ => trivial) ?_ ?_
  · rintro i x H3 H4 hi ⟨s3, eD⟩ ⟨rfl, rfl⟩
    show gName _ (V.int (((Builtin.Int.intBits n : Nat) : Int) / 2 + (i : Nat) * (-1))) _ _ _
    rw [show ((Builtin.Int.intBits n : Nat) : Int) / 2 + (i : Nat) * (-1) = ((kf n - 1 - i : Nat) : Int) by unfold kf at hi ⊢; omega]
    refine ⟨rfl, yesT ?_⟩
    refine ⟨_, rfl, _, rfl, _, _, rfl, rfl, .inl ⟨by decide, by decide⟩, _, 2 * (kf n - 1 - i), rfl, congrArg V.int (by omega), _, rfl, _, eD, ?_, fun b o e => ?_, ?_⟩
    · rw [List.length_map, List.length_take]
      exact Nat.lt_of_le_of_lt (Nat.min_le_left _ _) (small1000 (by omega))
    · rw [upd_ne (ne_of_none e nD)]
      exact s3 _ _ e
    · rw [upd_same, fo_eq, GM.take_fol hi, List.map_append]
      rfl
  · rintro H3 ⟨s3, eD⟩
    refine q D H3 nD s3 ?_
    rw [List.take_of_length_le (by rw [GM.fol_len]; exact Nat.le_refl _)] at eD
    exact eD
def spRows : Sp := fun vs H Q _ => ∃ o n : Int, vs = [.int o, .int n] ∧ 0 ≤ n ∧ n < 2 ^ 200 ∧ 0 ≤ o ∧ o < 2 ^ 200 ∧
  ∀ (p : Addr) (H' : Hp), H p = none → Same H H' → H' p = some (.lst ((GM.rol o n (kf n)).map V.int)) → Q (.ref p) H'
theorem ok_rows_of (B : Bl mg) (L : LL K mg C CD za zl t73 t74 t75 tg_NEAR tg_CUT tg_UP tg_DOWN w dO esO nO) : FnOk P w K mg base CX0 3 (za 53) (zl 53) ["one", "number"] spRows := by
  have G_fours_of : FnOk P w K mg base CX0 2 (za 51) (zl 51) ["number"] spFours := (ok_fours_of B L).mono (by decide)
  refine L.F_rows_of.ok sc_rows_of (fun vs H Q E h => ?_) (fun cdv A outer s H vs Q E hr h => ?_)
  · obtain ⟨o, n, rfl, _⟩ := h
    rfl
  obtain ⟨o, n, rfl, h0, h1, o0, o1, q⟩ := h
  have hk := kf_le h0 h1
  refine ⟨_, (pss_cons (ps_set (i := 2) sc_rows_of.nd rfl (.inl rfl) (pe_call G_fours_of hr (by rfl) L.m_fours_of L.F_fours_of.kp L.b_fours_of .nil pass0 (pa_cons (pv 1) pa_nil)))
    (pss_cons (ps_set (i := 3) sc_rows_of.nd rfl (.inr rfl) (pe_op op_sub (pe_callB call_len_seq (by rfl) B.len PySem.boot_len (pa_cons (pv 2) pa_nil)) pe_int))
    (pss_one (ps_ret (pe_lc (own := [("at", 4), ("four", 5)]) (g := gTup K 2 (gCons (gName 4) (gCons (gName 5) gNil))) (by rfl) sc_rows_of.nd (pi_enum (by rfl) B.enumerate (pa_cons (pv 2) pa_nil)) (blkOk_by (own := [("at", 4), ("four", 5)]) (N := ["one", "number", "fours", "last", "at", "four"]) (sc := defScope s_rows_of) (by decide +kernel)) (fun _ _ _ _ _ => pg_tup rfl (pgs_cons (pg_name (i := 4) sc_rows_of.nd rfl (Or.inl rfl) (.inr rfl)) (pgs_cons (pg_name (i := 5) sc_rows_of.nd rfl (Or.inl rfl) (.inr rfl)) pgs_nil))) (fun _ _ _ _ _ => pts_nil) (fun _ _ _ _ _ => (pe_op op_shlN (pe_op op_mul (pv 5) (pv 0)) (pe_op op_mul pe_int (pe_op op_sub (pv 3) (pv 4)))))))))), ?_⟩
  refine ⟨_, rfl, n, rfl, h0, h1, fun fs H1 nf s1 ef => ?_⟩
  refine ⟨_, rfl, fs, _, rfl, .inl (SqL.of ef), _, _, rfl, rfl, ?_⟩
  rw [List.length_map, GM.fol_len]
  refine ⟨_, rfl, fs, _, rfl, SqL.of ef, fun D nD => ?_⟩
  have sD := s1.trans (same_upd (o := .lst []) nD)
  refine lc_it (walk_enum (K := K) (a := fs) (xs := (GM.fol n (kf n)).map V.int)) (fun i H3 => Same H1 H3 ∧ H3 D = some (.lst (((GM.rol o n (kf n)).take i).map V.int))) ⟨same_upd nD, upd_same⟩ (fun i H3 _ ⟨s3, _⟩ => SqL.of (s3 _ _ ef)) ?_ ?_
  · rintro i x H3 H4 hi ⟨s3, eD⟩ ⟨T, x1, x2, rfl, nT, rfl, e1, e2⟩
    cases e1
    obtain ⟨z2, f2, rfl⟩ := int_at e2
    rw [List.length_map, GM.fol_len] at hi
    rw [GM.fol_get n (kf n) i hi] at f2
    cases f2
    have hfo := GM.fo_in n (kf n - 1 - i)
    have c200 : ((2 ^ 200 : Nat) : Int) = (2 : Int) ^ 200 := PySem.W.kbt_cast _
    have sT : Same H3 (upd H3 T (.tup [.int (i : Nat), .int (GM.fo n (kf n - 1 - i))])) := same_upd nT
    refine ⟨T, _, rfl, .inl (.inl upd_same), rfl, _, _, rfl, _, _, rfl, rfl, rfl, ?_⟩
    refine yesT ?_
    refine ⟨_, rfl, _, rfl, _, _, rfl, rfl, .inl ⟨by omega, by omega⟩, _, rfl, _, rfl, _, _, rfl, rfl, _, _, rfl, rfl, .inl ⟨by decide, by decide⟩, _, 2 * (kf n - 1 - i), rfl, congrArg V.int (by omega), shl_ok (n := 202) ?_ (by omega), _, sT _ _ eD, ?_, fun b u e => ?_, ?_⟩
    · exact wide_lt (a := 2) (b := 200) (by omega) (by omega)
    · rw [List.length_map, List.length_take]
      exact Nat.lt_of_le_of_lt (Nat.min_le_left _ _) (small1000 (by omega))
    · rw [upd_ne (ne_of_none e nD)]
      exact sT _ _ (s3 _ _ e)
    · rw [upd_same, GM.take_rol hi, List.map_append]
      rfl
  · rintro H3 ⟨s3, eD⟩
    refine q D H3 (s1.free nD) (s1.trans s3) ?_
    rw [List.take_of_length_le (by rw [GM.rol_len, List.length_map, GM.fol_len]; exact Nat.le_refl _)] at eD
    exact eD
end
section
variable {P : Program} {w : World} {K : PySem.W.Frag} {mg : Str → Option Value} {base : Heap}
variable {C : Addr} {CD : Addr} {za : Nat → Addr} {zl : Nat → FuncData} {t73 t74 t75 tg_NEAR tg_CUT tg_UP tg_DOWN : Tok} {dO : Addr} {esO : Array DictEntry} {nO : Nat}
def Sq3 (K : PySem.W.Frag) (H : Hp) (a : Addr) (ds : List Int) : Prop := SqL K H a (ds.map V.int) ∨ SqT K H a (ds.map V.int)
theorem Sq3.same {H H' : Hp} {a : Addr} {ds : List Int} (h : Sq3 K H a ds) (s : Same H H') : Sq3 K H' a ds := by
  rcases h with h | h
  · exact .inl (s.seq h)
  · exact .inr (Same.seqT s h)
def spSaved : Sp := fun vs H Q _ => ∃ x y z : Int, vs = [.int x, .int y, .int z] ∧ ∀ p, H p = none → Q (.ref p) (upd H p (.tup [.int (GM.x3 x y z), .int (x + y + z - GM.x3 x y z)]))
theorem ok_saved (B : Bl mg) (L : LL K mg C CD za zl t73 t74 t75 tg_NEAR tg_CUT tg_UP tg_DOWN w dO esO nO) : FnOk P w K mg base CX0 1 (za 54) (zl 54) ["x", "y", "z"] spSaved := by
  refine L.F_saved.ok sc_saved (fun vs H Q E h => ?_) (fun cdv A outer s H vs Q E hr h => ?_)
  · obtain ⟨x, y, z, rfl, _⟩ := h
    rfl
  obtain ⟨x, y, z, rfl, q⟩ := h
  refine ⟨_, (pss_one (ps_ret (pe_tup (pa_cons (pe_op op_xor (pe_op op_xor (pv 0) (pv 1)) (pv 2)) (pa_cons (pe_op op_mul pe_int (pe_op op_or (pe_op op_or (pe_op op_and (pv 0) (pv 1)) (pe_op op_and (pv 0) (pv 2))) (pe_op op_and (pv 1) (pv 2)))) pa_nil))))), ?_⟩
  refine ⟨_, rfl, _, rfl, _, _, rfl, rfl, _, rfl, _, _, rfl, rfl, _, rfl, _, rfl, _, _, rfl, rfl, _, rfl, _, rfl, _, _, rfl, rfl, _, _, rfl, rfl, _, rfl, _, rfl, _, _, rfl, rfl, _, _, rfl, rfl, _, _, rfl, rfl, .inl ⟨by decide, by decide⟩, (by show 2 ≤ sizeLine; decide), fun p np => ?_⟩
  have q' := q p np
  rw [← GM.sum3] at q'
  exact q'
def spBehind : Sp := fun vs H Q _ => ∃ (a : Addr) (r : List Int), vs = [.ref a] ∧ H a = some (.lst (r.map V.int)) ∧ r.length ≤ 198 ∧
  ∀ p H', H p = none → Same H H' → H' p = some (.lst ((GM.lv r).map V.int)) → Q (.ref p) H'
theorem at_get3 {r : List Int} {i : Nat} (h : i < r.length) : atI (r.map V.int) (i : Int) = some (.int (GM.at3 r i)) := by
  refine atI_nat ?_
  rw [List.getElem?_map, GM.at3_get h]
  rfl
theorem cut_hi (r : List Int) (m : Nat) : cutV (r.map V.int) (some (m : Int)) none = (r.drop m).map V.int := by
  unfold cutV
  rw [HT.sIx_nat, HT.sIx_none, List.length_map, ← List.map_drop, ← List.map_take]
  congr 1
  by_cases c : m ≤ r.length
  · rw [Nat.min_eq_left c, List.take_of_length_le (by rw [List.length_drop]; exact Nat.le_refl _)]
  · rw [List.drop_of_length_le (by omega), List.drop_of_length_le (by omega), List.take_nil]
theorem rg3_all : ((List.range 67).all fun k => decide (Builtin.Range.small 0 (3 * (k : Int)) 3 = true) && decide (Builtin.Range.rangeSize 0 (3 * (k : Int)) 3 = k)) = true := by decide +kernel
theorem rg3 {k : Nat} (h : k ≤ 66) : RgC 0 ((3 * k : Nat) : Int) 3 k := by
  have a := List.all_eq_true.mp rg3_all k (List.mem_range.mpr (by omega))
  rw [Bool.and_eq_true] at a
  exact ⟨by decide, by decide, of_decide_eq_true a.1, of_decide_eq_true a.2⟩
theorem lv_eq (r : List Int) : (GM.lv r).map V.int = (GM.acc r (r.length / 3)).map V.int ++ (r.drop (3 * (r.length / 3))).map V.int := by
  unfold GM.lv
  rw [List.map_append, Nat.mul_comm]
theorem ok_level_behind (B : Bl mg) (L : LL K mg C CD za zl t73 t74 t75 tg_NEAR tg_CUT tg_UP tg_DOWN w dO esO nO) : FnOk P w K mg base CX0 2 (za 56) (zl 56) ["rows"] spBehind := by
  have G_saved : FnOk P w K mg base CX0 1 (za 54) (zl 54) ["x", "y", "z"] spSaved := (ok_saved B L).mono (by decide)
  refine L.F_level_behind.ok sc_level_behind (fun vs H Q E h => ?_) (fun cdv A outer s H vs Q E hr h => ?_)
  · obtain ⟨a, r, rfl, _⟩ := h
    rfl
  obtain ⟨a, r, rfl, ha, hl, q⟩ := h
  refine ⟨_, (pss_cons (ps_set (i := 1) sc_level_behind.nd rfl (.inl rfl) (pe_op op_mul (pe_op op_fdiv (pe_callB call_len_seq (by rfl) B.len PySem.boot_len (pa_cons (pv 0) pa_nil)) pe_int) pe_int))
    (pss_cons (ps_set (i := 2) sc_level_behind.nd rfl (.inl rfl) (pe_lst pa_nil))
    (pss_cons (ps_for PassesOwn.never rfl (pi_range3 (by rfl) B.range (pa_cons pe_int (pa_cons (pv 1) (pa_cons pe_int pa_nil)))) (pg_name (i := 3) sc_level_behind.nd rfl (.inl rfl)) (pss_one (ps_expr (pe_bm PySem.F.plainAttrs_list PySem.F.slot_list_extend PySem.F.type_list_extend mt_extT (pv 2) (pa_cons (pe_call G_saved hr (by rfl) L.m_saved L.F_saved.kp L.b_saved .nil pass0 (pa_cons (pe_ix ix_list (pv 0) (pv 3) (fun _ _ => rfl)) (pa_cons (pe_ix ix_list (pv 0) (pe_op op_add (pv 3) pe_int) (fun _ _ => rfl)) (pa_cons (pe_ix ix_list (pv 0) (pe_op op_add (pv 3) pe_int) (fun _ _ => rfl)) pa_nil)))) pa_nil)))))
    (pss_one (ps_ret (pe_op op_cat (pv 2) (pe_slice sl_list (pv 0) (po_some (pv 1)) po_none))))))), ?_⟩
  have hb : (((r.map V.int).length : Nat) : Int) / 3 * 3 = ((3 * (r.length / 3) : Nat) : Int) := by
    rw [List.length_map]
    omega
  refine ⟨_, rfl, a, _, rfl, .inl (SqL.of ha), _, _, rfl, rfl, ⟨by decide, by decide⟩, _, _, rfl, rfl, .inr ⟨by decide, by decide⟩, ?_⟩
  refine ⟨Nat.zero_le _, fun o no => ?_⟩
  refine ⟨_, rfl, 0, ((3 * (r.length / 3) : Nat) : Int), 3, r.length / 3, congrArg (fun z => [V.int 0, V.int z, V.int 3]) hb, rg3 (by omega), ?_⟩
  refine for_it walk_rangeC (fun i σ H3 => ∃ (y3 : Option V), σ = [some (.ref a), some (.int ((((r.map V.int).length : Nat) : Int) / 3 * 3)), some (.ref o), y3] ∧ Same H H3 ∧ H3 o = some (.lst ((GM.acc r i).map V.int))) ⟨none, rfl, same_upd no, (upd_same : (upd H o (.lst [])) o = some (.lst []))⟩ (fun _ _ _ _ _ => trivial) ?_ ?_
  · rintro i v σ H3 H4 hi ⟨y3, rfl, s3, eo⟩ ⟨rfl, rfl⟩
    show gName _ (V.int (0 + (i : Nat) * 3)) _ _ _
    rw [show (0 : Int) + (i : Nat) * 3 = ((3 * i : Nat) : Int) by omega]
    have ha3 := s3 _ _ ha
    refine ⟨_, rfl, .inl ⟨rfl, _, SqL.of eo⟩, _, rfl, _, rfl, a, _, _, _, rfl, rfl, SqL.of ha3, at_get3 (by omega), _, rfl, _, rfl, _, _, rfl, rfl, a, _, _, _, rfl, rfl, SqL.of ha3, at_get3 (i := 3 * i + 1) (by omega), _, rfl, _, rfl, _, _, rfl, rfl, a, _, _, _, rfl, rfl, SqL.of ha3, at_get3 (i := 3 * i + 2) (by omega), _, _, _, rfl, fun p np => ?_⟩
    have sp := same_upd (o := .tup [.int (GM.x3 (GM.at3 r (3 * i)) (GM.at3 r (3 * i + 1)) (GM.at3 r (3 * i + 2))), .int (GM.at3 r (3 * i) + GM.at3 r (3 * i + 1) + GM.at3 r (3 * i + 2) - GM.x3 (GM.at3 r (3 * i)) (GM.at3 r (3 * i + 1)) (GM.at3 r (3 * i + 2)))]) np
    refine ⟨o, p, _, _, rfl, rfl, sp _ _ eo, .inl (.inl upd_same), ?_, _, rfl, fun x u e => ?_, ?_⟩
    · rw [List.length_map, GM.acc_len]
      exact Nat.le_of_lt (small1000 (by show 2 * i + 2 ≤ 1000; omega))
    · rw [upd_ne (ne_of_none e no)]
      exact sp _ _ (s3 _ _ e)
    · rw [upd_same]
      show some (HO.lst ((GM.acc r i).map V.int ++ (GM.trip r i).map V.int)) = some (HO.lst ((GM.acc r i ++ GM.trip r i).map V.int))
      rw [List.map_append]
  · rintro σ H3 ⟨y3, rfl, s3, eo⟩
    have ha3 := s3 _ _ ha
    refine ⟨_, rfl, _, rfl, _, rfl, _, congrArg V.int hb, a, _, rfl, SqL.of ha3, fun c nc => ?_⟩
    rw [cut_hi]
    have sc := same_upd (o := .lst ((r.drop (3 * (r.length / 3))).map V.int)) nc
    refine ⟨o, c, _, _, rfl, rfl, sc _ _ eo, upd_same, ?_, fun p np => ?_⟩
    · rw [List.length_map, List.length_map, GM.acc_len, List.length_drop]
      exact Nat.le_of_lt (small1000 (by omega))
    refine q p _ (s3.free (sc.free np)) (s3.trans (sc.trans (same_upd np))) ?_
    rw [upd_same, lv_eq]
/-- at L0 stands the list of the levels of r, n behind the first -/
def LvAt (H0 H : Hp) (L0 : Addr) (r : List Int) (n : Nat) (pre : List (Addr × List Int)) (x : Addr) : Prop :=
  H L0 = some (.lst (pre.map (fun q => V.ref q.1) ++ [V.ref x])) ∧ (∀ q ∈ pre ++ [(x, GM.lvn r n)], H q.1 = some (.lst (q.2.map V.int)) ∧ H0 q.1 = none ∧ q.1 ≠ L0) ∧ pre.map Prod.snd = (List.range n).map (GM.lvn r) ∧ (∀ i, i < n → 2 < (GM.lvn r i).length)
theorem LvAt.last {H0 H : Hp} {L0 : Addr} {r : List Int} {n : Nat} {pre : List (Addr × List Int)} {x : Addr} (h : LvAt H0 H L0 r n pre x) : H x = some (.lst ((GM.lvn r n).map V.int)) ∧ H0 x = none ∧ x ≠ L0 :=
  h.2.1 (x, GM.lvn r n) (List.mem_append_right _ List.mem_cons_self)
theorem LvAt.same {H0 H H' : Hp} {L0 : Addr} {r : List Int} {n : Nat} {pre : List (Addr × List Int)} {x : Addr} (h : LvAt H0 H L0 r n pre x) (s : Same H H') : LvAt H0 H' L0 r n pre x :=
  ⟨s _ _ h.1, fun q hq => ⟨s _ _ (h.2.1 q hq).1, (h.2.1 q hq).2⟩, h.2.2⟩
theorem LvAt.len {H0 H : Hp} {L0 : Addr} {r : List Int} {n : Nat} {pre : List (Addr × List Int)} {x : Addr} (h : LvAt H0 H L0 r n pre x) : pre.length = n := by
  have := congrArg List.length h.2.2.1
  rw [List.length_map, List.length_map, List.length_range] at this
  exact this
/-- one level more -/
theorem LvAt.next {H0 H H' : Hp} {L0 : Addr} {r : List Int} {n : Nat} {pre : List (Addr × List Int)} {x y : Addr} (h : LvAt H0 H L0 r n pre x) (s : Same H H') (s0 : Same H0 H) (hl : 2 < (GM.lvn r n).length) (ny : H y = none) (ey : H' y = some (.lst ((GM.lv (GM.lvn r n)).map V.int))) :
    LvAt H0 (upd H' L0 (.lst ((pre.map (fun q => V.ref q.1) ++ [V.ref x]) ++ [V.ref y]))) L0 r (n + 1) (pre ++ [(x, GM.lvn r n)]) y := by
  have nyL : y ≠ L0 := (ne_of_none h.1 ny).symm
  refine ⟨?_, fun q hq => ?_, ?_, fun i hi => ?_⟩
  · rw [upd_same, List.map_append]
    rfl
  · rcases List.mem_append.mp hq with e | e
    · obtain ⟨a1, a2, a3⟩ := h.2.1 q e
      exact ⟨by rw [upd_ne a3]; exact s _ _ a1, a2, a3⟩
    · rw [List.mem_singleton] at e
      subst e
      exact ⟨by rw [upd_ne nyL]; exact ey, s0.free ny, nyL⟩
  · rw [List.map_append, h.2.2.1, List.range_succ, List.map_append]
    rfl
  · by_cases c : i < n
    · exact h.2.2.2 i c
    · rw [show i = n by omega]
      exact hl
def spLev (K : PySem.W.Frag) : Sp := fun vs H Q _ => ∃ (a : Addr) (r : List Int), vs = [.ref a] ∧ Sq3 K H a r ∧ r.length ≤ 101 ∧
  ∀ p H' n pre x, H p = none → Same H H' → LvAt H H' p r n pre x → (GM.lvn r n).length ≤ 2 → Q (.ref p) H'
theorem ok_levels_of (B : Bl mg) (L : LL K mg C CD za zl t73 t74 t75 tg_NEAR tg_CUT tg_UP tg_DOWN w dO esO nO) : FnOk P w K mg base CX0 3 (za 55) (zl 55) ["rows"] (spLev K) := by
  have G_level_behind : FnOk P w K mg base CX0 2 (za 56) (zl 56) ["rows"] spBehind := (ok_level_behind B L).mono (by decide)
  refine L.F_levels_of.ok sc_levels_of (fun vs H Q E h => ?_) (fun cdv A outer s H vs Q E hr h => ?_)
  · obtain ⟨a, r, rfl, _⟩ := h
    rfl
  obtain ⟨a, r, rfl, ha, hl, q⟩ := h
  refine ⟨_, (pss_cons (ps_set (i := 1) sc_levels_of.nd rfl (.inl rfl) (pe_lst (pa_cons (pe_callTy call_list_of (by rfl) B.list PyProof.Rows.boot_list (pa_cons (pv 0) pa_nil)) pa_nil)))
    (pss_cons (ps_while PassesOwn.never (pt_cmpR op_gt (pe_callB call_len_seq (by rfl) B.len PySem.boot_len (pa_cons (pe_ix ix_list (pv 1) (pe_un un_neg pe_int) (fun _ _ => rfl)) pa_nil)) pe_int (nomark _)) (pss_one (ps_expr (pe_bm PySem.F.plainAttrs_list PySem.F.slot_list_append PySem.F.type_list_append mt_append (pv 1) (pa_cons (pe_call G_level_behind hr (by rfl) L.m_level_behind L.F_level_behind.kp L.b_level_behind .nil pass0 (pa_cons (pe_ix ix_list (pv 1) (pe_un un_neg pe_int) (fun _ _ => rfl)) pa_nil)) pa_nil)))))
    (pss_one (ps_ret (pv 1))))), ?_⟩
  refine ⟨_, rfl, a, _, rfl, ha, fun l0 nl0 => ⟨(by show 1 ≤ sizeLine; decide), fun L0 nL0 => ?_⟩⟩
  have s0 := same_upd (o := .lst (r.map V.int)) nl0
  have s1 := s0.trans (same_upd (o := .lst [.ref l0]) nL0)
  have ne0 : l0 ≠ L0 := fun e => by
    subst e
    rw [upd_same] at nL0
    cases nL0
  have nLH : H L0 = none := s0.free nL0
  refine ⟨fun m σ H5 => ∃ (n : Nat) (pre : List (Addr × List Int)) (x : Addr), σ = [some (.ref a), some (.ref L0)] ∧ Same H H5 ∧ LvAt H H5 L0 r n pre x ∧ m + n = 300, ⟨300, 0, [], l0, rfl, s1, ⟨upd_same, fun q hq => ?_, rfl, fun i hi => absurd hi (Nat.not_lt_zero i)⟩, rfl⟩, ?_⟩
  · rw [List.nil_append, List.mem_singleton] at hq
    subst hq
    exact ⟨by rw [upd_ne ne0]; exact upd_same, nl0, ne0⟩
  rintro m σ H5 ⟨n, pre, x, rfl, s5, hL, hm⟩
  obtain ⟨ex, nx, nxL⟩ := hL.last
  have hln := GM.lvn_len r n hL.2.2.2
  refine ⟨_, rfl, _, rfl, L0, _, _, _, rfl, rfl, SqL.of hL.1, atI_last _ _, x, _, rfl, .inl (SqL.of ex), _, _, rfl, rfl, _, rfl, ite2 (fun c => ?_) (fun c => ?_)⟩
  · have c1 : (2 : Int) < (((GM.lvn r n).map V.int).length : Nat) := of_decide_eq_true c
    rw [List.length_map] at c1
    refine ⟨fun σ' H' => ∃ (pre : List (Addr × List Int)) (x : Addr), σ' = [some (.ref a), some (.ref L0)] ∧ Same H H' ∧ LvAt H H' L0 r (n + 1) pre x, fun σ' H' ⟨pre', x', e1, e2, e3⟩ => ⟨m - 1, by omega, n + 1, pre', x', e1, e2, e3, by omega⟩, ?_⟩
    refine ⟨_, rfl, .inl ⟨rfl, _, SqL.of hL.1⟩, _, rfl, _, rfl, L0, _, _, _, rfl, rfl, SqL.of hL.1, atI_last _ _, x, _, rfl, ex, by omega, fun y H6 ny s6 ey => ?_⟩
    refine ⟨L0, _, _, rfl, rfl, s6 _ _ hL.1, ?_, _, y, rfl, fun z u e => ?_, hL.next s6 s5 (by omega) ny ey⟩
    · rw [List.length_append, List.length_map, hL.len]
      exact small1000 (by show n + 1 ≤ 1000; omega)
    · rw [upd_ne (ne_of_none e nLH)]
      exact s6 _ _ (s5 _ _ e)
  · have c1 : ¬ (2 : Int) < (((GM.lvn r n).map V.int).length : Nat) := of_decide_eq_false (Bool.eq_false_iff.mpr c)
    rw [List.length_map] at c1
    exact ⟨_, rfl, q L0 H5 n pre x nLH s5 hL (by omega)⟩
end
section
variable {P : Program} {w : World} {K : PySem.W.Frag} {mg : Str → Option Value} {base : Heap}
variable {C : Addr} {CD : Addr} {za : Nat → Addr} {zl : Nat → FuncData} {t73 t74 t75 tg_NEAR tg_CUT tg_UP tg_DOWN : Tok} {dO : Addr} {esO : Array DictEntry} {nO : Nat}
def px (r : List Int) : Int := r.getD 0 0
def py (r : List Int) : Int := r.getD 1 0
theorem two_of {r : List Int} (h1 : 1 ≤ r.length) (h2 : r.length ≤ 2) : cutV (r.map V.int ++ [V.int 0]) none (some 2) = [.int (px r), .int (py r)] ∧ px r + py r = r.sum := by
  match r, h1, h2 with
  | [u], _, _ => exact ⟨rfl, by show u + 0 = u + 0; rfl⟩
  | [u, v], _, _ => exact ⟨rfl, by show u + v = u + (v + 0); omega⟩
theorem lvn_pos {r : List Int} (h : 1 ≤ r.length) : ∀ n, 1 ≤ (GM.lvn r n).length
  | 0 => h
  | n + 1 => by
    have := lvn_pos h n
    have h2 := GM.lv_len (GM.lvn r n)
    show 1 ≤ (GM.lv (GM.lvn r n)).length
    omega
theorem rol_all {o n : Int} (h0 : 0 ≤ n) : (GM.rol o n (kf n)).sum = o * n := by
  have hn : n < 2 ^ (Builtin.Int.intBits n) := by
    have c : ((2 ^ (Builtin.Int.intBits n) : Nat) : Int) = (2 : Int) ^ (Builtin.Int.intBits n) := PySem.W.kbt_cast _
    have : n.natAbs < 2 ^ (Builtin.Int.intBits n) := PyProof.Rows.natAbs_lt_pow_bits n
    omega
  have hp : (2 : Int) ^ (Builtin.Int.intBits n) ≤ 2 ^ (2 * (Builtin.Int.intBits n / 2) + 1) := GM.pow_le' (by omega)
  rw [GM.rol_sum]
  unfold kf
  rw [GM.s4_all h0 (by omega)]
def StepsAt (H : Hp) (l f : Addr) (ds : List Int) (n x y z : Int) (r : Int × List Str) : Prop := ∃ t0 t1 t2 t3 t4 : Addr, H l = some (.lst [.ref t0, .ref t1, .ref t2, .ref t3, .ref t4]) ∧ H t0 = some (.tup [.str "fours", .ref f]) ∧ H f = some (.lst (ds.map V.int)) ∧ H t1 = some (.tup [.str "levels", .int n]) ∧ H t2 = some (.tup [.str "pair", .int x, .int y]) ∧ H t3 = some (.tup [.str "product", .int z]) ∧ StepAt H t4 "round" r
theorem StepsAt.same {H H' : Hp} {l f : Addr} {ds : List Int} {n x y z : Int} {r : Int × List Str} (h : StepsAt H l f ds n x y z r) (s : Same H H') : StepsAt H' l f ds n x y z r := by
  obtain ⟨t0, t1, t2, t3, t4, e, e0, e1, e2, e3, e4, e5⟩ := h
  exact ⟨t0, t1, t2, t3, t4, s _ _ e, s _ _ e0, s _ _ e1, s _ _ e2, s _ _ e3, s _ _ e4, e5.same s⟩
def TimesAt (H : Hp) (l f : Addr) (sc tl : Nat) (a b : Int) (way : Str) (n : Nat) : Prop := GM.Ends (GM.rol (hd sc tl a) (hd sc tl b) (kf (hd sc tl b))) n ∧ StepsAt H l f (GM.fol (hd sc tl b) (kf (hd sc tl b))) ((n : Int) + 1) (px (GM.lvn (GM.rol (hd sc tl a) (hd sc tl b) (kf (hd sc tl b))) n)) (py (GM.lvn (GM.rol (hd sc tl a) (hd sc tl b) (kf (hd sc tl b))) n)) (hd sc tl a * hd sc tl b) (GR.rnd sc tl (sx sc tl a b) (hd sc tl a * hd sc tl b) (wp sc tl a + wp sc tl b) way false)
theorem hd_mul (sc : Nat) {tl : Nat} (a b : Int) (h4 : tl ≤ 24) : 0 ≤ hd sc tl a * hd sc tl b ∧ hd sc tl a * hd sc tl b < 2 ^ 50 := by
  have ka := hd_in sc a h4
  have kb := hd_in sc b h4
  have e := Int.mul_le_mul (show hd sc tl a ≤ 2 ^ 25 - 1 by omega) (show hd sc tl b ≤ 2 ^ 25 - 1 by omega) kb.1 (by decide)
  exact ⟨Int.mul_nonneg ka.1 kb.1, by omega⟩
def spTS (C : Addr) : Sp := fun vs H Q _ => ∃ (x : Addr) (sc tl : Nat) (a b : Int) (way : Str), vs = [.ref x, .int a, .int b, .str way] ∧ FAt C H x sc tl ∧
  (([a, b].all (hdv sc tl)) = false → ∀ l t H', H l = none → Same H H' → H' l = some (.lst [.ref t]) → StepAt H' t "told" (mulR sc tl a b way) → Q (.ref l) H') ∧
  (([a, b].all (hdv sc tl)) = true → ∀ l f n H', H l = none → H f = none → f ≠ l → Same H H' → TimesAt H' l f sc tl a b way n → Q (.ref l) H')
theorem ok_times_steps (B : Bl mg) (L : LL K mg C CD za zl t73 t74 t75 tg_NEAR tg_CUT tg_UP tg_DOWN w dO esO nO) : FnOk P w K mg base CX0 11 (za 57) (zl 57) ["form", "a", "b", "way"] (spTS C) := by
  have G_have_heads : FnOk P w K mg base CX0 10 (za 37) (zl 37) ["form", "words"] (spHH K C) := (ok_have_heads B L).mono (by decide)
  have G_plain_step : FnOk P w K mg base CX0 10 (za 39) (zl 39) ["name", "form", "op", "words", "way"] (spPS K C) := (ok_plain_step B L).mono (by decide)
  have G_head_of : FnOk P w K mg base CX0 10 (za 38) (zl 38) ["form", "word"] (spHO C) := (ok_head_of B L).mono (by decide)
  have G_rows_of : FnOk P w K mg base CX0 10 (za 53) (zl 53) ["one", "number"] spRows := (ok_rows_of B L).mono (by decide)
  have G_levels_of : FnOk P w K mg base CX0 10 (za 55) (zl 55) ["rows"] (spLev K) := (ok_levels_of B L).mono (by decide)
  have G_fours_of : FnOk P w K mg base CX0 10 (za 51) (zl 51) ["number"] spFours := (ok_fours_of B L).mono (by decide)
  have G_unlike_sign : FnOk P w K mg base CX0 10 (za 19) (zl 19) ["form", "a", "b"] (spUnl C) := (ok_unlike_sign B L).mono (by decide)
  have G_round_step : FnOk P w K mg base CX0 10 (za 40) (zl 40) ["form", "sign", "total", "power", "way", "more"] (spRS C) := (ok_round_step B L).mono (by decide)
  refine L.F_times_steps.ok sc_times_steps (fun vs H Q E h => ?_) (fun cdv A outer s H vs Q E hr h => ?_)
  · obtain ⟨x, sc, tl, a, b, way, rfl, _⟩ := h
    rfl
  obtain ⟨x, sc, tl, a, b, way, rfl, hF, qo, qr⟩ := h
  refine ⟨_, (pss_cons (ps_if (pt_not (pt_val (pe_call G_have_heads hr (by rfl) L.m_have_heads L.F_have_heads.kp L.b_have_heads .nil pass0 (pa_cons (pv 0) (pa_cons (pe_tup (pa_cons (pv 1) (pa_cons (pv 2) pa_nil))) pa_nil))))) (pss_one (ps_ret (pe_lst (pa_cons (pe_call G_plain_step hr (by rfl) L.m_plain_step L.F_plain_step.kp L.b_plain_step .nil pass0 (pa_cons pe_str (pa_cons (pv 0) (pa_cons pe_str (pa_cons (pe_tup (pa_cons (pv 1) (pa_cons (pv 2) pa_nil))) (pa_cons (pv 3) pa_nil)))))) pa_nil)))) pss_nil)
    (pss_cons (ps_asg (pe_call G_head_of hr (by rfl) L.m_head_of L.F_head_of.kp L.b_head_of .nil pass0 (pa_cons (pv 0) (pa_cons (pv 1) pa_nil))) (pg_tup (by rfl) (pgs_cons (pg_name (i := 4) sc_times_steps.nd rfl (.inl rfl)) (pgs_cons (pg_name (i := 5) sc_times_steps.nd rfl (.inl rfl)) pgs_nil))))
    (pss_cons (ps_asg (pe_call G_head_of hr (by rfl) L.m_head_of L.F_head_of.kp L.b_head_of .nil pass0 (pa_cons (pv 0) (pa_cons (pv 2) pa_nil))) (pg_tup (by rfl) (pgs_cons (pg_name (i := 6) sc_times_steps.nd rfl (.inl rfl)) (pgs_cons (pg_name (i := 7) sc_times_steps.nd rfl (.inl rfl)) pgs_nil))))
    (pss_cons (ps_set (i := 8) sc_times_steps.nd rfl (.inl rfl) (pe_call G_levels_of hr (by rfl) L.m_levels_of L.F_levels_of.kp L.b_levels_of .nil pass0 (pa_cons (pe_call G_rows_of hr (by rfl) L.m_rows_of L.F_rows_of.kp L.b_rows_of .nil pass0 (pa_cons (pv 4) (pa_cons (pv 6) pa_nil))) pa_nil)))
    (pss_cons (ps_asg (pe_slice sl_list (pe_lst (StX.pa_star (pe_ix ix_list (pv 8) (pe_un un_neg pe_int) (fun _ _ => rfl)) (pa_cons pe_int pa_nil))) po_none (po_some pe_int)) (pg_unl rfl (pgs_cons (pg_name (i := 9) sc_times_steps.nd rfl (.inl rfl)) (pgs_cons (pg_name (i := 10) sc_times_steps.nd rfl (.inl rfl)) pgs_nil))))
    (pss_cons (ps_set (i := 11) sc_times_steps.nd rfl (.inl rfl) (pe_op op_add (pv 9) (pv 10)))
    (pss_one (ps_ret (pe_lst (pa_cons (pe_tup (pa_cons pe_str (pa_cons (pe_call G_fours_of hr (by rfl) L.m_fours_of L.F_fours_of.kp L.b_fours_of .nil pass0 (pa_cons (pv 6) pa_nil)) pa_nil))) (pa_cons (pe_tup (pa_cons pe_str (pa_cons (pe_callB call_len_seq (by rfl) B.len PySem.boot_len (pa_cons (pv 8) pa_nil)) pa_nil))) (pa_cons (pe_tup (pa_cons pe_str (pa_cons (pv 9) (pa_cons (pv 10) pa_nil)))) (pa_cons (pe_tup (pa_cons pe_str (pa_cons (pv 11) pa_nil))) (pa_cons (pe_call G_round_step hr (by rfl) L.m_round_step L.F_round_step.kp L.b_round_step .nil pass0 (pa_cons (pv 0) (pa_cons (pe_call G_unlike_sign hr (by rfl) L.m_unlike_sign L.F_unlike_sign.kp L.b_unlike_sign .nil pass0 (pa_cons (pv 0) (pa_cons (pv 1) (pa_cons (pv 2) pa_nil)))) (pa_cons (pv 11) (pa_cons (pe_op op_add (pv 5) (pv 7)) (pa_cons (pv 3) (pa_cons pe_bl pa_nil))))))) pa_nil)))))))))))))), ?_⟩
  refine ⟨_, rfl, _, rfl, _, rfl, (by show 2 ≤ sizeLine; decide), fun t nt => ?_⟩
  have st := same_upd (o := .tup [.int a, .int b]) nt
  refine ⟨x, t, sc, tl, [a, b], rfl, hF.same st, .inl (.inl upd_same), Nat.le_of_ble_eq_true rfl, fun H1 s1 => ?_⟩
  have w1 := st.trans s1
  cases hr2 : [a, b].all (hdv sc tl) with
  | false =>
    refine ⟨_, rfl, iteT ?_⟩
    refine ⟨_, rfl, _, rfl, _, rfl, (by show 2 ≤ sizeLine; decide), fun u nu => ?_⟩
    have su := same_upd (o := .tup [.int a, .int b]) nu
    have w2 := w1.trans su
    refine ⟨_, rfl, x, u, sc, tl, "told", "times", way, [a, b], mulR sc tl a b way, rfl, hF.same w2, .inl (.inl (.inl upd_same)), (by unfold doneR; rfl), fun v H2 s2 P2 => ?_⟩
    refine ⟨(by show 1 ≤ sizeLine; decide), fun l nl => ?_⟩
    exact qo hr2 l v _ ((w2.trans s2).free nl) ((w2.trans s2).trans (same_upd nl)) upd_same (P2.same (same_upd nl))
  | true =>
    refine ⟨_, rfl, iteF ?_⟩
    obtain ⟨dx, hx, h1, h2, h3, h4⟩ := id hF
    have hab := List.all_eq_true.mp hr2
    have ra := hdv_real (hab a (by simp))
    have rb := hdv_real (hab b (by simp))
    have ka := hd_in sc a h4
    have kb := hd_in sc b h4
    have p200 : (2 : Int) ^ 25 ≤ 2 ^ 200 := GM.pow_le' (by decide)
    have kk := kf_le kb.1 (by omega)
    refine ⟨_, rfl, _, rfl, x, sc, tl, a, rfl, hF.same w1, ra.1, fun p1 H2 n2 s2 e2 => ?_⟩
    refine ⟨p1, _, rfl, .inl (.inl e2), rfl, _, _, rfl, _, _, rfl, rfl, ?_⟩
    have w2 := w1.trans s2
    refine ⟨_, rfl, _, rfl, x, sc, tl, b, rfl, hF.same w2, rb.1, fun p2 H3 n3 s3 e3 => ?_⟩
    refine ⟨p2, _, rfl, .inl (.inl e3), rfl, _, _, rfl, _, _, rfl, rfl, ?_⟩
    have w3 := w2.trans s3
    try simp only [L2.start, List.map_cons, List.map_nil, List.length_cons, List.length_nil, List.replicate_succ, List.replicate_zero, List.cons_append, List.nil_append, List.set_cons_succ, List.set_cons_zero, Nat.reduceAdd, Nat.reduceSub, Nat.zero_add]
    refine ⟨_, rfl, _, rfl, hd sc tl a, hd sc tl b, rfl, kb.1, by omega, ka.1, by omega, fun ro H4 n4 s4 e4 => ?_⟩
    refine ⟨ro, _, rfl, .inl (SqL.of e4), by rw [GM.rol_len]; exact kk, fun L0 H5 n pre y nL s5 hL hlen => ?_⟩
    have w5 := (w3.trans s4).trans s5
    have hE : GM.Ends (GM.rol (hd sc tl a) (hd sc tl b) (kf (hd sc tl b))) n := ⟨hL.2.2.2, hlen⟩
    have hpos := lvn_pos (r := GM.rol (hd sc tl a) (hd sc tl b) (kf (hd sc tl b))) (by rw [GM.rol_len]; unfold kf; omega) n
    have h2f := two_of hpos hlen
    rw [GM.lvn_sum, rol_all kb.1] at h2f
    obtain ⟨ey, ny, nyL⟩ := hL.last
    refine ⟨_, rfl, _, rfl, L0, _, _, _, rfl, rfl, SqL.of hL.1, atI_last _ _, y, _, rfl, .inr (SqL.of ey), ?_⟩
    refine ⟨(by show _ ≤ sizeLine; rw [List.length_append, List.length_map]; exact Nat.le_of_lt (small1000 (by show _ + 1 ≤ 1000; omega))), fun u nu => ?_⟩
    have su := same_upd (o := .lst ((GM.lvn (GM.rol (hd sc tl a) (hd sc tl b) (kf (hd sc tl b))) n).map V.int ++ [.int 0])) nu
    refine ⟨_, rfl, u, _, rfl, SqL.of upd_same, fun v nv => ?_⟩
    rw [h2f.1]
    have sv := same_upd (o := .lst [.int (px (GM.lvn (GM.rol (hd sc tl a) (hd sc tl b) (kf (hd sc tl b))) n)), .int (py (GM.lvn (GM.rol (hd sc tl a) (hd sc tl b) (kf (hd sc tl b))) n))]) nv
    refine ⟨v, _, rfl, SqL.of upd_same, rfl, _, _, rfl, _, _, rfl, rfl, ?_⟩
    have w6 := (w5.trans su).trans sv
    have hLs := su.trans sv
    have lL := hL.len
    try simp only [L2.start, List.map_cons, List.map_nil, List.length_cons, List.length_nil, List.replicate_succ, List.replicate_zero, List.cons_append, List.nil_append, List.set_cons_succ, List.set_cons_zero, Nat.reduceAdd, Nat.reduceSub, Nat.zero_add]
    refine ⟨_, rfl, _, rfl, _, _, rfl, rfl, gI h2f.2 ?_⟩
    try simp only [L2.start, List.map_cons, List.map_nil, List.length_cons, List.length_nil, List.replicate_succ, List.replicate_zero, List.cons_append, List.nil_append, List.set_cons_succ, List.set_cons_zero, Nat.reduceAdd, Nat.reduceSub, Nat.zero_add]
    refine ⟨_, rfl, hd sc tl b, rfl, kb.1, by omega, fun f H6 nf s6 ef => ⟨(by show 2 ≤ sizeLine; decide), fun t0 nt0 => ?_⟩⟩
    have st0 := same_upd (o := .tup [.str "fours", .ref f]) nt0
    have w7 := (w6.trans s6).trans st0
    refine ⟨_, rfl, L0, _, rfl, .inl (SqL.of (st0 _ _ (s6 _ _ (hLs _ _ hL.1)))), (by show 2 ≤ sizeLine; decide), fun t1 nt1 => ?_⟩
    have st1 := same_upd (o := .tup [.str "levels", .int ((((pre.map fun q => V.ref q.1) ++ [V.ref y]).length : Nat) : Int)]) nt1
    refine ⟨_, rfl, _, rfl, (by show 3 ≤ sizeLine; decide), fun t2 nt2 => ?_⟩
    have st2 := same_upd (o := .tup [.str "pair", .int (px (GM.lvn (GM.rol (hd sc tl a) (hd sc tl b) (kf (hd sc tl b))) n)), .int (py (GM.lvn (GM.rol (hd sc tl a) (hd sc tl b) (kf (hd sc tl b))) n))]) nt2
    refine ⟨_, rfl, (by show 2 ≤ sizeLine; decide), fun t3 nt3 => ?_⟩
    have st3 := same_upd (o := .tup [.str "product", .int (hd sc tl a * hd sc tl b)]) nt3
    have w8 := ((w7.trans st1).trans st2).trans st3
    refine ⟨_, rfl, _, rfl, _, rfl, _, rfl, x, sc, tl, a, b, rfl, hF.same w8, fun H7 s7 => ?_⟩
    have kab := hd_mul sc a b h4
    have ia := wp_in h1 h2 h4 ra.1
    have ib := wp_in h1 h2 h4 rb.1
    refine ⟨_, rfl, _, rfl, _, rfl, _, _, rfl, rfl, _, rfl, x, sc, tl, sx sc tl a b, hd sc tl a * hd sc tl b, wp sc tl a + wp sc tl b, way, false, rfl, hF.same (w8.trans s7), sx_01 sc tl a b, fit_lt kab.1 kab.2 (by decide), by omega, by omega, (fun z => nomatch z), fun t4 H8 s8 P8 => ⟨(by show 5 ≤ sizeLine; decide), fun l nl => ?_⟩⟩
    have sl := same_upd (o := .lst [.ref t0, .ref t1, .ref t2, .ref t3, .ref t4]) nl
    have z3 := (s7.trans s8).trans sl
    have z2 := st3.trans z3
    have z1 := st2.trans z2
    have z0 := st1.trans z1
    have zf := st0.trans z0
    refine qr hr2 l f n _ (((w8.trans s7).trans s8).free nl) (w6.free nf) (ne_of_none (s8 _ _ (s7 _ _ (st3 _ _ (st2 _ _ (st1 _ _ (st0 _ _ ef)))))) nl) (w8.trans z3) ⟨hE, t0, t1, t2, t3, t4, upd_same, z0 _ _ upd_same, zf _ _ ef, ?_, z2 _ _ upd_same, z3 _ _ upd_same, P8.same sl⟩
    refine (z1 _ _ upd_same).trans ?_
    rw [List.length_append, List.length_map, lL]
    rfl
end
section
variable {P : Program} {w : World} {K : PySem.W.Frag} {mg : Str → Option Value} {base : Heap}
variable {C : Addr} {CD : Addr} {za : Nat → Addr} {zl : Nat → FuncData} {t73 t74 t75 tg_NEAR tg_CUT tg_UP tg_DOWN : Tok} {dO : Addr} {esO : Array DictEntry} {nO : Nat}
theorem at4i {x0 x1 x2 x3 : Int} {r : Int} (h0 : 0 ≤ r) (h1 : r < 4) : ∃ z : Int, atI ([.int x0, .int x1, .int x2, .int x3] : List V) r = some (.int z) := by
  have : r = 0 ∨ r = 1 ∨ r = 2 ∨ r = 3 := by omega
  rcases this with z | z | z | z <;> subst z
  · exact ⟨_, rfl⟩
  · exact ⟨_, rfl⟩
  · exact ⟨_, rfl⟩
  · exact ⟨_, rfl⟩
theorem box_neF {C b x : Addr} {H : Hp} {sc tl : Nat} {c : Int} (F : FAt C H x sc tl) (B : BoxAt c H b) : x ≠ b := fun z => by
  obtain ⟨dx, hx, _⟩ := F
  obtain ⟨_, _, _, e, _⟩ := B
  rw [← z, hx] at e
  cases e
theorem word_rng {sc tl : Nat} {s m t : Int} (hs : s = 0 ∨ s = 1) (m0 : 0 ≤ m) (m1 : m < 2 ^ sc) (t0 : 0 ≤ t) (t1 : t < 2 ^ tl) : 0 ≤ s * 2 ^ (sc + tl) + (m * 2 ^ tl + t) ∧ s * 2 ^ (sc + tl) + (m * 2 ^ tl + t) < 2 ^ (1 + sc + tl) ∧ sz sc tl (s * 2 ^ (sc + tl) + (m * 2 ^ tl + t)) = m * 2 ^ tl + t ∧ (m < 2 ^ sc - 1 → m * 2 ^ tl + t < GM.topS sc tl) := by
  have hp := GM.pow_pos' tl
  have h1 : (m + 1) * 2 ^ tl ≤ 2 ^ sc * 2 ^ tl := Int.mul_le_mul_of_nonneg_right (by omega) (by omega)
  rw [← GM.pow_add', Int.add_mul, Int.one_mul] at h1
  have h0 : 0 ≤ m * 2 ^ tl := Int.mul_nonneg m0 (by omega)
  have := GM.mk_parts (m := sc) (t := tl) (s := s) (r := m * 2 ^ tl + t) hs (by omega) (by omega)
  refine ⟨this.1, this.2.1, this.2.2.2, fun z => ?_⟩
  have h2 : (m + 1) * 2 ^ tl ≤ (2 ^ sc - 1) * 2 ^ tl := Int.mul_le_mul_of_nonneg_right (by omega) (by omega)
  rw [Int.add_mul, Int.one_mul] at h2
  unfold GM.topS
  omega
def spPlain83 (C : Addr) : Sp := fun vs H Q _ => ∃ (b x : Addr) (sc tl : Nat) (z c : Int), vs = [.ref b, .ref x, .int z] ∧ FAt C H x sc tl ∧ BoxAt c H b ∧ c ≤ 900000000 ∧
  ∀ (r : Int) (H' : Hp), sz sc tl r < GM.topS sc tl → 2 ^ tl ≤ sz sc tl r → BoxAt (c + 20) H' b → Keep b H H' → Q (.int r) H'
theorem ok__law_plain (B : Bl mg) (L : LL K mg C CD za zl t73 t74 t75 tg_NEAR tg_CUT tg_UP tg_DOWN w dO esO nO) : FnOk P w K mg base CX0 3 (za 62) (zl 62) ["_law_box_here", "_law_form", "_law_scale"] (spPlain83 C) := by
  have G__law_take : FnOk P w K mg base CX0 2 (za 59) (zl 59) ["_law_box_here", "_law_size"] (spTake 2) := (ok_take L.F__law_take L.b__law_take L.m__law_take B 2).mono (by decide)
  have G_Form_top : FnOk P w K mg base CX0 2 (za 69) (zl 69) ["self"] (spTop C) := (ok_Form_top B L).mono (by decide)
  have G_Form_word_of : FnOk P w K mg base CX0 2 (za 71) (zl 71) ["self", "sign", "scale", "tail"] (spWordOf C) := (ok_Form_word_of B L).mono (by decide)
  refine L.F__law_plain.ok sc__law_plain (fun vs H Q E h => ?_) (fun cdv A outer s H vs Q E hr h => ?_)
  · obtain ⟨b, x, sc, tl, z, c, rfl, _⟩ := h
    rfl
  obtain ⟨b, x, sc, tl, z, c, rfl, hF, hB, hc, q⟩ := h
  refine ⟨_, (pss_cons (ps_set (i := 3) sc__law_plain.nd rfl (.inl rfl) (pe_fld (pv 1) rfl))
    (pss_cons (ps_set (i := 4) sc__law_plain.nd rfl (.inl rfl) (pe_lst (pa_cons (pe_call G__law_take hr (by rfl) L.m__law_take L.F__law_take.kp L.b__law_take .nil pass0 (pa_cons (pv 0) (pa_cons (pe_op op_oneShl pe_int (pv 3)) pa_nil))) (pa_cons (pe_op op_oneShl pe_int (pe_call G__law_take hr (by rfl) L.m__law_take L.F__law_take.kp L.b__law_take .nil pass0 (pa_cons (pv 0) (pa_cons (pv 3) pa_nil)))) (pa_cons (pe_op op_sub (pe_op op_sub (pe_op op_oneShl pe_int (pv 3)) pe_int) (pe_call G__law_take hr (by rfl) L.m__law_take L.F__law_take.kp L.b__law_take .nil pass0 (pa_cons (pv 0) (pa_cons pe_int pa_nil)))) pa_nil)))))
    (pss_cons (ps_expr (pe_bm PySem.F.plainAttrs_list PySem.F.slot_list_append PySem.F.type_list_append mt_append (pv 4) (pa_cons (pe_call G__law_take hr (by rfl) L.m__law_take L.F__law_take.kp L.b__law_take .nil pass0 (pa_cons (pv 0) (pa_cons pe_int pa_nil))) pa_nil)))
    (pss_cons (ps_set (i := 5) sc__law_plain.nd rfl (.inl rfl) (pe_callB (call_max2 rfl) (by rfl) B.max boot_max (pa_cons pe_int (pa_cons (pe_callB (call_min2 rfl) (by rfl) B.min boot_min (pa_cons (pe_op op_sub (pe_meth0 (pv 1) L.T.cl L.M_Form_top G_Form_top hr L.b_Form_top .nil pass0) pe_int) (pa_cons (pv 2) pa_nil))) pa_nil))))
    (pss_one (ps_ret (pe_meth (pv 1) L.T.cl L.M_Form_word_of G_Form_word_of hr L.b_Form_word_of .nil pass0 (pa_cons (pe_call G__law_take hr (by rfl) L.m__law_take L.F__law_take.kp L.b__law_take .nil pass0 (pa_cons (pv 0) (pa_cons pe_int pa_nil))) (pa_cons (pv 5) (pa_cons (pe_op op_mod (pe_ix ix_list (pv 4) (pe_call G__law_take hr (by rfl) L.m__law_take L.F__law_take.kp L.b__law_take .nil pass0 (pa_cons (pv 0) (pa_cons pe_int pa_nil))) (fun _ _ => rfl)) (pe_op op_oneShl pe_int (pv 3))) pa_nil)))))))))), ?_⟩
  have nxb := box_neF hF hB
  obtain ⟨dx, hx, h1, h2, h3, h4⟩ := id hF
  have pT := GM.pow_pos' tl
  have pT24 : (2 : Int) ^ tl ≤ 2 ^ 24 := GM.pow_le' h4
  have e14 : (10000000 : Int) ^ 2 = 100000000000000 := by decide
  have pS4 : (2 : Int) ^ 2 ≤ 2 ^ sc := GM.pow_le' h1
  refine ⟨_, rfl, x, C, dx, _, _, rfl, hx, L.T.cl, L.T.nt, fl_t _ _, ?_⟩
  try simp only [L2.start, List.map_cons, List.map_nil, List.length_cons, List.length_nil, List.replicate_succ, List.replicate_zero, List.cons_append, List.nil_append, List.set_cons_succ, List.set_cons_zero, Nat.reduceAdd, Nat.reduceSub, Nat.zero_add]
  refine ⟨_, rfl, _, rfl, tl, rfl, rfl, by omega, b, _, _, rfl, hB, (by omega), (by rw [e14]; omega), (by omega), (by omega), (by decide), fun r1 H1 u1 v1 B1 k1 => ?_⟩
  replace B1 := bx2 B1
  refine ⟨_, rfl, _, rfl, b, _, _, rfl, B1, (by omega), (by rw [e14]; omega), (by omega), (by omega), (by decide), fun r2 H2 u2 v2 B2 k2 => ?_⟩
  replace B2 := bx2 B2
  have r2n : ((r2.toNat : Nat) : Int) = r2 := Int.toNat_of_nonneg u2
  refine ⟨r2.toNat, rfl, congrArg V.int r2n.symm, by omega, ?_⟩
  refine ⟨_, rfl, tl, rfl, rfl, by omega, _, _, rfl, rfl, _, rfl, b, _, _, rfl, B2, (by omega), (by rw [e14]; omega), (by omega), (by omega), (by decide), fun r3 H3 u3 v3 B3 k3 => ?_⟩
  replace B3 := bx2 B3
  refine ⟨_, _, rfl, rfl, (by show 3 ≤ sizeLine; decide), fun s1 n1 => ?_⟩
  have n1b : s1 ≠ b := (B3.ne n1).symm
  have B3' := B3.same (same_upd (o := .lst [.int r1, .int (2 ^ r2.toNat), .int (2 ^ tl - 1 - r3)]) n1)
  show gName 4 _ _ _ _
  try simp only [L2.start, List.map_cons, List.map_nil, List.length_cons, List.length_nil, List.replicate_succ, List.replicate_zero, List.cons_append, List.nil_append, List.set_cons_succ, List.set_cons_zero, Nat.reduceAdd, Nat.reduceSub, Nat.zero_add]
  refine ⟨_, rfl, .inl ⟨rfl, _, SqL.of upd_same⟩, _, rfl, b, _, _, rfl, B3', (by omega), (by rw [e14]; omega), (by omega), (by omega), (by decide), fun r4 H4 u4 v4 B4 k4 => ?_⟩
  replace B4 := bx2 B4
  have es := k4 _ _ upd_same n1b
  refine ⟨s1, _, _, rfl, rfl, es, (by show 3 < sizeLine; decide), ?_⟩
  have kA : Keep b H (upd H3 s1 (.lst [.int r1, .int (2 ^ r2.toNat), .int (2 ^ tl - 1 - r3)])) := ((k1.trans k2).trans k3).trans (Keep.new n1)
  have s1n : H s1 = none := Keep.none ((k1.trans k2).trans k3) n1b n1
  have kB : Keep b H (upd H4 s1 (.lst ([.int r1, .int (2 ^ r2.toNat), .int (2 ^ tl - 1 - r3)] ++ [.int r4]))) := fun y u e ny => by
    rw [upd_ne (ne_of_none e s1n)]
    exact (kA.trans k4) y u e ny
  have B5 : BoxAt (c + 2 + 2 + 2 + 2) (upd H4 s1 (.lst ([.int r1, .int (2 ^ r2.toNat), .int (2 ^ tl - 1 - r3)] ++ [.int r4]))) b := B4.at (upd_ne n1b.symm)
  have e5 : (upd H4 s1 (.lst ([.int r1, .int (2 ^ r2.toNat), .int (2 ^ tl - 1 - r3)] ++ [.int r4]))) s1 = some (.lst [.int r1, .int (2 ^ r2.toNat), .int (2 ^ tl - 1 - r3), .int r4]) := upd_same
  dsimp only
  obtain ⟨H5, h5⟩ : ∃ H5, H5 = upd H4 s1 (.lst ([.int r1, .int (2 ^ r2.toNat), .int (2 ^ tl - 1 - r3)] ++ [.int r4])) := ⟨_, rfl⟩
  rw [← h5] at kB B5 e5 ⊢
  clear h5 es B4 B3' B3 B2 B1
  have F5 := hF.keep kB nxb
  have hx5 := kB _ _ hx nxb
  try simp only [L2.start, List.map_cons, List.map_nil, List.length_cons, List.length_nil, List.replicate_succ, List.replicate_zero, List.cons_append, List.nil_append, List.set_cons_succ, List.set_cons_zero, Nat.reduceAdd, Nat.reduceSub, Nat.zero_add]
  refine ⟨_, rfl, x, dx, _, rfl, hx5, rfl, x, sc, tl, rfl, F5, _, _, rfl, rfl, _, rfl, _, _, rfl, ?_⟩
  refine ⟨_, _, rfl, ?_⟩
  obtain ⟨hi, ehi, hi0, hi1⟩ : ∃ hi : Int, (if (if z < 2 ^ sc - 1 - 1 then z else 2 ^ sc - 1 - 1) > 1 then (if z < 2 ^ sc - 1 - 1 then z else 2 ^ sc - 1 - 1) else 1) = hi ∧ 1 ≤ hi ∧ hi < 2 ^ sc - 1 := ⟨_, rfl, by split <;> omega, by split <;> split <;> omega⟩
  dsimp only
  rw [ehi]
  clear ehi
  try simp only [L2.start, List.map_cons, List.map_nil, List.length_cons, List.length_nil, List.replicate_succ, List.replicate_zero, List.cons_append, List.nil_append, List.set_cons_succ, List.set_cons_zero, Nat.reduceAdd, Nat.reduceSub, Nat.zero_add]
  refine ⟨_, rfl, x, dx, _, rfl, hx5, rfl, _, rfl, b, _, _, rfl, B5, (by omega), (by rw [e14]; omega), (by omega), (by omega), (by decide), fun r5 H6 u5 v5 B6 k6 => ?_⟩
  replace B6 := bx2 B6
  refine ⟨_, rfl, _, rfl, _, rfl, b, _, _, rfl, B6, (by omega), (by rw [e14]; omega), (by omega), (by omega), (by decide), fun r6 H7 u6 v6 B7 k7 => ?_⟩
  replace B7 := bx2 B7
  have e7 := k7 _ _ (k6 _ _ e5 n1b) n1b
  have F7 := (F5.keep k6 nxb).keep k7 nxb
  obtain ⟨wd, hw⟩ := at4i (x0 := r1) (x1 := 2 ^ r2.toNat) (x2 := 2 ^ tl - 1 - r3) (x3 := r4) u6 v6
  refine ⟨s1, _, _, _, rfl, rfl, SqL.of e7, hw, ?_⟩
  refine ⟨_, rfl, tl, rfl, rfl, by omega, _, _, rfl, rfl, pT, ?_⟩
  have hs01 : r5 = 0 ∨ r5 = 1 := by omega
  have m0 := Int.emod_nonneg wd (show (2 : Int) ^ tl ≠ 0 by omega)
  have m1 := Int.emod_lt_of_pos wd pT
  have wr := word_rng (sc := sc) (tl := tl) (m := hi) hs01 (by omega) (by omega) m0 m1
  refine ⟨x, sc, tl, _, _, _, rfl, F7, hs01, (by omega), (by omega), m0, m1, ?_⟩
  have hh : 1 * 2 ^ tl ≤ hi * 2 ^ tl := Int.mul_le_mul_of_nonneg_right (by omega) (by omega)
  exact q _ _ (by rw [wr.2.2.1]; exact wr.2.2.2 (by omega)) (by rw [wr.2.2.1]; omega) (B7.mono (by omega)) ((kB.trans k6).trans k7)
end
section
variable {P : Program} {w : World} {K : PySem.W.Frag} {mg : Str → Option Value} {base : Heap}
variable {C : Addr} {CD : Addr} {za : Nat → Addr} {zl : Nat → FuncData} {t73 t74 t75 tg_NEAR tg_CUT tg_UP tg_DOWN : Tok} {dO : Addr} {esO : Array DictEntry} {nO : Nat}
theorem at2i {x0 x1 : Int} {r : Int} (h0 : 0 ≤ r) (h1 : r < 2) : ∃ z : Int, atI ([.int x0, .int x1] : List V) r = some (.int z) := by
  have : r = 0 ∨ r = 1 := by omega
  rcases this with z | z <;> subst z
  · exact ⟨_, rfl⟩
  · exact ⟨_, rfl⟩
theorem at2P {P : Int → Prop} {x0 x1 : Int} {r : Int} (h0 : 0 ≤ r) (h1 : r < 2) (p0 : P x0) (p1 : P x1) : ∃ z : Int, atI ([.int x0, .int x1] : List V) r = some (.int z) ∧ P z := by
  have : r = 0 ∨ r = 1 := by omega
  rcases this with z | z <;> subst z
  · exact ⟨_, rfl, p0⟩
  · exact ⟨_, rfl, p1⟩
theorem xor_small {k j : Nat} {n w : Int} (h0 : 0 ≤ n) (h1 : n % 2 ^ k < 2 ^ j) (w0 : 0 ≤ w) (w1 : w < 2 ^ j) (hjk : j ≤ k) : Builtin.bitXor n w % 2 ^ k < 2 ^ j := by
  obtain ⟨m, rfl⟩ := Int.eq_ofNat_of_zero_le h0
  obtain ⟨u, rfl⟩ := Int.eq_ofNat_of_zero_le w0
  have pj := GM.pow_pos' j
  have pk := GM.pow_pos' k
  have bx : Builtin.bitXor ((m / 2 ^ j : Nat) : Int) ((0 : Nat) : Int) = ((m / 2 ^ j : Nat) : Int) := by
    rw [bitXor_and]
    show ((m / 2 ^ j : Nat) : Int) + ((0 : Nat) : Int) - 2 * (((m / 2 ^ j) &&& 0 : Nat) : Int) = _
    rw [Nat.and_zero]
    omega
  have cj : ((2 ^ j : Nat) : Int) = (2 : Int) ^ j := PySem.W.kbt_cast _
  have u0 : u / 2 ^ j = 0 := Nat.div_eq_of_lt (by rw [← cj] at w1; omega)
  have e := xor_high j m u
  rw [u0, bx] at e
  generalize Builtin.bitXor (m : Int) (u : Int) = X at *
  have em : ((m / 2 ^ j : Nat) : Int) = (m : Int) / 2 ^ j := by rw [Int.natCast_ediv, cj]
  rw [em] at e
  have k1 := Int.emod_add_mul_ediv X (2 ^ j)
  have k2 := Int.emod_add_mul_ediv (m : Int) (2 ^ k)
  have x0 := Int.emod_nonneg X (show (2 : Int) ^ j ≠ 0 by omega)
  have x1 := Int.emod_lt_of_pos X pj
  have r0 := Int.emod_nonneg (m : Int) (show (2 : Int) ^ k ≠ 0 by omega)
  have ep : (2 : Int) ^ k = 2 ^ (k - j) * 2 ^ j := by rw [← GM.pow_add']; congr 1; omega
  have e2 : (m : Int) / 2 ^ j = (m : Int) / 2 ^ k * 2 ^ (k - j) := by
    have : (m : Int) = (m : Int) % 2 ^ k + ((m : Int) / 2 ^ k * 2 ^ (k - j)) * 2 ^ j := by
      rw [Int.mul_assoc, ← ep, Int.mul_comm ((m : Int) / 2 ^ k)]
      omega
    generalize (m : Int) / 2 ^ k * 2 ^ (k - j) = y at *
    generalize (m : Int) % 2 ^ k = r at *
    rw [this, Int.add_mul_ediv_right _ _ (by omega), Int.ediv_eq_zero_of_lt r0 h1]
    omega
  have hjk2 : (2 : Int) ^ j ≤ 2 ^ k := GM.pow_le' hjk
  rw [e, e2] at k1
  generalize (m : Int) / 2 ^ k = y at *
  have e5 : (2 : Int) ^ j * (y * 2 ^ (k - j)) = y * 2 ^ k := by rw [ep, Int.mul_comm, Int.mul_assoc]
  rw [e5] at k1
  generalize X % 2 ^ j = r2 at *
  rw [← k1, Int.add_mul_emod_self_right, Int.emod_eq_of_lt x0 (by omega)]
  exact x1
def spPair83 (C : Addr) : Sp := fun vs H Q _ => ∃ (b x : Addr) (sc tl case : Nat) (c : Int), vs = [.ref b, .ref x, .int (case : Int)] ∧ FAt C H x sc tl ∧ 5 ≤ sc ∧ 8 ≤ tl ∧ case < 12 ∧ BoxAt c H b ∧ c ≤ 700000000 ∧
  ∀ (t : Addr) (va vb : Int) (H' : Hp), H' t = some (.tup [.int va, .int vb]) → sz sc tl vb < GM.topS sc tl → BoxAt (c + 200) H' b → Keep b H H' → Q (.ref t) H'
theorem ok__law_pair (B : Bl mg) (L : LL K mg C CD za zl t73 t74 t75 tg_NEAR tg_CUT tg_UP tg_DOWN w dO esO nO) : FnOk P w K mg base CX0 5 (za 63) (zl 63) ["_law_box_here", "_law_form", "_law_case"] (spPair83 C) := by
  have G__law_take : FnOk P w K mg base CX0 4 (za 59) (zl 59) ["_law_box_here", "_law_size"] (spTake 2) := (ok_take L.F__law_take L.b__law_take L.m__law_take B 2).mono (by decide)
  have G__law_plain : FnOk P w K mg base CX0 4 (za 62) (zl 62) ["_law_box_here", "_law_form", "_law_scale"] (spPlain83 C) := (ok__law_plain B L).mono (by decide)
  have G_Form_top : FnOk P w K mg base CX0 4 (za 69) (zl 69) ["self"] (spTop C) := (ok_Form_top B L).mono (by decide)
  have G_Form_bias : FnOk P w K mg base CX0 4 (za 68) (zl 68) ["self"] (spBias C) := (ok_Form_bias B L).mono (by decide)
  have G_Form_turned : FnOk P w K mg base CX0 4 (za 77) (zl 77) ["self", "word"] (spTurned C) := (ok_Form_turned B L).mono (by decide)
  have G_Form_greatest : FnOk P w K mg base CX0 4 (za 75) (zl 75) ["self", "sign"] (spNm C mGr tGr) := (ok_Form_greatest B L).mono (by decide)
  have G_Form_word_of : FnOk P w K mg base CX0 4 (za 71) (zl 71) ["self", "sign", "scale", "tail"] (spWordOf C) := (ok_Form_word_of B L).mono (by decide)
  refine L.F__law_pair.ok sc__law_pair (fun vs H Q E h => ?_) (fun cdv A outer s H vs Q E hr h => ?_)
  · obtain ⟨b, x, sc, tl, case, c, rfl, _⟩ := h
    rfl
  obtain ⟨b, x, sc, tl, case, c, rfl, hF, h5, h8, hcase, hB, hc, q⟩ := h
  refine ⟨_, (pss_cons (ps_asg (pe_tup (pa_cons (pe_fld (pv 1) rfl) (pa_cons (pe_meth0 (pv 1) L.T.cl L.M_Form_bias G_Form_bias hr L.b_Form_bias .nil pass0) pa_nil))) (pg_tup (by rfl) (pgs_cons (pg_name (i := 3) sc__law_pair.nd rfl (.inr rfl)) (pgs_cons (pg_name (i := 4) sc__law_pair.nd rfl (.inl rfl)) pgs_nil))))
    (pss_cons (ps_set (i := 5) sc__law_pair.nd rfl (.inr rfl) (pe_op op_sub (pe_op op_add (pv 4) (pe_call G__law_take hr (by rfl) L.m__law_take L.F__law_take.kp L.b__law_take .nil pass0 (pa_cons (pv 0) (pa_cons pe_int pa_nil)))) pe_int))
    (pss_cons (ps_set (i := 6) sc__law_pair.nd rfl (.inl rfl) (pe_ix ix_list (pe_lst (pa_cons (pe_op op_add (pe_op op_add (pv 3) pe_int) (pe_call G__law_take hr (by rfl) L.m__law_take L.F__law_take.kp L.b__law_take .nil pass0 (pa_cons (pv 0) (pa_cons pe_int pa_nil)))) (pa_cons (pe_op op_add (pe_op op_add (pv 3) pe_int) (pe_call G__law_take hr (by rfl) L.m__law_take L.F__law_take.kp L.b__law_take .nil pass0 (pa_cons (pv 0) (pa_cons pe_int pa_nil)))) (pa_cons pe_int (pa_cons pe_int pa_nil))))) (pe_callB (call_min2 rfl) (by rfl) B.min boot_min (pa_cons (pv 2) (pa_cons pe_int pa_nil))) (fun _ _ => rfl)))
    (pss_cons (ps_set (i := 7) sc__law_pair.nd rfl (.inl rfl) (pe_call G__law_plain hr (by rfl) L.m__law_plain L.F__law_plain.kp L.b__law_plain .nil pass0 (pa_cons (pv 0) (pa_cons (pv 1) (pa_cons (pv 5) pa_nil)))))
    (pss_cons (ps_if (pt_cmpR op_lt (pv 2) pe_int (nomark _)) (pss_one (ps_ret (pe_tup (pa_cons (pv 7) (pa_cons (pe_call G__law_plain hr (by rfl) L.m__law_plain L.F__law_plain.kp L.b__law_plain .nil pass0 (pa_cons (pv 0) (pa_cons (pv 1) (pa_cons (pe_op op_sub (pv 5) (pv 6)) pa_nil)))) pa_nil))))) pss_nil)
    (pss_cons (ps_if (pt_cmpR op_eq (pv 2) pe_int (nomark _)) (pss_one (ps_ret (pe_tup (pa_cons (pv 7) (pa_cons (pe_callB (call_max2 rfl) (by rfl) B.max boot_max (pa_cons pe_int (pa_cons (pe_op op_sub (pe_meth (pv 1) L.T.cl L.M_Form_turned G_Form_turned hr L.b_Form_turned .nil pass0 (pa_cons (pv 7) pa_nil)) (pe_call G__law_take hr (by rfl) L.m__law_take L.F__law_take.kp L.b__law_take .nil pass0 (pa_cons (pv 0) (pa_cons pe_int pa_nil)))) pa_nil))) pa_nil))))) pss_nil)
    (pss_cons (ps_set (i := 8) sc__law_pair.nd rfl (.inl rfl) (pe_meth (pv 1) L.T.cl L.M_Form_word_of G_Form_word_of hr L.b_Form_word_of .nil pass0 (pa_cons (pe_call G__law_take hr (by rfl) L.m__law_take L.F__law_take.kp L.b__law_take .nil pass0 (pa_cons (pv 0) (pa_cons pe_int pa_nil))) (pa_cons pe_int (pa_cons (pe_op op_add pe_int (pe_call G__law_take hr (by rfl) L.m__law_take L.F__law_take.kp L.b__law_take .nil pass0 (pa_cons (pv 0) (pa_cons (pe_op op_sub (pe_op op_oneShl pe_int (pv 3)) pe_int) pa_nil)))) pa_nil)))))
    (pss_cons (ps_if (pt_cmpR op_lt (pv 2) pe_int (nomark _)) (pss_one (ps_ret (pe_tup (pa_cons (pv 8) (pa_cons (pe_ix ix_list (pe_lst (pa_cons (pe_call G__law_plain hr (by rfl) L.m__law_plain L.F__law_plain.kp L.b__law_plain .nil pass0 (pa_cons (pv 0) (pa_cons (pv 1) (pa_cons (pe_op op_add pe_int (pe_call G__law_take hr (by rfl) L.m__law_take L.F__law_take.kp L.b__law_take .nil pass0 (pa_cons (pv 0) (pa_cons pe_int pa_nil)))) pa_nil)))) (pa_cons (pe_op op_xor (pv 8) (pe_op op_add pe_int (pe_call G__law_take hr (by rfl) L.m__law_take L.F__law_take.kp L.b__law_take .nil pass0 (pa_cons (pv 0) (pa_cons pe_int pa_nil))))) pa_nil))) (pe_op op_sub (pv 2) pe_int) (fun _ _ => rfl)) pa_nil))))) pss_nil)
    (pss_cons (ps_if (pt_cmpR op_eq (pv 2) pe_int (nomark _)) (pss_one (ps_ret (pe_tup (pa_cons (pe_meth (pv 1) L.T.cl L.M_Form_greatest G_Form_greatest hr L.b_Form_greatest .nil pass0 (pa_cons (pe_call G__law_take hr (by rfl) L.m__law_take L.F__law_take.kp L.b__law_take .nil pass0 (pa_cons (pv 0) (pa_cons pe_int pa_nil))) pa_nil)) (pa_cons (pe_call G__law_plain hr (by rfl) L.m__law_plain L.F__law_plain.kp L.b__law_plain .nil pass0 (pa_cons (pv 0) (pa_cons (pv 1) (pa_cons (pe_op op_sub (pe_op op_sub (pe_meth0 (pv 1) L.T.cl L.M_Form_top G_Form_top hr L.b_Form_top .nil pass0) pe_int) (pe_call G__law_take hr (by rfl) L.m__law_take L.F__law_take.kp L.b__law_take .nil pass0 (pa_cons (pv 0) (pa_cons (pe_op op_add (pv 3) pe_int) pa_nil)))) pa_nil)))) pa_nil))))) pss_nil)
    (pss_cons (ps_if (pt_cmpR op_lt (pv 2) pe_int (nomark _)) (pss_cons (ps_set (i := 9) sc__law_pair.nd rfl (.inl rfl) (pe_ix ix_list (pe_lst (pa_cons pe_int (pa_cons (pe_op op_sub (pe_meth0 (pv 1) L.T.cl L.M_Form_top G_Form_top hr L.b_Form_top .nil pass0) pe_int) pa_nil))) (pe_op op_sub (pv 2) pe_int) (fun _ _ => rfl)))
    (pss_cons (ps_set (i := 10) sc__law_pair.nd rfl (.inl rfl) (pe_callB (call_max2 rfl) (by rfl) B.max boot_max (pa_cons pe_int (pa_cons (pe_callB (call_min2 rfl) (by rfl) B.min boot_min (pa_cons (pe_op op_sub (pe_meth0 (pv 1) L.T.cl L.M_Form_top G_Form_top hr L.b_Form_top .nil pass0) pe_int) (pa_cons (pe_op op_sub (pe_op op_add (pv 4) (pe_call G__law_take hr (by rfl) L.m__law_take L.F__law_take.kp L.b__law_take .nil pass0 (pa_cons (pv 0) (pa_cons (pv 4) pa_nil)))) (pe_op op_fdiv (pv 4) pe_int)) pa_nil))) pa_nil))))
    (pss_one (ps_ret (pe_tup (pa_cons (pe_call G__law_plain hr (by rfl) L.m__law_plain L.F__law_plain.kp L.b__law_plain .nil pass0 (pa_cons (pv 0) (pa_cons (pv 1) (pa_cons (pv 10) pa_nil)))) (pa_cons (pe_call G__law_plain hr (by rfl) L.m__law_plain L.F__law_plain.kp L.b__law_plain .nil pass0 (pa_cons (pv 0) (pa_cons (pv 1) (pa_cons (pe_op op_sub (pe_op op_add (pe_op op_sub (pe_op op_add (pv 9) (pv 4)) (pv 10)) (pe_call G__law_take hr (by rfl) L.m__law_take L.F__law_take.kp L.b__law_take .nil pass0 (pa_cons (pv 0) (pa_cons pe_int pa_nil)))) pe_int) pa_nil)))) pa_nil))))))) pss_nil)
    (pss_cons (ps_setLc (i := 11) (own := [("_law_turn", 12)]) (by rfl) sc__law_pair.nd rfl rfl (sw_true rfl rfl rfl (by decide +kernel)) (pi_range1 (by rfl) B.range (pa_cons pe_int pa_nil)) (blkOk_by (own := [("_law_turn", 12)]) (N := ["_law_box_here", "_law_form", "_law_case", "_law_tail", "_law_half", "_law_mid", "_law_far", "_law_a", "_law_small", "_law_high", "_law_first", "_law_few", "_law_turn"]) (sc := defScope s__law_pair) (by decide +kernel)) (fun _ _ _ _ _ => pg_name (i := 12) sc__law_pair.nd rfl (Or.inl rfl)) (fun _ _ _ _ _ => pts_nil) (fun _ _ _ _ _ => (pe_meth (pv 1) L.T.cl L.M_Form_word_of G_Form_word_of hr L.b_Form_word_of .nil pass0 (pa_cons pe_int (pa_cons (pv 5) (pa_cons (pe_op op_oneShl pe_int (pe_call G__law_take hr (by rfl) L.m__law_take L.F__law_take.kp L.b__law_take .nil pass0 (pa_cons (pv 0) (pa_cons (pv 3) pa_nil)))) pa_nil))))))
    (pss_one (ps_ret (pe_ifExp (pt_cmpR op_eq (pv 2) pe_int (nomark _)) (pe_tup (pa_cons (pe_ix ix_list (pv 11) pe_int (fun _ _ => rfl)) (pa_cons (pe_ix ix_list (pv 11) pe_int (fun _ _ => rfl)) pa_nil))) (pe_tup (pa_cons (pv 7) (pa_cons (pe_meth (pv 1) L.T.cl L.M_Form_word_of G_Form_word_of hr L.b_Form_word_of .nil pass0 (pa_cons pe_int (pa_cons (pv 5) (pa_cons pe_int pa_nil)))) pa_nil))))))))))))))))), ?_⟩
  have nxb := box_neF hF hB
  obtain ⟨dx, hx, h1, h2, h3, h4⟩ := id hF
  have pT := GM.pow_pos' tl
  have pT24 : (2 : Int) ^ tl ≤ 2 ^ 24 := GM.pow_le' h4
  have pT8 : (2 : Int) ^ 8 ≤ 2 ^ tl := GM.pow_le' h8
  have e14 : (10000000 : Int) ^ 2 = 100000000000000 := by decide
  have pS5 : (2 : Int) ^ 5 ≤ 2 ^ sc := GM.pow_le' h5
  have pS8 : (2 : Int) ^ sc ≤ 2 ^ 8 := GM.pow_le' h2
  have pSS : (2 : Int) ^ sc = 2 * 2 ^ (sc - 1) := by rw [Int.mul_comm, ← GM.pow_s]; congr 1; omega
  refine ⟨_, rfl, x, C, dx, _, _, rfl, hx, L.T.cl, L.T.nt, fl_t _ _, ?_⟩
  refine ⟨_, rfl, x, dx, _, rfl, hx, rfl, x, sc, tl, rfl, hF, ?_⟩
  obtain ⟨hf, ehf, hf0, hf1⟩ : ∃ hf : Int, (2 : Int) ^ (sc - 1) - 1 = hf ∧ 15 ≤ hf ∧ 2 * hf + 2 = 2 ^ sc := ⟨_, rfl, by omega, by omega⟩
  rw [ehf]
  refine ⟨(by show 2 ≤ sizeLine; decide), fun u nu => ?_⟩
  have su := same_upd (o := .tup [.int (tl : Int), .int hf]) nu
  refine ⟨u, _, rfl, .inl (.inl upd_same), rfl, _, _, rfl, _, _, rfl, rfl, ?_⟩
  try simp only [L2.start, List.map_cons, List.map_nil, List.length_cons, List.length_nil, List.replicate_succ, List.replicate_zero, List.cons_append, List.nil_append, List.set_cons_succ, List.set_cons_zero, Nat.reduceAdd, Nat.reduceSub, Nat.zero_add]
  have B0 := hB.same su
  have F0 := hF.same su
  generalize upd H u (.tup [.int (tl : Int), .int hf]) = H0 at *
  refine ⟨_, rfl, _, rfl, b, _, _, rfl, B0, (by omega), (by rw [e14]; omega), (by omega), (by omega), (by decide), fun r1 H1 u1 v1 B1 k1 => ?_⟩
  replace B1 := bx2 B1
  refine ⟨_, _, rfl, rfl, _, _, rfl, rfl, ?_⟩
  obtain ⟨mid, emid, mid0, mid1⟩ : ∃ mid : Int, hf + r1 - 2 = mid ∧ 13 ≤ mid ∧ mid ≤ hf + 2 := ⟨_, rfl, by omega, by omega⟩
  dsimp only
  rw [emid]
  show gName 5 _ _ _ _
  try simp only [L2.start, List.map_cons, List.map_nil, List.length_cons, List.length_nil, List.replicate_succ, List.replicate_zero, List.cons_append, List.nil_append, List.set_cons_succ, List.set_cons_zero, Nat.reduceAdd, Nat.reduceSub, Nat.zero_add]
  refine ⟨_, rfl, _, _, rfl, rfl, _, rfl, b, _, _, rfl, B1, (by omega), (by rw [e14]; omega), (by omega), (by omega), (by decide), fun r2 H2 u2 v2 B2 k2 => ?_⟩
  replace B2 := bx2 B2
  refine ⟨_, _, rfl, rfl, _, rfl, _, _, rfl, rfl, _, rfl, b, _, _, rfl, B2, (by omega), (by rw [e14]; omega), (by omega), (by omega), (by decide), fun r3 H3 u3 v3 B3 k3 => ?_⟩
  replace B3 := bx2 B3
  refine ⟨_, _, rfl, rfl, (by show 4 ≤ sizeLine; decide), fun l1 n1 => ?_⟩
  have n1b : l1 ≠ b := (B3.ne n1).symm
  have sl := same_upd (o := .lst [.int ((tl : Int) + 4 + r2), .int ((tl : Int) + 1 + r3), .int 1, .int 0]) n1
  refine ⟨_, rfl, _, _, rfl, ?_⟩
  have c0 : 0 ≤ (if (3 : Int) < (case : Int) then 3 else (case : Int)) := by split <;> omega
  have c1 : (if (3 : Int) < (case : Int) then 3 else (case : Int)) < 4 := by split <;> omega
  obtain ⟨far, hfar⟩ := at4i (x0 := (tl : Int) + 4 + r2) (x1 := (tl : Int) + 1 + r3) (x2 := 1) (x3 := 0) c0 c1
  refine ⟨l1, _, _, _, rfl, rfl, SqL.of upd_same, hfar, ?_⟩
  have B3' := B3.same sl
  have kA : Keep b H0 (upd H3 l1 (.lst [.int ((tl : Int) + 4 + r2), .int ((tl : Int) + 1 + r3), .int 1, .int 0])) := ((k1.trans k2).trans k3).trans (Keep.ofSame sl)
  generalize upd H3 l1 (.lst [.int ((tl : Int) + 4 + r2), .int ((tl : Int) + 1 + r3), .int 1, .int 0]) = H4 at *
  have F4 := F0.keep kA nxb
  show gName 6 _ _ _ _
  try simp only [L2.start, List.map_cons, List.map_nil, List.length_cons, List.length_nil, List.replicate_succ, List.replicate_zero, List.cons_append, List.nil_append, List.set_cons_succ, List.set_cons_zero, Nat.reduceAdd, Nat.reduceSub, Nat.zero_add]
  refine ⟨_, rfl, _, rfl, _, rfl, b, x, sc, tl, _, _, rfl, F4, B3', (by omega), fun va H5 a0 a1 B5 k5 => ?_⟩
  have F5 := F4.keep k5 nxb
  have kB := (Keep.ofSame su).trans (kA.trans k5)
  show gName 7 _ _ _ _
  try simp only [L2.start, List.map_cons, List.map_nil, List.length_cons, List.length_nil, List.replicate_succ, List.replicate_zero, List.cons_append, List.nil_append, List.set_cons_succ, List.set_cons_zero, Nat.reduceAdd, Nat.reduceSub, Nat.zero_add]
  refine ⟨_, rfl, _, _, rfl, rfl, _, rfl, ite2 (fun cc => ?_) (fun cc => ?_)⟩
  · refine ⟨_, rfl, _, rfl, _, rfl, _, rfl, _, rfl, _, _, rfl, rfl, b, x, sc, tl, _, _, rfl, F5, B5, (by omega), fun vb H6 b0 b1 B6 k6 => ?_⟩
    refine ⟨(by show 2 ≤ sizeLine; decide), fun t nt => ?_⟩
    exact q t va vb _ upd_same b0 ((B6.same (same_upd nt)).mono (by omega)) ((kB.trans k6).trans (Keep.ofSame (same_upd nt)))
  have g4 : 4 ≤ (case : Int) := by
    rcases Int.lt_or_le (case : Int) 4 with z | z
    · exact absurd (decide_eq_true z) cc
    · exact z
  clear cc
  obtain ⟨dx5, hx5, _⟩ := id F5
  refine ⟨_, rfl, rfl, _, rfl, ite2 (fun cc => ?_) (fun cc => ?_)⟩
  · refine ⟨_, rfl, _, rfl, x, dx5, _, rfl, hx5, rfl, _, rfl, x, sc, tl, va, rfl, F5, fun H6 s6 => ?_⟩
    refine ⟨_, rfl, b, _, _, rfl, B5.same s6, (by omega), (by rw [e14]; omega), (by omega), (by omega), (by decide), fun r6 H7 u6 v6 B7 k7 => ?_⟩
    replace B7 := bx2 B7
    refine ⟨_, _, rfl, rfl, _, _, rfl, ?_⟩
    have hP := GM.pow_pos' (sc + tl)
    have s01 := GM.sgn_01 (m := sc) (t := tl) (w := va)
    have za : sz sc tl va < 2 ^ (sc + tl) := Int.emod_lt_of_pos _ hP
    have et : trn sc tl va - r6 = (1 - GM.sgn sc tl va) * 2 ^ (sc + tl) + (sz sc tl va - r6) := by unfold trn; omega
    have m0 : 0 ≤ (1 - GM.sgn sc tl va) * 2 ^ (sc + tl) := Int.mul_nonneg (by omega) (by omega)
    have hbig : trn sc tl va - r6 > 1 := by omega
    have esz : sz sc tl ((1 - GM.sgn sc tl va) * 2 ^ (sc + tl) + (sz sc tl va - r6)) < GM.topS sc tl := by
      have : sz sc tl ((1 - GM.sgn sc tl va) * 2 ^ (sc + tl) + (sz sc tl va - r6)) = sz sc tl va - r6 := by
        have u0 : 0 ≤ sz sc tl va - r6 := by omega
        have u1 : sz sc tl va - r6 < 2 ^ (sc + tl) := by omega
        generalize sz sc tl va - r6 = u at u0 u1 ⊢
        unfold sz
        rw [Int.add_comm, Int.add_mul_emod_self_right, Int.emod_eq_of_lt (by omega) (by omega)]
      omega
    refine ⟨(by show 2 ≤ sizeLine; decide), fun t nt => ?_⟩
    exact q t va _ _ upd_same (by rw [if_pos hbig, et]; exact esz) ((B7.same (same_upd nt)).mono (by omega)) (((kB.trans (Keep.ofSame s6)).trans k7).trans (Keep.ofSame (same_upd nt)))
  have n4 : (case : Int) ≠ 4 := fun z => cc (decide_eq_true (congrArg V.int z))
  clear cc
  refine ⟨_, rfl, x, dx5, _, rfl, hx5, rfl, _, rfl, b, _, _, rfl, B5, (by omega), (by rw [e14]; omega), (by omega), (by omega), (by decide), fun r6 H6 u6 v6 B6 k6 => ?_⟩
  replace B6 := bx2 B6
  have F6 := F5.keep k6 nxb
  refine ⟨_, rfl, _, rfl, tl, rfl, rfl, by omega, _, _, rfl, rfl, b, _, _, rfl, B6, (by omega), (by rw [e14]; omega), (by omega), (by omega), (by decide), fun r7 H7 u7 v7 B7 k7 => ?_⟩
  replace B7 := bx2 B7
  have F7 := F6.keep k7 nxb
  refine ⟨_, _, rfl, rfl, x, sc, tl, r6, 0, _, rfl, F7, (by omega), (by omega), (by omega), (by omega), (by omega), ?_⟩
  have kC := (kB.trans k6).trans k7
  have wsm := word_rng (sc := sc) (tl := tl) (s := r6) (m := 0) (t := 1 + r7) (by omega) (by omega) (by omega) (by omega) (by omega)
  have tlT : (2 : Int) ^ tl ≤ GM.topS sc tl := by
    unfold GM.topS
    have : 1 * 2 ^ tl ≤ ((2 : Int) ^ sc - 1) * 2 ^ tl := Int.mul_le_mul_of_nonneg_right (by omega) (by omega)
    omega
  obtain ⟨sm, esm⟩ : ∃ sm : Int, r6 * 2 ^ (sc + tl) + (0 * 2 ^ tl + (1 + r7)) = sm := ⟨_, rfl⟩
  rw [esm] at wsm ⊢
  clear esm
  show gName 8 _ _ _ _
  try simp only [L2.start, List.map_cons, List.map_nil, List.length_cons, List.length_nil, List.replicate_succ, List.replicate_zero, List.cons_append, List.nil_append, List.set_cons_succ, List.set_cons_zero, Nat.reduceAdd, Nat.reduceSub, Nat.zero_add]
  obtain ⟨dx7, hx7, _⟩ := id F7
  refine ⟨_, rfl, _, _, rfl, rfl, _, rfl, ite2 (fun cc => ?_) (fun cc => ?_)⟩
  · have c7 : (case : Int) < 7 := of_decide_eq_true cc
    refine ⟨_, rfl, _, rfl, _, rfl, _, rfl, b, _, _, rfl, B7, (by omega), (by rw [e14]; omega), (by omega), (by omega), (by decide), fun r8 H8 u8 v8 B8 k8 => ?_⟩
    replace B8 := bx2 B8
    refine ⟨_, _, rfl, rfl, b, x, sc, tl, _, _, rfl, F7.keep k8 nxb, B8, (by omega), fun vb H9 b0 b1 B9 k9 => ?_⟩
    refine ⟨_, rfl, _, rfl, b, _, _, rfl, B9, (by omega), (by rw [e14]; omega), (by omega), (by omega), (by decide), fun r10 H10 u10 v10 B10 k10 => ?_⟩
    replace B10 := bx2 B10
    refine ⟨_, _, rfl, rfl, _, _, rfl, rfl, (by show 2 ≤ sizeLine; decide), fun l2 n2 => ?_⟩
    have s2 := same_upd (o := .lst [.int vb, .int (Builtin.bitXor sm (1 + r10))]) n2
    refine ⟨_, rfl, _, _, rfl, rfl, ?_⟩
    obtain ⟨wd, hw, hwd⟩ := at2P (P := fun z => sz sc tl z < GM.topS sc tl) (x0 := vb) (x1 := Builtin.bitXor sm (1 + r10)) (r := (case : Int) - 5) (by omega) (by omega) b0 (Int.lt_of_lt_of_le (xor_small (k := sc + tl) (j := tl) wsm.1 (by have := wsm.2.2.1; unfold sz at this; omega) (by omega) (by omega) (by omega)) tlT)
    refine ⟨l2, _, _, _, rfl, rfl, SqL.of upd_same, hw, ?_⟩
    refine ⟨(by show 2 ≤ sizeLine; decide), fun t nt => ?_⟩
    exact q t sm wd _ upd_same hwd (((B10.same s2).same (same_upd nt)).mono (by omega)) ((((kC.trans k8).trans k9).trans k10).trans (Keep.ofSame (s2.trans (same_upd nt))))
  have g7 : 7 ≤ (case : Int) := by
    rcases Int.lt_or_le (case : Int) 7 with z | z
    · exact absurd (decide_eq_true z) cc
    · exact z
  clear cc
  refine ⟨_, rfl, rfl, _, rfl, ite2 (fun cc => ?_) (fun cc => ?_)⟩
  · refine ⟨_, rfl, x, dx7, _, rfl, hx7, rfl, _, rfl, b, _, _, rfl, B7, (by omega), (by rw [e14]; omega), (by omega), (by omega), (by decide), fun r8 H8 u8 v8 B8 k8 => ?_⟩
    replace B8 := bx2 B8
    have F8 := F7.keep k8 nxb
    obtain ⟨dx8, hx8, _⟩ := id F8
    refine ⟨x, sc, tl, r8, rfl, F8, (by omega), ?_⟩
    refine ⟨_, rfl, _, rfl, _, rfl, x, dx8, _, rfl, hx8, rfl, x, sc, tl, rfl, F8, _, _, rfl, rfl, ?_⟩
    refine ⟨_, rfl, _, rfl, _, _, rfl, rfl, b, _, _, rfl, B8, (by omega), (by rw [e14]; omega), (by omega), (by omega), (by decide), fun r9 H9 u9 v9 B9 k9 => ?_⟩
    replace B9 := bx2 B9
    refine ⟨_, _, rfl, rfl, b, x, sc, tl, _, _, rfl, F8.keep k9 nxb, B9, (by omega), fun vb H10 b0 b1 B10 k10 => ?_⟩
    refine ⟨(by show 2 ≤ sizeLine; decide), fun t nt => ?_⟩
    exact q t _ vb _ upd_same b0 ((B10.same (same_upd nt)).mono (by omega)) ((((kC.trans k8).trans k9).trans k10).trans (Keep.ofSame (same_upd nt)))
  have n7 : (case : Int) ≠ 7 := fun z => cc (decide_eq_true (congrArg V.int z))
  clear cc
  dsimp only [tNext]
  try simp only [L2.start, List.map_cons, List.map_nil, List.length_cons, List.length_nil, List.replicate_succ, List.replicate_zero, List.cons_append, List.nil_append, List.set_cons_succ, List.set_cons_zero, Nat.reduceAdd, Nat.reduceSub, Nat.zero_add]
  refine ⟨_, rfl, _, _, rfl, rfl, _, rfl, ite2 (fun cc => ?_) (fun cc => ?_)⟩
  · have c10 : (case : Int) < 10 := of_decide_eq_true cc
    refine ⟨_, rfl, x, dx7, _, rfl, hx7, rfl, x, sc, tl, rfl, F7, _, _, rfl, rfl, (by show 2 ≤ sizeLine; decide), fun l2 n2 => ?_⟩
    have s2 := same_upd (o := .lst [.int 1, .int (2 ^ sc - 1 - 1)]) n2
    refine ⟨_, rfl, _, _, rfl, rfl, ?_⟩
    obtain ⟨hi, hw⟩ := at2i (x0 := 1) (x1 := 2 ^ sc - 1 - 1) (r := (case : Int) - 8) (by omega) (by omega)
    refine ⟨l2, _, _, _, rfl, rfl, SqL.of upd_same, hw, ?_⟩
    have F8 := F7.same s2
    have B8 := B7.same s2
    have kD := kC.trans (Keep.ofSame s2)
    have hx8 := s2 _ _ hx7
    generalize upd H7 l2 (.lst [.int 1, .int (2 ^ sc - 1 - 1)]) = H8 at *
    show gName 9 _ _ _ _
    try simp only [L2.start, List.map_cons, List.map_nil, List.length_cons, List.length_nil, List.replicate_succ, List.replicate_zero, List.cons_append, List.nil_append, List.set_cons_succ, List.set_cons_zero, Nat.reduceAdd, Nat.reduceSub, Nat.zero_add]
    refine ⟨_, rfl, x, dx7, _, rfl, hx8, rfl, x, sc, tl, rfl, F8, _, _, rfl, rfl, ?_⟩
    refine ⟨_, rfl, _, rfl, _, rfl, b, _, _, rfl, B8, (by omega), (by rw [e14]; omega), (by omega), (by omega), (by decide), fun r9 H9 u9 v9 B9 k9 => ?_⟩
    replace B9 := bx2 B9
    refine ⟨_, _, rfl, rfl, _, rfl, _, _, rfl, rfl, ⟨by decide, by decide⟩, _, _, rfl, rfl, _, _, rfl, _, _, rfl, ?_⟩
    obtain ⟨fi, efi⟩ : ∃ fi : Int, (if (if hf + r9 - hf / 2 < 2 ^ sc - 1 - 1 then hf + r9 - hf / 2 else 2 ^ sc - 1 - 1) > 1 then (if hf + r9 - hf / 2 < 2 ^ sc - 1 - 1 then hf + r9 - hf / 2 else 2 ^ sc - 1 - 1) else 1) = fi := ⟨_, rfl⟩
    dsimp only
    rw [efi]
    clear efi
    try simp only [L2.start, List.map_cons, List.map_nil, List.length_cons, List.length_nil, List.replicate_succ, List.replicate_zero, List.cons_append, List.nil_append, List.set_cons_succ, List.set_cons_zero, Nat.reduceAdd, Nat.reduceSub, Nat.zero_add]
    have F9 := F8.keep k9 nxb
    refine ⟨_, rfl, _, rfl, _, rfl, b, x, sc, tl, _, _, rfl, F9, B9, (by omega), fun va' H10 a0' a1' B10 k10 => ?_⟩
    refine ⟨_, rfl, _, rfl, _, rfl, _, rfl, _, _, rfl, rfl, _, rfl, _, _, rfl, rfl, _, rfl, b, _, _, rfl, B10, (by omega), (by rw [e14]; omega), (by omega), (by omega), (by decide), fun r11 H11 u11 v11 B11 k11 => ?_⟩
    replace B11 := bx2 B11
    refine ⟨_, _, rfl, rfl, _, _, rfl, rfl, b, x, sc, tl, _, _, rfl, (F9.keep k10 nxb).keep k11 nxb, B11, (by omega), fun vb H12 b0 b1 B12 k12 => ?_⟩
    refine ⟨(by show 2 ≤ sizeLine; decide), fun t nt => ?_⟩
    exact q t va' vb _ upd_same b0 ((B12.same (same_upd nt)).mono (by omega)) (((((kD.trans k9).trans k10).trans k11).trans k12).trans (Keep.ofSame (same_upd nt)))
  have g10 : 10 ≤ (case : Int) := by
    rcases Int.lt_or_le (case : Int) 10 with z | z
    · exact absurd (decide_eq_true z) cc
    · exact z
  clear cc
  dsimp only [tNext]
  try simp only [L2.start, List.map_cons, List.map_nil, List.length_cons, List.length_nil, List.replicate_succ, List.replicate_zero, List.cons_append, List.nil_append, List.set_cons_succ, List.set_cons_zero, Nat.reduceAdd, Nat.reduceSub, Nat.zero_add]
  refine ⟨2, rfl, by decide, by decide, fun D nD => ?_⟩
  have nDb : D ≠ b := (B7.ne nD).symm
  refine lc_range (n := 2) (fun j H8 => Keep b H7 H8 ∧ BoxAt (c + 100 + 2 * j) H8 b ∧ ∃ l : List Int, l.length = j ∧ (∀ z ∈ l, sz sc tl z < GM.topS sc tl) ∧ H8 D = some (.lst (l.map V.int))) ⟨Keep.ofSame (same_upd nD), (B7.same (same_upd nD)).mono (by omega), [], rfl, (fun _ z => nomatch z), upd_same⟩ ?_ ?_
  · rintro j H8 hj ⟨k8, B8, l, ll, lz, eD⟩
    refine ⟨rfl, yesT ?_⟩
    have F8 := F7.keep k8 nxb
    obtain ⟨dx8, hx8, _⟩ := id F8
    refine ⟨_, rfl, x, dx8, _, rfl, hx8, rfl, _, rfl, _, rfl, _, rfl, b, _, _, rfl, B8, (by omega), (by rw [e14]; omega), (by omega), (by omega), (by decide), fun r9 H9 u9 v9 B9 k9 => ?_⟩
    replace B9 := bx2 B9
    have F9 := F8.keep k9 nxb
    have pr : (2 : Int) ^ r9.toNat * 2 ≤ 2 ^ tl := by
      rw [← GM.pow_s]
      exact GM.pow_le' (by omega)
    have pr0 := GM.pow_pos' r9.toNat
    refine ⟨r9.toNat, rfl, congrArg V.int (Int.toNat_of_nonneg u9).symm, by omega, ?_⟩
    refine ⟨x, sc, tl, 0, mid, _, rfl, F9, .inl rfl, by omega, by omega, by omega, by omega, ?_⟩
    refine ⟨_, k9 _ _ eD nDb, ?_, fun x u e n => ?_, BoxAt.mono (B9.at (upd_ne nDb.symm)) (by omega), l ++ [0 * 2 ^ (sc + tl) + (mid * 2 ^ tl + 2 ^ r9.toNat)], by rw [List.length_append, ll]; rfl, (fun z hz => (List.mem_append.mp hz).elim (lz z) fun hz => ?_), ?_⟩
    · rw [List.length_map]
      exact small1000 (by omega)
    · rw [upd_ne (ne_of_none e nD)]
      exact k9 _ _ (k8 _ _ e n) n
    · have wf := word_rng (sc := sc) (tl := tl) (s := 0) (m := mid) (t := 2 ^ r9.toNat) (.inl rfl) (by omega) (by omega) (by omega) (by omega)
      rw [List.mem_singleton.mp hz, wf.2.2.1]
      exact wf.2.2.2 (by omega)
    · rw [upd_same, List.map_append]
      rfl
  · rintro H8 ⟨k8, B8, l, ll, lz, eD⟩
    have F8 := F7.keep k8 nxb
    obtain ⟨dx8, hx8, _⟩ := id F8
    obtain ⟨z0, z1, rfl⟩ : ∃ z0 z1, l = [z0, z1] := by
      match l, ll with
      | [z0, z1], _ => exact ⟨z0, z1, rfl⟩
    show gName 11 _ _ _ _
    try simp only [L2.start, List.map_cons, List.map_nil, List.length_cons, List.length_nil, List.replicate_succ, List.replicate_zero, List.cons_append, List.nil_append, List.set_cons_succ, List.set_cons_zero, Nat.reduceAdd, Nat.reduceSub, Nat.zero_add]
    refine ⟨_, rfl, rfl, _, rfl, ite2 (fun cc => ?_) (fun cc => ?_)⟩
    · refine ⟨_, rfl, D, _, _, _, rfl, rfl, SqL.of eD, rfl, _, rfl, D, _, _, _, rfl, rfl, SqL.of eD, rfl, ?_⟩
      refine ⟨(by show 2 ≤ sizeLine; decide), fun t nt => ?_⟩
      exact q t z0 z1 _ upd_same (lz z1 (by simp)) ((B8.same (same_upd nt)).mono (by omega)) ((kC.trans k8).trans (Keep.ofSame (same_upd nt)))
    · refine ⟨_, rfl, _, rfl, x, dx8, _, rfl, hx8, rfl, _, rfl, x, sc, tl, 1, mid, 0, rfl, F8, .inr rfl, by omega, by omega, by omega, by omega, ?_⟩
      refine ⟨(by show 2 ≤ sizeLine; decide), fun t nt => ?_⟩
      have wf := word_rng (sc := sc) (tl := tl) (s := 1) (m := mid) (t := 0) (.inr rfl) (by omega) (by omega) (by omega) (by omega)
      exact q t va _ _ upd_same (by rw [wf.2.2.1]; exact wf.2.2.2 (by omega)) ((B8.same (same_upd nt)).mono (by omega)) ((kC.trans k8).trans (Keep.ofSame (same_upd nt)))
end
section
variable {P : Program} {w : World} {K : PySem.W.Frag} {mg : Str → Option Value} {base : Heap}
variable {C : Addr} {CD : Addr} {za : Nat → Addr} {zl : Nat → FuncData} {t73 t74 t75 tg_NEAR tg_CUT tg_UP tg_DOWN : Tok} {dO : Addr} {esO : Array DictEntry} {nO : Nat}
theorem cut_minus {u v : Int} {d : Nat} (h : ¬ v % 2 ^ d = 0) : (u * 2 ^ d - v) / 2 ^ d = u - v / 2 ^ d - 1 ∧ ¬ (u * 2 ^ d - v) % 2 ^ d = 0 := by
  have hp := GM.pow_pos' d
  have e := Int.emod_add_mul_ediv v (2 ^ d)
  have r0 := Int.emod_nonneg v (show (2 : Int) ^ d ≠ 0 by omega)
  have r1 := Int.emod_lt_of_pos v hp
  have k : u * 2 ^ d - v = (2 ^ d - v % 2 ^ d) + (u - v / 2 ^ d - 1) * 2 ^ d := by
    rw [Int.sub_mul, Int.sub_mul, Int.one_mul, Int.mul_comm (v / 2 ^ d)]
    omega
  rw [k]
  refine ⟨?_, ?_⟩
  · rw [Int.add_mul_ediv_right _ _ (by omega), Int.ediv_eq_zero_of_lt (by omega) (by omega), Int.zero_add]
  · rw [Int.add_mul_emod_self_right, Int.emod_eq_of_lt (by omega) (by omega)]
    omega
theorem cut_plus (u v : Int) (d : Nat) : (u * 2 ^ d + v) / 2 ^ d = u + v / 2 ^ d ∧ (u * 2 ^ d + v) % 2 ^ d = v % 2 ^ d := by
  have hp := GM.pow_pos' d
  rw [Int.add_comm]
  refine ⟨?_, Int.add_mul_emod_self_right _ _ _⟩
  rw [Int.add_mul_ediv_right _ _ (by omega)]
  omega
theorem mul_dec (v : Int) (d : Nat) : (!decide (v / 2 ^ d * 2 ^ d = v)) = !decide (v % 2 ^ d = 0) := by
  have e := Int.emod_add_mul_ediv v (2 ^ d)
  rw [Int.mul_comm] at e
  congr 1
  exact decide_eq_decide.mpr ⟨fun h => by omega, fun h => by omega⟩
theorem core_add {sc tl : Nat} {s G L p : Int} {way : Str} {d : Nat} {al more : Bool} (hm : more = !decide (4 * L % 2 ^ d = 0)) (T0 : 0 < mTo (4 * G) (4 * L / 2 ^ d) more al) (hb : more = true → 2 * 2 ^ tl ≤ mTo (4 * G) (4 * L / 2 ^ d) more al) :
    0 < (if al then G * 2 ^ d + L else G * 2 ^ d - L) ∧ GR.rnd sc tl s (mTo (4 * G) (4 * L / 2 ^ d) more al) (p + d - 2) way more = GR.rnd sc tl s (if al then G * 2 ^ d + L else G * 2 ^ d - L) p way false := by
  have hp := GM.pow_pos' d
  obtain ⟨E, eE⟩ : ∃ E : Int, (if al then G * 2 ^ d + L else G * 2 ^ d - L) = E := ⟨_, rfl⟩
  rw [eE]
  have key : E * 2 ^ 2 / 2 ^ d = mTo (4 * G) (4 * L / 2 ^ d) more al ∧ more = !decide (E * 2 ^ 2 % 2 ^ d = 0) := by
    have e4 : (2 : Int) ^ 2 = 4 := by decide
    unfold mTo
    cases al with
    | true =>
      rw [if_pos rfl] at eE ⊢
      have k := cut_plus (4 * G) (4 * L) d
      have e : E * 2 ^ 2 = 4 * G * 2 ^ d + 4 * L := by
        rw [← eE, e4, Int.add_mul, Int.mul_assoc 4 G, Int.mul_comm 4 (G * 2 ^ d)]
        omega
      rw [e, k.1, k.2]
      exact ⟨rfl, hm⟩
    | false =>
      rw [if_neg (by decide)] at eE ⊢
      have e : E * 2 ^ 2 = 4 * G * 2 ^ d - 4 * L := by
        rw [← eE, e4, Int.sub_mul, Int.mul_assoc 4 G, Int.mul_comm 4 (G * 2 ^ d)]
        omega
      by_cases z : 4 * L % 2 ^ d = 0
      · rw [hm, z, e]
        have hq := Int.emod_add_mul_ediv (4 * L) (2 ^ d)
        rw [z, Int.zero_add, Int.mul_comm] at hq
        have e2 : 4 * G * 2 ^ d - 4 * L = (4 * G - 4 * L / 2 ^ d) * 2 ^ d := by
          rw [Int.sub_mul]
          omega
        rw [e2, Int.mul_ediv_cancel _ (by omega), Int.mul_emod_left]
        exact ⟨by simp, rfl⟩
      · have k := cut_minus (u := 4 * G) z
        rw [hm, e, k.1, decide_eq_false z, decide_eq_false k.2]
        exact ⟨by rw [if_pos (show (!false) = true from rfl)], rfl⟩
  generalize mTo (4 * G) (4 * L / 2 ^ d) more al = T at *
  have n0 : 0 < E * 2 ^ 2 := by
    have m := Int.ediv_mul_le (E * 2 ^ 2) (show (2 : Int) ^ d ≠ 0 by omega)
    rw [key.1] at m
    have := Int.mul_pos T0 hp
    omega
  have E0 : 0 < E := by
    have e4 : (2 : Int) ^ 2 = 4 := by decide
    omega
  refine ⟨E0, ?_⟩
  rw [← GR.rnd_scale (n := E) 2 E0]
  by_cases z : E * 2 ^ 2 % 2 ^ d = 0
  · have hq := Int.emod_add_mul_ediv (E * 2 ^ 2) (2 ^ d)
    rw [z, key.1, Int.zero_add, Int.mul_comm] at hq
    have hf : more = false := by rw [key.2, decide_eq_true z]; rfl
    rw [hf, ← hq, ← GR.rnd_scale (n := T) d T0]
    congr 1
    omega
  · have hm' : more = true := by rw [key.2, decide_eq_false z]; rfl
    have lb := lap_big (sc := sc) (p := p - (2 : Nat) + d) (hb hm')
    rw [GR.rnd_cut (n := E * 2 ^ 2) d (by rw [key.1]; exact T0) (by rw [key.1]; exact lb.2), key.1, Bool.or_false, ← key.2]
    congr 1
    omega
/-- the sum of two words with heads: what the steps round is what the exact sum asks -/
structure La (sc tl : Nat) (g l : Int) : Prop where
  le : wp sc tl l ≤ wp sc tl g
  z : sTo sc tl g l = 0 ↔ wn sc tl g * 2 ^ (wp sc tl g - wp sc tl l).toNat + wn sc tl l = 0
  r : ∀ way, sTo sc tl g l ≠ 0 → GR.rnd sc tl (GM.sgn sc tl g) (sTo sc tl g l) (wp sc tl g - 2) way (sMo sc tl g l) = GR.rnd sc tl (if wn sc tl g * 2 ^ (wp sc tl g - wp sc tl l).toNat + wn sc tl l < 0 then 1 else 0) (ab (wn sc tl g * 2 ^ (wp sc tl g - wp sc tl l).toNat + wn sc tl l)) (wp sc tl l) way false
  n : wn sc tl g < 0 ↔ GM.sgn sc tl g = 1
theorem last_facts {sc tl : Nat} {g l : Int} (h3 : 1 ≤ tl) (h : sz sc tl l ≤ sz sc tl g) (hg : ¬ sz sc tl g = 0) : La sc tl g l := by
  have sf := sum_facts h3 h hg
  obtain ⟨d, ed⟩ : ∃ d : Nat, wp sc tl g - wp sc tl l = (d : Int) := ⟨(wp sc tl g - wp sc tl l).toNat, (Int.toNat_of_nonneg (by have := sf.le; omega)).symm⟩
  have eN : sNu sc tl g l = 4 * hd sc tl l / 2 ^ d := by
    unfold sNu GR.cutQ
    rw [ed, if_neg (by omega), Int.toNat_natCast]
  have eM : sMo sc tl g l = !decide (4 * hd sc tl l % 2 ^ d = 0) := by
    unfold sMo GR.cutR
    rw [ed, if_neg (by omega), Int.toNat_natCast]
    exact mul_dec _ _
  have hG : 0 < hd sc tl g := hd_pos hg
  have hL : 0 ≤ hd sc tl l := (num_zero (tl := tl) (sz_nn sc tl l)).1
  have wg : wn sc tl g = if GM.sgn sc tl g = 1 then -(hd sc tl g) else hd sc tl g := rfl
  have wl : wn sc tl l = if GM.sgn sc tl l = 1 then -(hd sc tl l) else hd sc tl l := rfl
  have s1 := GM.sgn_01 (m := sc) (t := tl) (w := g)
  have s2 := GM.sgn_01 (m := sc) (t := tl) (w := l)
  have eE : wn sc tl g * 2 ^ d + wn sc tl l = if GM.sgn sc tl g = 1 then -(if decide (GM.sgn sc tl g = GM.sgn sc tl l) then hd sc tl g * 2 ^ d + hd sc tl l else hd sc tl g * 2 ^ d - hd sc tl l) else (if decide (GM.sgn sc tl g = GM.sgn sc tl l) then hd sc tl g * 2 ^ d + hd sc tl l else hd sc tl g * 2 ^ d - hd sc tl l) := by
    rw [wg, wl]
    rcases s1 with a | a <;> rcases s2 with b | b <;> rw [a, b] <;> simp [Int.neg_mul] <;> omega
  have core : ∀ way, 0 < sTo sc tl g l → _ := fun way t => core_add (sc := sc) (tl := tl) (s := GM.sgn sc tl g) (G := hd sc tl g) (L := hd sc tl l) (p := wp sc tl l) (way := way) (d := d) (al := decide (GM.sgn sc tl g = GM.sgn sc tl l)) (more := sMo sc tl g l) eM (by rw [← eN]; exact t) (by rw [← eN]; exact sf.mo)
  rw [← eN] at core
  have t0 := sf.t0
  refine ⟨sf.le, ⟨fun e => ?_, fun e => ?_⟩, fun way t => ?_, ?_⟩
  · have k := sf.z e
    have d0 : d = 0 := by omega
    rw [ed, Int.toNat_natCast, eE, decide_eq_false k.1, d0, k.2.1, Int.pow_zero, Int.mul_one, if_neg (show ¬ false = true by decide), Int.sub_self]
    split <;> rfl
  · rw [ed, Int.toNat_natCast, eE] at e
    apply Classical.byContradiction
    intro z
    have c := (core "near" (by omega)).1
    split at e <;> omega
  · have c := core way (by omega)
    rw [ed, Int.toNat_natCast, eE]
    have ep : wp sc tl g - 2 = wp sc tl l + d - 2 := by omega
    rw [ep]
    refine c.2.trans ?_
    have c1 := c.1
    generalize (if decide (GM.sgn sc tl g = GM.sgn sc tl l) = true then hd sc tl g * 2 ^ d + hd sc tl l else hd sc tl g * 2 ^ d - hd sc tl l) = E at *
    unfold ab
    rcases s1 with a | a <;> rw [a]
    · rw [if_neg (show ¬ (0 : Int) = 1 by decide), if_neg (show ¬ E < 0 by omega), if_neg (show ¬ E < 0 by omega)]
    · rw [if_pos (show (1 : Int) = 1 from rfl), if_pos (show -E < 0 by omega), if_pos (show -E < 0 by omega), Int.neg_neg]
  · rw [wg]
    rcases s1 with a | a <;> rw [a]
    · rw [if_neg (by decide)]
      exact ⟨fun z => by omega, fun z => absurd z (by decide)⟩
    · rw [if_pos rfl]
      exact ⟨fun _ => rfl, fun _ => by omega⟩
theorem last_add {sc tl : Nat} {a b : Int} {way : Str} (h3 : 1 ≤ tl) (ra : ¬ GM.topS sc tl ≤ sz sc tl a ∧ ¬ sz sc tl a = 0) (rb : ¬ GM.topS sc tl ≤ sz sc tl b ∧ ¬ sz sc tl b = 0) : sLast sc tl (osG sc tl a b).1 (osG sc tl a b).2 way = addR sc tl a b way := by
  have tp := srt_top sc tl
  have ea : addR sc tl a b way = totR sc tl (tgn (wn sc tl a) (wp sc tl a) (wn sc tl b) (wp sc tl b)) (lwr (wp sc tl a) (wp sc tl b)) (nsg (GM.sgn sc tl a) (GM.sgn sc tl b) way) way := by
    unfold addR
    rw [if_neg (fun z => z.elim (fun e => ra.1 ((tp _).mp (.inr e))) (fun e => rb.1 ((tp _).mp (.inr e))))]
    unfold wo
    rw [if_neg ra.1, if_neg rb.1]
    rfl
  have fin : ∀ g l : Int, sz sc tl l ≤ sz sc tl g → ¬ sz sc tl g = 0 → (g = a ∧ l = b ∨ g = b ∧ l = a) → sLast sc tl g l way = addR sc tl a b way := fun g l hle hg0 hgl => by
    have sf := sum_facts h3 hle hg0
    have la := last_facts h3 hle hg0
    unfold sLast
    by_cases z : sTo sc tl g l = 0
    · rw [if_pos z]
      have k := sf.z z
      rcases hgl with ⟨e1, e2⟩ | ⟨e1, e2⟩ <;> subst e1 <;> subst e2
      · exact (add_zero ra.1 rb.1 k.1 k.2.1 k.2.2).symm
      · exact (add_zero ra.1 rb.1 (Ne.symm k.1) k.2.1.symm k.2.2.symm).symm
    · rw [if_neg z, la.r way z, ea]
      have ez : ¬ wn sc tl g * 2 ^ (wp sc tl g - wp sc tl l).toNat + wn sc tl l = 0 := fun e => z (la.z.mpr e)
      have et : tgn (wn sc tl a) (wp sc tl a) (wn sc tl b) (wp sc tl b) = wn sc tl g * 2 ^ (wp sc tl g - wp sc tl l).toNat + wn sc tl l ∧ lwr (wp sc tl a) (wp sc tl b) = wp sc tl l := by
        have le := la.le
        rcases hgl with ⟨e1, e2⟩ | ⟨e1, e2⟩ <;> subst e1 <;> subst e2
        · have e : lwr (wp sc tl g) (wp sc tl l) = wp sc tl l := by unfold lwr; split <;> omega
          unfold tgn
          rw [e, Int.sub_self]
          exact ⟨by show _ + _ * 2 ^ 0 = _; rw [Int.pow_zero, Int.mul_one], rfl⟩
        · have e : lwr (wp sc tl l) (wp sc tl g) = wp sc tl l := by unfold lwr; split <;> omega
          unfold tgn
          rw [e, Int.sub_self]
          exact ⟨by show _ * 2 ^ 0 + _ = _; rw [Int.pow_zero, Int.mul_one, Int.add_comm], rfl⟩
      rw [et.1, et.2]
      unfold totR
      rw [if_neg ez]
  rcases os_or sc tl a b with ⟨e, c⟩ | ⟨e, c⟩ <;> rw [e]
  · exact fin a b c ra.2 (.inl ⟨rfl, rfl⟩)
  · exact fin b a c rb.2 (.inr ⟨rfl, rfl⟩)
end
section
variable {P : Program} {w : World} {K : PySem.W.Frag} {mg : Str → Option Value} {base : Heap}
variable {C : Addr} {CD : Addr} {za : Nat → Addr} {zl : Nat → FuncData} {t73 t74 t75 tg_NEAR tg_CUT tg_UP tg_DOWN : Tok} {dO : Addr} {esO : Array DictEntry} {nO : Nat}
/-- the exact sum of two sizes with signs that are alike or not -/
def xTo (x y : Int) (al : Bool) : Int := if al then x + y else if x < y then y - x else x - y
/-- one rounding, exactly and as placed -/
theorem pl_exact {sc tl : Nat} {P pp h hp : Int} {s : Int} {way : Str} (h4 : tl ≤ 24) (P0 : 1 ≤ P) (P2 : P < 2 ^ (2 * tl + 2)) (pf : Pf sc tl P pp h hp) (k0 : 1 ≤ h) (k1 : h < 2 * 2 ^ tl) (al : Bool)
    (hT : ¬ mTo (mx (pl tl P pp h hp).1 (pl tl P pp h hp).2.1) (mn (pl tl P pp h hp).1 (pl tl P pp h hp).2.1) (pl tl P pp h hp).2.2.2 al = 0) :
    GR.rnd sc tl s (mTo (mx (pl tl P pp h hp).1 (pl tl P pp h hp).2.1) (mn (pl tl P pp h hp).1 (pl tl P pp h hp).2.1) (pl tl P pp h hp).2.2.2 al) (pl tl P pp h hp).2.2.1 way (pl tl P pp h hp).2.2.2 = GR.rnd sc tl s (xTo (P * 2 ^ (pp - lwr pp hp).toNat) (h * 2 ^ (hp - lwr pp hp).toNat) al) (lwr pp hp) way false ∧
    ((pl tl P pp h hp).2.1 ≤ (pl tl P pp h hp).1 ↔ h * 2 ^ (hp - lwr pp hp).toNat ≤ P * 2 ^ (pp - lwr pp hp).toNat) ∧ 0 < xTo (P * 2 ^ (pp - lwr pp hp).toNat) (h * 2 ^ (hp - lwr pp hp).toNat) al := by
  have hp' := GM.pow_pos' tl
  have hmo := pf.mo al
  have ht0 := pf.t0 al
  by_cases cA : 2 * (tl : Int) + 5 < hp - pp
  · have e : pl tl P pp h hp = (0, 8 * h, hp - 3, true) := by
      unfold pl
      rw [if_pos cA]
    have hlw : lwr pp hp = pp := by
      unfold lwr
      split <;> omega
    rw [e] at hmo hT ht0 ⊢
    rw [hlw, Int.sub_self]
    obtain ⟨j, ej⟩ : ∃ j : Nat, (hp - pp).toNat = j + 3 := ⟨(hp - pp).toNat - 3, by omega⟩
    rw [ej]
    have hj : 2 * tl + 3 ≤ j := by omega
    have pj : (2 : Int) ^ (2 * tl + 2) ≤ 2 ^ j := GM.pow_le' (by omega)
    have e8 : h * 2 ^ (j + 3) = 8 * h * 2 ^ j := by
      rw [GM.pow_add', Int.mul_comm (2 ^ j), ← Int.mul_assoc, Int.mul_comm h]
      rfl
    have hPj : P % 2 ^ j = P := Int.emod_eq_of_lt (by omega) (by omega)
    have hPd : P / 2 ^ j = 0 := Int.ediv_eq_zero_of_lt (by omega) (by omega)
    have pjp := GM.pow_pos' j
    have big : P < 8 * h * 2 ^ j := by
      have := Int.mul_le_mul_of_nonneg_right (show 1 ≤ 8 * h by omega) (Int.le_of_lt pjp)
      omega
    have hm := hmo rfl
    have hpw : hp - 3 = pp + (j : Int) := by omega
    show GR.rnd sc tl s (mTo (mx 0 (8 * h)) (mn 0 (8 * h)) true al) (hp - 3) way true = GR.rnd sc tl s (xTo (P * 2 ^ 0) (h * 2 ^ (j + 3)) al) pp way false ∧ (8 * h ≤ 0 ↔ h * 2 ^ (j + 3) ≤ P * 2 ^ 0) ∧ 0 < xTo (P * 2 ^ 0) (h * 2 ^ (j + 3)) al
    have hm' : mTo (mx 0 (8 * h)) (mn 0 (8 * h)) true al ≠ 0 ∧ hp - 3 < GR.lap sc tl (mTo (mx 0 (8 * h)) (mn 0 (8 * h)) true al) (hp - 3) := hm
    rw [Int.pow_zero, Int.mul_one, e8]
    have xp : 0 < xTo P (8 * h * 2 ^ j) al := by
      cases al with
      | true =>
        show 0 < P + 8 * h * 2 ^ j
        omega
      | false =>
        show 0 < (if P < 8 * h * 2 ^ j then 8 * h * 2 ^ j - P else P - 8 * h * 2 ^ j)
        rw [if_pos big]
        omega
    refine ⟨?_, ⟨fun z => by omega, fun z => by omega⟩, xp⟩
    have mt := mTo_at 0 (8 * h) true al
    cases al with
    | true =>
      rw [mt.1 rfl, Int.zero_add] at hm' ⊢
      have cp := cut_plus (8 * h) P j
      rw [hPd, Int.add_zero, hPj] at cp
      have ex : xTo P (8 * h * 2 ^ j) true = 8 * h * 2 ^ j + P := by
        show P + 8 * h * 2 ^ j = _
        omega
      rw [ex, GR.rnd_cut (n := 8 * h * 2 ^ j + P) j (by rw [cp.1]; omega) (by rw [cp.1, ← hpw]; exact hm'.2), cp.1, cp.2, ← hpw]
      rw [show (!decide (P = 0) || false) = true by rw [decide_eq_false (by omega)]; rfl]
    | false =>
      have cm := cut_minus (u := 8 * h) (v := P) (d := j) (by rw [hPj]; omega)
      rw [hPd, Int.sub_zero] at cm
      rw [mt.2 rfl, if_pos (by omega), if_pos rfl, Int.sub_zero] at hm' ⊢
      have ex : xTo P (8 * h * 2 ^ j) false = 8 * h * 2 ^ j - P := by
        show (if P < 8 * h * 2 ^ j then _ else _) = _
        rw [if_pos big]
      rw [ex, GR.rnd_cut (n := 8 * h * 2 ^ j - P) j (by rw [cm.1]; omega) (by rw [cm.1, ← hpw]; exact hm'.2), cm.1, ← hpw]
      rw [show (!decide ((8 * h * 2 ^ j - P) % 2 ^ j = 0) || false) = true by rw [decide_eq_false cm.2]; rfl]
  by_cases cB : 0 ≤ hp - pp
  · have e : pl tl P pp h hp = (P, h * 2 ^ (hp - pp).toNat, pp, false) := by
      unfold pl
      rw [if_neg cA, if_pos cB]
    have hlw : lwr pp hp = pp := by
      unfold lwr
      split <;> omega
    rw [e, hlw, Int.sub_self]
    show GR.rnd sc tl s (mTo (mx P (h * 2 ^ (hp - pp).toNat)) (mn P (h * 2 ^ (hp - pp).toNat)) false al) pp way false = GR.rnd sc tl s (xTo (P * 2 ^ 0) (h * 2 ^ (hp - pp).toNat) al) pp way false ∧ (h * 2 ^ (hp - pp).toNat ≤ P ↔ h * 2 ^ (hp - pp).toNat ≤ P * 2 ^ 0) ∧ 0 < xTo (P * 2 ^ 0) (h * 2 ^ (hp - pp).toNat) al
    rw [Int.pow_zero, Int.mul_one]
    have mt := mTo_at P (h * 2 ^ (hp - pp).toNat) false al
    have : mTo (mx P (h * 2 ^ (hp - pp).toNat)) (mn P (h * 2 ^ (hp - pp).toNat)) false al = xTo P (h * 2 ^ (hp - pp).toNat) al := by
      cases al with
      | true => exact mt.1 rfl
      | false =>
        rw [mt.2 rfl]
        show (if P < h * 2 ^ (hp - pp).toNat then _ else _) - 0 = (if P < h * 2 ^ (hp - pp).toNat then _ else _)
        rw [Int.sub_zero]
    rw [e] at hT ht0
    have hT2 : ¬ mTo (mx P (h * 2 ^ (hp - pp).toNat)) (mn P (h * 2 ^ (hp - pp).toNat)) false al = 0 := hT
    have ht2 : 0 ≤ mTo (mx P (h * 2 ^ (hp - pp).toNat)) (mn P (h * 2 ^ (hp - pp).toNat)) false al := ht0
    rw [this] at hT2 ht2 ⊢
    exact ⟨rfl, Iff.rfl, by omega⟩
  · have e : pl tl P pp h hp = (P * 2 ^ byN tl pp hp, h / 2 ^ cuN tl pp hp, pp - (byN tl pp hp : Nat), !decide (h / 2 ^ cuN tl pp hp * 2 ^ cuN tl pp hp = h)) := by
      unfold pl
      rw [if_neg cA, if_neg cB]
    have hb := by_in (tl := tl) cB
    have hlw : lwr pp hp = hp := by
      unfold lwr
      split <;> omega
    have hdd : (pp - hp).toNat = byN tl pp hp + cuN tl pp hp := by omega
    have hpw : pp - ((byN tl pp hp : Nat) : Int) = hp + ((cuN tl pp hp : Nat) : Int) := by omega
    rw [e] at hmo hT ht0 ⊢
    rw [hlw, Int.sub_self, hdd, hpw, GM.pow_add', ← Int.mul_assoc]
    rw [hpw] at hmo
    have hbig : ¬ h / 2 ^ cuN tl pp hp * 2 ^ cuN tl pp hp = h → h / 2 ^ cuN tl pp hp < P * 2 ^ byN tl pp hp := fun m' => by
      have hd0 : 0 < cuN tl pp hp := by
        apply Classical.byContradiction
        intro z
        rw [show cuN tl pp hp = 0 by omega] at m'
        exact m' (by rw [Int.pow_zero, Int.ediv_one, Int.mul_one])
      have ey := hb.2.2 hd0
      have e5 : (2 : Int) ^ byN tl pp hp = 2 ^ tl * 32 := by rw [ey, GM.pow_add']; rfl
      have n1 : h / 2 ^ cuN tl pp hp ≤ h := Int.ediv_le_self _ (by omega)
      have := Int.mul_le_mul_of_nonneg_right P0 (Int.le_of_lt (GM.pow_pos' (byN tl pp hp)))
      rw [e5] at this ⊢
      omega
    generalize P * 2 ^ byN tl pp hp = U at *
    generalize cuN tl pp hp = d at *
    have pd := GM.pow_pos' d
    have ediv := Int.emod_add_mul_ediv h (2 ^ d)
    have r0 := Int.emod_nonneg h (show (2 : Int) ^ d ≠ 0 by omega)
    have r1 := Int.emod_lt_of_pos h pd
    show GR.rnd sc tl s (mTo (mx U (h / 2 ^ d)) (mn U (h / 2 ^ d)) (!decide (h / 2 ^ d * 2 ^ d = h)) al) (hp + (d : Int)) way (!decide (h / 2 ^ d * 2 ^ d = h)) = GR.rnd sc tl s (xTo (U * 2 ^ d) (h * 2 ^ 0) al) hp way false ∧ (h / 2 ^ d ≤ U ↔ h * 2 ^ 0 ≤ U * 2 ^ d) ∧ 0 < xTo (U * 2 ^ d) (h * 2 ^ 0) al
    have hmo' : (!decide (h / 2 ^ d * 2 ^ d = h)) = true → mTo (mx U (h / 2 ^ d)) (mn U (h / 2 ^ d)) (!decide (h / 2 ^ d * 2 ^ d = h)) al ≠ 0 ∧ hp + (d : Int) < GR.lap sc tl (mTo (mx U (h / 2 ^ d)) (mn U (h / 2 ^ d)) (!decide (h / 2 ^ d * 2 ^ d = h)) al) (hp + (d : Int)) := hmo
    have hT' : ¬ mTo (mx U (h / 2 ^ d)) (mn U (h / 2 ^ d)) (!decide (h / 2 ^ d * 2 ^ d = h)) al = 0 := hT
    have ht0' : 0 ≤ mTo (mx U (h / 2 ^ d)) (mn U (h / 2 ^ d)) (!decide (h / 2 ^ d * 2 ^ d = h)) al := ht0
    rw [Int.pow_zero, Int.mul_one]
    have mt := mTo_at U (h / 2 ^ d) (!decide (h / 2 ^ d * 2 ^ d = h)) al
    rw [Int.mul_comm] at ediv
    by_cases cx : h / 2 ^ d * 2 ^ d = h
    · have em : (!decide (h / 2 ^ d * 2 ^ d = h)) = false := by rw [decide_eq_true cx]; rfl
      rw [em] at hT' ht0' mt ⊢
      generalize h / 2 ^ d = v at *
      have ex : xTo (U * 2 ^ d) h al = xTo U v al * 2 ^ d := by
        rw [← cx]
        cases al with
        | true =>
          show U * 2 ^ d + v * 2 ^ d = (U + v) * 2 ^ d
          rw [Int.add_mul]
        | false =>
          show (if U * 2 ^ d < v * 2 ^ d then v * 2 ^ d - U * 2 ^ d else U * 2 ^ d - v * 2 ^ d) = (if U < v then v - U else U - v) * 2 ^ d
          by_cases c : U < v
          · rw [if_pos c, if_pos (Int.mul_lt_mul_of_pos_right c pd), Int.sub_mul]
          · rw [if_neg c, if_neg (fun z => c (Int.lt_of_mul_lt_mul_right z (Int.le_of_lt pd))), Int.sub_mul]
      have et : mTo (mx U v) (mn U v) false al = xTo U v al := by
        cases al with
        | true => exact mt.1 rfl
        | false =>
          rw [mt.2 rfl]
          show (if U < v then _ else _) - 0 = (if U < v then _ else _)
          rw [Int.sub_zero]
      rw [et] at hT' ht0' ⊢
      refine ⟨?_, ?_, by rw [ex]; exact Int.mul_pos (by omega) pd⟩
      · have := GR.rnd_scale (sc := sc) (tl := tl) (s := s) (n := xTo U v al) (p := hp + (d : Int)) (w := way) (m := false) d (by omega)
        rw [ex, ← this, Int.add_sub_cancel]
      · rw [← cx]
        exact ⟨fun z => Int.mul_le_mul_of_nonneg_right z (Int.le_of_lt pd), fun z => Int.le_of_mul_le_mul_right z pd⟩
    · have em : (!decide (h / 2 ^ d * 2 ^ d = h)) = true := by rw [decide_eq_false cx]; rfl
      have hr : ¬ h % 2 ^ d = 0 := fun z => cx (by omega)
      have hv := hbig cx
      have hmm := hmo' em
      rw [em] at hmm mt ht0' ⊢
      have hlt : h ≤ U * 2 ^ d := by
        have := Int.mul_le_mul_of_nonneg_right (show h / 2 ^ d + 1 ≤ U by omega) (Int.le_of_lt pd)
        rw [Int.add_mul, Int.one_mul] at this
        omega
      have xp : 0 < xTo (U * 2 ^ d) h al := by
        cases al with
        | true =>
          show 0 < U * 2 ^ d + h
          omega
        | false =>
          show 0 < (if U * 2 ^ d < h then h - U * 2 ^ d else U * 2 ^ d - h)
          rw [if_neg (by omega)]
          have : ¬ U * 2 ^ d - h = 0 := fun z => (cut_minus (u := U) (v := h) (d := d) hr).2 (by rw [z]; rfl)
          omega
      refine ⟨?_, ⟨fun _ => hlt, fun _ => by omega⟩, xp⟩
      cases al with
      | true =>
        rw [mt.1 rfl] at hmm ⊢
        have cp := cut_plus U h d
        have n0 := Int.ediv_nonneg (show 0 ≤ h by omega) (Int.le_of_lt pd)
        show _ = GR.rnd sc tl s (U * 2 ^ d + h) hp way false
        rw [GR.rnd_cut (n := U * 2 ^ d + h) d (by rw [cp.1]; omega) (by rw [cp.1]; exact hmm.2), cp.1, cp.2]
        rw [show (!decide (h % 2 ^ d = 0) || false) = true by rw [decide_eq_false hr]; rfl]
      | false =>
        have cm := cut_minus (u := U) (v := h) (d := d) hr
        rw [mt.2 rfl, if_neg (by omega), if_pos rfl] at hmm ht0' ⊢
        have exx : xTo (U * 2 ^ d) h false = U * 2 ^ d - h := by
          show (if U * 2 ^ d < h then _ else _) = _
          rw [if_neg (by omega)]
        rw [exx, GR.rnd_cut (n := U * 2 ^ d - h) d (by rw [cm.1]; omega) (by rw [cm.1]; exact hmm.2), cm.1]
        rw [show (!decide ((U * 2 ^ d - h) % 2 ^ d = 0) || false) = true by rw [decide_eq_false cm.2]; rfl]
theorem sgn_sum {s1 s2 P h X Y : Int} {x y : Nat} (hs1 : s1 = 0 ∨ s1 = 1) (hs2 : s2 = 0 ∨ s2 = 1) (hX : P * 2 ^ x = X) (hY : h * 2 ^ y = Y) (xp : 0 < xTo X Y (decide (s1 = s2))) :
    (if s1 = 1 then -P else P) * 2 ^ x + (if s2 = 1 then -h else h) * 2 ^ y = if (if Y ≤ X then s1 else s2) = 1 then -(xTo X Y (decide (s1 = s2))) else xTo X Y (decide (s1 = s2)) := by
  have a0 : (if (0 : Int) = 1 then -P else P) * 2 ^ x = X := by rw [if_neg (by decide), hX]
  have a1 : (if (1 : Int) = 1 then -P else P) * 2 ^ x = -X := by rw [if_pos rfl, Int.neg_mul, hX]
  have b0 : (if (0 : Int) = 1 then -h else h) * 2 ^ y = Y := by rw [if_neg (by decide), hY]
  have b1 : (if (1 : Int) = 1 then -h else h) * 2 ^ y = -Y := by rw [if_pos rfl, Int.neg_mul, hY]
  have t1 : xTo X Y true = X + Y := rfl
  have t0 : xTo X Y false = if X < Y then Y - X else X - Y := rfl
  rcases hs1 with z | z <;> rcases hs2 with w | w <;> subst z <;> subst w
  · rw [a0, b0, show decide ((0 : Int) = 0) = true from rfl, t1, show (if Y ≤ X then (0 : Int) else 0) = 0 by split <;> rfl, if_neg (by decide)]
  · rw [show decide ((0 : Int) = 1) = false from rfl, t0] at xp ⊢
    rw [a0, b1]
    by_cases c : Y ≤ X
    · rw [if_neg (show ¬ X < Y by omega)] at xp ⊢
      rw [if_pos c, if_neg (show ¬ (0 : Int) = 1 by decide)]
      omega
    · rw [if_pos (show X < Y by omega)] at xp ⊢
      rw [if_neg c, if_pos (show (1 : Int) = 1 from rfl)]
      omega
  · rw [show decide ((1 : Int) = 0) = false from rfl, t0] at xp ⊢
    rw [a1, b0]
    by_cases c : Y ≤ X
    · rw [if_neg (show ¬ X < Y by omega)] at xp ⊢
      rw [if_pos c, if_pos (show (1 : Int) = 1 from rfl)]
      omega
    · rw [if_pos (show X < Y by omega)] at xp ⊢
      rw [if_neg c, if_neg (show ¬ (0 : Int) = 1 by decide)]
      omega
  · rw [a1, b1, show decide ((1 : Int) = 1) = true from rfl, t1, show (if Y ≤ X then (1 : Int) else 1) = 1 by split <;> rfl, if_pos rfl]
    omega
theorem last_join {sc tl : Nat} {a b c : Int} {way : Str} (h1 : 2 ≤ sc) (h2 : sc ≤ 8) (h4 : tl ≤ 24) (ra : ¬ GM.topS sc tl ≤ sz sc tl a ∧ ¬ sz sc tl a = 0) (rb : ¬ GM.topS sc tl ≤ sz sc tl b ∧ ¬ sz sc tl b = 0) (rc : ¬ GM.topS sc tl ≤ sz sc tl c ∧ ¬ sz sc tl c = 0) :
    jLast sc tl a b c way = totR sc tl (tgn (wn sc tl a * wn sc tl b) (wp sc tl a + wp sc tl b) (wn sc tl c) (wp sc tl c)) (lwr (wp sc tl a + wp sc tl b) (wp sc tl c)) (if way = "down" then 1 else 0) way := by
  obtain ⟨P0, P1, pf⟩ := jp_facts h1 h2 h4 ra rb rc
  have pc := hd_pos rc.2
  have la : hd sc tl a < 2 * 2 ^ tl := num_lt (sz_nn sc tl a)
  have lb : hd sc tl b < 2 * 2 ^ tl := num_lt (sz_nn sc tl b)
  have lc : hd sc tl c < 2 * 2 ^ tl := num_lt (sz_nn sc tl c)
  have pa := hd_pos ra.2
  have pb := hd_pos rb.2
  have P2 : hd sc tl a * hd sc tl b < 2 ^ (2 * tl + 2) := by
    have hp := GM.pow_pos' tl
    have e := Int.mul_lt_mul la (Int.le_of_lt lb) (by omega) (by omega)
    have e2 : (2 : Int) ^ (2 * tl + 2) = 2 * 2 ^ tl * (2 * 2 ^ tl) := by
      rw [show 2 * tl + 2 = (tl + 1) + (tl + 1) by omega, GM.pow_add', GM.pow_s, Int.mul_comm (2 ^ tl) 2]
    rw [e2]
    exact e
  have hw : wn sc tl c = if GM.sgn sc tl c = 1 then -(hd sc tl c) else hd sc tl c := rfl
  have s1 := sx_01 sc tl a b
  have s2 := GM.sgn_01 (m := sc) (t := tl) (w := c)
  unfold jLast
  by_cases hT : jTo sc tl a b c = 0
  · rw [if_pos hT]
    have zz := pf.z _ hT
    have hs := of_decide_eq_false zz.1
    have hz : tgn (wn sc tl a * wn sc tl b) (wp sc tl a + wp sc tl b) (wn sc tl c) (wp sc tl c) = 0 := by
      unfold tgn
      rw [wn_mul, hw]
      have he := zz.2
      rcases s1 with s1 | s1 <;> rcases s2 with s2 | s2 <;> rw [s1, s2] at hs ⊢
      · exact absurd rfl hs
      · rw [if_neg (by decide), if_pos rfl, Int.neg_mul, he]
        omega
      · rw [if_pos rfl, if_neg (by decide), Int.neg_mul, he]
        omega
      · exact absurd rfl hs
    unfold totR
    rw [if_pos hz]
  · rw [if_neg hT]
    have key := pl_exact (sc := sc) (s := jSg sc tl a b c) (way := way) h4 P0 P2 pf pc lc (decide (sx sc tl a b = GM.sgn sc tl c)) hT
    have hS : jSg sc tl a b c = if hd sc tl c * 2 ^ (wp sc tl c - lwr (wp sc tl a + wp sc tl b) (wp sc tl c)).toNat ≤ hd sc tl a * hd sc tl b * 2 ^ (wp sc tl a + wp sc tl b - lwr (wp sc tl a + wp sc tl b) (wp sc tl c)).toNat then sx sc tl a b else GM.sgn sc tl c := by
      unfold jSg
      by_cases z : (jpl sc tl a b c).2.1 ≤ (jpl sc tl a b c).1
      · rw [if_pos z, if_pos (key.2.1.mp z)]
      · rw [if_neg z, if_neg (fun y => z (key.2.1.mpr y))]
    refine key.1.trans ?_
    have xp := key.2.2
    have e : tgn (wn sc tl a * wn sc tl b) (wp sc tl a + wp sc tl b) (wn sc tl c) (wp sc tl c) = if jSg sc tl a b c = 1 then -(xTo (hd sc tl a * hd sc tl b * 2 ^ (wp sc tl a + wp sc tl b - lwr (wp sc tl a + wp sc tl b) (wp sc tl c)).toNat) (hd sc tl c * 2 ^ (wp sc tl c - lwr (wp sc tl a + wp sc tl b) (wp sc tl c)).toNat) (decide (sx sc tl a b = GM.sgn sc tl c))) else xTo (hd sc tl a * hd sc tl b * 2 ^ (wp sc tl a + wp sc tl b - lwr (wp sc tl a + wp sc tl b) (wp sc tl c)).toNat) (hd sc tl c * 2 ^ (wp sc tl c - lwr (wp sc tl a + wp sc tl b) (wp sc tl c)).toNat) (decide (sx sc tl a b = GM.sgn sc tl c)) := by
      rw [hS]
      unfold tgn
      rw [wn_mul, hw]
      exact sgn_sum s1 s2 rfl rfl xp
    have j01 : jSg sc tl a b c = 0 ∨ jSg sc tl a b c = 1 := by
      unfold jSg
      split
      · exact s1
      · exact s2
    generalize xTo (hd sc tl a * hd sc tl b * 2 ^ (wp sc tl a + wp sc tl b - lwr (wp sc tl a + wp sc tl b) (wp sc tl c)).toNat) (hd sc tl c * 2 ^ (wp sc tl c - lwr (wp sc tl a + wp sc tl b) (wp sc tl c)).toNat) (decide (sx sc tl a b = GM.sgn sc tl c)) = N at *
    unfold totR
    rw [e]
    rcases j01 with z | z <;> rw [z]
    · rw [if_neg (show ¬ (0 : Int) = 1 by decide), if_neg (show ¬ N = 0 by omega), if_neg (show ¬ N < 0 by omega)]
      unfold ab
      rw [if_neg (show ¬ N < 0 by omega)]
    · rw [if_pos (show (1 : Int) = 1 from rfl), if_neg (show ¬ -N = 0 by omega), if_pos (show -N < 0 by omega)]
      unfold ab
      rw [if_pos (show -N < 0 by omega), Int.neg_neg]
end
section
variable {P : Program} {w : World} {K : PySem.W.Frag} {mg : Str → Option Value} {base : Heap}
variable {C : Addr} {CD : Addr} {za : Nat → Addr} {zl : Nat → FuncData} {t73 t74 t75 tg_NEAR tg_CUT tg_UP tg_DOWN : Tok} {dO : Addr} {esO : Array DictEntry} {nO : Nat}
theorem fm_is {ds : List Int} {i : Nat} (h : ∀ j, j < i → mk ds j = false) (h2 : (i < ds.length ∧ mk ds i = true) ∨ i = ds.length) : fm ds = i := by
  have le := fm_le ds
  have get : ∀ j, j < ds.length → (marks ds)[j]? = some (mkI ds j) := fun j hj => by
    unfold marks
    rw [List.getElem?_map, List.getElem?_range hj]
    rfl
  rcases Nat.lt_trichotomy (fm ds) i with c | c | c
  · have hl : fm ds < ds.length := by
      rcases h2 with z | z <;> omega
    have e := fm_at ds hl
    rw [get _ hl] at e
    have := h _ c
    unfold mkI at e
    rw [this] at e
    exact absurd (Option.some.inj e) (by decide)
  · exact c
  · rcases h2 with ⟨hl, hm⟩ | z
    · obtain ⟨z, e1, e2⟩ := fm_none ds c
      rw [get _ hl] at e1
      unfold mkI at e1
      rw [hm] at e1
      exact absurd (Option.some.inj e1).symm e2
    · omega
def spTkS (K : PySem.W.Frag) (C : Addr) : Sp := fun vs H Q _ => ∃ (x : Addr) (sc tl : Nat) (a b : Int) (way : Str), vs = [.ref x, .int a, .int b, .str way] ∧ FAt C H x sc tl ∧
  ∀ l xs H', H l = none → Same H H' → H' l = some (.lst xs) → xs.length ≤ 5 → Dp K H' (.ref l) (addD sc tl a (trn sc tl b) way) → Q (.ref l) H'
theorem ok_take_steps (B : Bl mg) (L : LL K mg C CD za zl t73 t74 t75 tg_NEAR tg_CUT tg_UP tg_DOWN w dO esO nO) : FnOk P w K mg base CX0 12 (za 43) (zl 43) ["form", "a", "b", "way"] (spTkS K C) := by
  have G_add_steps : FnOk P w K mg base CX0 11 (za 42) (zl 42) ["form", "a", "b", "way"] (spAS K C) := (ok_add_steps B L).mono (by decide)
  have G_Form_turned : FnOk P w K mg base CX0 11 (za 77) (zl 77) ["self", "word"] (spTurned C) := (ok_Form_turned B L).mono (by decide)
  refine L.F_take_steps.ok sc_take_steps (fun vs H Q E h => ?_) (fun cdv A outer s H vs Q E hr h => ?_)
  · obtain ⟨x, sc, tl, a, b, way, rfl, _⟩ := h
    rfl
  obtain ⟨x, sc, tl, a, b, way, rfl, hF, q⟩ := h
  obtain ⟨dx, hx, h1, h2, h3, h4⟩ := id hF
  refine ⟨_, (pss_one (ps_ret (pe_callN G_add_steps hr (by rfl) L.m_add_steps L.F_add_steps.kp (L.kb_add_steps_way).choose_spec pass0 (pa_cons (pv 0) (pa_cons (pv 1) (pa_cons (pe_meth (pv 0) L.T.cl L.M_Form_turned G_Form_turned hr L.b_Form_turned .nil pass0 (pa_cons (pv 2) pa_nil)) pa_nil))) (pk_cons (pv 3) pk_nil)))), ?_⟩
  refine ⟨_, rfl, _, rfl, _, rfl, x, dx, _, rfl, hx, rfl, _, rfl, x, sc, tl, b, rfl, hF, fun H1 s1 => ?_⟩
  exact ⟨_, rfl, rfl, rfl, x, sc, tl, a, trn sc tl b, way, rfl, hF.same s1, fun l xs H' nl s' el lx D' => q l xs H' (s1.free nl) (s1.trans s') el lx D'⟩
theorem bit_one {x : Int} {k : Nat} (h0 : 2 ^ k ≤ x) (h1 : x < 2 ^ (k + 1)) : GG.bit x k = 1 := by
  have hp := GM.pow_pos' k
  rw [GM.pow_s] at h1
  unfold GG.bit
  have : x / 2 ^ k = 1 := by
    have a := Int.le_ediv_of_mul_le hp (show 1 * 2 ^ k ≤ x by omega)
    have b : x / 2 ^ k < 2 := Int.ediv_lt_of_lt_mul hp (by omega)
    omega
  rw [this]
  rfl
theorem bit_nil {x : Int} {k : Nat} (h0 : 0 ≤ x) (h1 : x < 2 ^ k) : GG.bit x k = 0 := by
  unfold GG.bit
  rw [Int.ediv_eq_zero_of_lt h0 h1]
  rfl
theorem fm_first {tl : Nat} {G N : Int} (g0 : 4 * 2 ^ tl ≤ G) (g1 : G < 2 ^ (tl + 3)) (n0 : 0 ≤ N) (n1 : N < 2 ^ tl) : fm (GG.dgr G N (tl + 3)) = 0 := by
  have e2 : (2 : Int) ^ (tl + 2) = 4 * 2 ^ tl := by rw [GM.pow_s, GM.pow_s]; omega
  have b1 : GG.bit G (tl + 2) = 1 := bit_one (by omega) g1
  have p1 : (2 : Int) ^ tl ≤ 2 ^ (tl + 1) := GM.pow_le' (by omega)
  have p2 : (2 : Int) ^ tl ≤ 2 ^ (tl + 2) := GM.pow_le' (by omega)
  have b2 : GG.bit N (tl + 2) = 0 := bit_nil n0 (by omega)
  have b3 : GG.bit N (tl + 1) = 0 := bit_nil n0 (by omega)
  have b4 := GG.bit_01 G (tl + 1)
  refine fm_is (i := 0) (fun j hj => absurd hj (Nat.not_lt_zero j)) (.inl ⟨by rw [GG.dgr_len]; omega, ?_⟩)
  have d0 : (GG.dgr G N (tl + 3)).getD 0 0 = 1 := by
    show GG.bit G (tl + 2) - GG.bit N (tl + 2) = 1
    rw [b1, b2]
    rfl
  have d1 : bhd (GG.dgr G N (tl + 3)) 0 = GG.bit G (tl + 1) := by
    show GG.bit G (tl + 1) - GG.bit N (tl + 1) = _
    rw [b3]
    omega
  have d2 : ahd (GG.dgr G N (tl + 3)) 0 = 0 := rfl
  unfold mk
  rw [d0, d1, d2]
  rcases b4 with z | z <;> rw [z] <;> decide
structure Gf (sc tl : Nat) (g l : Int) : Prop where
  md : ∃ m : Nat, m ≤ 1 ∧ ((tl + 3 : Nat) : Int) - (Builtin.Int.intBits ((sTo sc tl g l).natAbs : Int) : Nat) - (fm (GG.dgr (4 * hd sc tl g) (sNu sc tl g l) (tl + 3)) : Nat) = (m : Int)
  sh : 0 < sTo sc tl g l → 2 ^ (tl + 1) ≤ sTo sc tl g l * 2 ^ fm (GG.dgr (4 * hd sc tl g) (sNu sc tl g l) (tl + 3)) ∧ sTo sc tl g l * 2 ^ fm (GG.dgr (4 * hd sc tl g) (sNu sc tl g l) (tl + 3)) < 2 ^ (tl + 3)
theorem guess_facts {sc tl : Nat} {g l : Int} (h3 : 1 ≤ tl) (h : sz sc tl l ≤ sz sc tl g) (hg : ¬ sz sc tl g = 0) (hs : ¬ GM.sgn sc tl g = GM.sgn sc tl l) : Gf sc tl g l := by
  have sf := sum_facts h3 h hg
  have hmo := sf.mf
  have hG : hd sc tl g < 2 * 2 ^ tl := num_lt (sz_nn sc tl g)
  have hp := GM.pow_pos' tl
  have e3 : (2 : Int) ^ (tl + 3) = 8 * 2 ^ tl := by rw [GM.pow_s, GM.pow_s, GM.pow_s]; omega
  have e1 : (2 : Int) ^ (tl + 1) = 2 * 2 ^ tl := by rw [GM.pow_s]; omega
  have n0 := sf.n0
  have nl := sf.nl
  have eT : sTo sc tl g l = 4 * hd sc tl g - sNu sc tl g l - (if sMo sc tl g l = true then 1 else 0) := by
    unfold sTo mTo
    rw [if_neg (by simpa using hs)]
  have md : ∃ m : Nat, m ≤ 1 ∧ ((tl + 3 : Nat) : Int) - (Builtin.Int.intBits ((sTo sc tl g l).natAbs : Int) : Nat) - (fm (GG.dgr (4 * hd sc tl g) (sNu sc tl g l) (tl + 3)) : Nat) = (m : Int) := by
    cases hm : sMo sc tl g l with
    | false =>
      rw [hm, if_neg (by decide), Int.sub_zero] at eT
      obtain ⟨m, a1, a2, _⟩ := mend_01 (a := 4 * hd sc tl g) (b := sNu sc tl g l) (n := tl + 3) (by omega) (by omega) n0 (by omega)
      rw [eT]
      exact ⟨m, a1, a2⟩
    | true =>
      have k := hmo hm
      rw [hm, if_pos rfl] at eT
      rw [fm_first (by omega) (by omega) n0 k.1]
      obtain ⟨j, c1, c2, c3⟩ := GR.bl_in (n := sTo sc tl g l) (by omega)
      have hj1 : tl + 1 ≤ j := by
        apply Classical.byContradiction
        intro z
        have : (2 : Int) ^ (j + 1) ≤ 2 ^ (tl + 1) := GM.pow_le' (by omega)
        omega
      have hj2 : j ≤ tl + 2 := by
        apply Classical.byContradiction
        intro z
        have : (2 : Int) ^ (tl + 3) ≤ 2 ^ j := GM.pow_le' (by omega)
        omega
      have eb : (Builtin.Int.intBits ((sTo sc tl g l).natAbs : Int) : Nat) = j + 1 := by
        unfold GR.bl at c1
        rw [show ((sTo sc tl g l).natAbs : Int) = sTo sc tl g l by omega]
        omega
      rw [eb]
      exact ⟨tl + 2 - j, by omega, by omega⟩
  refine ⟨md, fun hT => ?_⟩
  obtain ⟨m, m1, m2⟩ := md
  generalize fm (GG.dgr (4 * hd sc tl g) (sNu sc tl g l) (tl + 3)) = z at *
  obtain ⟨j, c1, c2, c3⟩ := GR.bl_in (n := sTo sc tl g l) hT
  unfold GR.bl at c1
  rw [show ((sTo sc tl g l).natAbs : Int) = sTo sc tl g l by omega] at m2
  have pz := GM.pow_pos' z
  have a1 := Int.mul_le_mul_of_nonneg_right c2 (Int.le_of_lt pz)
  have a2 := Int.mul_lt_mul_of_pos_right c3 pz
  rw [← GM.pow_add'] at a1 a2
  have b1 : (2 : Int) ^ (tl + 1) ≤ 2 ^ (j + z) := GM.pow_le' (by omega)
  have b2 : (2 : Int) ^ (j + 1 + z) ≤ 2 ^ (tl + 3) := GM.pow_le' (by omega)
  exact ⟨by omega, by omega⟩
theorem dp_inv_lst {H : Hp} {v : V} {ds : List PyData} (h : Dp K H v (.list ds)) : ∃ t us, v = .ref t ∧ SqL K H t us ∧ DpAll K H us ds := by
  cases h with
  | lst hs ha => exact ⟨_, _, rfl, hs, ha⟩
theorem dp_inv_tup {H : Hp} {v : V} {ds : List PyData} (h : Dp K H v (.tuple ds)) : ∃ t us, v = .ref t ∧ SqT K H t us ∧ DpAll K H us ds := by
  cases h with
  | tup hs ha => exact ⟨_, _, rfl, hs, ha⟩
theorem dp_inv_int {H : Hp} {v : V} {i : Int} (h : Dp K H v (.int i)) : v = .int i := by
  cases h
  rfl
theorem dp_inv_str {H : Hp} {v : V} {i : Str} (h : Dp K H v (.str i)) : v = .str i := by
  cases h
  rfl
theorem dp_inv_bl {H : Hp} {v : V} {i : Bool} (h : Dp K H v (.bool i)) : v = .bl i := by
  cases h
  rfl
theorem dpa_cons {H : Hp} {vs : List V} {d : PyData} {ds : List PyData} (h : DpAll K H vs (d :: ds)) : ∃ v us, vs = v :: us ∧ Dp K H v d ∧ DpAll K H us ds := by
  cases h with
  | cons h1 h2 => exact ⟨_, _, rfl, h1, h2⟩
theorem dpa_nil {H : Hp} {vs : List V} (h : DpAll K H vs []) : vs = [] := by
  cases h
  rfl
theorem sum_inv {sc tl : Nat} {g l : Int} {H : Hp} {lr : Addr} {way : Str} (h : Dp K H (.ref lr) (sumD sc tl g l way)) :
    ∃ (t0 t1 t2 t3 : Addr) (rest : List V), (rest = [] ∨ ∃ r, rest = [r]) ∧ SqL K H lr (.ref t0 :: .ref t1 :: .ref t2 :: .ref t3 :: rest) ∧ SqT K H t0 [.str "order", .int g, .int l] ∧ SqT K H t1 [.str "shift", .int (sNu sc tl g l), .bl (sMo sc tl g l)] ∧ (∃ nm : Str, SqT K H t2 [.str nm, .int (sTo sc tl g l)]) ∧
      ((GM.sgn sc tl g = GM.sgn sc tl l ∧ ∃ us, SqT K H t3 (.str "round" :: us)) ∨ (¬ GM.sgn sc tl g = GM.sgn sc tl l ∧ SqT K H t3 [.str "guess", .int (fm (GG.dgr (4 * hd sc tl g) (sNu sc tl g l) (tl + 3)) : Nat), .int (((tl + 3 : Nat) : Int) - (Builtin.Int.intBits ((sTo sc tl g l).natAbs : Int) : Nat) - (fm (GG.dgr (4 * hd sc tl g) (sNu sc tl g l) (tl + 3)) : Nat))])) := by
  unfold sumD mMid at h
  obtain ⟨t, us, e, hL, hA⟩ := dp_inv_lst h
  cases e
  obtain ⟨v0, r0, rfl, D0, hA1⟩ := dpa_cons hA
  obtain ⟨v1, r1, rfl, D1, hA2⟩ := dpa_cons hA1
  obtain ⟨t0, u0, rfl, S0, A0⟩ := dp_inv_tup D0
  obtain ⟨t1, u1, rfl, S1, A1⟩ := dp_inv_tup D1
  obtain ⟨w1, y1, rfl, E1, B1⟩ := dpa_cons A0
  obtain ⟨w2, y2, rfl, E2, B2⟩ := dpa_cons B1
  obtain ⟨w3, y3, rfl, E3, B3⟩ := dpa_cons B2
  have e1 := dpa_nil B3
  have e2 := dp_inv_str E1
  have e3 := dp_inv_int E2
  have e4 := dp_inv_int E3
  subst e1 e2 e3 e4
  clear E1 E2 E3 A0 B1 B2 B3
  obtain ⟨w1, y1, rfl, E1, B1⟩ := dpa_cons A1
  obtain ⟨w2, y2, rfl, E2, B2⟩ := dpa_cons B1
  obtain ⟨w3, y3, rfl, E3, B3⟩ := dpa_cons B2
  have e1 := dpa_nil B3
  have e2 := dp_inv_str E1
  have e3 := dp_inv_int E2
  have e4 := dp_inv_bl E3
  subst e1 e2 e3 e4
  by_cases hs : GM.sgn sc tl g = GM.sgn sc tl l
  · rw [decide_eq_true hs, if_pos rfl] at hA2
    obtain ⟨v2, r2, rfl, D2, hA3⟩ := dpa_cons hA2
    obtain ⟨v3, r3, rfl, D3, hA4⟩ := dpa_cons hA3
    obtain ⟨t2, u2, rfl, S2, A2⟩ := dp_inv_tup D2
    obtain ⟨t3, u3, rfl, S3, A3⟩ := dp_inv_tup D3
    obtain ⟨w1, z1, rfl, E1, B1⟩ := dpa_cons A2
    obtain ⟨w2, z2, rfl, E2, B2⟩ := dpa_cons B1
    have e1 := dpa_nil B2
    have e2 := dp_inv_str E1
    have e3 := dp_inv_int E2
    subst e1 e2 e3
    obtain ⟨w, y4, rfl, E0, C3⟩ := dpa_cons A3
    have e0 := dp_inv_str E0
    subst e0
    refine ⟨t0, t1, t2, t3, r3, .inl (dpa_nil hA4), hL, S0, S1, ⟨"sum", ?_⟩, .inl ⟨hs, y4, S3⟩⟩
    have eT : sTo sc tl g l = mTo (4 * hd sc tl g) (sNu sc tl g l) (sMo sc tl g l) true := by unfold sTo; rw [decide_eq_true hs]
    rw [eT]
    exact S2
  · rw [decide_eq_false hs, if_neg (by decide)] at hA2
    have eT : sTo sc tl g l = mTo (4 * hd sc tl g) (sNu sc tl g l) (sMo sc tl g l) false := by unfold sTo; rw [decide_eq_false hs]
    rw [← eT] at hA2
    obtain ⟨v2, r2, rfl, D2, hA3⟩ := dpa_cons hA2
    obtain ⟨v3, r3, rfl, D3, hA4⟩ := dpa_cons hA3
    obtain ⟨t2, u2, rfl, S2, A2⟩ := dp_inv_tup D2
    obtain ⟨t3, u3, rfl, S3, A3⟩ := dp_inv_tup D3
    obtain ⟨w1, z1, rfl, E1, B1⟩ := dpa_cons A2
    obtain ⟨w2, z2, rfl, E2, B2⟩ := dpa_cons B1
    have e1 := dpa_nil B2
    have e2 := dp_inv_str E1
    have e3 := dp_inv_int E2
    subst e1 e2 e3
    clear E1 E2 B1 B2
    obtain ⟨w1, z1, rfl, E1, B1⟩ := dpa_cons A3
    obtain ⟨w2, z2, rfl, E2, B2⟩ := dpa_cons B1
    obtain ⟨w3, z3, rfl, E3, B3⟩ := dpa_cons B2
    have e1 := dpa_nil B3
    have e2 := dp_inv_str E1
    have e3 := dp_inv_int E2
    have e4 := dp_inv_int E3
    subst e1 e2 e3 e4
    have hr : ∃ r, r3 = [r] := by
      obtain ⟨v4, r4, e4, _, hA5⟩ := dpa_cons hA4
      rw [dpa_nil hA5] at e4
      exact ⟨v4, e4⟩
    exact ⟨t0, t1, t2, t3, r3, .inr hr, hL, S0, S1, ⟨"less", S2⟩, .inr ⟨hs, S3⟩⟩
theorem sqT_same {H H' : Hp} {t : Addr} {us : List V} (h : SqT K H t us) (s : Same H H') : SqT K H' t us := Same.seqT s h
theorem neQ {x y : Int} {P : Bool → Prop} (h : x = y) (p : P false) : P (!decide (V.int x = V.int y)) := by
  rw [decide_eq_true (congrArg V.int h)]
  exact p
theorem at_zero {v : V} {us : List V} : atI (v :: us) 0 = some v := by
  unfold atI ixN
  rw [if_pos (by decide), if_pos (by rw [List.length_cons]; omega)]
  rfl
def spCutR (C : Addr) : Sp := fun vs H Q _ => ∃ (x lr : Addr) (sc tl : Nat) (g l : Int) (how : Str), vs = [.ref x, .ref lr, .str how] ∧ FAt C H x sc tl ∧ sz sc tl l ≤ sz sc tl g ∧ (¬ GM.topS sc tl ≤ sz sc tl g ∧ ¬ sz sc tl g = 0) ∧ (¬ GM.topS sc tl ≤ sz sc tl l ∧ ¬ sz sc tl l = 0) ∧ Dp K H (.ref lr) (sumD sc tl g l how) ∧
  ∀ H', Same H H' → Q (.bl true) H'
theorem ok__law_cut_right (B : Bl mg) (L : LL K mg C CD za zl t73 t74 t75 tg_NEAR tg_CUT tg_UP tg_DOWN w dO esO nO) : FnOk P w K mg base CX0 12 (za 64) (zl 64) ["_law_form", "_law_steps", "_law_how"] (spCutR (K := K) C) := by
  have G_zeros_of : FnOk P w K mg base CX0 11 (za 32) (zl 32) ["number", "many"] spZerosOf := (ok_zeros_of B L).mono (by decide)
  have G_Form_worth : FnOk P w K mg base CX0 11 (za 78) (zl 78) ["self", "word"] (spWorth C) := (ok_Form_worth B L).mono (by decide)
  have G_rounded : FnOk P w K mg base CX0 11 (za 4) (zl 4) ["form", "sign", "number", "power", "way", "more"] (spRnd C) := (ok_rounded B L).mono (by decide)
  have G__law_same : FnOk P w K mg base CX0 11 (za 61) (zl 61) ["_law_found", "_law_due"] (spSame K 4) := (ok_same L.F__law_same L.b__law_same L.m__law_same B 4).mono (by decide)
  refine L.F__law_cut_right.ok sc__law_cut_right (fun vs H Q E h => ?_) (fun cdv A outer s H vs Q E hr h => ?_)
  · obtain ⟨x, lr, sc, tl, g, l, how, rfl, _⟩ := h
    rfl
  obtain ⟨x, lr, sc, tl, g, l, how, rfl, hF, hle, rg, rl, hD, q⟩ := h
  obtain ⟨dx, hx, h1, h2, h3, h4⟩ := id hF
  obtain ⟨t0, t1, t2, t3, rest, hrest, hL, S0, S1, ⟨nm, S2⟩, S3⟩ := sum_inv hD
  have i0 : atI (V.ref t0 :: V.ref t1 :: V.ref t2 :: V.ref t3 :: rest) 0 = some (V.ref t0) := by rcases hrest with rfl | ⟨r, rfl⟩ <;> rfl
  have i1 : atI (V.ref t0 :: V.ref t1 :: V.ref t2 :: V.ref t3 :: rest) 1 = some (V.ref t1) := by rcases hrest with rfl | ⟨r, rfl⟩ <;> rfl
  have i2 : atI (V.ref t0 :: V.ref t1 :: V.ref t2 :: V.ref t3 :: rest) 2 = some (V.ref t2) := by rcases hrest with rfl | ⟨r, rfl⟩ <;> rfl
  have i3 : atI (V.ref t0 :: V.ref t1 :: V.ref t2 :: V.ref t3 :: rest) 3 = some (V.ref t3) := by rcases hrest with rfl | ⟨r, rfl⟩ <;> rfl
  have la := last_facts h3 hle rg.2
  have sf := sum_facts h3 hle rg.2
  refine ⟨_, (pss_cons (ps_par3 (by rfl) sc__law_cut_right.nd (i := 3) (j := 4) (l := 5) rfl rfl rfl (by decide) (by decide) (by decide) rfl rfl rfl (pa_cons (pe_ix ix_list (pv 1) pe_int (fun _ _ => rfl)) (pa_cons (pe_ix ix_list (pv 1) pe_int (fun _ _ => rfl)) (pa_cons (pe_ix ix_tup (pe_ix ix_list (pv 1) pe_int (fun _ _ => rfl)) pe_int (fun _ _ => rfl)) pa_nil))) (by rfl))
    (pss_cons (ps_if (pt_cmpR op_eq (pe_ix ix_tup (pe_ix ix_list (pv 1) pe_int (fun _ _ => rfl)) pe_int (fun _ _ => rfl)) pe_str (nomark _)) (pss_cons (ps_set (i := 6) sc__law_cut_right.nd rfl (.inl rfl) (pe_call G_zeros_of hr (by rfl) L.m_zeros_of L.F_zeros_of.kp L.b_zeros_of .nil pass0 (pa_cons (pv 5) (pa_cons (pe_op op_add (pe_fld (pv 0) rfl) pe_int) pa_nil))))
    (pss_one (ps_if (PW.pt (pw_or (pt_cmpR op_ne (pe_op op_add (pe_ix ix_tup (pe_ix ix_list (pv 1) pe_int (fun _ _ => rfl)) pe_int (fun _ _ => rfl)) (pe_ix ix_tup (pe_ix ix_list (pv 1) pe_int (fun _ _ => rfl)) pe_int (fun _ _ => rfl))) (pv 6) (nomark _)) (pw_or1 (pt_cmpR op_notIn_seq (pe_ix ix_tup (pe_ix ix_list (pv 1) pe_int (fun _ _ => rfl)) pe_int (fun _ _ => rfl)) (pe_tup (pa_cons pe_int (pa_cons pe_int pa_nil))) (by rfl))))) (pss_one (ps_ret pe_bl)) pss_nil))) pss_nil)
    (pss_cons (ps_asg (pe_tup (pa_cons (pe_meth (pv 0) L.T.cl L.M_Form_worth G_Form_worth hr L.b_Form_worth .nil pass0 (pa_cons (pe_ix ix_tup (pv 3) pe_int (fun _ _ => rfl)) pa_nil)) (pa_cons (pe_meth (pv 0) L.T.cl L.M_Form_worth G_Form_worth hr L.b_Form_worth .nil pass0 (pa_cons (pe_ix ix_tup (pv 3) pe_int (fun _ _ => rfl)) pa_nil)) pa_nil))) (pg_tup (by rfl) (pgs_cons (pg_tup (by rfl) (pgs_cons (pg_name (i := 7) sc__law_cut_right.nd rfl (.inl rfl)) (pgs_cons (pg_name (i := 8) sc__law_cut_right.nd rfl (.inl rfl)) pgs_nil))) (pgs_cons (pg_tup (by rfl) (pgs_cons (pg_name (i := 9) sc__law_cut_right.nd rfl (.inl rfl)) (pgs_cons (pg_name (i := 10) sc__law_cut_right.nd rfl (.inl rfl)) pgs_nil))) pgs_nil))))
    (pss_cons (ps_if (pt_cmpR op_gt (pe_op op_sub (pv 8) (pv 10)) pe_int (nomark _)) (pss_one (ps_ret pe_bl)) pss_nil)
    (pss_cons (ps_set (i := 11) sc__law_cut_right.nd rfl (.inl rfl) (pe_op op_add (pe_op op_shlN (pv 7) (pe_op op_sub (pv 8) (pv 10))) (pv 9)))
    (pss_cons (ps_if (PW.pt (pw_or (pt_cmpR op_eq (pv 11) pe_int (nomark _)) (pw_or1 (pt_cmpR op_eq (pv 5) pe_int (nomark _))))) (pss_one (ps_ret (pe_cmpR op_eq (pv 11) (pv 5) (nomark _)))) pss_nil)
    (pss_cons (ps_set (i := 12) sc__law_cut_right.nd rfl (.inl rfl) (pe_callN G_rounded hr (by rfl) L.m_rounded L.F_rounded.kp (L.kb_rounded_way).choose_spec pass0 (pa_cons (pv 0) (pa_cons (pe_callTy call_int1 (by rfl) B.int PyProof.Rows.boot_int (pa_cons (pe_cmpR op_lt (pv 11) pe_int (nomark _)) pa_nil)) (pa_cons (pe_callB call_abs (by rfl) B.abs boot_abs (pa_cons (pv 11) pa_nil)) (pa_cons (pv 10) pa_nil)))) (pk_cons (pv 2) pk_nil)))
    (pss_one (ps_ret (pe_call G__law_same hr (by rfl) L.m__law_same L.F__law_same.kp L.b__law_same .nil pass0 (pa_cons (pe_callN G_rounded hr (by rfl) L.m_rounded L.F_rounded.kp (L.kb_rounded_way_more).choose_spec pass0 (pa_cons (pv 0) (pa_cons (pe_callTy call_int1 (by rfl) B.int PyProof.Rows.boot_int (pa_cons (pe_cmpR op_lt (pv 7) pe_int (nomark _)) pa_nil)) (pa_cons (pv 5) (pa_cons (pe_op op_sub (pv 8) pe_int) pa_nil)))) (pk_cons (pv 2) (pk_cons (pe_ix ix_tup (pv 4) pe_int (fun _ _ => rfl)) pk_nil))) (pa_cons (pv 12) pa_nil)))))))))))), ?_⟩
  refine ⟨_, rfl, lr, _, _, _, rfl, rfl, hL, i0, _, rfl, lr, _, _, _, rfl, rfl, hL, i1, _, rfl, lr, _, _, _, rfl, rfl, hL, i2, t2, _, _, _, rfl, rfl, S2, rfl, ?_⟩
  refine ⟨_, _, _, rfl, ?_⟩
  try simp only [L2.start, List.map_cons, List.map_nil, List.length_cons, List.length_nil, List.replicate_succ, List.replicate_zero, List.cons_append, List.nil_append, List.set_cons_succ, List.set_cons_zero, Nat.reduceAdd, Nat.reduceSub, Nat.zero_add]
  refine gset_if ?_
  refine ifS_cut (fun σ' H' => ∃ y6, σ' = [some (.ref x), some (.ref lr), some (.str how), some (.ref t0), some (.ref t1), some (.int (sTo sc tl g l)), y6, none, none, none, none, none, none] ∧ Same H H') (fun D' q' => ?_) ?_
  · rcases S3 with ⟨hs, us, S3⟩ | ⟨hs, S3⟩
    · refine ⟨_, rfl, lr, _, _, _, rfl, rfl, hL, i3, t3, _, _, _, rfl, rfl, S3, at_zero, rfl, _, rfl, iteF ?_⟩
      exact q' _ _ ⟨_, rfl, Same.refl _⟩
    · have gf := guess_facts h3 hle rg.2 hs
      obtain ⟨m, hm1, em⟩ := gf.md
      refine ⟨_, rfl, lr, _, _, _, rfl, rfl, hL, i3, t3, _, _, _, rfl, rfl, S3, rfl, rfl, _, rfl, iteT ?_⟩
      refine ⟨_, rfl, _, rfl, x, C, dx, _, _, rfl, hx, L.T.cl, L.T.nt, fl_t _ _, _, _, rfl, rfl, _, _, rfl, ?_⟩
      dsimp only
      try simp only [L2.start, List.map_cons, List.map_nil, List.length_cons, List.length_nil, List.replicate_succ, List.replicate_zero, List.cons_append, List.nil_append, List.set_cons_succ, List.set_cons_zero, Nat.reduceAdd, Nat.reduceSub, Nat.zero_add]
      refine gset_if3 ?_
      try simp only [L2.start, List.map_cons, List.map_nil, List.length_cons, List.length_nil, List.replicate_succ, List.replicate_zero, List.cons_append, List.nil_append, List.set_cons_succ, List.set_cons_zero, Nat.reduceAdd, Nat.reduceSub, Nat.zero_add]
      refine ⟨_, rfl, lr, _, _, _, rfl, rfl, hL, i3, t3, _, _, _, rfl, rfl, S3, rfl, _, rfl, lr, _, _, _, rfl, rfl, hL, i3, t3, _, _, _, rfl, rfl, S3, rfl, _, _, rfl, rfl, _, rfl, rfl, _, rfl, ?_⟩
      dsimp only
      refine neQ (P := fun z => if z = true then _ else _) (by omega) ?_
      refine iteF ?_
      refine ⟨_, rfl, lr, _, _, _, rfl, rfl, hL, i3, t3, _, _, _, rfl, rfl, S3, rfl, (by show 2 ≤ sizeLine; decide), fun U nU => ?_⟩
      have sU := same_upd (o := .tup [.int 0, .int 1]) nU
      rw [em]
      have hin : inV (.int (m : Int)) [.int 0, .int 1] = true := by
        have : m = 0 ∨ m = 1 := by omega
        rcases this with z | z <;> subst z <;> rfl
      refine ⟨U, _, rfl, .inr (.inl (.inl upd_same)), rfl, rfl, ?_⟩
      rw [hin]
      refine ⟨_, rfl, iteF ?_⟩
      exact q' _ _ ⟨_, rfl, sU⟩
  · rintro σ' H1 ⟨y6, rfl, s1⟩
    dsimp only
    try simp only [L2.start, List.map_cons, List.map_nil, List.length_cons, List.length_nil, List.replicate_succ, List.replicate_zero, List.cons_append, List.nil_append, List.set_cons_succ, List.set_cons_zero, Nat.reduceAdd, Nat.reduceSub, Nat.zero_add]
    have F1 := hF.same s1
    have hx1 := s1 _ _ hx
    have S0a : SqT K H1 t0 [.str "order", .int g, .int l] := sqT_same S0 s1
    have S1a : SqT K H1 t1 [.str "shift", .int (sNu sc tl g l), .bl (sMo sc tl g l)] := sqT_same S1 s1
    refine ⟨_, rfl, x, dx, _, rfl, hx1, rfl, _, rfl, t0, _, _, _, rfl, rfl, S0a, rfl, x, sc, tl, g, rfl, F1, fun H' s e => absurd e rg.1, fun H2 p1 s2 _ e2 => ?_⟩
    refine ⟨_, rfl, x, dx, _, rfl, s2 _ _ hx1, rfl, _, rfl, t0, _, _, _, rfl, rfl, sqT_same S0a s2, rfl, x, sc, tl, l, rfl, F1.same s2, fun H' s e => absurd e rl.1, fun H3 p2 s3 _ e3 => ?_⟩
    refine ⟨(by show 2 ≤ sizeLine; decide), fun u nu => ?_⟩
    have su := same_upd (o := .tup [.ref p1, .ref p2]) nu
    have f1 := su _ _ (s3 _ _ e2)
    have f2 := su _ _ e3
    refine ⟨u, _, rfl, .inl (.inl upd_same), rfl, _, _, rfl, p1, _, rfl, .inl (.inl f1), rfl, _, _, rfl, _, _, rfl, rfl, _, _, rfl, p2, _, rfl, .inl (.inl f2), rfl, _, _, rfl, _, _, rfl, rfl, rfl, ?_⟩
    have w4 := s1.trans (s2.trans (s3.trans su))
    have F4 := hF.same w4
    have S1b := sqT_same S1a (s2.trans (s3.trans su))
    generalize upd H3 u (.tup [.ref p1, .ref p2]) = H4 at *
    clear f1 f2 su S0a s2 s3 e2 e3
    dsimp only
    try simp only [L2.start, List.map_cons, List.map_nil, List.length_cons, List.length_nil, List.replicate_succ, List.replicate_zero, List.cons_append, List.nil_append, List.set_cons_succ, List.set_cons_zero, Nat.reduceAdd, Nat.reduceSub, Nat.zero_add]
    obtain ⟨d, ed⟩ : ∃ d : Nat, wp sc tl g - wp sc tl l = (d : Int) := ⟨(wp sc tl g - wp sc tl l).toNat, (Int.toNat_of_nonneg (by have := la.le; omega)).symm⟩
    refine ⟨_, rfl, _, rfl, _, _, rfl, rfl, _, _, rfl, rfl, _, rfl, ite2 (fun cc => ?_) (fun cc => ?_)⟩
    · exact q _ w4
    have d150 : d ≤ 150 := by
      rcases Int.lt_or_le 150 (wp sc tl g - wp sc tl l) with z | z
      · exact absurd (decide_eq_true z) cc
      · omega
    clear cc
    dsimp only [tNext]
    try simp only [L2.start, List.map_cons, List.map_nil, List.length_cons, List.length_nil, List.replicate_succ, List.replicate_zero, List.cons_append, List.nil_append, List.set_cons_succ, List.set_cons_zero, Nat.reduceAdd, Nat.reduceSub, Nat.zero_add]
    have kg := hd_in sc g h4
    have kl := hd_in sc l h4
    have wg : wn sc tl g = if GM.sgn sc tl g = 1 then -(hd sc tl g) else hd sc tl g := rfl
    have wl : wn sc tl l = if GM.sgn sc tl l = 1 then -(hd sc tl l) else hd sc tl l := rfl
    have bg : -(2 ^ 25) < wn sc tl g ∧ wn sc tl g < 2 ^ 25 := by rw [wg]; split <;> omega
    have bl : -(2 ^ 25) < wn sc tl l ∧ wn sc tl l < 2 ^ 25 := by rw [wl]; split <;> omega
    refine ⟨_, rfl, _, rfl, _, rfl, _, _, rfl, rfl, _, d, rfl, congrArg V.int ed, shl_ok (n := 26) (by omega) (by omega), _, rfl, _, _, rfl, rfl, ?_⟩
    have ez := la.z
    have er := la.r how
    rw [ed, Int.toNat_natCast] at ez er
    have bE : (wn sc tl g * 2 ^ d + wn sc tl l).natAbs < 2 ^ 180 := by
      have pd := GM.pow_pos' d
      have pd2 : (2 : Int) ^ d ≤ 2 ^ 150 := GM.pow_le' d150
      have m1 : wn sc tl g * 2 ^ d ≤ 2 ^ 25 * 2 ^ d := Int.mul_le_mul_of_nonneg_right (by omega) (by omega)
      have m2 : -(2 ^ 25) * 2 ^ d ≤ wn sc tl g * 2 ^ d := Int.mul_le_mul_of_nonneg_right (by omega) (by omega)
      rw [Int.neg_mul] at m2
      omega
    dsimp only
    generalize wn sc tl g * 2 ^ d + wn sc tl l = E at *
    show gName 11 _ _ _ _
    try simp only [L2.start, List.map_cons, List.map_nil, List.length_cons, List.length_nil, List.replicate_succ, List.replicate_zero, List.cons_append, List.nil_append, List.set_cons_succ, List.set_cons_zero, Nat.reduceAdd, Nat.reduceSub, Nat.zero_add]
    refine gset_if3 ?_
    try simp only [L2.start, List.map_cons, List.map_nil, List.length_cons, List.length_nil, List.replicate_succ, List.replicate_zero, List.cons_append, List.nil_append, List.set_cons_succ, List.set_cons_zero, Nat.reduceAdd, Nat.reduceSub, Nat.zero_add]
    by_cases hE : E = 0
    · have hT := ez.mpr hE
      refine ⟨_, rfl, rfl, _, rfl, ?_⟩
      dsimp only
      rw [decide_eq_true (congrArg V.int hE)]
      refine iteT (iteT ?_)
      refine ⟨_, rfl, _, rfl, rfl, ?_⟩
      rw [decide_eq_true (congrArg V.int (hE.trans hT.symm))]
      exact q _ w4
    have hT : sTo sc tl g l ≠ 0 := fun z => hE (ez.mp z)
    refine ⟨_, rfl, rfl, _, rfl, ?_⟩
    dsimp only
    rw [decide_eq_false (fun z => hE (V.int.inj z))]
    refine iteF ?_
    refine ⟨_, rfl, rfl, _, rfl, ?_⟩
    dsimp only
    rw [decide_eq_false (fun z => hT (V.int.inj z))]
    refine iteF ?_
    dsimp only [tNext]
    refine ⟨_, rfl, _, rfl, _, _, rfl, rfl, .inr ⟨_, rfl, ?_⟩⟩
    have wpl := wp_in (sc := sc) (tl := tl) (v := l) h1 h2 h4 rl.1
    have wpg := wp_in (sc := sc) (tl := tl) (v := g) h1 h2 h4 rg.1
    have s01 : (if decide (E < 0) = true then (1 : Int) else 0) = 0 ∨ (if decide (E < 0) = true then (1 : Int) else 0) = 1 := by split <;> simp
    have n01 : (if decide (wn sc tl g < 0) = true then (1 : Int) else 0) = GM.sgn sc tl g := by
      have n := la.n
      rcases GM.sgn_01 (m := sc) (t := tl) (w := g) with z | z <;> rw [z] at n ⊢
      · rw [decide_eq_false (fun c => absurd (n.mp c) (by decide))]
        rfl
      · rw [decide_eq_true (n.mpr rfl)]
        rfl
    have fE : Fit (if E < 0 then -E else E) := fit_lt (k := 181) (by split <;> omega) (by split <;> omega) (by decide)
    refine ⟨_, rfl, _, rfl, _, rfl, _, rfl, ?_⟩
    refine ⟨rfl, rfl, x, sc, tl, _, _, _, how, false, rfl, F4, s01, fE, by omega, by omega, (fun z => absurd z (by decide)), fun td H5 ntd s5 P5 => ?_⟩
    show gName 12 _ _ _ _
    try simp only [L2.start, List.map_cons, List.map_nil, List.length_cons, List.length_nil, List.replicate_succ, List.replicate_zero, List.cons_append, List.nil_append, List.set_cons_succ, List.set_cons_zero, Nat.reduceAdd, Nat.reduceSub, Nat.zero_add]
    have F5 := F4.same s5
    have S1c := sqT_same S1b s5
    have bT : 0 ≤ sTo sc tl g l ∧ sTo sc tl g l < 2 ^ 29 := by
      have a1 := sf.t0
      have a2 := sf.nl
      have a3 := sf.n0
      refine ⟨a1, ?_⟩
      unfold sTo mTo
      split <;> (try split) <;> omega
    have fT : Fit (sTo sc tl g l) := fit_lt (k := 29) bT.1 bT.2 (by decide)
    have sg01 := GM.sgn_01 (m := sc) (t := tl) (w := g)
    refine ⟨_, rfl, _, rfl, _, _, rfl, rfl, .inr ⟨_, rfl, _, rfl, _, rfl, _, _, rfl, rfl, _, rfl, _, rfl, t1, _, _, _, rfl, rfl, S1c, rfl, rfl, rfl, x, sc, tl, _, _, _, how, _, rfl, F5, ?_⟩⟩
    rw [n01]
    refine ⟨sg01, fT, by omega, by omega, fun z => lap_big (sf.mo z), fun ta H6 nta s6 P6 => ?_⟩
    have e := er hT
    have e1 : (if decide (E < 0) = true then (1 : Int) else 0) = if E < 0 then 1 else 0 := by by_cases c : E < 0 <;> simp [c]
    rw [e1] at P5
    have e2 : ab E = if E < 0 then -E else E := rfl
    rw [← e2] at P5
    rw [e] at P6
    refine ⟨_, rfl, _, _, _, 3, rfl, rfl, lv_pair3 _ (rnd_len _ _ _ _ _ _ _), dp_pair P6, dp_pair (PairAt.same P5 s6), fun H7 s7 => ?_⟩
    exact q _ (w4.trans (s5.trans (s6.trans s7)))
end
section
variable {X : Cx} {k i : Nat} {ks : List Str} {x : Str} {p pos : Pos} {e : Expr} {es : List Expr} {kws : List Keyword} {t tk : TA} {S : Addr → Nat → Sp → (List V → List V → List V) → Prop}
theorem pe_callLK (A : ∀ f n sp gV, S f n sp gV → HeldN X.prog X.w X.K X.mg X.base k f n ks sp gV) (hr : Room k X.A) (hN : X.N[i]? = some x) (hv : Vis X.env.scope x) (ha : PA X (e :: es) t) (hkw : PK X kws tk)
    (hall : (backToKw pos (keywordEach kws X.env)).all (·.1.isSome) = true := by rfl) (hks : (backToKw pos (keywordEach kws X.env)).filterMap (·.1) = ks := by rfl)
    (hdb : (x == ("__debug__" : Str)) = false := by decide) (hcd : (x == ("__classdict__" : Str)) = false := by decide)
    (he : starEach (e :: es) X.env = (false, eval e X.env) :: starEach es X.env := by rfl)
    (hpl : ((backTo pos (starEach (e :: es) X.env)).any (·.1) || (backToKw pos (keywordEach kws X.env)).any (·.1.isNone)) = false := by rfl) :
    PE X (.Call (.Name x p) (e :: es) kws pos) (tCallLS i ks.length S t tk) := by
  refine ⟨fun pins s σ H Q I h => ?_⟩
  obtain ⟨f, n, sp, gV, hs, hS, ht⟩ := h
  obtain ⟨fd, ps, g, F, hk, hb⟩ := (A f n sp gV hS).ex
  refine wpAny_Call_Name_kw (thn ((pe_var (pos := p) hN hv hdb hcd).run pins s σ H (fun v H1 => v = .ref f ∧ H1 = H) I ⟨.ref f, hs, rfl, rfl⟩) fun u s1 ⟨v, H1, I1, r1, q1⟩ => ?_)
  obtain ⟨rfl, rfl⟩ := q1
  cases r1
  refine PySem.W.callWith_KW (h₀ := X.base) I1.ok.mod.kin hk hall (thn (ha.run pos pins s1 σ _ _ I1 ht) fun us s2 ⟨vs, H2, I2, r, q⟩ => ?_) hpl he
  refine thn (hkw.run pos pins s2 σ H2 _ I2 q) fun ws s3 ⟨zs, H3, I3, rz, l1, l2, q3⟩ => ⟨I3.kIn, ?_⟩
  rw [hks]
  exact run_fnN F hr hb pass0 I3 r rz l1 l2 q3
end
section
variable {P : Program} {w : World} {K : PySem.W.Frag} {mg : Str → Option Value} {base : Heap}
variable {C : Addr} {CD : Addr} {za : Nat → Addr} {zl : Nat → FuncData} {t73 t74 t75 tg_NEAR tg_CUT tg_UP tg_DOWN : Tok} {dO : Addr} {esO : Array DictEntry} {nO : Nat}
theorem lv_cons {k : Nat} {d : PyData} {ds : List PyData} (h1 : Lv k d) (h2 : ∀ e ∈ ds, Lv k e) : ∀ e ∈ d :: ds, Lv k e := fun e he => (List.mem_cons.mp he).elim (fun z => z ▸ h1) (h2 e)
theorem lv_none {k : Nat} : ∀ e ∈ ([] : List PyData), Lv k e := fun e he => nomatch he
theorem lv_mid (g l : Int) (more alike : Bool) (n : Nat) : (∀ e ∈ mMid g l more alike n, Lv 2 e) ∧ (mMid g l more alike n).length ≤ 2 := by
  unfold mMid
  split
  · exact ⟨lv_cons ⟨by show 2 ≤ 1000000; decide, lv_cons trivial (lv_cons trivial lv_none)⟩ lv_none, by show 1 ≤ 2; decide⟩
  · exact ⟨lv_cons ⟨by show 2 ≤ 1000000; decide, lv_cons trivial (lv_cons trivial lv_none)⟩ (lv_cons ⟨by show 3 ≤ 1000000; decide, lv_cons trivial (lv_cons trivial (lv_cons trivial lv_none))⟩ lv_none), by show 2 ≤ 2; decide⟩
theorem dpa_len {H : Hp} : ∀ {us : List V} {ds : List PyData}, DpAll K H us ds → us.length = ds.length
  | _, _, .nil => rfl
  | _, _, .cons _ h => by rw [List.length_cons, List.length_cons, dpa_len h]
theorem last_is {sc tl : Nat} {a b c : Int} {way : Str} (h1 : 2 ≤ sc) (h2 : sc ≤ 8) (h4 : tl ≤ 24) (ra : ¬ GM.topS sc tl ≤ sz sc tl a ∧ ¬ sz sc tl a = 0) (rb : ¬ GM.topS sc tl ≤ sz sc tl b ∧ ¬ sz sc tl b = 0) (rc : ¬ GM.topS sc tl ≤ sz sc tl c ∧ ¬ sz sc tl c = 0) : jLast sc tl a b c way = joinR sc tl a b c way := by
  have tp := srt_top sc tl
  have nn : ∀ {v : Int}, ¬ GM.topS sc tl ≤ sz sc tl v → ¬ srt sc tl (sz sc tl v) = "none" ∧ ¬ srt sc tl (sz sc tl v) = "endless" := fun n => ⟨fun e => n ((tp _).mp (.inr e)), fun e => n ((tp _).mp (.inl e))⟩
  rw [last_join h1 h2 h4 ra rb rc]
  unfold joinR
  have q1 : ¬ (srt sc tl (sz sc tl a) = "none" ∨ srt sc tl (sz sc tl b) = "none" ∨ srt sc tl (sz sc tl c) = "none") := fun z => z.elim (nn ra.1).1 (fun y => y.elim (nn rb.1).1 (nn rc.1).1)
  have q2 : ¬ ((srt sc tl (sz sc tl a) = "endless" ∨ srt sc tl (sz sc tl b) = "endless") ∧ (srt sc tl (sz sc tl a) = "nought" ∨ srt sc tl (sz sc tl b) = "nought")) := fun z => z.1.elim (nn ra.1).2 (nn rb.1).2
  have q3 : ¬ (GM.topS sc tl ≤ sz sc tl a ∨ GM.topS sc tl ≤ sz sc tl b) := fun z => z.elim ra.1 rb.1
  rw [if_neg q1, if_neg q2]
  unfold po wo
  rw [if_neg q3, if_neg rc.1]
  show _ = totR sc tl (tgn (wn sc tl a * wn sc tl b) (wp sc tl a + wp sc tl b) (wn sc tl c) (wp sc tl c)) (lwr (wp sc tl a + wp sc tl b) (wp sc tl c)) (nsg (sx sc tl a b) (GM.sgn sc tl c) way) way
  by_cases z : tgn (wn sc tl a * wn sc tl b) (wp sc tl a + wp sc tl b) (wn sc tl c) (wp sc tl c) = 0
  · have ne : ¬ sx sc tl a b = GM.sgn sc tl c := fun e => by
      have wc := wn_zero sc tl c
      have pa := hd_pos ra.2
      have pb := hd_pos rb.2
      have pp := Int.mul_pos (show 0 < hd sc tl a by omega) (show 0 < hd sc tl b by omega)
      have wm := wn_mul sc tl a b
      have z' := z
      unfold tgn at z'
      have := zero_two z' (by
        rcases GM.sgn_01 (m := sc) (t := tl) (w := c) with g | g
        · left
          rw [e, g, if_neg (by decide)] at wm
          exact ⟨by omega, wc.2.1 g⟩
        · right
          rw [e, g, if_pos rfl] at wm
          exact ⟨by omega, wc.2.2 g⟩)
      exact rc.2 (wc.1.mp this.2)
    unfold nsg
    rw [if_neg ne]
  · unfold totR
    rw [if_neg z, if_neg z]
theorem at_last {us : List V} {v : V} : atI (us ++ [v]) (-1) = some v := by
  unfold atI ixN
  rw [if_neg (by decide), if_pos (by rw [List.length_append]; show -((us.length + 1 : Nat) : Int) ≤ -1; omega)]
  show (us ++ [v])[_]? = _
  have : ((-1 : Int) + ((us ++ [v]).length : Nat)).toNat = us.length := by rw [List.length_append]; simp; omega
  rw [this, List.getElem?_append_right (Nat.le_refl _), Nat.sub_self]
  rfl
theorem dp_inv_all {H : Hp} {us : List V} {ds : List PyData} {d : PyData} (h : DpAll K H us (ds ++ [d])) : ∃ vs v, us = vs ++ [v] ∧ vs.length = ds.length ∧ Dp K H v d := by
  induction ds generalizing us with
  | nil =>
    obtain ⟨v, r, rfl, D, A⟩ := dpa_cons h
    have := dpa_nil A
    subst this
    exact ⟨[], v, rfl, rfl, D⟩
  | cons e ds ih =>
    obtain ⟨v, r, rfl, _, A⟩ := dpa_cons h
    obtain ⟨vs, w, rfl, l, D⟩ := ih A
    exact ⟨v :: vs, w, rfl, by rw [List.length_cons, List.length_cons, l], D⟩
/-- the last step's word and flags -/
structure LastAt (K : PySem.W.Frag) (H : Hp) (lr : Addr) (r : Int × List Str) : Prop where
  ex : ∃ (us : List V) (nm : Str) (t fl : Addr), SqL K H lr (us ++ [.ref t]) ∧ us.length ≤ 6 ∧ SqT K H t [.str nm, .int r.1, .ref fl] ∧ Dp K H (.ref fl) (.tuple (r.2.map PyData.str))
theorem last_inv {H : Hp} {lr : Addr} {ds : List PyData} {nm : Str} {r : Int × List Str} (hl : ds.length ≤ 6) (h : Dp K H (.ref lr) (.list (ds ++ [toldD nm r]))) : LastAt K H lr r := by
  obtain ⟨t, us, e, hL, hA⟩ := dp_inv_lst h
  cases e
  obtain ⟨vs, v, rfl, l, D⟩ := dp_inv_all hA
  unfold toldD at D
  obtain ⟨t, u, rfl, S, A⟩ := dp_inv_tup D
  obtain ⟨w1, y1, rfl, E1, B1⟩ := dpa_cons A
  obtain ⟨w2, y2, rfl, E2, B2⟩ := dpa_cons B1
  obtain ⟨w3, y3, rfl, E3, B3⟩ := dpa_cons B2
  have e1 := dpa_nil B3
  have e2 := dp_inv_str E1
  have e3 := dp_inv_int E2
  subst e1 e2 e3
  obtain ⟨fl, z, e4, _⟩ := dp_inv_tup E3
  subst e4
  exact ⟨vs, nm, t, fl, hL, by omega, S, E3⟩
theorem last_step {H : Hp} {lr t : Addr} {us : List V} {nm : Str} {r : Int × List Str} (hl : us.length ≤ 6) (h : H lr = some (.lst (us ++ [.ref t]))) (s : StepAt H t nm r) : LastAt K H lr r := by
  obtain ⟨f, e1, e2⟩ := s
  exact ⟨us, nm, t, f, hl |> fun _ => SqL.of h, hl, SqT.of e1, .tup (.inl (.inl e2)) (dp_strs3 r.2)⟩
/-- the first step's name; where it is the order, what is to be cut -/
structure FirstAt (K : PySem.W.Frag) (H : Hp) (lr : Addr) (sc tl : Nat) (how : Str) : Prop where
  ex : ∃ (v : V) (us : List V) (t : Addr) (nm : Str) (ys : List V), SqL K H lr (v :: us) ∧ us.length ≤ 6 ∧ v = .ref t ∧ SqT K H t (.str nm :: ys) ∧ (nm = "order" → ∃ g l, sz sc tl l ≤ sz sc tl g ∧ (¬ GM.topS sc tl ≤ sz sc tl g ∧ ¬ sz sc tl g = 0) ∧ (¬ GM.topS sc tl ≤ sz sc tl l ∧ ¬ sz sc tl l = 0) ∧ Dp K H (.ref lr) (sumD sc tl g l how))
theorem first_inv {H : Hp} {lr : Addr} {ds : List PyData} {nm : Str} {es : List PyData} {sc tl : Nat} {how : Str} (hl : ds.length ≤ 6) (h : Dp K H (.ref lr) (.list (.tuple (.str nm :: es) :: ds)))
    (hn : nm = "order" → ∃ g l, sz sc tl l ≤ sz sc tl g ∧ (¬ GM.topS sc tl ≤ sz sc tl g ∧ ¬ sz sc tl g = 0) ∧ (¬ GM.topS sc tl ≤ sz sc tl l ∧ ¬ sz sc tl l = 0) ∧ Dp K H (.ref lr) (sumD sc tl g l how)) : FirstAt K H lr sc tl how := by
  obtain ⟨t, us, e, hL, hA⟩ := dp_inv_lst h
  cases e
  obtain ⟨v, r, rfl, D, A⟩ := dpa_cons hA
  obtain ⟨t, u, rfl, S, B⟩ := dp_inv_tup D
  obtain ⟨w1, y1, rfl, E1, B1⟩ := dpa_cons B
  have e2 := dp_inv_str E1
  subst e2
  exact ⟨_, r, t, nm, y1, hL, by rw [dpa_len A]; exact hl, rfl, S, hn⟩
theorem told_add {H : Hp} {lr : Addr} {sc tl : Nat} {a b : Int} {how : Str} (h3 : 1 ≤ tl) (h : Dp K H (.ref lr) (addD sc tl a b how)) : LastAt K H lr (addR sc tl a b how) ∧ FirstAt K H lr sc tl how := by
  unfold addD at h
  by_cases c : [a, b].all (hdv sc tl) = true
  · rw [if_pos c] at h
    have hab := List.all_eq_true.mp c
    have ra := hdv_real (hab a (by simp))
    have rb := hdv_real (hab b (by simp))
    have la := last_add (way := how) h3 ra rb
    have hm := lv_mid (4 * hd sc tl (osG sc tl a b).1) (sNu sc tl (osG sc tl a b).1 (osG sc tl a b).2) (sMo sc tl (osG sc tl a b).1 (osG sc tl a b).2) (decide (GM.sgn sc tl (osG sc tl a b).1 = GM.sgn sc tl (osG sc tl a b).2)) (tl + 3)
    have h' := h
    unfold sumD at h'
    refine ⟨?_, ?_⟩
    · rw [← la]
      rw [← List.append_assoc] at h'
      refine last_inv ?_ h'
      rw [List.length_append]
      have := hm.2
      show 2 + _ ≤ 6
      omega
    · refine first_inv (es := [.int (osG sc tl a b).1, .int (osG sc tl a b).2]) ?_ h' (fun _ => ⟨_, _, ?_, ?_, ?_, h⟩)
      · show (_ :: (_ ++ [_])).length ≤ 6
        rw [List.length_cons, List.length_append]
        have := hm.2
        show _ + 1 + 1 ≤ 6
        omega
      · rcases os_or sc tl a b with ⟨e, c⟩ | ⟨e, c⟩ <;> rw [e] <;> exact c
      · rcases os_or sc tl a b with ⟨e, c⟩ | ⟨e, c⟩ <;> rw [e]
        · exact ra
        · exact rb
      · rcases os_or sc tl a b with ⟨e, c⟩ | ⟨e, c⟩ <;> rw [e]
        · exact rb
        · exact ra
  · rw [if_neg c] at h
    exact ⟨last_inv (ds := []) (by show 0 ≤ 6; decide) h, first_inv (ds := []) (nm := "told") (by show 0 ≤ 6; decide) h (fun z => absurd z (by decide))⟩
theorem mul_real {sc tl : Nat} {a b : Int} {how : Str} (c : [a, b].all (hdv sc tl) = true) : mulR sc tl a b how = GR.rnd sc tl (sx sc tl a b) (hd sc tl a * hd sc tl b) (wp sc tl a + wp sc tl b) how false := by
  have hab := List.all_eq_true.mp c
  have ra := hdv_real (hab a (by simp))
  have rb := hdv_real (hab b (by simp))
  have tp := srt_top sc tl
  have nn : ∀ {v : Int}, ¬ GM.topS sc tl ≤ sz sc tl v → ¬ srt sc tl (sz sc tl v) = "none" ∧ ¬ srt sc tl (sz sc tl v) = "endless" := fun n => ⟨fun e => n ((tp _).mp (.inr e)), fun e => n ((tp _).mp (.inl e))⟩
  unfold mulR
  rw [if_neg (fun z => z.elim (nn ra.1).1 (nn rb.1).1), if_neg (fun z => z.1.elim (nn ra.1).2 (nn rb.1).2), if_neg (fun z => z.elim ra.1 rb.1), ab_mul']
  rfl
theorem told_times {H : Hp} {l : Addr} {sc tl : Nat} {a b : Int} {how : Str} {f : Addr} {n : Nat} (c : [a, b].all (hdv sc tl) = true) (h : TimesAt H l f sc tl a b how n) : LastAt K H l (mulR sc tl a b how) ∧ FirstAt K H l sc tl how := by
  obtain ⟨_, t0, t1, t2, t3, t4, e, e0, ef, e1, e2, e3, S⟩ := h
  rw [mul_real c]
  exact ⟨last_step (us := [.ref t0, .ref t1, .ref t2, .ref t3]) (by show 4 ≤ 6; decide) e S, _, _, t0, "fours", _, SqL.of e, by show 4 ≤ 6; decide, rfl, SqT.of e0, fun z => absurd z (by decide)⟩
theorem told_one {H : Hp} {l t : Addr} {sc tl : Nat} {how : Str} {r : Int × List Str} (e : H l = some (.lst [.ref t])) (S : StepAt H t "told" r) : LastAt K H l r ∧ FirstAt K H l sc tl how := by
  have S' := S
  obtain ⟨f, e1, e2⟩ := S'
  exact ⟨last_step (us := []) (by show 0 ≤ 6; decide) e S, _, _, t, "told", _, SqL.of e, by show 0 ≤ 6; decide, rfl, SqT.of e1, fun z => absurd z (by decide)⟩
theorem told_join {H : Hp} {lr : Addr} {sc tl : Nat} {a b c : Int} {how : Str} (h1 : 2 ≤ sc) (h2 : sc ≤ 8) (h4 : tl ≤ 24) (h : Dp K H (.ref lr) (joinD sc tl a b c how)) : LastAt K H lr (joinR sc tl a b c how) := by
  unfold joinD at h
  by_cases cc : [a, b, c].all (hdv sc tl) = true
  · rw [if_pos cc] at h
    have hab := List.all_eq_true.mp cc
    have ra := hdv_real (hab a (by simp))
    have rb := hdv_real (hab b (by simp))
    have rc := hdv_real (hab c (by simp))
    rw [← last_is h1 h2 h4 ra rb rc]
    unfold jsD at h
    rw [← List.append_assoc] at h
    refine last_inv ?_ h
    rw [List.length_append]
    have : (jMid sc tl a b c).length ≤ 2 := (lv_mid _ _ _ _ _).2
    show 1 + _ ≤ 6
    omega
  · rw [if_neg cc] at h
    exact last_inv (ds := []) (by show 0 ≤ 6; decide) h
def SSt (K : PySem.W.Frag) (C aA aT aM : Addr) : Addr → Nat → Sp → (List V → List V → List V) → Prop := fun f n sp gV => (f = aA ∧ n = 3 ∧ sp = spAS K C ∧ gV = gApp) ∨ (f = aT ∧ n = 3 ∧ sp = spTkS K C ∧ gV = gApp) ∨ (f = aM ∧ n = 3 ∧ sp = spTS C ∧ gV = gApp)
def spWR (C : Addr) : Sp := fun vs H Q _ => ∃ (x : Addr) (sc tl : Nat) (a b c : Int) (how : Str), vs = [.ref x, .int a, .int b, .int c, .str how] ∧ FAt C H x sc tl ∧
  ∀ H', Same H H' → Q (.bl true) H'
theorem ok__law_words_right (B : Bl mg) (L : LL K mg C CD za zl t73 t74 t75 tg_NEAR tg_CUT tg_UP tg_DOWN w dO esO nO) : FnOk P w K mg base CX0 14 (za 65) (zl 65) ["_law_form", "_law_a", "_law_b", "_law_c", "_law_how"] (spWR C) := by
  have G_add_steps : FnOk P w K mg base CX0 13 (za 42) (zl 42) ["form", "a", "b", "way"] (spAS K C) := (ok_add_steps B L).mono (by decide)
  have G_take_steps : FnOk P w K mg base CX0 13 (za 43) (zl 43) ["form", "a", "b", "way"] (spTkS K C) := (ok_take_steps B L).mono (by decide)
  have G_times_steps : FnOk P w K mg base CX0 13 (za 57) (zl 57) ["form", "a", "b", "way"] (spTS C) := (ok_times_steps B L).mono (by decide)
  have G_join_steps : FnOk P w K mg base CX0 13 (za 48) (zl 48) ["form", "a", "b", "c", "way"] (spJS K C) := (ok_join_steps B L).mono (by decide)
  have G_done : FnOk P w K mg base CX0 13 (za 26) (zl 26) ["form", "op", "words", "way"] (spDone K C) := (ok_done B L).mono (by decide)
  have G__law_cut_right : FnOk P w K mg base CX0 13 (za 64) (zl 64) ["_law_form", "_law_steps", "_law_how"] (spCutR (K := K) C) := (ok__law_cut_right B L).mono (by decide)
  have G_Divider___init__ : FnOk P w K mg base CX0 12 (za 79) (zl 79) ["self", "form", "a", "b", "way", "signed"] (spDvI C CD) := (ok_Divider___init__ B L).mono (by decide)
  have G_Divider_left : FnOk P w K mg base CX0 13 (za 87) (zl 87) ["self"] (spLeft C CD) := (ok_Divider_left B L).mono (by decide)
  have G_Divider_step : FnOk P w K mg base CX0 13 (za 81) (zl 81) ["self"] (spStepS C CD) := (ok_stepS B L).mono (by decide)
  have G_Divider_outcome : FnOk P w K mg base CX0 13 (za 88) (zl 88) ["self"] (spOutS C CD) := (ok_outS B L).mono (by decide)
  have G__law_same : FnOk P w K mg base CX0 13 (za 61) (zl 61) ["_law_found", "_law_due"] (spSame K 4) := (ok_same L.F__law_same L.b__law_same L.m__law_same B 4).mono (by decide)
  refine L.F__law_words_right.ok sc__law_words_right (fun vs H Q E h => ?_) (fun cdv A outer s H vs Q E hr h => ?_)
  · obtain ⟨x, sc, tl, a, b, c, how, rfl, _⟩ := h
    rfl
  obtain ⟨x, sc, tl, a, b, c, how, rfl, hF, q⟩ := h
  obtain ⟨dx, hx, h1, h2, h3, h4⟩ := id hF
  have AS : ∀ f n sp gV, SSt K C (za 42) (za 43) (za 57) f n sp gV → HeldN P w K mg base 13 f n ["way"] sp gV := fun f n sp gV hS => by
    rcases hS with ⟨rfl, rfl, rfl, rfl⟩ | ⟨rfl, rfl, rfl, rfl⟩ | ⟨rfl, rfl, rfl, rfl⟩
    · exact ⟨⟨_, _, _, G_add_steps, L.F_add_steps.kp, L.kb_add_steps_way.choose_spec⟩⟩
    · exact ⟨⟨_, _, _, G_take_steps, L.F_take_steps.kp, L.kb_take_steps_way.choose_spec⟩⟩
    · exact ⟨⟨_, _, _, G_times_steps, L.F_times_steps.kp, L.kb_times_steps_way.choose_spec⟩⟩
  refine ⟨_, (pss_cons (ps_for PassesOwn.never rfl (pi_tup (pe_tup (pa_cons (pe_tup (pa_cons pe_str (pa_cons (pe_glob (v := .ref (za 42)) rfl L.m_add_steps rfl) pa_nil))) (pa_cons (pe_tup (pa_cons pe_str (pa_cons (pe_glob (v := .ref (za 43)) rfl L.m_take_steps rfl) pa_nil))) (pa_cons (pe_tup (pa_cons pe_str (pa_cons (pe_glob (v := .ref (za 57)) rfl L.m_times_steps rfl) pa_nil))) pa_nil))))) (pg_tup (by rfl) (pgs_cons (pg_name (i := 5) sc__law_words_right.nd rfl (.inl rfl)) (pgs_cons (pg_name (i := 6) sc__law_words_right.nd rfl (.inl rfl)) pgs_nil))) (pss_cons (ps_set (i := 7) sc__law_words_right.nd rfl (.inl rfl) (pe_callLK (k := 13) (i := 6) (S := SSt K C (za 42) (za 43) (za 57)) AS hr rfl (Or.inl rfl) (pa_cons (pv 0) (pa_cons (pv 1) (pa_cons (pv 2) pa_nil))) (pk_cons (pv 4) pk_nil)))
    (pss_cons (ps_if (pt_not (pt_val (pe_call G__law_same hr (by rfl) L.m__law_same L.F__law_same.kp L.b__law_same .nil pass0 (pa_cons (pe_slice sl_tup (pe_ix ix_list (pv 7) (pe_un un_neg pe_int) (fun _ _ => rfl)) (po_some pe_int) po_none) (pa_cons (pe_callN G_done hr (by rfl) L.m_done L.F_done.kp (L.kb_done_way).choose_spec pass0 (pa_cons (pv 0) (pa_cons (pv 5) (pa_cons (pe_lst (pa_cons (pv 1) (pa_cons (pv 2) pa_nil))) pa_nil))) (pk_cons (pv 4) pk_nil)) pa_nil))))) (pss_one (ps_ret pe_bl)) pss_nil)
    (pss_one (ps_if (PW.pt (pw_and (pt_cmpR op_eq (pe_ix ix_tup (pe_ix ix_list (pv 7) pe_int (fun _ _ => rfl)) pe_int (fun _ _ => rfl)) pe_str (nomark _)) (pw_and1 (pt_not (pt_val (pe_call G__law_cut_right hr (by rfl) L.m__law_cut_right L.F__law_cut_right.kp L.b__law_cut_right .nil pass0 (pa_cons (pv 0) (pa_cons (pv 7) (pa_cons (pv 4) pa_nil))))))))) (pss_one (ps_ret pe_bl)) pss_nil)))))
    (pss_cons (ps_if (pt_not (pt_val (pe_call G__law_same hr (by rfl) L.m__law_same L.F__law_same.kp L.b__law_same .nil pass0 (pa_cons (pe_slice sl_tup (pe_ix ix_list (pe_callN G_join_steps hr (by rfl) L.m_join_steps L.F_join_steps.kp (L.kb_join_steps_way).choose_spec pass0 (pa_cons (pv 0) (pa_cons (pv 1) (pa_cons (pv 2) (pa_cons (pv 3) pa_nil)))) (pk_cons (pv 4) pk_nil)) (pe_un un_neg pe_int) (fun _ _ => rfl)) (po_some pe_int) po_none) (pa_cons (pe_callN G_done hr (by rfl) L.m_done L.F_done.kp (L.kb_done_way).choose_spec pass0 (pa_cons (pv 0) (pa_cons pe_str (pa_cons (pe_lst (pa_cons (pv 1) (pa_cons (pv 2) (pa_cons (pv 3) pa_nil)))) pa_nil))) (pk_cons (pv 4) pk_nil)) pa_nil))))) (pss_one (ps_ret pe_bl)) pss_nil)
    (pss_cons (ps_for PassesOwn.never rfl (pi_tup (pe_tup (pa_cons pe_bl (pa_cons pe_bl pa_nil)))) (pg_name (i := 8) sc__law_words_right.nd rfl (.inl rfl)) (pss_cons (ps_set (i := 9) sc__law_words_right.nd rfl (.inl rfl) (pe_makeK L.M2 G_Divider___init__ hr (by rfl) L.T2.mgC (L.kb_Divider___init___way_signed).choose_spec pass0 (pa_cons (pv 0) (pa_cons (pv 1) (pa_cons (pv 2) pa_nil))) (pk_cons (pv 4) (pk_cons (pv 8) pk_nil))))
    (pss_cons (ps_for PassesOwn.never rfl (pi_range1 (by rfl) B.range (pa_cons (pe_meth0 (pv 9) L.T2.cl L.M_Divider_left G_Divider_left hr L.b_Divider_left .nil pass0) pa_nil)) (pg_name (i := 10) sc__law_words_right.nd rfl (.inl rfl)) (pss_one (ps_expr (pe_meth0 (pv 9) L.T2.cl L.M_Divider_step G_Divider_step hr L.b_Divider_step .nil pass0))))
    (pss_one (ps_if (pt_not (pt_val (pe_call G__law_same hr (by rfl) L.m__law_same L.F__law_same.kp L.b__law_same .nil pass0 (pa_cons (pe_meth0 (pv 9) L.T2.cl L.M_Divider_outcome G_Divider_outcome hr L.b_Divider_outcome .nil pass0) (pa_cons (pe_callN G_done hr (by rfl) L.m_done L.F_done.kp (L.kb_done_way).choose_spec pass0 (pa_cons (pv 0) (pa_cons pe_str (pa_cons (pe_lst (pa_cons (pv 1) (pa_cons (pv 2) pa_nil))) pa_nil))) (pk_cons (pv 4) pk_nil)) pa_nil))))) (pss_one (ps_ret pe_bl)) pss_nil)))))
    (pss_one (ps_ret pe_bl))))), ?_⟩
  refine ⟨(by show 2 ≤ sizeLine; decide), fun t0 n0 => ⟨(by show 2 ≤ sizeLine; decide), fun t1 n1 => ⟨(by show 2 ≤ sizeLine; decide), fun t2 n2 => ⟨(by show 3 ≤ sizeLine; decide), fun T nT => ?_⟩⟩⟩⟩
  have s0 := same_upd (o := .tup [.str "add", .ref (za 42)]) n0
  have s1 := same_upd (o := .tup [.str "take", .ref (za 43)]) n1
  have s2 := same_upd (o := .tup [.str "times", .ref (za 57)]) n2
  have sT := same_upd (o := .tup [.ref t0, .ref t1, .ref t2]) nT
  have f0 := sT _ _ (s2 _ _ (s1 _ _ (upd_same (H := H) (a := t0) (o := .tup [.str "add", .ref (za 42)]))))
  have f1 := sT _ _ (s2 _ _ (upd_same (H := upd H t0 (.tup [.str "add", .ref (za 42)])) (a := t1) (o := .tup [.str "take", .ref (za 43)])))
  have f2 := sT _ _ (upd_same (H := upd (upd H t0 (.tup [.str "add", .ref (za 42)])) t1 (.tup [.str "take", .ref (za 43)])) (a := t2) (o := .tup [.str "times", .ref (za 57)]))
  have fT := upd_same (H := upd (upd (upd H t0 (.tup [.str "add", .ref (za 42)])) t1 (.tup [.str "take", .ref (za 43)])) t2 (.tup [.str "times", .ref (za 57)])) (a := T) (o := .tup [.ref t0, .ref t1, .ref t2])
  have w0 := ((s0.trans s1).trans s2).trans sT
  generalize upd (upd (upd (upd H t0 (.tup [.str "add", .ref (za 42)])) t1 (.tup [.str "take", .ref (za 43)])) t2 (.tup [.str "times", .ref (za 57)])) T (.tup [.ref t0, .ref t1, .ref t2]) = H0 at *
  clear s0 s1 s2 sT n0 n1 n2 nT
  refine ⟨T, rfl, ⟨_, .inl (.inl fT)⟩, ?_⟩
  refine for_tup (K := K) (a := T) (xs := [.ref t0, .ref t1, .ref t2]) (fun i σ H1 => ∃ (y5 y6 y7 : Option V), σ = [some (.ref x), some (.int a), some (.int b), some (.int c), some (.str how), y5, y6, y7, none, none, none] ∧ Same H0 H1) ⟨none, none, none, rfl, Same.refl _⟩ (fun i σ H1 _ ⟨_, _, _, _, s⟩ => .inl (.inl (s _ _ fT))) ?_ ?_
  · rintro i v σ H1 ev ⟨y5, y6, y7, rfl, s1⟩
    have F1 := hF.same (w0.trans s1)
    match i, ev with
    | 0, ev => 
      cases ev
      refine ⟨t0, _, rfl, .inl (.inl (s1 _ _ f0)), rfl, _, _, rfl, _, _, rfl, rfl, ?_⟩
      try simp only [L2.start, List.map_cons, List.map_nil, List.length_cons, List.length_nil, List.replicate_succ, List.replicate_zero, List.cons_append, List.nil_append, List.set_cons_succ, List.set_cons_zero, Nat.reduceAdd, Nat.reduceSub, Nat.zero_add]
      refine ⟨(za 42), _, _, _, rfl, .inl ⟨rfl, rfl, rfl, rfl⟩, _, rfl, _, rfl, _, rfl, _, rfl, rfl, rfl, x, sc, tl, a, b, how, rfl, F1, fun lr xs H2 nl s2 el lx D => ?_⟩
      obtain ⟨LA, FA⟩ := told_add h3 D
      show gName 7 _ _ _ _
      try simp only [L2.start, List.map_cons, List.map_nil, List.length_cons, List.length_nil, List.replicate_succ, List.replicate_zero, List.cons_append, List.nil_append, List.set_cons_succ, List.set_cons_zero, Nat.reduceAdd, Nat.reduceSub, Nat.zero_add]
      have F2 := F1.same s2
      obtain ⟨us, nm, tz, fl, eL, lL, eS, eF⟩ := LA.ex
      obtain ⟨_, us0, u0, nm0, ys0, eL0, lL0, rfl, eS0, hn⟩ := FA.ex
      refine ⟨_, rfl, 1, rfl, lr, _, _, _, rfl, rfl, eL, at_last, _, rfl, tz, _, rfl, eS, (fun z => absurd z.1 (by show ¬ (1 : Nat) = 0; decide)), fun p np => ?_⟩
      have sp := same_upd (o := .tup [.int (addR sc tl a b how).1, .ref fl]) np
      have ep : (upd H2 p (.tup (cutV [.str nm, .int (addR sc tl a b how).1, .ref fl] (some 1) none))) p = some (.tup [.int (addR sc tl a b how).1, .ref fl]) := upd_same
      have sp' : Same H2 (upd H2 p (.tup (cutV [.str nm, .int (addR sc tl a b how).1, .ref fl] (some 1) none))) := same_upd np
      clear sp
      generalize upd H2 p (.tup (cutV [.str nm, .int (addR sc tl a b how).1, .ref fl] (some 1) none)) = H3 at *
      refine ⟨_, rfl, _, rfl, _, rfl, _, rfl, (by show 2 ≤ sizeLine; decide), fun U nU => ?_⟩
      have sU := same_upd (o := .lst [.int a, .int b]) nU
      refine ⟨_, rfl, rfl, rfl, x, U, sc, tl, "add", how, [a, b], (addR sc tl a b how), rfl, (F2.same sp').same sU, .inr (SqL.of upd_same), rfl, fun t4 H4 s4 P4 => ?_⟩
      have w4 := sU.trans s4
      refine ⟨_, _, .tuple [.int (addR sc tl a b how).1, .tuple ((addR sc tl a b how).2.map PyData.str)], 3, rfl, rfl, lv_pair3 _ (add_len _ _ _ _ _), .tup (SqT.of (w4 _ _ ep)) (.cons (.int _) (.cons (Dp.same (sp'.trans w4) _ _ eF) .nil)), dp_pair P4, fun H5 s5 => ?_⟩
      refine ⟨_, rfl, iteF ?_⟩
      dsimp only [tNext]
      have w5 := sp'.trans (w4.trans s5)
      try simp only [L2.start, List.map_cons, List.map_nil, List.length_cons, List.length_nil, List.replicate_succ, List.replicate_zero, List.cons_append, List.nil_append, List.set_cons_succ, List.set_cons_zero, Nat.reduceAdd, Nat.reduceSub, Nat.zero_add]
      refine ⟨_, rfl, lr, _, _, _, rfl, rfl, w5.seq eL0, at_zero, u0, _, _, _, rfl, rfl, sqT_same eS0 w5, at_zero, rfl, _, rfl, ?_⟩
      dsimp only
      by_cases hnm : nm0 = "order"
      · obtain ⟨g, l, hle, rg, rl, hD⟩ := hn hnm
        rw [decide_eq_true (congrArg V.str hnm)]
        refine iteT ?_
        refine ⟨_, rfl, _, rfl, _, rfl, x, lr, sc, tl, g, l, how, rfl, F2.same w5, hle, rg, rl, Dp.same w5 _ _ hD, fun H6 s6 => ?_⟩
        refine ⟨_, rfl, iteF ?_⟩
        exact ⟨_, _, _, rfl, s1.trans (s2.trans (w5.trans s6))⟩
      · rw [decide_eq_false (fun z => hnm (V.str.inj z))]
        refine iteF (iteF ?_)
        exact ⟨_, _, _, rfl, s1.trans (s2.trans w5)⟩
    | 1, ev => 
      cases ev
      refine ⟨t1, _, rfl, .inl (.inl (s1 _ _ f1)), rfl, _, _, rfl, _, _, rfl, rfl, ?_⟩
      try simp only [L2.start, List.map_cons, List.map_nil, List.length_cons, List.length_nil, List.replicate_succ, List.replicate_zero, List.cons_append, List.nil_append, List.set_cons_succ, List.set_cons_zero, Nat.reduceAdd, Nat.reduceSub, Nat.zero_add]
      refine ⟨(za 43), _, _, _, rfl, .inr (.inl ⟨rfl, rfl, rfl, rfl⟩), _, rfl, _, rfl, _, rfl, _, rfl, rfl, rfl, x, sc, tl, a, b, how, rfl, F1, fun lr xs H2 nl s2 el lx D => ?_⟩
      obtain ⟨LA, FA⟩ := told_add h3 D
      show gName 7 _ _ _ _
      try simp only [L2.start, List.map_cons, List.map_nil, List.length_cons, List.length_nil, List.replicate_succ, List.replicate_zero, List.cons_append, List.nil_append, List.set_cons_succ, List.set_cons_zero, Nat.reduceAdd, Nat.reduceSub, Nat.zero_add]
      have F2 := F1.same s2
      obtain ⟨us, nm, tz, fl, eL, lL, eS, eF⟩ := LA.ex
      obtain ⟨_, us0, u0, nm0, ys0, eL0, lL0, rfl, eS0, hn⟩ := FA.ex
      refine ⟨_, rfl, 1, rfl, lr, _, _, _, rfl, rfl, eL, at_last, _, rfl, tz, _, rfl, eS, (fun z => absurd z.1 (by show ¬ (1 : Nat) = 0; decide)), fun p np => ?_⟩
      have sp := same_upd (o := .tup [.int (addR sc tl a (trn sc tl b) how).1, .ref fl]) np
      have ep : (upd H2 p (.tup (cutV [.str nm, .int (addR sc tl a (trn sc tl b) how).1, .ref fl] (some 1) none))) p = some (.tup [.int (addR sc tl a (trn sc tl b) how).1, .ref fl]) := upd_same
      have sp' : Same H2 (upd H2 p (.tup (cutV [.str nm, .int (addR sc tl a (trn sc tl b) how).1, .ref fl] (some 1) none))) := same_upd np
      clear sp
      generalize upd H2 p (.tup (cutV [.str nm, .int (addR sc tl a (trn sc tl b) how).1, .ref fl] (some 1) none)) = H3 at *
      refine ⟨_, rfl, _, rfl, _, rfl, _, rfl, (by show 2 ≤ sizeLine; decide), fun U nU => ?_⟩
      have sU := same_upd (o := .lst [.int a, .int b]) nU
      refine ⟨_, rfl, rfl, rfl, x, U, sc, tl, "take", how, [a, b], (addR sc tl a (trn sc tl b) how), rfl, (F2.same sp').same sU, .inr (SqL.of upd_same), rfl, fun t4 H4 s4 P4 => ?_⟩
      have w4 := sU.trans s4
      refine ⟨_, _, .tuple [.int (addR sc tl a (trn sc tl b) how).1, .tuple ((addR sc tl a (trn sc tl b) how).2.map PyData.str)], 3, rfl, rfl, lv_pair3 _ (add_len _ _ _ _ _), .tup (SqT.of (w4 _ _ ep)) (.cons (.int _) (.cons (Dp.same (sp'.trans w4) _ _ eF) .nil)), dp_pair P4, fun H5 s5 => ?_⟩
      refine ⟨_, rfl, iteF ?_⟩
      dsimp only [tNext]
      have w5 := sp'.trans (w4.trans s5)
      try simp only [L2.start, List.map_cons, List.map_nil, List.length_cons, List.length_nil, List.replicate_succ, List.replicate_zero, List.cons_append, List.nil_append, List.set_cons_succ, List.set_cons_zero, Nat.reduceAdd, Nat.reduceSub, Nat.zero_add]
      refine ⟨_, rfl, lr, _, _, _, rfl, rfl, w5.seq eL0, at_zero, u0, _, _, _, rfl, rfl, sqT_same eS0 w5, at_zero, rfl, _, rfl, ?_⟩
      dsimp only
      by_cases hnm : nm0 = "order"
      · obtain ⟨g, l, hle, rg, rl, hD⟩ := hn hnm
        rw [decide_eq_true (congrArg V.str hnm)]
        refine iteT ?_
        refine ⟨_, rfl, _, rfl, _, rfl, x, lr, sc, tl, g, l, how, rfl, F2.same w5, hle, rg, rl, Dp.same w5 _ _ hD, fun H6 s6 => ?_⟩
        refine ⟨_, rfl, iteF ?_⟩
        exact ⟨_, _, _, rfl, s1.trans (s2.trans (w5.trans s6))⟩
      · rw [decide_eq_false (fun z => hnm (V.str.inj z))]
        refine iteF (iteF ?_)
        exact ⟨_, _, _, rfl, s1.trans (s2.trans w5)⟩
    | 2, ev => 
      cases ev
      refine ⟨t2, _, rfl, .inl (.inl (s1 _ _ f2)), rfl, _, _, rfl, _, _, rfl, rfl, ?_⟩
      try simp only [L2.start, List.map_cons, List.map_nil, List.length_cons, List.length_nil, List.replicate_succ, List.replicate_zero, List.cons_append, List.nil_append, List.set_cons_succ, List.set_cons_zero, Nat.reduceAdd, Nat.reduceSub, Nat.zero_add]
      refine ⟨(za 57), _, _, _, rfl, .inr (.inr ⟨rfl, rfl, rfl, rfl⟩), _, rfl, _, rfl, _, rfl, _, rfl, rfl, rfl, x, sc, tl, a, b, how, rfl, F1, fun c1 lr t H2 nl s2 el S => ?_, fun c1 lr f n H2 nl nf nfl s2 TA => ?_⟩
      · obtain ⟨LA, FA⟩ := told_one (how := how) (sc := sc) (tl := tl) el S
        show gName 7 _ _ _ _
        try simp only [L2.start, List.map_cons, List.map_nil, List.length_cons, List.length_nil, List.replicate_succ, List.replicate_zero, List.cons_append, List.nil_append, List.set_cons_succ, List.set_cons_zero, Nat.reduceAdd, Nat.reduceSub, Nat.zero_add]
        have F2 := F1.same s2
        obtain ⟨us, nm, tz, fl, eL, lL, eS, eF⟩ := LA.ex
        obtain ⟨_, us0, u0, nm0, ys0, eL0, lL0, rfl, eS0, hn⟩ := FA.ex
        refine ⟨_, rfl, 1, rfl, lr, _, _, _, rfl, rfl, eL, at_last, _, rfl, tz, _, rfl, eS, (fun z => absurd z.1 (by show ¬ (1 : Nat) = 0; decide)), fun p np => ?_⟩
        have sp := same_upd (o := .tup [.int (mulR sc tl a b how).1, .ref fl]) np
        have ep : (upd H2 p (.tup (cutV [.str nm, .int (mulR sc tl a b how).1, .ref fl] (some 1) none))) p = some (.tup [.int (mulR sc tl a b how).1, .ref fl]) := upd_same
        have sp' : Same H2 (upd H2 p (.tup (cutV [.str nm, .int (mulR sc tl a b how).1, .ref fl] (some 1) none))) := same_upd np
        clear sp
        generalize upd H2 p (.tup (cutV [.str nm, .int (mulR sc tl a b how).1, .ref fl] (some 1) none)) = H3 at *
        refine ⟨_, rfl, _, rfl, _, rfl, _, rfl, (by show 2 ≤ sizeLine; decide), fun U nU => ?_⟩
        have sU := same_upd (o := .lst [.int a, .int b]) nU
        refine ⟨_, rfl, rfl, rfl, x, U, sc, tl, "times", how, [a, b], (mulR sc tl a b how), rfl, (F2.same sp').same sU, .inr (SqL.of upd_same), rfl, fun t4 H4 s4 P4 => ?_⟩
        have w4 := sU.trans s4
        refine ⟨_, _, .tuple [.int (mulR sc tl a b how).1, .tuple ((mulR sc tl a b how).2.map PyData.str)], 3, rfl, rfl, lv_pair3 _ (mul_len _ _ _ _ _), .tup (SqT.of (w4 _ _ ep)) (.cons (.int _) (.cons (Dp.same (sp'.trans w4) _ _ eF) .nil)), dp_pair P4, fun H5 s5 => ?_⟩
        refine ⟨_, rfl, iteF ?_⟩
        dsimp only [tNext]
        have w5 := sp'.trans (w4.trans s5)
        try simp only [L2.start, List.map_cons, List.map_nil, List.length_cons, List.length_nil, List.replicate_succ, List.replicate_zero, List.cons_append, List.nil_append, List.set_cons_succ, List.set_cons_zero, Nat.reduceAdd, Nat.reduceSub, Nat.zero_add]
        refine ⟨_, rfl, lr, _, _, _, rfl, rfl, w5.seq eL0, at_zero, u0, _, _, _, rfl, rfl, sqT_same eS0 w5, at_zero, rfl, _, rfl, ?_⟩
        dsimp only
        by_cases hnm : nm0 = "order"
        · obtain ⟨g, l, hle, rg, rl, hD⟩ := hn hnm
          rw [decide_eq_true (congrArg V.str hnm)]
          refine iteT ?_
          refine ⟨_, rfl, _, rfl, _, rfl, x, lr, sc, tl, g, l, how, rfl, F2.same w5, hle, rg, rl, Dp.same w5 _ _ hD, fun H6 s6 => ?_⟩
          refine ⟨_, rfl, iteF ?_⟩
          exact ⟨_, _, _, rfl, s1.trans (s2.trans (w5.trans s6))⟩
        · rw [decide_eq_false (fun z => hnm (V.str.inj z))]
          refine iteF (iteF ?_)
          exact ⟨_, _, _, rfl, s1.trans (s2.trans w5)⟩
      · obtain ⟨LA, FA⟩ := told_times c1 TA
        show gName 7 _ _ _ _
        try simp only [L2.start, List.map_cons, List.map_nil, List.length_cons, List.length_nil, List.replicate_succ, List.replicate_zero, List.cons_append, List.nil_append, List.set_cons_succ, List.set_cons_zero, Nat.reduceAdd, Nat.reduceSub, Nat.zero_add]
        have F2 := F1.same s2
        obtain ⟨us, nm, tz, fl, eL, lL, eS, eF⟩ := LA.ex
        obtain ⟨_, us0, u0, nm0, ys0, eL0, lL0, rfl, eS0, hn⟩ := FA.ex
        refine ⟨_, rfl, 1, rfl, lr, _, _, _, rfl, rfl, eL, at_last, _, rfl, tz, _, rfl, eS, (fun z => absurd z.1 (by show ¬ (1 : Nat) = 0; decide)), fun p np => ?_⟩
        have sp := same_upd (o := .tup [.int (mulR sc tl a b how).1, .ref fl]) np
        have ep : (upd H2 p (.tup (cutV [.str nm, .int (mulR sc tl a b how).1, .ref fl] (some 1) none))) p = some (.tup [.int (mulR sc tl a b how).1, .ref fl]) := upd_same
        have sp' : Same H2 (upd H2 p (.tup (cutV [.str nm, .int (mulR sc tl a b how).1, .ref fl] (some 1) none))) := same_upd np
        clear sp
        generalize upd H2 p (.tup (cutV [.str nm, .int (mulR sc tl a b how).1, .ref fl] (some 1) none)) = H3 at *
        refine ⟨_, rfl, _, rfl, _, rfl, _, rfl, (by show 2 ≤ sizeLine; decide), fun U nU => ?_⟩
        have sU := same_upd (o := .lst [.int a, .int b]) nU
        refine ⟨_, rfl, rfl, rfl, x, U, sc, tl, "times", how, [a, b], (mulR sc tl a b how), rfl, (F2.same sp').same sU, .inr (SqL.of upd_same), rfl, fun t4 H4 s4 P4 => ?_⟩
        have w4 := sU.trans s4
        refine ⟨_, _, .tuple [.int (mulR sc tl a b how).1, .tuple ((mulR sc tl a b how).2.map PyData.str)], 3, rfl, rfl, lv_pair3 _ (mul_len _ _ _ _ _), .tup (SqT.of (w4 _ _ ep)) (.cons (.int _) (.cons (Dp.same (sp'.trans w4) _ _ eF) .nil)), dp_pair P4, fun H5 s5 => ?_⟩
        refine ⟨_, rfl, iteF ?_⟩
        dsimp only [tNext]
        have w5 := sp'.trans (w4.trans s5)
        try simp only [L2.start, List.map_cons, List.map_nil, List.length_cons, List.length_nil, List.replicate_succ, List.replicate_zero, List.cons_append, List.nil_append, List.set_cons_succ, List.set_cons_zero, Nat.reduceAdd, Nat.reduceSub, Nat.zero_add]
        refine ⟨_, rfl, lr, _, _, _, rfl, rfl, w5.seq eL0, at_zero, u0, _, _, _, rfl, rfl, sqT_same eS0 w5, at_zero, rfl, _, rfl, ?_⟩
        dsimp only
        by_cases hnm : nm0 = "order"
        · obtain ⟨g, l, hle, rg, rl, hD⟩ := hn hnm
          rw [decide_eq_true (congrArg V.str hnm)]
          refine iteT ?_
          refine ⟨_, rfl, _, rfl, _, rfl, x, lr, sc, tl, g, l, how, rfl, F2.same w5, hle, rg, rl, Dp.same w5 _ _ hD, fun H6 s6 => ?_⟩
          refine ⟨_, rfl, iteF ?_⟩
          exact ⟨_, _, _, rfl, s1.trans (s2.trans (w5.trans s6))⟩
        · rw [decide_eq_false (fun z => hnm (V.str.inj z))]
          refine iteF (iteF ?_)
          exact ⟨_, _, _, rfl, s1.trans (s2.trans w5)⟩
    | i + 3, ev => cases ev
  · rintro σ H1 ⟨y5, y6, y7, rfl, s1⟩
    have w1 := w0.trans s1
    have F1 := hF.same w1
    clear f0 f1 f2 fT
    dsimp only
    refine gset_if ?_
    refine ⟨_, rfl, _, rfl, _, rfl, _, rfl, _, rfl, rfl, rfl, x, sc, tl, a, b, c, how, rfl, F1, fun lr xs H2 nl s2 el lx D => ?_⟩
    have LA := told_join h1 h2 h4 D
    obtain ⟨us, nm, tz, fl, eL, lL, eS, eF⟩ := LA.ex
    have F2 := F1.same s2
    refine ⟨1, rfl, lr, _, _, _, rfl, rfl, eL, at_last, _, rfl, tz, _, rfl, eS, (fun z => absurd z.1 (by show ¬ (1 : Nat) = 0; decide)), fun p np => ?_⟩
    have ep : (upd H2 p (.tup (cutV [.str nm, .int (joinR sc tl a b c how).1, .ref fl] (some 1) none))) p = some (.tup [.int (joinR sc tl a b c how).1, .ref fl]) := upd_same
    have sp' : Same H2 (upd H2 p (.tup (cutV [.str nm, .int (joinR sc tl a b c how).1, .ref fl] (some 1) none))) := same_upd np
    generalize upd H2 p (.tup (cutV [.str nm, .int (joinR sc tl a b c how).1, .ref fl] (some 1) none)) = H3 at *
    refine ⟨_, rfl, _, rfl, _, rfl, _, rfl, (by show 3 ≤ sizeLine; decide), fun U nU => ?_⟩
    have sU := same_upd (o := .lst [.int a, .int b, .int c]) nU
    refine ⟨_, rfl, rfl, rfl, x, U, sc, tl, "join", how, [a, b, c], (joinR sc tl a b c how), rfl, (F2.same sp').same sU, .inr (SqL.of upd_same), rfl, fun t4 H4 s4 P4 => ?_⟩
    have w4 := sU.trans s4
    refine ⟨_, _, .tuple [.int (joinR sc tl a b c how).1, .tuple ((joinR sc tl a b c how).2.map PyData.str)], 3, rfl, rfl, lv_pair3 _ (join_len _ _ _ _ _ _), .tup (SqT.of (w4 _ _ ep)) (.cons (.int _) (.cons (Dp.same (sp'.trans w4) _ _ eF) .nil)), dp_pair P4, fun H5 s5 => ?_⟩
    refine ⟨_, rfl, iteF ?_⟩
    have w5 := w1.trans (s2.trans (sp'.trans (w4.trans s5)))
    clear w4 sp' sU ep eF eS eL LA D s2 F2 F1 s1 w1 w0 s4 P4
    dsimp only [tNext]
    refine ⟨(by show 2 ≤ sizeLine; decide), fun B nB => ?_⟩
    have sB := same_upd (o := .tup [.bl false, .bl true]) nB
    have fB := upd_same (H := H5) (a := B) (o := .tup [.bl false, .bl true])
    have w6 := w5.trans sB
    generalize upd H5 B (.tup [.bl false, .bl true]) = H6 at *
    clear sB w5 s5
    refine ⟨B, rfl, ⟨_, .inl (.inl fB)⟩, ?_⟩
    refine for_tup (K := K) (a := B) (xs := [.bl false, .bl true]) (fun i σ H1 => ∃ (y8 y9 y10 : Option V), σ = [some (.ref x), some (.int a), some (.int b), some (.int c), some (.str how), y5, y6, y7, y8, y9, y10] ∧ Same H6 H1) ⟨none, none, none, rfl, Same.refl _⟩ (fun i σ H1 _ ⟨_, _, _, _, s⟩ => .inl (.inl (s _ _ fB))) ?_ ?_
    · rintro i v σ H7 ev ⟨y8, y9, y10, rfl, s7⟩
      obtain ⟨sg, rfl⟩ : ∃ sg : Bool, v = .bl sg := by
        match i, ev with
        | 0, ev => cases ev; exact ⟨_, rfl⟩
        | 1, ev => cases ev; exact ⟨_, rfl⟩
        | i + 2, ev => cases ev
      have F7 := hF.same (w6.trans s7)
      dsimp only [gName]
      try simp only [L2.start, List.map_cons, List.map_nil, List.length_cons, List.length_nil, List.replicate_succ, List.replicate_zero, List.cons_append, List.nil_append, List.set_cons_succ, List.set_cons_zero, Nat.reduceAdd, Nat.reduceSub, Nat.zero_add]
      refine ⟨_, rfl, _, rfl, _, rfl, _, rfl, _, rfl, rfl, rfl, fun xd dd nxd ndd ned => ?_⟩
      have sM : Same H7 (upd (upd H7 dd (.own xd)) xd (.ins CD dd [])) := (same_upd ndd).trans (same_upd (by rw [upd_ne ned.symm]; exact nxd))
      refine ⟨xd, dd, x, sc, tl, a, b, how, sg, rfl, upd_same, F7.same sM, fun f l H8 D0 nl nf k4 => ⟨rfl, ?_⟩⟩
      have s8 : Same H7 H8 := fun y u e => k4 y u (sM y u e) (ne_of_none e nxd)
      have D1 : DvS C CD H8 xd f l sc tl a b how sg 0 := ⟨by
        have z := dv_zero sg sc tl a b
        rw [z.1, z.2]
        exact D0, Nat.zero_le _⟩
      have nlH : H7 l = none := sM.free nl
      clear D0 k4 nl nf sM
      show gName 9 _ _ _ _
      try simp only [L2.start, List.map_cons, List.map_nil, List.length_cons, List.length_nil, List.replicate_succ, List.replicate_zero, List.cons_append, List.nil_append, List.set_cons_succ, List.set_cons_zero, Nat.reduceAdd, Nat.reduceSub, Nat.zero_add]
      have E1 := D1.at_
      obtain ⟨dx1, hx1⟩ := E1.row
      refine ⟨_, rfl, xd, dx1, _, rfl, hx1, rfl, xd, f, l, sc, tl, a, b, how, sg, _, _, _, _, _, rfl, E1, ?_⟩
      rw [dvDs_len (sg := sg) D1.le, dvDue_N, show ((dvN sc tl a b : Nat) : Int) - ((0 : Nat) : Int) = (dvN sc tl a b : Nat) by omega]
      clear E1 hx1
      have nle := dvN_le (sc := sc) (a := a) (b := b) h4
      refine ⟨_, rfl, by omega, by omega, ?_⟩
      rw [Int.toNat_natCast]
      refine for_range (n := dvN sc tl a b) (fun j σ H9 => ∃ y10 : Option V, σ = [some (.ref x), some (.int a), some (.int b), some (.int c), some (.str how), y5, y6, y7, some (.bl sg), some (.ref xd), y10] ∧ DvS C CD H9 xd f l sc tl a b how sg j ∧ Same H7 H9) ⟨_, rfl, D1, s8⟩ ?_ ?_
      · rintro j σ H9 hj ⟨y10, rfl, d, s9⟩
        try simp only [L2.start, List.map_cons, List.map_nil, List.length_cons, List.length_nil, List.replicate_succ, List.replicate_zero, List.cons_append, List.nil_append, List.set_cons_succ, List.set_cons_zero, Nat.reduceAdd, Nat.reduceSub, Nat.zero_add]
        obtain ⟨dx2, hx2⟩ := d.at_.row
        refine ⟨_, rfl, xd, dx2, _, rfl, hx2, rfl, xd, f, l, sc, tl, a, b, how, sg, j, rfl, d, hj, fun H10 d3 k3 => ?_⟩
        have s10 : Same H7 H10 := fun y u e => k3 _ _ (s9 _ _ e) (ne_of_none e nxd) (ne_of_none e nlH)
        exact ⟨_, rfl, d3, s10⟩
      · rintro σ H9 ⟨y10, rfl, d, s9⟩
        dsimp only
        have F9 := F7.same s9
        obtain ⟨dx2, hx2⟩ := d.at_.row
        refine ⟨_, rfl, xd, dx2, _, rfl, hx2, rfl, xd, f, l, sc, tl, a, b, how, sg, _, rfl, d, rfl, fun t G1 g1 P1 => ?_⟩
        refine ⟨_, rfl, _, rfl, _, rfl, (by show 2 ≤ sizeLine; decide), fun U nU => ?_⟩
        have sU := same_upd (o := .lst [.int a, .int b]) nU
        refine ⟨_, rfl, rfl, rfl, x, U, sc, tl, "over", how, [a, b], divR sc tl a b how, rfl, (F9.same g1).same sU, .inr (SqL.of upd_same), rfl, fun t4 G4 g4 P4 => ?_⟩
        have k4 := sU.trans g4
        refine ⟨_, _, _, 3, rfl, rfl, lv_pair3 _ (div_len sc tl a b how), dp_pair (PairAt.same P1 k4), dp_pair P4, fun G5 g5 => ?_⟩
        refine ⟨_, rfl, iteF ?_⟩
        exact ⟨_, _, _, rfl, s7.trans (s9.trans (g1.trans (k4.trans g5)))⟩
    · rintro σ H7 ⟨y8, y9, y10, rfl, s7⟩
      exact q _ (w6.trans s7)
end
def WL : List Str := ["near", "cut", "up", "down"]
section
variable {P : Program} {w : World} {K : PySem.W.Frag} {mg : Str → Option Value} {base : Heap}
variable {C : Addr} {CD : Addr} {za : Nat → Addr} {zl : Nat → FuncData} {t73 t74 t75 tg_NEAR tg_CUT tg_UP tg_DOWN : Tok} {dO : Addr} {esO : Array DictEntry} {nO : Nat}
theorem topS_pos {sc : Nat} (tl : Nat) (h : 2 ≤ sc) : 0 < GM.topS sc tl := by
  have hp := GM.pow_pos' tl
  have h2 : (2 : Int) ^ 2 ≤ 2 ^ sc := GM.pow_le' h
  exact Int.mul_pos (by omega) hp
theorem prQ_nn98 {n : Int} (h : 0 ≤ n) (b : Int) : 0 ≤ GR.prQ n b := by
  unfold GR.prQ GR.cutQ
  refine Int.ediv_nonneg ?_ (by decide)
  split
  · exact Int.mul_nonneg h (Int.le_of_lt (GM.pow_pos' _))
  · exact Int.ediv_nonneg h (Int.le_of_lt (GM.pow_pos' _))
theorem rnd_form {sc tl : Nat} {s n p : Int} {w : Str} {m : Bool} (h1 : 2 ≤ sc) (hn : 0 ≤ n) : ∃ u, 0 ≤ u ∧ u ≤ GM.topS sc tl ∧ (GR.rnd sc tl s n p w m).1 = s * 2 ^ (sc + tl) + u := by
  obtain ⟨w1, w2, w3⟩ := wrd_U sc tl s
  obtain ⟨w4, w5, w6⟩ := wrd_U sc tl 0
  rw [Int.zero_mul, Int.zero_add] at w5
  have tp : 0 < UU sc tl := topS_pos tl h1
  have hz : 0 ≤ GR.siz sc tl s n p w m := by
    have l := GR.lap_ge sc tl n p
    have q := prQ_nn98 hn (GR.lap sc tl n p - p)
    have a := Int.mul_nonneg (show 0 ≤ GR.lap sc tl n p - GR.lea sc tl by omega) (Int.le_of_lt (GM.pow_pos' tl))
    unfold GR.siz GR.mny
    split <;> omega
  show ∃ u, 0 ≤ u ∧ u ≤ UU sc tl ∧ _
  unfold GR.rnd
  split
  · exact ⟨0, Int.le_refl 0, by omega, by rw [w3, Int.add_zero]⟩
  · split
    · show ∃ u, 0 ≤ u ∧ u ≤ UU sc tl ∧ GR.bey sc tl s w = _
      unfold GR.bey
      split
      · exact ⟨UU sc tl, by omega, by omega, w1⟩
      · exact ⟨UU sc tl - 1, by omega, by omega, w2⟩
    · rename_i hle
      rw [w5] at hle
      exact ⟨GR.siz sc tl s n p w m, hz, by omega, by rw [w3]⟩
theorem top_lt (sc tl : Nat) : GM.topS sc tl < 2 ^ (sc + tl) := by
  unfold GM.topS
  rw [GM.pow_add' sc tl]
  exact Int.mul_lt_mul_of_pos_right (by omega) (GM.pow_pos' tl)
/-- the rank of a sum's word: the size, negative where the sum is -/
def rnk (sc tl : Nat) (v : Int) : Int := if GM.sgn sc tl v = 1 then -(sz sc tl v) else sz sc tl v
/-- a sum as it is told -/
def rdn (sc tl : Nat) (n p s : Int) (w : Str) : Int := (totR sc tl n p s w).1
theorem dn_cut {sc tl : Nat} {n p : Int} : GR.rnd sc tl 0 n p "down" false = GR.rnd sc tl 0 n p "cut" false := by
  have g : ∀ m r, GR.gup "down" 0 m r = GR.gup "cut" 0 m r := fun m r => by
    unfold GR.gup
    rw [if_neg (by decide), if_neg (by decide)]
    congr 1
  have e1 : GR.siz sc tl 0 n p "down" false = GR.siz sc tl 0 n p "cut" false := by
    unfold GR.siz GR.mny
    rw [g]
  have e2 : GR.bey sc tl 0 "down" = GR.bey sc tl 0 "cut" := by
    unfold GR.bey
    rw [show (decide (("down" : Str) = "near") || GR.away "down" 0) = (decide (("cut" : Str) = "near") || GR.away "cut" 0) by decide +kernel]
  unfold GR.rnd
  rw [e1, e2]
theorem mono_any {sc tl : Nat} {n p n' p' : Int} {w : Str} (hw : w ∈ WL) (h1 : 2 ≤ sc) (htl : 1 ≤ tl) (hn : 0 ≤ n) (hn' : 0 ≤ n') {a a' b : Nat} {B : Int} (ha : p - B = a) (ha' : p' - B = a') (hb : GR.lea sc tl - B = (b : Int) + 1) (hle : n * 2 ^ a ≤ n' * 2 ^ a') :
    (GR.rnd sc tl 0 n p w false).1 ≤ (GR.rnd sc tl 0 n' p' w false).1 := by
  have : w = "near" ∨ w = "cut" ∨ w = "up" ∨ w = "down" := by simpa [WL] using hw
  rcases this with z | z | z | z <;> subst z
  · exact GR.rnd_mono (.inr (.inl rfl)) (by omega) htl hn hn' ha ha' hb hle
  · exact GR.rnd_mono (.inl rfl) (by omega) htl hn hn' ha ha' hb hle
  · exact GR.rnd_mono (.inr (.inr rfl)) (by omega) htl hn hn' ha ha' hb hle
  · rw [dn_cut, dn_cut]
    exact GR.rnd_mono (.inl rfl) (by omega) htl hn hn' ha ha' hb hle
def otw (w : Str) : Str := if w = "up" then "down" else if w = "down" then "up" else w
/-- the rank of a told sum, by its sign -/
theorem rdn_rank {sc tl : Nat} {n p s : Int} {w : Str} (hw : w ∈ WL) (h1 : 2 ≤ sc) (hs : s = 0 ∨ s = 1) :
    otw w ∈ WL ∧ (n = 0 → rnk sc tl (rdn sc tl n p s w) = 0) ∧ (0 < n → rnk sc tl (rdn sc tl n p s w) = (GR.rnd sc tl 0 n p w false).1) ∧ (n < 0 → rnk sc tl (rdn sc tl n p s w) = -(GR.rnd sc tl 0 (-n) p (otw w) false).1) ∧ sz sc tl (rdn sc tl n p s w) ≤ GM.topS sc tl := by
  have tl' : GM.topS sc tl < 2 ^ (sc + tl) := top_lt sc tl
  have ho : otw w ∈ WL ∧ (w = "near" ↔ otw w = "near") ∧ (¬ otw w = "near" → GR.away w 1 = GR.away (otw w) 0) := by
    have : w = "near" ∨ w = "cut" ∨ w = "up" ∨ w = "down" := by simpa [WL] using hw
    rcases this with z | z | z | z <;> subst z <;> decide +kernel
  have rk : ∀ {q u : Int}, (q = 0 ∨ q = 1) → 0 ≤ u → u ≤ GM.topS sc tl → rnk sc tl (q * 2 ^ (sc + tl) + u) = (if q = 1 then -u else u) ∧ sz sc tl (q * 2 ^ (sc + tl) + u) = u := fun {q u} hq u0 u1 => by
    obtain ⟨_, _, m1, m2⟩ := GM.mk_parts (m := sc) (t := tl) hq u0 (by omega)
    have m2' : sz sc tl (q * 2 ^ (sc + tl) + u) = u := m2
    have m1' : GM.sgn sc tl (q * 2 ^ (sc + tl) + u) = q := m1
    unfold rnk
    rw [m1', m2']
    exact ⟨rfl, rfl⟩
  have T0 : 0 ≤ GM.topS sc tl := Int.le_of_lt (topS_pos tl h1)
  rcases Int.lt_trichotomy n 0 with z | z | z
  · obtain ⟨u, u0, u1, eu⟩ := rnd_form (sc := sc) (tl := tl) (s := 0) (n := -n) (p := p) (w := otw w) (m := false) h1 (by omega)
    have tr := GR.rnd_turn (sc := sc) (tl := tl) (n := -n) (p := p) (m := false) ho.2.1 ho.2.2
    have e : rdn sc tl n p s w = 1 * 2 ^ (sc + tl) + u := by
      unfold rdn totR ab
      rw [if_neg (by omega), if_pos z, if_pos z, tr]
      show (GR.rnd sc tl 0 (-n) p (otw w) false).1 + _ = _
      rw [eu]
      omega
    have k := rk (q := 1) (.inr rfl) u0 u1
    rw [e, k.1, k.2, if_pos rfl, eu]
    exact ⟨ho.1, fun y => by omega, fun y => by omega, fun _ => by omega, u1⟩
  · have e : rdn sc tl n p s w = s * 2 ^ (sc + tl) + 0 := by
      unfold rdn totR
      rw [if_pos z]
      show s * 2 ^ (sc + tl) = _
      omega
    have k := rk hs (Int.le_refl 0) T0
    rw [e, k.1, k.2]
    exact ⟨ho.1, fun _ => by split <;> rfl, fun y => by omega, fun y => by omega, T0⟩
  · obtain ⟨u, u0, u1, eu⟩ := rnd_form (sc := sc) (tl := tl) (s := 0) (n := n) (p := p) (w := w) (m := false) h1 (by omega)
    have e : rdn sc tl n p s w = 0 * 2 ^ (sc + tl) + u := by
      unfold rdn totR ab
      rw [if_neg (by omega), if_neg (by omega), if_neg (by omega), eu]
    have k := rk (q := 0) (.inl rfl) u0 u1
    rw [e, k.1, k.2, if_neg (by decide), eu]
    exact ⟨ho.1, fun y => by omega, fun _ => by omega, fun y => by omega, u1⟩
theorem rdn_mono {sc tl : Nat} {n p s n' p' s' : Int} {w : Str} (hw : w ∈ WL) (h1 : 2 ≤ sc) (htl : 1 ≤ tl) (hs : s = 0 ∨ s = 1) (hs' : s' = 0 ∨ s' = 1) {a a' b : Nat} {B : Int} (ha : p - B = a) (ha' : p' - B = a') (hb : GR.lea sc tl - B = (b : Int) + 1) (hle : n * 2 ^ a ≤ n' * 2 ^ a') :
    rnk sc tl (rdn sc tl n p s w) ≤ rnk sc tl (rdn sc tl n' p' s' w) := by
  obtain ⟨ow, z1, q1, m1, _⟩ := rdn_rank (n := n) (p := p) (tl := tl) hw h1 hs
  obtain ⟨_, z2, q2, m2, _⟩ := rdn_rank (n := n') (p := p') (tl := tl) hw h1 hs'
  have pa := GM.pow_pos' a
  have pa' := GM.pow_pos' a'
  have nn : ∀ {n p : Int} {w : Str}, 0 ≤ n → 0 ≤ (GR.rnd sc tl 0 n p w false).1 := fun {n p w} hn => by
    obtain ⟨u, u0, _, eu⟩ := rnd_form (sc := sc) (tl := tl) (s := 0) (n := n) (p := p) (w := w) (m := false) h1 hn
    rw [eu]
    omega
  rcases Int.lt_trichotomy n 0 with c | c | c
  · rw [m1 c]
    rcases Int.lt_trichotomy n' 0 with d | d | d
    · rw [m2 d]
      have := mono_any (n := -n') (p := p') (n' := -n) (p' := p) ow h1 htl (by omega) (by omega) ha' ha hb (by rw [Int.neg_mul, Int.neg_mul]; omega)
      omega
    · rw [z2 d]
      have := nn (n := -n) (p := p) (w := otw w) (by omega)
      omega
    · rw [q2 d]
      have k1 := nn (n := -n) (p := p) (w := otw w) (by omega)
      have k2 := nn (n := n') (p := p') (w := w) (by omega)
      omega
  · rw [z1 c]
    have : 0 ≤ n' := by
      rcases Int.lt_or_le n' 0 with d | d
      · have := Int.mul_neg_of_neg_of_pos d pa'
        rw [c, Int.zero_mul] at hle
        omega
      · exact d
    rcases Int.lt_or_le 0 n' with d | d
    · rw [q2 d]
      exact nn (by omega)
    · rw [z2 (by omega)]
      exact Int.le_refl 0
  · have hp := Int.mul_pos c pa
    have d : 0 < n' := by
      rcases Int.lt_or_le 0 n' with d | d
      · exact d
      · have : n' * 2 ^ a' ≤ 0 := Int.mul_nonpos_of_nonpos_of_nonneg d (Int.le_of_lt pa')
        omega
    rw [q1 c, q2 d]
    exact mono_any hw h1 htl (by omega) (by omega) ha ha' hb hle
def spRank83 (C : Addr) : Sp := fun vs H Q _ => ∃ (x : Addr) (sc tl : Nat) (v : Int), vs = [.ref x, .int v] ∧ FAt C H x sc tl ∧ ∀ H', Same H H' → Q (.int (rnk sc tl v)) H'
theorem ok_rank_of (B : Bl mg) (L : LL K mg C CD za zl t73 t74 t75 tg_NEAR tg_CUT tg_UP tg_DOWN w dO esO nO) : FnOk P w K mg base CX0 4 (za 28) (zl 28) ["form", "word"] (spRank83 C) := by
  have G_size_of : FnOk P w K mg base CX0 3 (za 29) (zl 29) ["form", "word"] (spSz C) := (ok_size_of B L).mono (by decide)
  have G_Form_parts : FnOk P w K mg base CX0 3 (za 70) (zl 70) ["self", "word"] (spParts C) := (ok_Form_parts B L).mono (by decide)
  refine L.F_rank_of.ok sc_rank_of (fun vs H Q E h => ?_) (fun cdv A outer s H vs Q E hr h => ?_)
  · obtain ⟨x, sc, tl, v, rfl, _⟩ := h
    rfl
  obtain ⟨x, sc, tl, v, rfl, hF, q⟩ := h
  obtain ⟨dx, hx, h1, h2, h3, h4⟩ := id hF
  refine ⟨_, (pss_cons (ps_set (i := 2) sc_rank_of.nd rfl (.inl rfl) (pe_call G_size_of hr (by rfl) L.m_size_of L.F_size_of.kp L.b_size_of .nil pass0 (pa_cons (pv 0) (pa_cons (pv 1) pa_nil))))
    (pss_one (ps_ret (pe_ifExp (pt_cmpR op_eq (pe_ix ix_tup (pe_meth (pv 0) L.T.cl L.M_Form_parts G_Form_parts hr L.b_Form_parts .nil pass0 (pa_cons (pv 1) pa_nil)) pe_int (fun _ _ => rfl)) pe_int (nomark _)) (pe_un un_neg (pv 2)) (pv 2))))), ?_⟩
  refine ⟨_, rfl, _, rfl, x, sc, tl, v, rfl, hF, fun H1 s1 => ?_⟩
  show gName 2 _ _ _ _
  try simp only [L2.start, List.map_cons, List.map_nil, List.length_cons, List.length_nil, List.replicate_succ, List.replicate_zero, List.cons_append, List.nil_append, List.set_cons_succ, List.set_cons_zero, Nat.reduceAdd, Nat.reduceSub, Nat.zero_add]
  refine ⟨_, rfl, x, dx, _, rfl, s1 _ _ hx, rfl, _, rfl, x, sc, tl, v, rfl, hF.same s1, fun p np => ?_⟩
  have w := s1.trans (same_upd (o := .tup [.int (GM.sgn sc tl v), .int (GM.scl sc tl v), .int (GM.tlp tl v)]) np)
  refine ⟨p, _, _, _, rfl, rfl, SqT.of upd_same, rfl, rfl, _, rfl, ite2 (fun c => ?_) (fun c => ?_)⟩
  · have c1 : GM.sgn sc tl v = 1 := V.int.inj (of_decide_eq_true c)
    have r := q _ w
    unfold rnk at r
    rw [if_pos c1] at r
    exact ⟨_, rfl, _, rfl, r⟩
  · have c1 : ¬ GM.sgn sc tl v = 1 := fun z => c (decide_eq_true (congrArg V.int z))
    have r := q _ w
    unfold rnk at r
    rw [if_neg c1] at r
    exact ⟨_, rfl, r⟩
def spCmp83 (C : Addr) : Sp := fun vs H Q _ => ∃ (x : Addr) (sc tl : Nat) (a b : Int), vs = [.ref x, .int a, .int b] ∧ FAt C H x sc tl ∧ sz sc tl a ≤ GM.topS sc tl ∧ sz sc tl b ≤ GM.topS sc tl ∧ rnk sc tl a ≤ rnk sc tl b ∧
  ∀ H', Same H H' → Q (.str (if rnk sc tl a = rnk sc tl b then "same" else "less")) H'
theorem ok_compared (B : Bl mg) (L : LL K mg C CD za zl t73 t74 t75 tg_NEAR tg_CUT tg_UP tg_DOWN w dO esO nO) : FnOk P w K mg base CX0 5 (za 27) (zl 27) ["form", "a", "b"] (spCmp83 C) := by
  have G_rank_of : FnOk P w K mg base CX0 4 (za 28) (zl 28) ["form", "word"] (spRank83 C) := (ok_rank_of B L).mono (by decide)
  have G_Form_sort_of : FnOk P w K mg base CX0 4 (za 72) (zl 72) ["self", "word"] (spSort C) := (ok_Form_sort_of B L).mono (by decide)
  refine L.F_compared.ok sc_compared (fun vs H Q E h => ?_) (fun cdv A outer s H vs Q E hr h => ?_)
  · obtain ⟨x, sc, tl, a, b, rfl, _⟩ := h
    rfl
  obtain ⟨x, sc, tl, a, b, rfl, hF, za, zb, hle, q⟩ := h
  obtain ⟨dx, hx, h1, h2, h3, h4⟩ := id hF
  refine ⟨_, (pss_cons (ps_if (pt_cmpR op_in_seq pe_str (pe_tup (pa_cons (pe_meth (pv 0) L.T.cl L.M_Form_sort_of G_Form_sort_of hr L.b_Form_sort_of .nil pass0 (pa_cons (pv 1) pa_nil)) (pa_cons (pe_meth (pv 0) L.T.cl L.M_Form_sort_of G_Form_sort_of hr L.b_Form_sort_of .nil pass0 (pa_cons (pv 2) pa_nil)) pa_nil))) (by rfl)) (pss_one (ps_ret pe_str)) pss_nil)
    (pss_cons (ps_set (i := 3) sc_compared.nd rfl (.inl rfl) (pe_call G_rank_of hr (by rfl) L.m_rank_of L.F_rank_of.kp L.b_rank_of .nil pass0 (pa_cons (pv 0) (pa_cons (pv 1) pa_nil))))
    (pss_cons (ps_set (i := 4) sc_compared.nd rfl (.inl rfl) (pe_call G_rank_of hr (by rfl) L.m_rank_of L.F_rank_of.kp L.b_rank_of .nil pass0 (pa_cons (pv 0) (pa_cons (pv 2) pa_nil))))
    (pss_cons (ps_if (pt_cmpR op_eq (pv 3) (pv 4) (nomark _)) (pss_one (ps_ret pe_str)) pss_nil)
    (pss_one (ps_ret (pe_ifExp (pt_cmpR op_lt (pv 3) (pv 4) (nomark _)) pe_str pe_str))))))), ?_⟩
  have na : ∀ {z : Int}, z ≤ GM.topS sc tl → ¬ srt sc tl z = "none" := fun {z} h e => absurd ((srt_none _ _ _).mp e) (by omega)
  refine ⟨_, rfl, x, dx, _, rfl, hx, rfl, _, rfl, x, sc, tl, a, rfl, hF, fun H1 s1 => ?_⟩
  refine ⟨_, rfl, x, dx, _, rfl, s1 _ _ hx, rfl, _, rfl, x, sc, tl, b, rfl, hF.same s1, fun H2 s2 => ?_⟩
  refine ⟨(by show 2 ≤ sizeLine; decide), fun U nU => ?_⟩
  have w2 := s1.trans (s2.trans (same_upd (o := .tup [.str (srt sc tl (sz sc tl a)), .str (srt sc tl (sz sc tl b))]) nU))
  have hin : inV (.str "none") [.str (srt sc tl (sz sc tl a)), .str (srt sc tl (sz sc tl b))] = false := (in_two _ _ _).trans (decide_eq_false (fun z => z.elim (na za) (na zb)))
  refine ⟨U, _, rfl, .inr (.inl (.inl upd_same)), rfl, rfl, ?_⟩
  rw [hin]
  refine ⟨_, rfl, iteF ?_⟩
  generalize upd H2 U (.tup [.str (srt sc tl (sz sc tl a)), .str (srt sc tl (sz sc tl b))]) = H3 at *
  dsimp only [tNext]
  refine ⟨_, rfl, _, rfl, x, sc, tl, a, rfl, hF.same w2, fun H4 s4 => ?_⟩
  show gName 3 _ _ _ _
  try simp only [L2.start, List.map_cons, List.map_nil, List.length_cons, List.length_nil, List.replicate_succ, List.replicate_zero, List.cons_append, List.nil_append, List.set_cons_succ, List.set_cons_zero, Nat.reduceAdd, Nat.reduceSub, Nat.zero_add]
  refine ⟨_, rfl, _, rfl, x, sc, tl, b, rfl, (hF.same w2).same s4, fun H5 s5 => ?_⟩
  have w5 := w2.trans (s4.trans s5)
  refine gset_if2 ?_
  try simp only [L2.start, List.map_cons, List.map_nil, List.length_cons, List.length_nil, List.replicate_succ, List.replicate_zero, List.cons_append, List.nil_append, List.set_cons_succ, List.set_cons_zero, Nat.reduceAdd, Nat.reduceSub, Nat.zero_add]
  refine ⟨_, rfl, _, rfl, rfl, _, rfl, ite2 (fun c => ?_) (fun c => ?_)⟩
  · have c1 : rnk sc tl a = rnk sc tl b := V.int.inj (of_decide_eq_true c)
    have r := q _ w5
    rw [if_pos c1] at r
    exact r
  · have c1 : ¬ rnk sc tl a = rnk sc tl b := fun z => c (decide_eq_true (congrArg V.int z))
    have r := q _ w5
    rw [if_neg c1] at r
    dsimp only [tNext]
    refine ⟨_, rfl, _, rfl, _, _, rfl, rfl, _, rfl, ?_⟩
    rw [decide_eq_true (show rnk sc tl a < rnk sc tl b by omega)]
    exact iteT r
theorem tgn_scale (c x y : Int) (i j : Nat) : tgn x (c + i) y (c + j) * 2 ^ (min i j + 1) = 2 * (x * 2 ^ i + y * 2 ^ j) ∧ lwr (c + i) (c + j) - (c - 1) = ((min i j + 1 : Nat) : Int) := by
  have e : lwr (c + i) (c + j) = c + (min i j : Nat) := by
    unfold lwr
    split <;> omega
  refine ⟨?_, by rw [e]; omega⟩
  unfold tgn
  rw [e, show (c + (i : Int) - (c + (min i j : Nat))).toNat = i - min i j by omega, show (c + (j : Int) - (c + (min i j : Nat))).toNat = j - min i j by omega, Int.pow_succ, ← Int.mul_assoc, Int.add_mul, Int.mul_assoc, Int.mul_assoc, ← GM.pow_add', ← GM.pow_add', Nat.sub_add_cancel (Nat.min_le_left i j), Nat.sub_add_cancel (Nat.min_le_right i j)]
  omega
theorem next_word {sc tl : Nat} {a : Int} (h : ¬ sz sc tl (a + 1) = 0) : sz sc tl (a + 1) = sz sc tl a + 1 ∧ GM.sgn sc tl (a + 1) = GM.sgn sc tl a := by
  have hp := GM.pow_pos' (sc + tl)
  unfold sz GM.sgn at *
  have e := Int.emod_add_mul_ediv a (2 ^ (sc + tl))
  have r0 := Int.emod_nonneg a (show (2 : Int) ^ (sc + tl) ≠ 0 by omega)
  have r1 := Int.emod_lt_of_pos a hp
  generalize a / 2 ^ (sc + tl) = y at *
  generalize a % 2 ^ (sc + tl) = r at *
  have ea : a + 1 = (r + 1) + y * 2 ^ (sc + tl) := by rw [Int.mul_comm y]; omega
  by_cases c : r + 1 = 2 ^ (sc + tl)
  · exfalso
    apply h
    rw [ea, Int.add_mul_emod_self_right, c, Int.emod_self]
  · rw [ea, Int.add_mul_emod_self_right, Int.add_mul_ediv_right _ _ (by omega), Int.emod_eq_of_lt (by omega) (by omega), Int.ediv_eq_zero_of_lt (by omega) (by omega), Int.zero_add]
    exact ⟨rfl, rfl⟩
theorem add_rdn {sc tl : Nat} {a b : Int} {how : Str} (ha : ¬ GM.topS sc tl ≤ sz sc tl a) (hb : ¬ GM.topS sc tl ≤ sz sc tl b) : (addR sc tl a b how).1 = rdn sc tl (tgn (wn sc tl a) (wp sc tl a) (wn sc tl b) (wp sc tl b)) (lwr (wp sc tl a) (wp sc tl b)) (nsg (GM.sgn sc tl a) (GM.sgn sc tl b) how) how := by
  have tp := srt_top sc tl
  unfold addR
  rw [if_neg (fun z => z.elim (fun e => ha ((tp _).mp (.inr e))) (fun e => hb ((tp _).mp (.inr e))))]
  unfold wo
  rw [if_neg ha, if_neg hb]
  rfl
theorem nsg_01' {sc tl : Nat} {a b : Int} {how : Str} : nsg (GM.sgn sc tl a) (GM.sgn sc tl b) how = 0 ∨ nsg (GM.sgn sc tl a) (GM.sgn sc tl b) how = 1 := by
  unfold nsg
  split
  · exact GM.sgn_01
  · split <;> simp
theorem rise_math {sc tl : Nat} {a b : Int} {how : Str} (h1 : 2 ≤ sc) (h3 : 1 ≤ tl) (hw : how ∈ WL) (hs : GM.sgn sc tl a = 0) (ra : ¬ GM.topS sc tl ≤ sz sc tl (a + 1) ∧ ¬ sz sc tl (a + 1) = 0) (hb : sz sc tl b < GM.topS sc tl) :
    sz sc tl (addR sc tl a b how).1 ≤ GM.topS sc tl ∧ sz sc tl (addR sc tl (a + 1) b how).1 ≤ GM.topS sc tl ∧ rnk sc tl (addR sc tl a b how).1 ≤ rnk sc tl (addR sc tl (a + 1) b how).1 := by
  have nx := next_word ra.2
  have ha : ¬ GM.topS sc tl ≤ sz sc tl a := by omega
  have hb' : ¬ GM.topS sc tl ≤ sz sc tl b := by omega
  rw [add_rdn ha hb', add_rdn ra.1 hb']
  refine ⟨(rdn_rank hw h1 nsg_01').2.2.2.2, (rdn_rank hw h1 nsg_01').2.2.2.2, ?_⟩
  have t1 := tgn_scale (P0 sc tl) (wn sc tl a) (wn sc tl b) (GM.ex tl (sz sc tl a)) (GM.ex tl (sz sc tl b))
  have t2 := tgn_scale (P0 sc tl) (wn sc tl (a + 1)) (wn sc tl b) (GM.ex tl (sz sc tl (a + 1))) (GM.ex tl (sz sc tl b))
  refine rdn_mono (b := 0) (B := P0 sc tl - 1) hw h1 h3 nsg_01' nsg_01' t1.2 t2.2 (by show P0 sc tl - (P0 sc tl - 1) = _; omega) ?_
  unfold wp
  rw [t1.1, t2.1]
  have m := GM.num_mono (t := tl) (sz_nn sc tl a) (show sz sc tl a < sz sc tl (a + 1) by omega)
  have w1 : wn sc tl a = GM.num tl (sz sc tl a) := by
    unfold wn
    rw [if_neg (by omega)]
  have w2 : wn sc tl (a + 1) = GM.num tl (sz sc tl (a + 1)) := by
    unfold wn
    rw [if_neg (by omega)]
  rw [w1, w2]
  omega
def spRise83 (C : Addr) : Sp := fun vs H Q _ => ∃ (x : Addr) (sc tl : Nat) (a b : Int) (how : Str), vs = [.ref x, .int a, .int b, .str how] ∧ FAt C H x sc tl ∧ how ∈ WL ∧ sz sc tl b < GM.topS sc tl ∧
  ∀ H', Same H H' → Q (.bl true) H'
theorem ok__law_rises (B : Bl mg) (L : LL K mg C CD za zl t73 t74 t75 tg_NEAR tg_CUT tg_UP tg_DOWN w dO esO nO) : FnOk P w K mg base CX0 10 (za 66) (zl 66) ["_law_form", "_law_a", "_law_b", "_law_how"] (spRise83 C) := by
  have G_added : FnOk P w K mg base CX0 9 (za 10) (zl 10) ["form", "a", "b", "way"] (spAdd C) := (ok_added B L).mono (by decide)
  have G_compared : FnOk P w K mg base CX0 9 (za 27) (zl 27) ["form", "a", "b"] (spCmp83 C) := (ok_compared B L).mono (by decide)
  have G_Form_sort_of : FnOk P w K mg base CX0 9 (za 72) (zl 72) ["self", "word"] (spSort C) := (ok_Form_sort_of B L).mono (by decide)
  have G_Form_parts : FnOk P w K mg base CX0 9 (za 70) (zl 70) ["self", "word"] (spParts C) := (ok_Form_parts B L).mono (by decide)
  refine L.F__law_rises.ok sc__law_rises (fun vs H Q E h => ?_) (fun cdv A outer s H vs Q E hr h => ?_)
  · obtain ⟨x, sc, tl, a, b, how, rfl, _⟩ := h
    rfl
  obtain ⟨x, sc, tl, a, b, how, rfl, hF, hw, hb, q⟩ := h
  obtain ⟨dx, hx, h1, h2, h3, h4⟩ := id hF
  refine ⟨_, (pss_cons (ps_if (PW.pt (pw_or (pt_cmpR op_eq (pe_ix ix_tup (pe_meth (pv 0) L.T.cl L.M_Form_parts G_Form_parts hr L.b_Form_parts .nil pass0 (pa_cons (pv 1) pa_nil)) pe_int (fun _ _ => rfl)) pe_int (nomark _)) (pw_or1 (pt_cmpR op_notIn_seq (pe_meth (pv 0) L.T.cl L.M_Form_sort_of G_Form_sort_of hr L.b_Form_sort_of .nil pass0 (pa_cons (pe_op op_add (pv 1) pe_int) pa_nil)) (pe_tup (pa_cons pe_str (pa_cons pe_str pa_nil))) (by rfl))))) (pss_one (ps_ret pe_bl)) pss_nil)
    (pss_cons (ps_par (by rfl) sc__law_rises.nd (i := 4) (j := 5) rfl rfl (by decide) rfl rfl (pa_cons (pe_ix ix_tup (pe_callN G_added hr (by rfl) L.m_added L.F_added.kp (L.kb_added_way).choose_spec pass0 (pa_cons (pv 0) (pa_cons (pv 1) (pa_cons (pv 2) pa_nil))) (pk_cons (pv 3) pk_nil)) pe_int (fun _ _ => rfl)) (pa_cons (pe_ix ix_tup (pe_callN G_added hr (by rfl) L.m_added L.F_added.kp (L.kb_added_way).choose_spec pass0 (pa_cons (pv 0) (pa_cons (pe_op op_add (pv 1) pe_int) (pa_cons (pv 2) pa_nil))) (pk_cons (pv 3) pk_nil)) pe_int (fun _ _ => rfl)) pa_nil)) (by rfl))
    (pss_one (ps_ret (pe_cmpR op_in_seq (pe_call G_compared hr (by rfl) L.m_compared L.F_compared.kp L.b_compared .nil pass0 (pa_cons (pv 0) (pa_cons (pv 4) (pa_cons (pv 5) pa_nil)))) (pe_tup (pa_cons pe_str (pa_cons pe_str pa_nil))) (by rfl)))))), ?_⟩
  refine ifS_ev (fun z H' => Same H H' ∧ (z = false → GM.sgn sc tl a = 0 ∧ hdv sc tl (a + 1) = true)) (fun Q' q' => ?_) (fun H1 z => q _ z.1) ?_
  · refine ⟨_, rfl, x, dx, _, rfl, hx, rfl, _, rfl, x, sc, tl, a, rfl, hF, fun p np => ?_⟩
    have w := same_upd (o := .tup [.int (GM.sgn sc tl a), .int (GM.scl sc tl a), .int (GM.tlp tl a)]) np
    refine ⟨p, _, _, _, rfl, rfl, SqT.of upd_same, rfl, rfl, _, rfl, ite2 (fun c => ?_) (fun c => ?_)⟩
    · exact q' _ _ ⟨w, fun z => absurd z (by decide)⟩
    · have c0 : GM.sgn sc tl a = 0 := by
        rcases GM.sgn_01 (m := sc) (t := tl) (w := a) with z | z
        · exact z
        · exact absurd (decide_eq_true (congrArg V.int z)) c
      refine ⟨_, rfl, x, dx, _, rfl, w _ _ hx, rfl, _, rfl, _, _, rfl, rfl, x, sc, tl, a + 1, rfl, hF.same w, fun H2 s2 => ?_⟩
      refine ⟨(by show 2 ≤ sizeLine; decide), fun U nU => ?_⟩
      have hin : inV (.str (srt sc tl (sz sc tl (a + 1)))) [.str "small", .str "plain"] = hdv sc tl (a + 1) := in_two _ _ _
      refine ⟨U, _, rfl, .inr (.inl (.inl upd_same)), rfl, rfl, ?_⟩
      rw [hin]
      refine ⟨_, rfl, q' _ _ ⟨w.trans (s2.trans (same_upd nU)), fun z => ⟨c0, by simpa using z⟩⟩⟩
  rintro H1 ⟨s1, k1⟩
  obtain ⟨c0, c1⟩ := k1 rfl
  dsimp only [tNext]
  have mm := rise_math h1 h3 hw c0 (hdv_real c1) hb
  refine ⟨_, rfl, _, rfl, _, rfl, _, rfl, rfl, rfl, x, sc, tl, a, b, how, rfl, hF.same s1, fun t1 H2 s2 P1 => ?_⟩
  obtain ⟨f1, e1, _⟩ := id P1
  refine ⟨t1, _, _, _, rfl, rfl, SqT.of e1, rfl, ?_⟩
  refine ⟨_, rfl, _, rfl, _, _, rfl, rfl, _, rfl, _, rfl, rfl, rfl, x, sc, tl, a + 1, b, how, rfl, (hF.same s1).same s2, fun t2 H3 s3 P2 => ?_⟩
  obtain ⟨f2, e2, _⟩ := id P2
  refine ⟨t2, _, _, _, rfl, rfl, SqT.of e2, rfl, ?_⟩
  refine ⟨_, _, rfl, ?_⟩
  try simp only [L2.start, List.map_cons, List.map_nil, List.length_cons, List.length_nil, List.replicate_succ, List.replicate_zero, List.cons_append, List.nil_append, List.set_cons_succ, List.set_cons_zero, Nat.reduceAdd, Nat.reduceSub, Nat.zero_add]
  have w3 := s1.trans (s2.trans s3)
  refine ⟨_, rfl, _, rfl, _, rfl, x, sc, tl, _, _, rfl, hF.same w3, mm.1, mm.2.1, mm.2.2, fun H4 s4 => ?_⟩
  refine ⟨(by show 2 ≤ sizeLine; decide), fun U nU => ?_⟩
  have hin : inV (.str (if rnk sc tl (addR sc tl a b how).1 = rnk sc tl (addR sc tl (a + 1) b how).1 then "same" else "less")) [.str "less", .str "same"] = true := by
    split <;> decide +kernel
  refine ⟨U, _, rfl, .inr (.inl (.inl upd_same)), rfl, rfl, ?_⟩
  rw [hin]
  exact q _ (w3.trans (s4.trans (same_upd nU)))
end
section
variable {P : Program} {w : World} {K : PySem.W.Frag} {mg : Str → Option Value} {base : Heap}
variable {C : Addr} {CD : Addr} {za : Nat → Addr} {zl : Nat → FuncData} {t73 t74 t75 tg_NEAR tg_CUT tg_UP tg_DOWN : Tok} {dO : Addr} {esO : Array DictEntry} {nO : Nat}
theorem at4w {r : Int} (h0 : 0 ≤ r) (h1 : r < 4) : ∃ w : Str, atI ([.str "near", .str "cut", .str "up", .str "down"] : List V) r = some (.str w) ∧ w ∈ WL := by
  have : r = 0 ∨ r = 1 ∨ r = 2 ∨ r = 3 := by omega
  rcases this with z | z | z | z <;> subst z
  · exact ⟨_, rfl, by simp [WL]⟩
  · exact ⟨_, rfl, by simp [WL]⟩
  · exact ⟨_, rfl, by simp [WL]⟩
  · exact ⟨_, rfl, by simp [WL]⟩
def spLaw (K : PySem.W.Frag) : Sp := fun vs H Q _ => ∃ (a : Addr) (ns : List Int), vs = [.ref a] ∧ SqL K H a (ns.map V.int) ∧ ns.length ≤ 63 ∧ ∀ H', Q (.bl true) H'
theorem ok_law {f : Addr} {fd : FuncData} (F : Fun K "law" "law" s_law f fd) (B : Bl mg) (L : LL K mg C CD za zl t73 t74 t75 tg_NEAR tg_CUT tg_UP tg_DOWN w dO esO nO) : FnOk P w K mg base CX0 15 f fd ["_law_script"] (spLaw K) := by
  have G__law_folded : FnOk P w K mg base CX0 14 (za 60) (zl 60) ["_law_script", "_law_size"] (spFolded K) := ok_folded L.F__law_folded B
  have G__law_box : FnOk P w K mg base CX0 14 (za 58) (zl 58) ["_law_script", "_law_k"] (spBox K) := ok_box L.F__law_box B
  have G__law_take : FnOk P w K mg base CX0 14 (za 59) (zl 59) ["_law_box_here", "_law_size"] (spTake 2) := (ok_take L.F__law_take L.b__law_take L.m__law_take B 2).mono (by decide)
  have G_Form___init__ : FnOk P w K mg base CX0 13 (za 67) (zl 67) ["self", "scale", "tail"] (spInit C) := (ok_Form___init__ B L).mono (by decide)
  have G__law_pair : FnOk P w K mg base CX0 14 (za 63) (zl 63) ["_law_box_here", "_law_form", "_law_case"] (spPair83 C) := (ok__law_pair B L).mono (by decide)
  have G_done : FnOk P w K mg base CX0 14 (za 26) (zl 26) ["form", "op", "words", "way"] (spDone K C) := (ok_done B L).mono (by decide)
  have G__law_words_right : FnOk P w K mg base CX0 14 (za 65) (zl 65) ["_law_form", "_law_a", "_law_b", "_law_c", "_law_how"] (spWR C) := (ok__law_words_right B L).mono (by decide)
  have G__law_rises : FnOk P w K mg base CX0 14 (za 66) (zl 66) ["_law_form", "_law_a", "_law_b", "_law_how"] (spRise83 C) := (ok__law_rises B L).mono (by decide)
  refine F.ok sc_law (fun vs H Q E h => ?_) (fun cdv A outer s H vs Q E hr h => ?_)
  · obtain ⟨a, ns, rfl, _⟩ := h
    rfl
  obtain ⟨a, ns, rfl, hS, h63, q⟩ := h
  refine ⟨_, (pss_cons (ps_set (i := 1) sc_law.nd rfl (.inl rfl) (pe_call G__law_folded hr (by rfl) L.m__law_folded L.F__law_folded.kp L.b__law_folded .nil pass0 (pa_cons (pv 0) (pa_cons pe_int pa_nil))))
    (pss_cons (ps_for PassesOwn.never rfl (pi_range1 (by rfl) B.range (pa_cons (pe_callB (call_max2 rfl) (by rfl) B.max boot_max (pa_cons pe_int (pa_cons (pe_callB call_len_seq (by rfl) B.len PySem.boot_len (pa_cons (pv 1) pa_nil)) pa_nil))) pa_nil)) (pg_name (i := 2) sc_law.nd rfl (.inl rfl)) (pss_cons (ps_set (i := 3) sc_law.nd rfl (.inl rfl) (pe_call G__law_box hr (by rfl) L.m__law_box L.F__law_box.kp L.b__law_box .nil pass0 (pa_cons (pv 1) (pa_cons (pv 2) pa_nil))))
    (pss_cons (ps_set (i := 4) sc_law.nd rfl (.inl rfl) (pe_make L.M G_Form___init__ hr (by rfl) L.T.mgC L.b_Form___init__ .nil pass0 (pa_cons (pe_op op_add pe_int (pe_call G__law_take hr (by rfl) L.m__law_take L.F__law_take.kp L.b__law_take .nil pass0 (pa_cons (pv 3) (pa_cons pe_int pa_nil)))) (pa_cons (pe_op op_add pe_int (pe_call G__law_take hr (by rfl) L.m__law_take L.F__law_take.kp L.b__law_take .nil pass0 (pa_cons (pv 3) (pa_cons pe_int pa_nil)))) pa_nil))))
    (pss_one (ps_for PassesOwn.never rfl (pi_range1 (by rfl) B.range (pa_cons pe_int pa_nil)) (pg_name (i := 5) sc_law.nd rfl (.inl rfl)) (pss_cons (ps_asg (pe_call G__law_pair hr (by rfl) L.m__law_pair L.F__law_pair.kp L.b__law_pair .nil pass0 (pa_cons (pv 3) (pa_cons (pv 4) (pa_cons (pv 5) pa_nil)))) (pg_tup (by rfl) (pgs_cons (pg_name (i := 6) sc_law.nd rfl (.inl rfl)) (pgs_cons (pg_name (i := 7) sc_law.nd rfl (.inl rfl)) pgs_nil))))
    (pss_cons (ps_set (i := 8) sc_law.nd rfl (.inl rfl) (pe_op op_xor (pe_ix ix_tup (pe_call G_done hr (by rfl) L.m_done L.F_done.kp (L.kb_done).choose_spec.2 (L.kb_done).choose_spec.1 pass0 (pa_cons (pv 4) (pa_cons pe_str (pa_cons (pe_lst (pa_cons (pv 6) (pa_cons (pv 7) pa_nil))) pa_nil)))) pe_int (fun _ _ => rfl)) (pe_op op_shlN (pe_call G__law_take hr (by rfl) L.m__law_take L.F__law_take.kp L.b__law_take .nil pass0 (pa_cons (pv 3) (pa_cons pe_int pa_nil))) (pe_op op_add (pe_fld (pv 4) rfl) (pe_fld (pv 4) rfl)))))
    (pss_cons (ps_set (i := 8) sc_law.nd rfl (.inl rfl) (pe_ifExp (pt_cmpR op_eq (pe_call G__law_take hr (by rfl) L.m__law_take L.F__law_take.kp L.b__law_take .nil pass0 (pa_cons (pv 3) (pa_cons pe_int pa_nil))) pe_int (nomark _)) (pv 8) (pe_callB (call_max2 rfl) (by rfl) B.max boot_max (pa_cons pe_int (pa_cons (pe_op op_xor (pv 8) (pe_call G__law_take hr (by rfl) L.m__law_take L.F__law_take.kp L.b__law_take .nil pass0 (pa_cons (pv 3) (pa_cons pe_int pa_nil)))) pa_nil)))))
    (pss_cons (ps_set (i := 9) sc_law.nd rfl (.inl rfl) (pe_ix ix_list (pe_lst (pa_cons pe_str (pa_cons pe_str (pa_cons pe_str (pa_cons pe_str pa_nil))))) (pe_call G__law_take hr (by rfl) L.m__law_take L.F__law_take.kp L.b__law_take .nil pass0 (pa_cons (pv 3) (pa_cons pe_int pa_nil))) (fun _ _ => rfl)))
    (pss_one (ps_if (PW.pt (pw_or (pt_not (pt_val (pe_call G__law_words_right hr (by rfl) L.m__law_words_right L.F__law_words_right.kp L.b__law_words_right .nil pass0 (pa_cons (pv 4) (pa_cons (pv 6) (pa_cons (pv 7) (pa_cons (pv 8) (pa_cons (pv 9) pa_nil)))))))) (pw_or1 (pt_not (pt_val (pe_call G__law_rises hr (by rfl) L.m__law_rises L.F__law_rises.kp L.b__law_rises .nil pass0 (pa_cons (pv 4) (pa_cons (pv 6) (pa_cons (pv 7) (pa_cons (pv 9) pa_nil)))))))))) (pss_one (ps_ret pe_bl)) pss_nil)))))))))))
    (pss_one (ps_ret pe_bl)))), ?_⟩
  refine ⟨_, rfl, a, ns, 3, rfl, hS, h63, by decide, by decide, fun p H1 zs np s1 ep lz => ?_⟩
  have lz2 : zs.length ≤ 3 := by omega
  have e14 : (10000000 : Int) ^ 2 = 100000000000000 := by decide
  refine ⟨_, rfl, p, _, rfl, .inl (SqL.of ep), _, _, rfl, ?_⟩
  obtain ⟨n, en, hn⟩ : ∃ n : Nat, (if (((zs.map V.int).length : Nat) : Int) > 2 then (((zs.map V.int).length : Nat) : Int) else 2) = (n : Int) ∧ n ≤ 3 := by
    rw [List.length_map]
    split
    · exact ⟨zs.length, rfl, lz2⟩
    · exact ⟨2, rfl, by decide⟩
  rw [en]
  refine ⟨_, rfl, by omega, by omega, ?_⟩
  rw [Int.toNat_natCast]
  refine for_range (n := n) (fun i σ H5 => ∃ (y2 y3 y4 y5 y6 y7 y8 y9 : Option V), σ = [some (.ref a), some (.ref p), y2, y3, y4, y5, y6, y7, y8, y9] ∧ Same H1 H5) ⟨none, none, none, none, none, none, none, none, rfl, Same.refl _⟩ ?_ ?_
  · rintro i σ H5 hi ⟨y2, y3, y4, y5, y6, y7, y8, y9, rfl, s5⟩
    refine ⟨_, rfl, _, rfl, p, zs, _, rfl, SqL.of (s5 _ _ ep), by omega, by omega, fun b H6 nb s6 B6 => ?_⟩
    try simp only [L2.start, List.map_cons, List.map_nil, List.length_cons, List.length_nil, List.replicate_succ, List.replicate_zero, List.cons_append, List.nil_append, List.set_cons_succ, List.set_cons_zero, Nat.reduceAdd, Nat.reduceSub, Nat.zero_add]
    refine ⟨_, rfl, b, _, _, rfl, B6, (by decide), (by decide), (by decide), (by omega), (by decide), fun r1 H7 u1 v1 B7 k7 => ?_⟩
    replace B7 := bx2 B7
    refine ⟨_, _, rfl, rfl, _, rfl, b, _, _, rfl, B7, (by decide), (by decide), (by decide), (by omega), (by decide), fun r2 H8 u2 v2 B8 k8 => ?_⟩
    replace B8 := bx2 B8
    refine ⟨_, _, rfl, rfl, fun x dx nx ndx ne => ?_⟩
    obtain ⟨sc, esc⟩ : ∃ sc : Nat, 5 + r1 = (sc : Int) := ⟨(5 + r1).toNat, by omega⟩
    obtain ⟨tl, etl⟩ : ∃ tl : Nat, 8 + r2 = (tl : Int) := ⟨(8 + r2).toNat, by omega⟩
    refine ⟨x, dx, sc, tl, by rw [← esc, ← etl]; rfl, upd_same, by omega, by omega, by omega, by omega, fun H9 F9 kp => ⟨rfl, ?_⟩⟩
    have s9 : Same H8 H9 := made nx ndx ne kp
    have nxb : x ≠ b := (B8.ne nx).symm
    have B9 := B8.same s9
    have h5 : 5 ≤ sc := by omega
    have h8 : 8 ≤ tl := by omega
    have hsc : sc ≤ 8 := by omega
    have htl : tl ≤ 24 := by omega
    have kA : Keep b H6 H9 := (k7.trans k8).trans (Keep.ofSame s9)
    show gName 4 _ _ _ _
    try simp only [L2.start, List.map_cons, List.map_nil, List.length_cons, List.length_nil, List.replicate_succ, List.replicate_zero, List.cons_append, List.nil_append, List.set_cons_succ, List.set_cons_zero, Nat.reduceAdd, Nat.reduceSub, Nat.zero_add]
    refine ⟨12, rfl, by decide, by decide, ?_⟩
    refine for_range (n := 12) (fun j σ G => ∃ (y5 y6 y7 y8 y9 : Option V), σ = [some (.ref a), some (.ref p), some (.int (0 + (i : Int))), some (.ref b), some (.ref x), y5, y6, y7, y8, y9] ∧ BoxAt (4 + 210 * j) G b ∧ Keep b H9 G) ⟨_, _, _, _, _, rfl, B9.mono (by omega), Keep.refl _ _⟩ ?_ ?_
    · rintro j σ G hj ⟨z5, z6, z7, z8, z9, rfl, Bg, kg⟩
      have Fg := F9.keep kg nxb
      try simp only [L2.start, List.map_cons, List.map_nil, List.length_cons, List.length_nil, List.replicate_succ, List.replicate_zero, List.cons_append, List.nil_append, List.set_cons_succ, List.set_cons_zero, Nat.reduceAdd, Nat.reduceSub, Nat.zero_add]
      dsimp only [gName]
      rw [show (0 : Int) + (j : Int) = (j : Int) by omega]
      try simp only [L2.start, List.map_cons, List.map_nil, List.length_cons, List.length_nil, List.replicate_succ, List.replicate_zero, List.cons_append, List.nil_append, List.set_cons_succ, List.set_cons_zero, Nat.reduceAdd, Nat.reduceSub, Nat.zero_add]
      refine ⟨_, rfl, _, rfl, _, rfl, b, x, sc, tl, j, _, rfl, Fg, h5, h8, hj, Bg, by omega, fun tp va vb G1 etp hvb B1 k1 => ?_⟩
      have F1 := Fg.keep k1 nxb
      refine ⟨tp, _, rfl, .inl (.inl etp), rfl, _, _, rfl, _, _, rfl, rfl, ?_⟩
      try simp only [L2.start, List.map_cons, List.map_nil, List.length_cons, List.length_nil, List.replicate_succ, List.replicate_zero, List.cons_append, List.nil_append, List.set_cons_succ, List.set_cons_zero, Nat.reduceAdd, Nat.reduceSub, Nat.zero_add]
      refine ⟨_, rfl, _, rfl, _, rfl, (by show 2 ≤ sizeLine; decide), fun U nU => ?_⟩
      have sU := same_upd (o := .lst [.int va, .int vb]) nU
      refine ⟨x, U, sc, tl, "times", "near", [va, vb], mulR sc tl va vb "near", rfl, F1.same sU, .inr (SqL.of upd_same), rfl, fun t4 G2 s4 P4 => ?_⟩
      obtain ⟨f4, e4, _⟩ := id P4
      have w2 := sU.trans s4
      have F2 := F1.same w2
      obtain ⟨dx2, hx2, _⟩ := id F2
      refine ⟨t4, _, _, _, rfl, rfl, SqT.of e4, rfl, ?_⟩
      refine ⟨_, rfl, b, _, _, rfl, B1.same w2, (by decide), (by decide), (by decide), (by omega), (by decide), fun r3 G3 u3 v3 B3 k3 => ?_⟩
      replace B3 := bx2 B3
      have F3 := F2.keep k3 nxb
      have hx3 := k3 _ _ hx2 nxb
      refine ⟨_, rfl, x, C, dx2, _, _, rfl, hx3, L.T.cl, L.T.ns, fl_s _ _, _, rfl, x, C, dx2, _, _, rfl, hx3, L.T.cl, L.T.nt, fl_t _ _, _, _, rfl, rfl, _, sc + tl, rfl, rfl, shl_ok (n := 2) (by omega) (by omega), _, _, rfl, rfl, ?_⟩
      obtain ⟨X, eX⟩ : ∃ X, Builtin.bitXor (mulR sc tl va vb "near").1 (r3 * 2 ^ (sc + tl)) = X := ⟨_, rfl⟩
      dsimp only
      rw [eX]
      clear eX
      show gName 8 _ _ _ _
      try simp only [L2.start, List.map_cons, List.map_nil, List.length_cons, List.length_nil, List.replicate_succ, List.replicate_zero, List.cons_append, List.nil_append, List.set_cons_succ, List.set_cons_zero, Nat.reduceAdd, Nat.reduceSub, Nat.zero_add]
      refine if_ev (fun z H' => ∃ cv, z = .int cv ∧ BoxAt (4 + 210 * j + 206) H' b ∧ Keep b G3 H') (fun Q' q' => ?_) ?_
      · refine ⟨_, rfl, b, _, _, rfl, B3, (by decide), (by decide), (by decide), (by omega), (by decide), fun r4 G4 u4 v4 B4 k4 => ?_⟩
        replace B4 := bx2 B4
        refine ⟨rfl, _, rfl, ite2 (fun cc => ?_) (fun cc => ?_)⟩
        · exact ⟨_, rfl, q' _ _ ⟨_, rfl, B4.mono (by omega), k4⟩⟩
        · refine ⟨_, rfl, _, rfl, b, _, _, rfl, B4, (by decide), (by decide), (by decide), (by omega), (by decide), fun r5 G5 u5 v5 B5 k5 => ?_⟩
          replace B5 := bx2 B5
          exact ⟨_, _, rfl, rfl, _, _, rfl, q' _ _ ⟨_, rfl, B5.mono (by omega), k4.trans k5⟩⟩
      rintro _ G4 ⟨cv, rfl, B4, k4⟩
      show gName 8 _ _ _ _
      try simp only [L2.start, List.map_cons, List.map_nil, List.length_cons, List.length_nil, List.replicate_succ, List.replicate_zero, List.cons_append, List.nil_append, List.set_cons_succ, List.set_cons_zero, Nat.reduceAdd, Nat.reduceSub, Nat.zero_add]
      refine ⟨(by show 4 ≤ sizeLine; decide), fun lw nlw => ?_⟩
      have slw := same_upd (o := .lst [.str "near", .str "cut", .str "up", .str "down"]) nlw
      have nlb : lw ≠ b := (B4.ne nlw).symm
      refine ⟨_, rfl, b, _, _, rfl, B4.same slw, (by decide), (by decide), (by decide), (by omega), (by decide), fun r6 G6 u6 v6 B6' k6 => ?_⟩
      replace B6' := bx2 B6'
      obtain ⟨how, ew, hw⟩ := at4w u6 v6
      refine ⟨lw, _, _, _, rfl, rfl, SqL.of (k6 _ _ upd_same nlb), ew, ?_⟩
      have kB : Keep b G G6 := k1.trans ((Keep.ofSame w2).trans (k3.trans (k4.trans ((Keep.ofSame slw).trans k6))))
      have F6 := Fg.keep kB nxb
      show gName 9 _ _ _ _
      try simp only [L2.start, List.map_cons, List.map_nil, List.length_cons, List.length_nil, List.replicate_succ, List.replicate_zero, List.cons_append, List.nil_append, List.set_cons_succ, List.set_cons_zero, Nat.reduceAdd, Nat.reduceSub, Nat.zero_add]
      dsimp only [gName]
      try simp only [L2.start, List.map_cons, List.map_nil, List.length_cons, List.length_nil, List.replicate_succ, List.replicate_zero, List.cons_append, List.nil_append, List.set_cons_succ, List.set_cons_zero, Nat.reduceAdd, Nat.reduceSub, Nat.zero_add]
      refine ifS_ev (fun z H' => z = false ∧ Same G6 H') (fun Q' q' => ?_) (fun H' z => absurd z.1 (by decide)) ?_
      · refine ⟨_, rfl, _, rfl, _, rfl, _, rfl, _, rfl, x, sc, tl, va, vb, cv, how, rfl, F6, fun G7 s7 => ?_⟩
        refine ⟨_, rfl, iteF ?_⟩
        refine ⟨_, rfl, _, rfl, _, rfl, _, rfl, x, sc, tl, va, vb, how, rfl, F6.same s7, hw, hvb, fun G8 s8 => ?_⟩
        refine ⟨_, rfl, ?_⟩
        exact q' _ _ ⟨rfl, s7.trans s8⟩
      rintro G7 ⟨_, s7⟩
      exact ⟨_, _, _, _, _, rfl, (B6'.same s7).mono (by omega), kg.trans (kB.trans (Keep.ofSame s7))⟩
    · rintro σ G ⟨z5, z6, z7, z8, z9, rfl, Bg, kg⟩
      exact ⟨_, _, _, _, _, _, _, _, rfl, fun y u e => (kA.trans kg) _ _ (s6 _ _ (s5 _ _ e)) (ne_of_none (s5 _ _ e) nb)⟩
  · rintro σ H5 ⟨y2, y3, y4, y5, y6, y7, y8, y9, rfl, s5⟩
    exact q _
end
theorem all_mk {l : PySem.W.OpenLaw} {w : World} {K : PySem.W.Frag} {h : Heap} {mg : Str → Option Value} {fa f1 f2 f3 f4 f5 f6 f7 f8 f9 f10 f11 f12 f13 f14 f15 f16 f17 f18 f19 f20 f21 f22 f23 f24 f25 f26 f27 f28 f29 f30 f31 f32 f33 f34 f35 f36 f37 f38 f39 f40 f41 f42 f43 f44 f45 f46 f47 f48 f49 f50 f51 f52 f53 f54 f55 f56 f57 f58 f59 f60 f61 f62 f63 f64 f65 f66 f67 f68 f69 f70 f71 f72 f73 f74 f75 f76 f77 f78 f79 f80 f81 f82 f83 f84 f85 f86 f87 f88 f89 C CD : Addr} (X : K.In h) (G : h.Ns mainGlobals mg) (hfa : mg "law" = some (.ref fa))
    {od1 an1 od2 an2 od3 an3 od4 an4 od5 an5 od6 an6 od7 an7 od8 an8 od9 an9 od10 an10 od11 an11 od12 an12 od13 an13 od14 an14 od15 an15 od16 an16 od17 an17 od18 an18 od19 an19 od20 an20 od21 an21 od22 an22 od23 an23 od24 an24 od25 an25 od26 an26 od27 an27 od28 an28 od29 an29 od30 an30 od31 an31 od32 an32 od33 an33 od34 an34 od35 an35 od36 an36 od37 an37 od38 an38 od39 an39 od40 an40 od41 an41 od42 an42 od43 an43 od44 an44 od45 an45 od46 an46 od47 an47 od48 an48 od49 an49 od50 an50 od51 an51 od52 an52 od53 an53 od54 an54 od55 an55 od56 an56 od57 an57 od58 an58 od59 an59 od60 an60 od61 an61 od62 an62 od63 an63 od64 an64 od65 an65 od66 an66 od67 an67 od68 an68 od69 an69 od70 an70 od71 an71 od72 an72 od73 an73 od74 an74 od75 an75 od76 an76 od77 an77 od78 an78 od79 an79 od80 an80 od81 an81 od82 an82 od83 an83 od84 an84 od85 an85 od86 an86 od87 an87 od88 an88 od89 an89 : Option Addr} {sl1 sl2 sl3 sl4 sl5 sl6 sl7 sl8 sl9 sl10 sl11 sl12 sl13 sl14 sl15 sl16 sl17 sl18 sl19 sl20 sl21 sl22 sl23 sl24 sl25 sl26 sl27 sl28 sl29 sl30 sl31 sl32 sl33 sl34 sl35 sl36 sl37 sl38 sl39 sl40 sl41 sl42 sl43 sl44 sl45 sl46 sl47 sl48 sl49 sl50 sl51 sl52 sl53 sl54 sl55 sl56 sl57 sl58 sl59 sl60 sl61 sl62 sl63 sl64 sl65 sl66 sl67 sl68 sl69 sl70 sl71 sl72 sl73 sl74 sl75 sl76 sl77 sl78 sl79 sl80 sl81 sl82 sl83 sl84 sl85 sl86 sl87 sl88 sl89 : Array (Option Value)} {oc1 kV1 dc1 pm1 cd1 ct1 oc2 kV2 dc2 pm2 cd2 ct2 oc3 kV3 dc3 pm3 cd3 ct3 oc4 dc4 pm4 cd4 ct4 oc5 kV5 dc5 pm5 cd5 ct5 oc6 kV6 dc6 pm6 cd6 ct6 oc7 kV7 dc7 pm7 cd7 ct7 oc8 kV8 dc8 pm8 cd8 ct8 oc9 kV9 dc9 pm9 cd9 ct9 oc10 dc10 pm10 cd10 ct10 oc11 dc11 pm11 cd11 ct11 oc12 dc12 pm12 cd12 ct12 oc13 dc13 pm13 cd13 ct13 oc14 dc14 pm14 cd14 ct14 oc15 kV15 dc15 pm15 cd15 ct15 oc16 kV16 dc16 pm16 cd16 ct16 oc17 kV17 dc17 pm17 cd17 ct17 oc18 kV18 dc18 pm18 cd18 ct18 oc19 kV19 dc19 pm19 cd19 ct19 oc20 kV20 dc20 pm20 cd20 ct20 oc21 kV21 dc21 pm21 cd21 ct21 oc22 kV22 dc22 pm22 cd22 ct22 oc23 kV23 dc23 pm23 cd23 ct23 oc24 kV24 dc24 pm24 cd24 ct24 oc25 kV25 dc25 pm25 cd25 ct25 oc26 dc26 pm26 cd26 ct26 oc27 kV27 dc27 pm27 cd27 ct27 oc28 kV28 dc28 pm28 cd28 ct28 oc29 kV29 dc29 pm29 cd29 ct29 oc30 kV30 dc30 pm30 cd30 ct30 oc31 kV31 dc31 pm31 cd31 ct31 oc32 kV32 dc32 pm32 cd32 ct32 oc33 kV33 dc33 pm33 cd33 ct33 oc34 kV34 dc34 pm34 cd34 ct34 oc35 kV35 dc35 pm35 cd35 ct35 oc36 kV36 dc36 pm36 cd36 ct36 oc37 kV37 dc37 pm37 cd37 ct37 oc38 kV38 dc38 pm38 cd38 ct38 oc39 kV39 dc39 pm39 cd39 ct39 oc40 kV40 dc40 pm40 cd40 ct40 oc41 kV41 dc41 pm41 cd41 ct41 oc42 dc42 pm42 cd42 ct42 oc43 dc43 pm43 cd43 ct43 oc44 kV44 dc44 pm44 cd44 ct44 oc45 kV45 dc45 pm45 cd45 ct45 oc46 kV46 dc46 pm46 cd46 ct46 oc47 kV47 dc47 pm47 cd47 ct47 oc48 dc48 pm48 cd48 ct48 oc49 kV49 dc49 pm49 cd49 ct49 oc50 kV50 dc50 pm50 cd50 ct50 oc51 kV51 dc51 pm51 cd51 ct51 oc52 kV52 dc52 pm52 cd52 ct52 oc53 kV53 dc53 pm53 cd53 ct53 oc54 kV54 dc54 pm54 cd54 ct54 oc55 kV55 dc55 pm55 cd55 ct55 oc56 kV56 dc56 pm56 cd56 ct56 oc57 dc57 pm57 cd57 ct57 oc58 kV58 dc58 pm58 cd58 ct58 oc59 kV59 dc59 pm59 cd59 ct59 oc60 kV60 dc60 pm60 cd60 ct60 oc61 kV61 dc61 pm61 cd61 ct61 oc62 kV62 dc62 pm62 cd62 ct62 oc63 kV63 dc63 pm63 cd63 ct63 oc64 kV64 dc64 pm64 cd64 ct64 oc65 kV65 dc65 pm65 cd65 ct65 oc66 kV66 dc66 pm66 cd66 ct66 oc67 kV67 dc67 pm67 cd67 ct67 oc68 kV68 dc68 pm68 cd68 ct68 oc69 kV69 dc69 pm69 cd69 ct69 oc70 kV70 dc70 pm70 cd70 ct70 oc71 kV71 dc71 pm71 cd71 ct71 oc72 kV72 dc72 pm72 cd72 ct72 oc73 kV73 dc73 pm73 cd73 ct73 oc74 kV74 dc74 pm74 cd74 ct74 oc75 kV75 dc75 pm75 cd75 ct75 oc76 kV76 dc76 pm76 cd76 ct76 oc77 kV77 dc77 pm77 cd77 ct77 oc78 kV78 dc78 pm78 cd78 ct78 oc79 kV79 dc79 pm79 cd79 ct79 oc80 dc80 pm80 cd80 ct80 oc81 kV81 dc81 pm81 cd81 ct81 oc82 kV82 dc82 pm82 cd82 ct82 oc83 kV83 dc83 pm83 cd83 ct83 oc84 kV84 dc84 pm84 cd84 ct84 oc85 kV85 dc85 pm85 cd85 ct85 oc86 kV86 dc86 pm86 cd86 ct86 oc87 kV87 dc87 pm87 cd87 ct87 oc88 kV88 dc88 pm88 cd88 ct88 oc89 kV89 dc89 pm89 cd89 ct89 oT74 oT75 oT76 : Value}
    {vT74 vT75 vT76 : Tok}
    {T74 T75 T76 : Addr} {dT74 dT75 dT76 : Option Addr} {nT74 nT75 nT76 : Nat} {sT74 sT75 sT76 : Array (Option Value)}
    {dO : Addr} {esO : Array DictEntry} {nO : Nat} {tgNEAR tgCUT tgUP tgDOWN : Tok}
    {Dk4 : Addr} {tk4_0 : Tok}
    {Dk10 : Addr} {tk10_0 : Tok}
    {Dk11 : Addr} {tk11_0 : Tok}
    {Dk12 : Addr} {tk12_0 : Tok}
    {Dk13 : Addr} {tk13_0 : Tok}
    {Dk14 : Addr} {tk14_0 : Tok}
    {Dk26 : Addr} {tk26_0 : Tok}
    {Dk42 : Addr} {tk42_0 : Tok}
    {Dk43 : Addr} {tk43_0 : Tok}
    {Dk48 : Addr} {tk48_0 : Tok}
    {Dk57 : Addr} {tk57_0 : Tok}
    {Dk80 : Addr} {tk80_0 : Tok}
    (a1 : PySem.W.nsIn K mainGlobals "cut_off" = some (some (.ref f1))) (l1 : K.lookup f1 = some ⟨oc1, od1, .func (PySem.W.fnOf "cut_off" "cut_off" (defArgs s_cut_off) (defBody s_cut_off) (defScope s_cut_off) .none kV1 dc1 pm1 an1 cd1 ct1), sl1⟩) (c1 : PySem.W.codeIn K cd1 "cut_off" = true) (k1 : PySem.W.keepIn K (.ref f1) = true)
    (a2 : PySem.W.nsIn K mainGlobals "last_power" = some (some (.ref f2))) (l2 : K.lookup f2 = some ⟨oc2, od2, .func (PySem.W.fnOf "last_power" "last_power" (defArgs s_last_power) (defBody s_last_power) (defScope s_last_power) .none kV2 dc2 pm2 an2 cd2 ct2), sl2⟩) (c2 : PySem.W.codeIn K cd2 "last_power" = true) (k2 : PySem.W.keepIn K (.ref f2) = true)
    (a3 : PySem.W.nsIn K mainGlobals "least_power" = some (some (.ref f3))) (l3 : K.lookup f3 = some ⟨oc3, od3, .func (PySem.W.fnOf "least_power" "least_power" (defArgs s_least_power) (defBody s_least_power) (defScope s_least_power) .none kV3 dc3 pm3 an3 cd3 ct3), sl3⟩) (c3 : PySem.W.codeIn K cd3 "least_power" = true) (k3 : PySem.W.keepIn K (.ref f3) = true)
    (a4 : PySem.W.nsIn K mainGlobals "rounded" = some (some (.ref f4))) (l4 : K.lookup f4 = some ⟨oc4, od4, .func (PySem.W.fnOf "rounded" "rounded" (defArgs s_rounded) (defBody s_rounded) (defScope s_rounded) .none (.ref Dk4) dc4 pm4 an4 cd4 ct4), sl4⟩) (c4 : PySem.W.codeIn K cd4 "rounded" = true) (k4 : PySem.W.keepIn K (.ref f4) = true)
    (w4_0 : PySem.W.nsIn K Dk4 "way" = some (some (.str "near" tk4_0)))
    (w4_1 : PySem.W.nsIn K Dk4 "more" = some (some (.bool false)))
    (a5 : PySem.W.nsIn K mainGlobals "parted" = some (some (.ref f5))) (l5 : K.lookup f5 = some ⟨oc5, od5, .func (PySem.W.fnOf "parted" "parted" (defArgs s_parted) (defBody s_parted) (defScope s_parted) .none kV5 dc5 pm5 an5 cd5 ct5), sl5⟩) (c5 : PySem.W.codeIn K cd5 "parted" = true) (k5 : PySem.W.keepIn K (.ref f5) = true)
    (a6 : PySem.W.nsIn K mainGlobals "goes_up" = some (some (.ref f6))) (l6 : K.lookup f6 = some ⟨oc6, od6, .func (PySem.W.fnOf "goes_up" "goes_up" (defArgs s_goes_up) (defBody s_goes_up) (defScope s_goes_up) .none kV6 dc6 pm6 an6 cd6 ct6), sl6⟩) (c6 : PySem.W.codeIn K cd6 "goes_up" = true) (k6 : PySem.W.keepIn K (.ref f6) = true)
    (a7 : PySem.W.nsIn K mainGlobals "goes_away" = some (some (.ref f7))) (l7 : K.lookup f7 = some ⟨oc7, od7, .func (PySem.W.fnOf "goes_away" "goes_away" (defArgs s_goes_away) (defBody s_goes_away) (defScope s_goes_away) .none kV7 dc7 pm7 an7 cd7 ct7), sl7⟩) (c7 : PySem.W.codeIn K cd7 "goes_away" = true) (k7 : PySem.W.keepIn K (.ref f7) = true)
    (a8 : PySem.W.nsIn K mainGlobals "word_beyond" = some (some (.ref f8))) (l8 : K.lookup f8 = some ⟨oc8, od8, .func (PySem.W.fnOf "word_beyond" "word_beyond" (defArgs s_word_beyond) (defBody s_word_beyond) (defScope s_word_beyond) .none kV8 dc8 pm8 an8 cd8 ct8), sl8⟩) (c8 : PySem.W.codeIn K cd8 "word_beyond" = true) (k8 : PySem.W.keepIn K (.ref f8) = true)
    (a9 : PySem.W.nsIn K mainGlobals "flags_of_rest" = some (some (.ref f9))) (l9 : K.lookup f9 = some ⟨oc9, od9, .func (PySem.W.fnOf "flags_of_rest" "flags_of_rest" (defArgs s_flags_of_rest) (defBody s_flags_of_rest) (defScope s_flags_of_rest) .none kV9 dc9 pm9 an9 cd9 ct9), sl9⟩) (c9 : PySem.W.codeIn K cd9 "flags_of_rest" = true) (k9 : PySem.W.keepIn K (.ref f9) = true)
    (a10 : PySem.W.nsIn K mainGlobals "added" = some (some (.ref f10))) (l10 : K.lookup f10 = some ⟨oc10, od10, .func (PySem.W.fnOf "added" "added" (defArgs s_added) (defBody s_added) (defScope s_added) .none (.ref Dk10) dc10 pm10 an10 cd10 ct10), sl10⟩) (c10 : PySem.W.codeIn K cd10 "added" = true) (k10 : PySem.W.keepIn K (.ref f10) = true)
    (w10_0 : PySem.W.nsIn K Dk10 "way" = some (some (.str "near" tk10_0)))
    (a11 : PySem.W.nsIn K mainGlobals "taken" = some (some (.ref f11))) (l11 : K.lookup f11 = some ⟨oc11, od11, .func (PySem.W.fnOf "taken" "taken" (defArgs s_taken) (defBody s_taken) (defScope s_taken) .none (.ref Dk11) dc11 pm11 an11 cd11 ct11), sl11⟩) (c11 : PySem.W.codeIn K cd11 "taken" = true) (k11 : PySem.W.keepIn K (.ref f11) = true)
    (w11_0 : PySem.W.nsIn K Dk11 "way" = some (some (.str "near" tk11_0)))
    (a12 : PySem.W.nsIn K mainGlobals "multiplied" = some (some (.ref f12))) (l12 : K.lookup f12 = some ⟨oc12, od12, .func (PySem.W.fnOf "multiplied" "multiplied" (defArgs s_multiplied) (defBody s_multiplied) (defScope s_multiplied) .none (.ref Dk12) dc12 pm12 an12 cd12 ct12), sl12⟩) (c12 : PySem.W.codeIn K cd12 "multiplied" = true) (k12 : PySem.W.keepIn K (.ref f12) = true)
    (w12_0 : PySem.W.nsIn K Dk12 "way" = some (some (.str "near" tk12_0)))
    (a13 : PySem.W.nsIn K mainGlobals "divided" = some (some (.ref f13))) (l13 : K.lookup f13 = some ⟨oc13, od13, .func (PySem.W.fnOf "divided" "divided" (defArgs s_divided) (defBody s_divided) (defScope s_divided) .none (.ref Dk13) dc13 pm13 an13 cd13 ct13), sl13⟩) (c13 : PySem.W.codeIn K cd13 "divided" = true) (k13 : PySem.W.keepIn K (.ref f13) = true)
    (w13_0 : PySem.W.nsIn K Dk13 "way" = some (some (.str "near" tk13_0)))
    (a14 : PySem.W.nsIn K mainGlobals "joined" = some (some (.ref f14))) (l14 : K.lookup f14 = some ⟨oc14, od14, .func (PySem.W.fnOf "joined" "joined" (defArgs s_joined) (defBody s_joined) (defScope s_joined) .none (.ref Dk14) dc14 pm14 an14 cd14 ct14), sl14⟩) (c14 : PySem.W.codeIn K cd14 "joined" = true) (k14 : PySem.W.keepIn K (.ref f14) = true)
    (w14_0 : PySem.W.nsIn K Dk14 "way" = some (some (.str "near" tk14_0)))
    (a15 : PySem.W.nsIn K mainGlobals "has_none" = some (some (.ref f15))) (l15 : K.lookup f15 = some ⟨oc15, od15, .func (PySem.W.fnOf "has_none" "has_none" (defArgs s_has_none) (defBody s_has_none) (defScope s_has_none) .none kV15 dc15 pm15 an15 cd15 ct15), sl15⟩) (c15 : PySem.W.codeIn K cd15 "has_none" = true) (k15 : PySem.W.keepIn K (.ref f15) = true)
    (a16 : PySem.W.nsIn K mainGlobals "bad" = some (some (.ref f16))) (l16 : K.lookup f16 = some ⟨oc16, od16, .func (PySem.W.fnOf "bad" "bad" (defArgs s_bad) (defBody s_bad) (defScope s_bad) .none kV16 dc16 pm16 an16 cd16 ct16), sl16⟩) (c16 : PySem.W.codeIn K cd16 "bad" = true) (k16 : PySem.W.keepIn K (.ref f16) = true)
    (a17 : PySem.W.nsIn K mainGlobals "is_endless_by_nought" = some (some (.ref f17))) (l17 : K.lookup f17 = some ⟨oc17, od17, .func (PySem.W.fnOf "is_endless_by_nought" "is_endless_by_nought" (defArgs s_is_endless_by_nought) (defBody s_is_endless_by_nought) (defScope s_is_endless_by_nought) .none kV17 dc17 pm17 an17 cd17 ct17), sl17⟩) (c17 : PySem.W.codeIn K cd17 "is_endless_by_nought" = true) (k17 : PySem.W.keepIn K (.ref f17) = true)
    (a18 : PySem.W.nsIn K mainGlobals "sign_of" = some (some (.ref f18))) (l18 : K.lookup f18 = some ⟨oc18, od18, .func (PySem.W.fnOf "sign_of" "sign_of" (defArgs s_sign_of) (defBody s_sign_of) (defScope s_sign_of) .none kV18 dc18 pm18 an18 cd18 ct18), sl18⟩) (c18 : PySem.W.codeIn K cd18 "sign_of" = true) (k18 : PySem.W.keepIn K (.ref f18) = true)
    (a19 : PySem.W.nsIn K mainGlobals "unlike_sign" = some (some (.ref f19))) (l19 : K.lookup f19 = some ⟨oc19, od19, .func (PySem.W.fnOf "unlike_sign" "unlike_sign" (defArgs s_unlike_sign) (defBody s_unlike_sign) (defScope s_unlike_sign) .none kV19 dc19 pm19 an19 cd19 ct19), sl19⟩) (c19 : PySem.W.codeIn K cd19 "unlike_sign" = true) (k19 : PySem.W.keepIn K (.ref f19) = true)
    (a20 : PySem.W.nsIn K mainGlobals "term_of" = some (some (.ref f20))) (l20 : K.lookup f20 = some ⟨oc20, od20, .func (PySem.W.fnOf "term_of" "term_of" (defArgs s_term_of) (defBody s_term_of) (defScope s_term_of) .none kV20 dc20 pm20 an20 cd20 ct20), sl20⟩) (c20 : PySem.W.codeIn K cd20 "term_of" = true) (k20 : PySem.W.keepIn K (.ref f20) = true)
    (a21 : PySem.W.nsIn K mainGlobals "product_of" = some (some (.ref f21))) (l21 : K.lookup f21 = some ⟨oc21, od21, .func (PySem.W.fnOf "product_of" "product_of" (defArgs s_product_of) (defBody s_product_of) (defScope s_product_of) .none kV21 dc21 pm21 an21 cd21 ct21), sl21⟩) (c21 : PySem.W.codeIn K cd21 "product_of" = true) (k21 : PySem.W.keepIn K (.ref f21) = true)
    (a22 : PySem.W.nsIn K mainGlobals "terms_added" = some (some (.ref f22))) (l22 : K.lookup f22 = some ⟨oc22, od22, .func (PySem.W.fnOf "terms_added" "terms_added" (defArgs s_terms_added) (defBody s_terms_added) (defScope s_terms_added) .none kV22 dc22 pm22 an22 cd22 ct22), sl22⟩) (c22 : PySem.W.codeIn K cd22 "terms_added" = true) (k22 : PySem.W.keepIn K (.ref f22) = true)
    (a23 : PySem.W.nsIn K mainGlobals "nought_sign" = some (some (.ref f23))) (l23 : K.lookup f23 = some ⟨oc23, od23, .func (PySem.W.fnOf "nought_sign" "nought_sign" (defArgs s_nought_sign) (defBody s_nought_sign) (defScope s_nought_sign) .none kV23 dc23 pm23 an23 cd23 ct23), sl23⟩) (c23 : PySem.W.codeIn K cd23 "nought_sign" = true) (k23 : PySem.W.keepIn K (.ref f23) = true)
    (a24 : PySem.W.nsIn K mainGlobals "worths_added" = some (some (.ref f24))) (l24 : K.lookup f24 = some ⟨oc24, od24, .func (PySem.W.fnOf "worths_added" "worths_added" (defArgs s_worths_added) (defBody s_worths_added) (defScope s_worths_added) .none kV24 dc24 pm24 an24 cd24 ct24), sl24⟩) (c24 : PySem.W.codeIn K cd24 "worths_added" = true) (k24 : PySem.W.keepIn K (.ref f24) = true)
    (a25 : PySem.W.nsIn K mainGlobals "quotient_rounded" = some (some (.ref f25))) (l25 : K.lookup f25 = some ⟨oc25, od25, .func (PySem.W.fnOf "quotient_rounded" "quotient_rounded" (defArgs s_quotient_rounded) (defBody s_quotient_rounded) (defScope s_quotient_rounded) .none kV25 dc25 pm25 an25 cd25 ct25), sl25⟩) (c25 : PySem.W.codeIn K cd25 "quotient_rounded" = true) (k25 : PySem.W.keepIn K (.ref f25) = true)
    (a26 : PySem.W.nsIn K mainGlobals "done" = some (some (.ref f26))) (l26 : K.lookup f26 = some ⟨oc26, od26, .func (PySem.W.fnOf "done" "done" (defArgs s_done) (defBody s_done) (defScope s_done) .none (.ref Dk26) dc26 pm26 an26 cd26 ct26), sl26⟩) (c26 : PySem.W.codeIn K cd26 "done" = true) (k26 : PySem.W.keepIn K (.ref f26) = true)
    (w26_0 : PySem.W.nsIn K Dk26 "way" = some (some (.str "near" tk26_0)))
    (a27 : PySem.W.nsIn K mainGlobals "compared" = some (some (.ref f27))) (l27 : K.lookup f27 = some ⟨oc27, od27, .func (PySem.W.fnOf "compared" "compared" (defArgs s_compared) (defBody s_compared) (defScope s_compared) .none kV27 dc27 pm27 an27 cd27 ct27), sl27⟩) (c27 : PySem.W.codeIn K cd27 "compared" = true) (k27 : PySem.W.keepIn K (.ref f27) = true)
    (a28 : PySem.W.nsIn K mainGlobals "rank_of" = some (some (.ref f28))) (l28 : K.lookup f28 = some ⟨oc28, od28, .func (PySem.W.fnOf "rank_of" "rank_of" (defArgs s_rank_of) (defBody s_rank_of) (defScope s_rank_of) .none kV28 dc28 pm28 an28 cd28 ct28), sl28⟩) (c28 : PySem.W.codeIn K cd28 "rank_of" = true) (k28 : PySem.W.keepIn K (.ref f28) = true)
    (a29 : PySem.W.nsIn K mainGlobals "size_of" = some (some (.ref f29))) (l29 : K.lookup f29 = some ⟨oc29, od29, .func (PySem.W.fnOf "size_of" "size_of" (defArgs s_size_of) (defBody s_size_of) (defScope s_size_of) .none kV29 dc29 pm29 an29 cd29 ct29), sl29⟩) (c29 : PySem.W.codeIn K cd29 "size_of" = true) (k29 : PySem.W.keepIn K (.ref f29) = true)
    (a30 : PySem.W.nsIn K mainGlobals "digits_of" = some (some (.ref f30))) (l30 : K.lookup f30 = some ⟨oc30, od30, .func (PySem.W.fnOf "digits_of" "digits_of" (defArgs s_digits_of) (defBody s_digits_of) (defScope s_digits_of) .none kV30 dc30 pm30 an30 cd30 ct30), sl30⟩) (c30 : PySem.W.codeIn K cd30 "digits_of" = true) (k30 : PySem.W.keepIn K (.ref f30) = true)
    (a31 : PySem.W.nsIn K mainGlobals "worth_of" = some (some (.ref f31))) (l31 : K.lookup f31 = some ⟨oc31, od31, .func (PySem.W.fnOf "worth_of" "worth_of" (defArgs s_worth_of) (defBody s_worth_of) (defScope s_worth_of) .none kV31 dc31 pm31 an31 cd31 ct31), sl31⟩) (c31 : PySem.W.codeIn K cd31 "worth_of" = true) (k31 : PySem.W.keepIn K (.ref f31) = true)
    (a32 : PySem.W.nsIn K mainGlobals "zeros_of" = some (some (.ref f32))) (l32 : K.lookup f32 = some ⟨oc32, od32, .func (PySem.W.fnOf "zeros_of" "zeros_of" (defArgs s_zeros_of) (defBody s_zeros_of) (defScope s_zeros_of) .none kV32 dc32 pm32 an32 cd32 ct32), sl32⟩) (c32 : PySem.W.codeIn K cd32 "zeros_of" = true) (k32 : PySem.W.keepIn K (.ref f32) = true)
    (a33 : PySem.W.nsIn K mainGlobals "marks_of" = some (some (.ref f33))) (l33 : K.lookup f33 = some ⟨oc33, od33, .func (PySem.W.fnOf "marks_of" "marks_of" (defArgs s_marks_of) (defBody s_marks_of) (defScope s_marks_of) .none kV33 dc33 pm33 an33 cd33 ct33), sl33⟩) (c33 : PySem.W.codeIn K cd33 "marks_of" = true) (k33 : PySem.W.keepIn K (.ref f33) = true)
    (a34 : PySem.W.nsIn K mainGlobals "is_mark" = some (some (.ref f34))) (l34 : K.lookup f34 = some ⟨oc34, od34, .func (PySem.W.fnOf "is_mark" "is_mark" (defArgs s_is_mark) (defBody s_is_mark) (defScope s_is_mark) .none kV34 dc34 pm34 an34 cd34 ct34), sl34⟩) (c34 : PySem.W.codeIn K cd34 "is_mark" = true) (k34 : PySem.W.keepIn K (.ref f34) = true)
    (a35 : PySem.W.nsIn K mainGlobals "first_mark" = some (some (.ref f35))) (l35 : K.lookup f35 = some ⟨oc35, od35, .func (PySem.W.fnOf "first_mark" "first_mark" (defArgs s_first_mark) (defBody s_first_mark) (defScope s_first_mark) .none kV35 dc35 pm35 an35 cd35 ct35), sl35⟩) (c35 : PySem.W.codeIn K cd35 "first_mark" = true) (k35 : PySem.W.keepIn K (.ref f35) = true)
    (a36 : PySem.W.nsIn K mainGlobals "guess" = some (some (.ref f36))) (l36 : K.lookup f36 = some ⟨oc36, od36, .func (PySem.W.fnOf "guess" "guess" (defArgs s_guess) (defBody s_guess) (defScope s_guess) .none kV36 dc36 pm36 an36 cd36 ct36), sl36⟩) (c36 : PySem.W.codeIn K cd36 "guess" = true) (k36 : PySem.W.keepIn K (.ref f36) = true)
    (a37 : PySem.W.nsIn K mainGlobals "have_heads" = some (some (.ref f37))) (l37 : K.lookup f37 = some ⟨oc37, od37, .func (PySem.W.fnOf "have_heads" "have_heads" (defArgs s_have_heads) (defBody s_have_heads) (defScope s_have_heads) .none kV37 dc37 pm37 an37 cd37 ct37), sl37⟩) (c37 : PySem.W.codeIn K cd37 "have_heads" = true) (k37 : PySem.W.keepIn K (.ref f37) = true)
    (a38 : PySem.W.nsIn K mainGlobals "head_of" = some (some (.ref f38))) (l38 : K.lookup f38 = some ⟨oc38, od38, .func (PySem.W.fnOf "head_of" "head_of" (defArgs s_head_of) (defBody s_head_of) (defScope s_head_of) .none kV38 dc38 pm38 an38 cd38 ct38), sl38⟩) (c38 : PySem.W.codeIn K cd38 "head_of" = true) (k38 : PySem.W.keepIn K (.ref f38) = true)
    (a39 : PySem.W.nsIn K mainGlobals "plain_step" = some (some (.ref f39))) (l39 : K.lookup f39 = some ⟨oc39, od39, .func (PySem.W.fnOf "plain_step" "plain_step" (defArgs s_plain_step) (defBody s_plain_step) (defScope s_plain_step) .none kV39 dc39 pm39 an39 cd39 ct39), sl39⟩) (c39 : PySem.W.codeIn K cd39 "plain_step" = true) (k39 : PySem.W.keepIn K (.ref f39) = true)
    (a40 : PySem.W.nsIn K mainGlobals "round_step" = some (some (.ref f40))) (l40 : K.lookup f40 = some ⟨oc40, od40, .func (PySem.W.fnOf "round_step" "round_step" (defArgs s_round_step) (defBody s_round_step) (defScope s_round_step) .none kV40 dc40 pm40 an40 cd40 ct40), sl40⟩) (c40 : PySem.W.codeIn K cd40 "round_step" = true) (k40 : PySem.W.keepIn K (.ref f40) = true)
    (a41 : PySem.W.nsIn K mainGlobals "total_steps" = some (some (.ref f41))) (l41 : K.lookup f41 = some ⟨oc41, od41, .func (PySem.W.fnOf "total_steps" "total_steps" (defArgs s_total_steps) (defBody s_total_steps) (defScope s_total_steps) .none kV41 dc41 pm41 an41 cd41 ct41), sl41⟩) (c41 : PySem.W.codeIn K cd41 "total_steps" = true) (k41 : PySem.W.keepIn K (.ref f41) = true)
    (a42 : PySem.W.nsIn K mainGlobals "add_steps" = some (some (.ref f42))) (l42 : K.lookup f42 = some ⟨oc42, od42, .func (PySem.W.fnOf "add_steps" "add_steps" (defArgs s_add_steps) (defBody s_add_steps) (defScope s_add_steps) .none (.ref Dk42) dc42 pm42 an42 cd42 ct42), sl42⟩) (c42 : PySem.W.codeIn K cd42 "add_steps" = true) (k42 : PySem.W.keepIn K (.ref f42) = true)
    (w42_0 : PySem.W.nsIn K Dk42 "way" = some (some (.str "near" tk42_0)))
    (a43 : PySem.W.nsIn K mainGlobals "take_steps" = some (some (.ref f43))) (l43 : K.lookup f43 = some ⟨oc43, od43, .func (PySem.W.fnOf "take_steps" "take_steps" (defArgs s_take_steps) (defBody s_take_steps) (defScope s_take_steps) .none (.ref Dk43) dc43 pm43 an43 cd43 ct43), sl43⟩) (c43 : PySem.W.codeIn K cd43 "take_steps" = true) (k43 : PySem.W.keepIn K (.ref f43) = true)
    (w43_0 : PySem.W.nsIn K Dk43 "way" = some (some (.str "near" tk43_0)))
    (a44 : PySem.W.nsIn K mainGlobals "ordered" = some (some (.ref f44))) (l44 : K.lookup f44 = some ⟨oc44, od44, .func (PySem.W.fnOf "ordered" "ordered" (defArgs s_ordered) (defBody s_ordered) (defScope s_ordered) .none kV44 dc44 pm44 an44 cd44 ct44), sl44⟩) (c44 : PySem.W.codeIn K cd44 "ordered" = true) (k44 : PySem.W.keepIn K (.ref f44) = true)
    (a45 : PySem.W.nsIn K mainGlobals "is_number" = some (some (.ref f45))) (l45 : K.lookup f45 = some ⟨oc45, od45, .func (PySem.W.fnOf "is_number" "is_number" (defArgs s_is_number) (defBody s_is_number) (defScope s_is_number) .none kV45 dc45 pm45 an45 cd45 ct45), sl45⟩) (c45 : PySem.W.codeIn K cd45 "is_number" = true) (k45 : PySem.W.keepIn K (.ref f45) = true)
    (a46 : PySem.W.nsIn K mainGlobals "is_number_in" = some (some (.ref f46))) (l46 : K.lookup f46 = some ⟨oc46, od46, .func (PySem.W.fnOf "is_number_in" "is_number_in" (defArgs s_is_number_in) (defBody s_is_number_in) (defScope s_is_number_in) .none kV46 dc46 pm46 an46 cd46 ct46), sl46⟩) (c46 : PySem.W.codeIn K cd46 "is_number_in" = true) (k46 : PySem.W.keepIn K (.ref f46) = true)
    (a47 : PySem.W.nsIn K mainGlobals "full_head" = some (some (.ref f47))) (l47 : K.lookup f47 = some ⟨oc47, od47, .func (PySem.W.fnOf "full_head" "full_head" (defArgs s_full_head) (defBody s_full_head) (defScope s_full_head) .none kV47 dc47 pm47 an47 cd47 ct47), sl47⟩) (c47 : PySem.W.codeIn K cd47 "full_head" = true) (k47 : PySem.W.keepIn K (.ref f47) = true)
    (a48 : PySem.W.nsIn K mainGlobals "join_steps" = some (some (.ref f48))) (l48 : K.lookup f48 = some ⟨oc48, od48, .func (PySem.W.fnOf "join_steps" "join_steps" (defArgs s_join_steps) (defBody s_join_steps) (defScope s_join_steps) .none (.ref Dk48) dc48 pm48 an48 cd48 ct48), sl48⟩) (c48 : PySem.W.codeIn K cd48 "join_steps" = true) (k48 : PySem.W.keepIn K (.ref f48) = true)
    (w48_0 : PySem.W.nsIn K Dk48 "way" = some (some (.str "near" tk48_0)))
    (a49 : PySem.W.nsIn K mainGlobals "product_of_heads" = some (some (.ref f49))) (l49 : K.lookup f49 = some ⟨oc49, od49, .func (PySem.W.fnOf "product_of_heads" "product_of_heads" (defArgs s_product_of_heads) (defBody s_product_of_heads) (defScope s_product_of_heads) .none kV49 dc49 pm49 an49 cd49 ct49), sl49⟩) (c49 : PySem.W.codeIn K cd49 "product_of_heads" = true) (k49 : PySem.W.keepIn K (.ref f49) = true)
    (a50 : PySem.W.nsIn K mainGlobals "placed" = some (some (.ref f50))) (l50 : K.lookup f50 = some ⟨oc50, od50, .func (PySem.W.fnOf "placed" "placed" (defArgs s_placed) (defBody s_placed) (defScope s_placed) .none kV50 dc50 pm50 an50 cd50 ct50), sl50⟩) (c50 : PySem.W.codeIn K cd50 "placed" = true) (k50 : PySem.W.keepIn K (.ref f50) = true)
    (a51 : PySem.W.nsIn K mainGlobals "fours_of" = some (some (.ref f51))) (l51 : K.lookup f51 = some ⟨oc51, od51, .func (PySem.W.fnOf "fours_of" "fours_of" (defArgs s_fours_of) (defBody s_fours_of) (defScope s_fours_of) .none kV51 dc51 pm51 an51 cd51 ct51), sl51⟩) (c51 : PySem.W.codeIn K cd51 "fours_of" = true) (k51 : PySem.W.keepIn K (.ref f51) = true)
    (a52 : PySem.W.nsIn K mainGlobals "four_of" = some (some (.ref f52))) (l52 : K.lookup f52 = some ⟨oc52, od52, .func (PySem.W.fnOf "four_of" "four_of" (defArgs s_four_of) (defBody s_four_of) (defScope s_four_of) .none kV52 dc52 pm52 an52 cd52 ct52), sl52⟩) (c52 : PySem.W.codeIn K cd52 "four_of" = true) (k52 : PySem.W.keepIn K (.ref f52) = true)
    (a53 : PySem.W.nsIn K mainGlobals "rows_of" = some (some (.ref f53))) (l53 : K.lookup f53 = some ⟨oc53, od53, .func (PySem.W.fnOf "rows_of" "rows_of" (defArgs s_rows_of) (defBody s_rows_of) (defScope s_rows_of) .none kV53 dc53 pm53 an53 cd53 ct53), sl53⟩) (c53 : PySem.W.codeIn K cd53 "rows_of" = true) (k53 : PySem.W.keepIn K (.ref f53) = true)
    (a54 : PySem.W.nsIn K mainGlobals "saved" = some (some (.ref f54))) (l54 : K.lookup f54 = some ⟨oc54, od54, .func (PySem.W.fnOf "saved" "saved" (defArgs s_saved) (defBody s_saved) (defScope s_saved) .none kV54 dc54 pm54 an54 cd54 ct54), sl54⟩) (c54 : PySem.W.codeIn K cd54 "saved" = true) (k54 : PySem.W.keepIn K (.ref f54) = true)
    (a55 : PySem.W.nsIn K mainGlobals "levels_of" = some (some (.ref f55))) (l55 : K.lookup f55 = some ⟨oc55, od55, .func (PySem.W.fnOf "levels_of" "levels_of" (defArgs s_levels_of) (defBody s_levels_of) (defScope s_levels_of) .none kV55 dc55 pm55 an55 cd55 ct55), sl55⟩) (c55 : PySem.W.codeIn K cd55 "levels_of" = true) (k55 : PySem.W.keepIn K (.ref f55) = true)
    (a56 : PySem.W.nsIn K mainGlobals "level_behind" = some (some (.ref f56))) (l56 : K.lookup f56 = some ⟨oc56, od56, .func (PySem.W.fnOf "level_behind" "level_behind" (defArgs s_level_behind) (defBody s_level_behind) (defScope s_level_behind) .none kV56 dc56 pm56 an56 cd56 ct56), sl56⟩) (c56 : PySem.W.codeIn K cd56 "level_behind" = true) (k56 : PySem.W.keepIn K (.ref f56) = true)
    (a57 : PySem.W.nsIn K mainGlobals "times_steps" = some (some (.ref f57))) (l57 : K.lookup f57 = some ⟨oc57, od57, .func (PySem.W.fnOf "times_steps" "times_steps" (defArgs s_times_steps) (defBody s_times_steps) (defScope s_times_steps) .none (.ref Dk57) dc57 pm57 an57 cd57 ct57), sl57⟩) (c57 : PySem.W.codeIn K cd57 "times_steps" = true) (k57 : PySem.W.keepIn K (.ref f57) = true)
    (w57_0 : PySem.W.nsIn K Dk57 "way" = some (some (.str "near" tk57_0)))
    (a58 : PySem.W.nsIn K mainGlobals "_law_box" = some (some (.ref f58))) (l58 : K.lookup f58 = some ⟨oc58, od58, .func (PySem.W.fnOf "_law_box" "_law_box" (defArgs sBox) (defBody sBox) (defScope sBox) .none kV58 dc58 pm58 an58 cd58 ct58), sl58⟩) (c58 : PySem.W.codeIn K cd58 "_law_box" = true) (k58 : PySem.W.keepIn K (.ref f58) = true)
    (a59 : PySem.W.nsIn K mainGlobals "_law_take" = some (some (.ref f59))) (l59 : K.lookup f59 = some ⟨oc59, od59, .func (PySem.W.fnOf "_law_take" "_law_take" (defArgs sTake) (defBody sTake) (defScope sTake) .none kV59 dc59 pm59 an59 cd59 ct59), sl59⟩) (c59 : PySem.W.codeIn K cd59 "_law_take" = true) (k59 : PySem.W.keepIn K (.ref f59) = true)
    (a60 : PySem.W.nsIn K mainGlobals "_law_folded" = some (some (.ref f60))) (l60 : K.lookup f60 = some ⟨oc60, od60, .func (PySem.W.fnOf "_law_folded" "_law_folded" (defArgs sFolded) (defBody sFolded) (defScope sFolded) .none kV60 dc60 pm60 an60 cd60 ct60), sl60⟩) (c60 : PySem.W.codeIn K cd60 "_law_folded" = true) (k60 : PySem.W.keepIn K (.ref f60) = true)
    (a61 : PySem.W.nsIn K mainGlobals "_law_same" = some (some (.ref f61))) (l61 : K.lookup f61 = some ⟨oc61, od61, .func (PySem.W.fnOf "_law_same" "_law_same" (defArgs sSame) (defBody sSame) (defScope sSame) .none kV61 dc61 pm61 an61 cd61 ct61), sl61⟩) (c61 : PySem.W.codeIn K cd61 "_law_same" = true) (k61 : PySem.W.keepIn K (.ref f61) = true)
    (a62 : PySem.W.nsIn K mainGlobals "_law_plain" = some (some (.ref f62))) (l62 : K.lookup f62 = some ⟨oc62, od62, .func (PySem.W.fnOf "_law_plain" "_law_plain" (defArgs s__law_plain) (defBody s__law_plain) (defScope s__law_plain) .none kV62 dc62 pm62 an62 cd62 ct62), sl62⟩) (c62 : PySem.W.codeIn K cd62 "_law_plain" = true) (k62 : PySem.W.keepIn K (.ref f62) = true)
    (a63 : PySem.W.nsIn K mainGlobals "_law_pair" = some (some (.ref f63))) (l63 : K.lookup f63 = some ⟨oc63, od63, .func (PySem.W.fnOf "_law_pair" "_law_pair" (defArgs s__law_pair) (defBody s__law_pair) (defScope s__law_pair) .none kV63 dc63 pm63 an63 cd63 ct63), sl63⟩) (c63 : PySem.W.codeIn K cd63 "_law_pair" = true) (k63 : PySem.W.keepIn K (.ref f63) = true)
    (a64 : PySem.W.nsIn K mainGlobals "_law_cut_right" = some (some (.ref f64))) (l64 : K.lookup f64 = some ⟨oc64, od64, .func (PySem.W.fnOf "_law_cut_right" "_law_cut_right" (defArgs s__law_cut_right) (defBody s__law_cut_right) (defScope s__law_cut_right) .none kV64 dc64 pm64 an64 cd64 ct64), sl64⟩) (c64 : PySem.W.codeIn K cd64 "_law_cut_right" = true) (k64 : PySem.W.keepIn K (.ref f64) = true)
    (a65 : PySem.W.nsIn K mainGlobals "_law_words_right" = some (some (.ref f65))) (l65 : K.lookup f65 = some ⟨oc65, od65, .func (PySem.W.fnOf "_law_words_right" "_law_words_right" (defArgs s__law_words_right) (defBody s__law_words_right) (defScope s__law_words_right) .none kV65 dc65 pm65 an65 cd65 ct65), sl65⟩) (c65 : PySem.W.codeIn K cd65 "_law_words_right" = true) (k65 : PySem.W.keepIn K (.ref f65) = true)
    (a66 : PySem.W.nsIn K mainGlobals "_law_rises" = some (some (.ref f66))) (l66 : K.lookup f66 = some ⟨oc66, od66, .func (PySem.W.fnOf "_law_rises" "_law_rises" (defArgs s__law_rises) (defBody s__law_rises) (defScope s__law_rises) .none kV66 dc66 pm66 an66 cd66 ct66), sl66⟩) (c66 : PySem.W.codeIn K cd66 "_law_rises" = true) (k66 : PySem.W.keepIn K (.ref f66) = true)
    (a67 : PySem.W.nsIn K mainGlobals "law" = some (some (.ref f67))) (l67 : K.lookup f67 = some ⟨oc67, od67, .func (PySem.W.fnOf "law" "law" (defArgs s_law) (defBody s_law) (defScope s_law) .none kV67 dc67 pm67 an67 cd67 ct67), sl67⟩) (c67 : PySem.W.codeIn K cd67 "law" = true) (k67 : PySem.W.keepIn K (.ref f67) = true)
    (aC : PySem.W.nsIn K mainGlobals "Form" = some (some (.ref C)))
    (pgC : PySem.W.plainGet K C Str.empty = true) (hdC : PySem.W.hasDictIn K C = true) (poC : PySem.W.plainOver K C = true) (saC : PySem.W.findIn K (.ref C) "__setattr__" = some (some (.builtin "object.__setattr__"))) (mkC : PySem.W.makesIn K C = true) (kcC : PySem.W.keepIn K (.ref C) = true)
    (naC0 : PySem.W.findIn K (.ref C) "scale" = some none)
    (naC1 : PySem.W.findIn K (.ref C) "tail" = some none)
    (aCD : PySem.W.nsIn K mainGlobals "Divider" = some (some (.ref CD)))
    (pgCD : PySem.W.plainGet K CD Str.empty = true) (hdCD : PySem.W.hasDictIn K CD = true) (poCD : PySem.W.plainOver K CD = true) (saCD : PySem.W.findIn K (.ref CD) "__setattr__" = some (some (.builtin "object.__setattr__"))) (mkCD : PySem.W.makesIn K CD = true) (kcCD : PySem.W.keepIn K (.ref CD) = true)
    (naCD0 : PySem.W.findIn K (.ref CD) "form" = some none)
    (naCD1 : PySem.W.findIn K (.ref CD) "one" = some none)
    (naCD2 : PySem.W.findIn K (.ref CD) "two" = some none)
    (naCD3 : PySem.W.findIn K (.ref CD) "way" = some none)
    (naCD4 : PySem.W.findIn K (.ref CD) "signed" = some none)
    (naCD5 : PySem.W.findIn K (.ref CD) "told" = some none)
    (naCD6 : PySem.W.findIn K (.ref CD) "due" = some none)
    (naCD7 : PySem.W.findIn K (.ref CD) "over" = some none)
    (naCD8 : PySem.W.findIn K (.ref CD) "by" = some none)
    (naCD9 : PySem.W.findIn K (.ref CD) "power" = some none)
    (a68 : PySem.W.findIn K (.ref C) "__init__" = some (some (.ref f68))) (i68 : PySem.W.isFn K (.ref f68) = true) (l68 : K.lookup f68 = some ⟨oc68, od68, .func (PySem.W.fnOf "__init__" "Form.__init__" (defArgs s_Form___init__) (defBody s_Form___init__) (defScope s_Form___init__) .none kV68 dc68 pm68 an68 cd68 ct68), sl68⟩) (c68 : PySem.W.codeIn K cd68 "Form.__init__" = true) (k68 : PySem.W.keepIn K (.ref f68) = true)
    (a69 : PySem.W.findIn K (.ref C) "bias" = some (some (.ref f69))) (i69 : PySem.W.isFn K (.ref f69) = true) (l69 : K.lookup f69 = some ⟨oc69, od69, .func (PySem.W.fnOf "bias" "Form.bias" (defArgs s_Form_bias) (defBody s_Form_bias) (defScope s_Form_bias) .none kV69 dc69 pm69 an69 cd69 ct69), sl69⟩) (c69 : PySem.W.codeIn K cd69 "Form.bias" = true) (k69 : PySem.W.keepIn K (.ref f69) = true)
    (a70 : PySem.W.findIn K (.ref C) "top" = some (some (.ref f70))) (i70 : PySem.W.isFn K (.ref f70) = true) (l70 : K.lookup f70 = some ⟨oc70, od70, .func (PySem.W.fnOf "top" "Form.top" (defArgs s_Form_top) (defBody s_Form_top) (defScope s_Form_top) .none kV70 dc70 pm70 an70 cd70 ct70), sl70⟩) (c70 : PySem.W.codeIn K cd70 "Form.top" = true) (k70 : PySem.W.keepIn K (.ref f70) = true)
    (a71 : PySem.W.findIn K (.ref C) "parts" = some (some (.ref f71))) (i71 : PySem.W.isFn K (.ref f71) = true) (l71 : K.lookup f71 = some ⟨oc71, od71, .func (PySem.W.fnOf "parts" "Form.parts" (defArgs s_Form_parts) (defBody s_Form_parts) (defScope s_Form_parts) .none kV71 dc71 pm71 an71 cd71 ct71), sl71⟩) (c71 : PySem.W.codeIn K cd71 "Form.parts" = true) (k71 : PySem.W.keepIn K (.ref f71) = true)
    (a72 : PySem.W.findIn K (.ref C) "word_of" = some (some (.ref f72))) (i72 : PySem.W.isFn K (.ref f72) = true) (l72 : K.lookup f72 = some ⟨oc72, od72, .func (PySem.W.fnOf "word_of" "Form.word_of" (defArgs s_Form_word_of) (defBody s_Form_word_of) (defScope s_Form_word_of) .none kV72 dc72 pm72 an72 cd72 ct72), sl72⟩) (c72 : PySem.W.codeIn K cd72 "Form.word_of" = true) (k72 : PySem.W.keepIn K (.ref f72) = true)
    (a73 : PySem.W.findIn K (.ref C) "sort_of" = some (some (.ref f73))) (i73 : PySem.W.isFn K (.ref f73) = true) (l73 : K.lookup f73 = some ⟨oc73, od73, .func (PySem.W.fnOf "sort_of" "Form.sort_of" (defArgs s_Form_sort_of) (defBody s_Form_sort_of) (defScope s_Form_sort_of) .none kV73 dc73 pm73 an73 cd73 ct73), sl73⟩) (c73 : PySem.W.codeIn K cd73 "Form.sort_of" = true) (k73 : PySem.W.keepIn K (.ref f73) = true)
    (a74 : PySem.W.findIn K (.ref C) "nought" = some (some (.ref f74))) (i74 : PySem.W.isFn K (.ref f74) = true) (l74 : K.lookup f74 = some ⟨oc74, od74, .func (PySem.W.fnOf "nought" "Form.nought" (defArgs s_Form_nought) (defBody s_Form_nought) (defScope s_Form_nought) (.ref T74) kV74 dc74 pm74 an74 cd74 ct74), sl74⟩) (c74 : PySem.W.codeIn K cd74 "Form.nought" = true) (k74 : PySem.W.keepIn K (.ref f74) = true)
    (t74 : K.lookup T74 = some ⟨oT74, dT74, .seq #[.int 0 vT74] nT74, sT74⟩)
    (a75 : PySem.W.findIn K (.ref C) "endless" = some (some (.ref f75))) (i75 : PySem.W.isFn K (.ref f75) = true) (l75 : K.lookup f75 = some ⟨oc75, od75, .func (PySem.W.fnOf "endless" "Form.endless" (defArgs s_Form_endless) (defBody s_Form_endless) (defScope s_Form_endless) (.ref T75) kV75 dc75 pm75 an75 cd75 ct75), sl75⟩) (c75 : PySem.W.codeIn K cd75 "Form.endless" = true) (k75 : PySem.W.keepIn K (.ref f75) = true)
    (t75 : K.lookup T75 = some ⟨oT75, dT75, .seq #[.int 0 vT75] nT75, sT75⟩)
    (a76 : PySem.W.findIn K (.ref C) "greatest" = some (some (.ref f76))) (i76 : PySem.W.isFn K (.ref f76) = true) (l76 : K.lookup f76 = some ⟨oc76, od76, .func (PySem.W.fnOf "greatest" "Form.greatest" (defArgs s_Form_greatest) (defBody s_Form_greatest) (defScope s_Form_greatest) (.ref T76) kV76 dc76 pm76 an76 cd76 ct76), sl76⟩) (c76 : PySem.W.codeIn K cd76 "Form.greatest" = true) (k76 : PySem.W.keepIn K (.ref f76) = true)
    (t76 : K.lookup T76 = some ⟨oT76, dT76, .seq #[.int 0 vT76] nT76, sT76⟩)
    (a77 : PySem.W.findIn K (.ref C) "none_word" = some (some (.ref f77))) (i77 : PySem.W.isFn K (.ref f77) = true) (l77 : K.lookup f77 = some ⟨oc77, od77, .func (PySem.W.fnOf "none_word" "Form.none_word" (defArgs s_Form_none_word) (defBody s_Form_none_word) (defScope s_Form_none_word) .none kV77 dc77 pm77 an77 cd77 ct77), sl77⟩) (c77 : PySem.W.codeIn K cd77 "Form.none_word" = true) (k77 : PySem.W.keepIn K (.ref f77) = true)
    (a78 : PySem.W.findIn K (.ref C) "turned" = some (some (.ref f78))) (i78 : PySem.W.isFn K (.ref f78) = true) (l78 : K.lookup f78 = some ⟨oc78, od78, .func (PySem.W.fnOf "turned" "Form.turned" (defArgs s_Form_turned) (defBody s_Form_turned) (defScope s_Form_turned) .none kV78 dc78 pm78 an78 cd78 ct78), sl78⟩) (c78 : PySem.W.codeIn K cd78 "Form.turned" = true) (k78 : PySem.W.keepIn K (.ref f78) = true)
    (a79 : PySem.W.findIn K (.ref C) "worth" = some (some (.ref f79))) (i79 : PySem.W.isFn K (.ref f79) = true) (l79 : K.lookup f79 = some ⟨oc79, od79, .func (PySem.W.fnOf "worth" "Form.worth" (defArgs s_Form_worth) (defBody s_Form_worth) (defScope s_Form_worth) .none kV79 dc79 pm79 an79 cd79 ct79), sl79⟩) (c79 : PySem.W.codeIn K cd79 "Form.worth" = true) (k79 : PySem.W.keepIn K (.ref f79) = true)
    (a80 : PySem.W.findIn K (.ref CD) "__init__" = some (some (.ref f80))) (i80 : PySem.W.isFn K (.ref f80) = true) (l80 : K.lookup f80 = some ⟨oc80, od80, .func (PySem.W.fnOf "__init__" "Divider.__init__" (defArgs s_Divider___init__) (defBody s_Divider___init__) (defScope s_Divider___init__) .none (.ref Dk80) dc80 pm80 an80 cd80 ct80), sl80⟩) (c80 : PySem.W.codeIn K cd80 "Divider.__init__" = true) (k80 : PySem.W.keepIn K (.ref f80) = true)
    (w80_0 : PySem.W.nsIn K Dk80 "way" = some (some (.str "near" tk80_0)))
    (w80_1 : PySem.W.nsIn K Dk80 "signed" = some (some (.bool false)))
    (a81 : PySem.W.findIn K (.ref CD) "begin" = some (some (.ref f81))) (i81 : PySem.W.isFn K (.ref f81) = true) (l81 : K.lookup f81 = some ⟨oc81, od81, .func (PySem.W.fnOf "begin" "Divider.begin" (defArgs s_Divider_begin) (defBody s_Divider_begin) (defScope s_Divider_begin) .none kV81 dc81 pm81 an81 cd81 ct81), sl81⟩) (c81 : PySem.W.codeIn K cd81 "Divider.begin" = true) (k81 : PySem.W.keepIn K (.ref f81) = true)
    (a82 : PySem.W.findIn K (.ref CD) "step" = some (some (.ref f82))) (i82 : PySem.W.isFn K (.ref f82) = true) (l82 : K.lookup f82 = some ⟨oc82, od82, .func (PySem.W.fnOf "step" "Divider.step" (defArgs s_Divider_step) (defBody s_Divider_step) (defScope s_Divider_step) .none kV82 dc82 pm82 an82 cd82 ct82), sl82⟩) (c82 : PySem.W.codeIn K cd82 "Divider.step" = true) (k82 : PySem.W.keepIn K (.ref f82) = true)
    (a83 : PySem.W.findIn K (.ref CD) "digit_by" = some (some (.ref f83))) (i83 : PySem.W.isFn K (.ref f83) = true) (l83 : K.lookup f83 = some ⟨oc83, od83, .func (PySem.W.fnOf "digit_by" "Divider.digit_by" (defArgs s_Divider_digit_by) (defBody s_Divider_digit_by) (defScope s_Divider_digit_by) .none kV83 dc83 pm83 an83 cd83 ct83), sl83⟩) (c83 : PySem.W.codeIn K cd83 "Divider.digit_by" = true) (k83 : PySem.W.keepIn K (.ref f83) = true)
    (a84 : PySem.W.findIn K (.ref CD) "digits" = some (some (.ref f84))) (i84 : PySem.W.isFn K (.ref f84) = true) (l84 : K.lookup f84 = some ⟨oc84, od84, .func (PySem.W.fnOf "digits" "Divider.digits" (defArgs s_Divider_digits) (defBody s_Divider_digits) (defScope s_Divider_digits) .none kV84 dc84 pm84 an84 cd84 ct84), sl84⟩) (c84 : PySem.W.codeIn K cd84 "Divider.digits" = true) (k84 : PySem.W.keepIn K (.ref f84) = true)
    (a85 : PySem.W.findIn K (.ref CD) "quotient" = some (some (.ref f85))) (i85 : PySem.W.isFn K (.ref f85) = true) (l85 : K.lookup f85 = some ⟨oc85, od85, .func (PySem.W.fnOf "quotient" "Divider.quotient" (defArgs s_Divider_quotient) (defBody s_Divider_quotient) (defScope s_Divider_quotient) .none kV85 dc85 pm85 an85 cd85 ct85), sl85⟩) (c85 : PySem.W.codeIn K cd85 "Divider.quotient" = true) (k85 : PySem.W.keepIn K (.ref f85) = true)
    (a86 : PySem.W.findIn K (.ref CD) "rest" = some (some (.ref f86))) (i86 : PySem.W.isFn K (.ref f86) = true) (l86 : K.lookup f86 = some ⟨oc86, od86, .func (PySem.W.fnOf "rest" "Divider.rest" (defArgs s_Divider_rest) (defBody s_Divider_rest) (defScope s_Divider_rest) .none kV86 dc86 pm86 an86 cd86 ct86), sl86⟩) (c86 : PySem.W.codeIn K cd86 "Divider.rest" = true) (k86 : PySem.W.keepIn K (.ref f86) = true)
    (a87 : PySem.W.findIn K (.ref CD) "divisor" = some (some (.ref f87))) (i87 : PySem.W.isFn K (.ref f87) = true) (l87 : K.lookup f87 = some ⟨oc87, od87, .func (PySem.W.fnOf "divisor" "Divider.divisor" (defArgs s_Divider_divisor) (defBody s_Divider_divisor) (defScope s_Divider_divisor) .none kV87 dc87 pm87 an87 cd87 ct87), sl87⟩) (c87 : PySem.W.codeIn K cd87 "Divider.divisor" = true) (k87 : PySem.W.keepIn K (.ref f87) = true)
    (a88 : PySem.W.findIn K (.ref CD) "left" = some (some (.ref f88))) (i88 : PySem.W.isFn K (.ref f88) = true) (l88 : K.lookup f88 = some ⟨oc88, od88, .func (PySem.W.fnOf "left" "Divider.left" (defArgs s_Divider_left) (defBody s_Divider_left) (defScope s_Divider_left) .none kV88 dc88 pm88 an88 cd88 ct88), sl88⟩) (c88 : PySem.W.codeIn K cd88 "Divider.left" = true) (k88 : PySem.W.keepIn K (.ref f88) = true)
    (a89 : PySem.W.findIn K (.ref CD) "outcome" = some (some (.ref f89))) (i89 : PySem.W.isFn K (.ref f89) = true) (l89 : K.lookup f89 = some ⟨oc89, od89, .func (PySem.W.fnOf "outcome" "Divider.outcome" (defArgs s_Divider_outcome) (defBody s_Divider_outcome) (defScope s_Divider_outcome) .none kV89 dc89 pm89 an89 cd89 ct89), sl89⟩) (c89 : PySem.W.codeIn K cd89 "Divider.outcome" = true) (k89 : PySem.W.keepIn K (.ref f89) = true)
    (z1 : PySem.W.nsIn K mainGlobals "len" = some none)
    (z2 : PySem.W.nsIn K mainGlobals "abs" = some none)
    (z3 : PySem.W.nsIn K mainGlobals "int" = some none)
    (z4 : PySem.W.nsIn K mainGlobals "divmod" = some none)
    (z5 : PySem.W.nsIn K mainGlobals "list" = some none)
    (z6 : PySem.W.nsIn K mainGlobals "enumerate" = some none)
    (z7 : PySem.W.nsIn K mainGlobals "isinstance" = some none)
    (z8 : PySem.W.nsIn K mainGlobals "tuple" = some none)
    (z9 : PySem.W.nsIn K mainGlobals "str" = some none)
    (z10 : PySem.W.nsIn K mainGlobals "bool" = some none)
    (z11 : PySem.W.nsIn K mainGlobals "zip" = some none)
    (z12 : PySem.W.nsIn K mainGlobals "all" = some none)
    (z13 : PySem.W.nsIn K mainGlobals "range" = some none)
    (z14 : PySem.W.nsIn K mainGlobals "max" = some none)
    (z15 : PySem.W.nsIn K mainGlobals "any" = some none)
    (z16 : PySem.W.nsIn K mainGlobals "min" = some none)
    (z17 : PySem.W.nsIn K mainGlobals "sum" = some none)
    (gNEAR : PySem.W.nsIn K mainGlobals "NEAR" = some (some (.str "near" tgNEAR)))
    (gCUT : PySem.W.nsIn K mainGlobals "CUT" = some (some (.str "cut" tgCUT)))
    (gUP : PySem.W.nsIn K mainGlobals "UP" = some (some (.str "up" tgUP)))
    (gDOWN : PySem.W.nsIn K mainGlobals "DOWN" = some (some (.str "down" tgDOWN)))
    (aO : PySem.W.nsIn K mainGlobals "OPS" = some (some (.ref dO)))
    (lO : K.lookup dO = some ⟨.type "dict", none, .dict esO nO, #[]⟩)
    (tO : PySem.W.KeysLit w.params esO.toList)
    (wO : (dO == sysModules) = false)
    (oO_add : PySem.W.nsIn K dO "add" = some (some (.ref f10)))
    (oO_take : PySem.W.nsIn K dO "take" = some (some (.ref f11)))
    (oO_times : PySem.W.nsIn K dO "times" = some (some (.ref f12)))
    (oO_over : PySem.W.nsIn K dO "over" = some (some (.ref f13)))
    (oO_join : PySem.W.nsIn K dO "join" = some (some (.ref f14)))
    : ∃ fd : FuncData, (∀ (s : Shared) (v : Value), BindsTo s fd ⟨[v], []⟩ [("_law_script", v)]) ∧ ∀ base : Heap, K.In base → base.Ns mainGlobals mg → FnOk l.prog w K mg base CX0 15 fa fd ["_law_script"] (spLaw K) := by
  have e := hfa.symm.trans (PySem.W.mg_of X G a67)
  cases e
  have F1 := fun_mk (st := s_cut_off) l1 c1 k1
  have b1 := F1.binds (ps := ["number", "by"]) fun _ _ _ _ _ _ us hl => match us, hl with | [_, _], _ => rfl
  have m1 := PySem.W.mg_of X G a1
  have F2 := fun_mk (st := s_last_power) l2 c2 k2
  have b2 := F2.binds (ps := ["form", "number", "power"]) fun _ _ _ _ _ _ us hl => match us, hl with | [_, _, _], _ => rfl
  have m2 := PySem.W.mg_of X G a2
  have F3 := fun_mk (st := s_least_power) l3 c3 k3
  have b3 := F3.binds (ps := ["form"]) fun _ _ _ _ _ _ us hl => match us, hl with | [_], _ => rfl
  have m3 := PySem.W.mg_of X G a3
  have F4 := fun_mk (st := s_rounded) l4 c4 k4
  have m4 := PySem.W.mg_of X G a4
  have F5 := fun_mk (st := s_parted) l5 c5 k5
  have b5 := F5.binds (ps := ["number", "by", "more"]) fun _ _ _ _ _ _ us hl => match us, hl with | [_, _, _], _ => rfl
  have m5 := PySem.W.mg_of X G a5
  have F6 := fun_mk (st := s_goes_up) l6 c6 k6
  have b6 := F6.binds (ps := ["way", "sign", "many", "rest"]) fun _ _ _ _ _ _ us hl => match us, hl with | [_, _, _, _], _ => rfl
  have m6 := PySem.W.mg_of X G a6
  have F7 := fun_mk (st := s_goes_away) l7 c7 k7
  have b7 := F7.binds (ps := ["way", "sign"]) fun _ _ _ _ _ _ us hl => match us, hl with | [_, _], _ => rfl
  have m7 := PySem.W.mg_of X G a7
  have F8 := fun_mk (st := s_word_beyond) l8 c8 k8
  have b8 := F8.binds (ps := ["form", "sign", "way"]) fun _ _ _ _ _ _ us hl => match us, hl with | [_, _, _], _ => rfl
  have m8 := PySem.W.mg_of X G a8
  have F9 := fun_mk (st := s_flags_of_rest) l9 c9 k9
  have b9 := F9.binds (ps := ["form", "number", "power", "rest"]) fun _ _ _ _ _ _ us hl => match us, hl with | [_, _, _, _], _ => rfl
  have m9 := PySem.W.mg_of X G a9
  have F10 := fun_mk (st := s_added) l10 c10 k10
  have m10 := PySem.W.mg_of X G a10
  have F11 := fun_mk (st := s_taken) l11 c11 k11
  have m11 := PySem.W.mg_of X G a11
  have F12 := fun_mk (st := s_multiplied) l12 c12 k12
  have m12 := PySem.W.mg_of X G a12
  have F13 := fun_mk (st := s_divided) l13 c13 k13
  have m13 := PySem.W.mg_of X G a13
  have F14 := fun_mk (st := s_joined) l14 c14 k14
  have m14 := PySem.W.mg_of X G a14
  have F15 := fun_mk (st := s_has_none) l15 c15 k15
  have b15 := F15.binds (ps := ["form", "words"]) fun _ _ _ _ _ _ us hl => match us, hl with | [_, _], _ => rfl
  have m15 := PySem.W.mg_of X G a15
  have F16 := fun_mk (st := s_bad) l16 c16 k16
  have b16 := F16.binds (ps := ["form"]) fun _ _ _ _ _ _ us hl => match us, hl with | [_], _ => rfl
  have m16 := PySem.W.mg_of X G a16
  have F17 := fun_mk (st := s_is_endless_by_nought) l17 c17 k17
  have b17 := F17.binds (ps := ["form", "a", "b"]) fun _ _ _ _ _ _ us hl => match us, hl with | [_, _, _], _ => rfl
  have m17 := PySem.W.mg_of X G a17
  have F18 := fun_mk (st := s_sign_of) l18 c18 k18
  have b18 := F18.binds (ps := ["form", "word"]) fun _ _ _ _ _ _ us hl => match us, hl with | [_, _], _ => rfl
  have m18 := PySem.W.mg_of X G a18
  have F19 := fun_mk (st := s_unlike_sign) l19 c19 k19
  have b19 := F19.binds (ps := ["form", "a", "b"]) fun _ _ _ _ _ _ us hl => match us, hl with | [_, _, _], _ => rfl
  have m19 := PySem.W.mg_of X G a19
  have F20 := fun_mk (st := s_term_of) l20 c20 k20
  have b20 := F20.binds (ps := ["form", "word"]) fun _ _ _ _ _ _ us hl => match us, hl with | [_, _], _ => rfl
  have m20 := PySem.W.mg_of X G a20
  have F21 := fun_mk (st := s_product_of) l21 c21 k21
  have b21 := F21.binds (ps := ["form", "a", "b"]) fun _ _ _ _ _ _ us hl => match us, hl with | [_, _, _], _ => rfl
  have m21 := PySem.W.mg_of X G a21
  have F22 := fun_mk (st := s_terms_added) l22 c22 k22
  have b22 := F22.binds (ps := ["form", "one", "other", "way"]) fun _ _ _ _ _ _ us hl => match us, hl with | [_, _, _, _], _ => rfl
  have m22 := PySem.W.mg_of X G a22
  have F23 := fun_mk (st := s_nought_sign) l23 c23 k23
  have b23 := F23.binds (ps := ["sign", "other_sign", "way"]) fun _ _ _ _ _ _ us hl => match us, hl with | [_, _, _], _ => rfl
  have m23 := PySem.W.mg_of X G a23
  have F24 := fun_mk (st := s_worths_added) l24 c24 k24
  have b24 := F24.binds (ps := ["one", "other"]) fun _ _ _ _ _ _ us hl => match us, hl with | [_, _], _ => rfl
  have m24 := PySem.W.mg_of X G a24
  have F25 := fun_mk (st := s_quotient_rounded) l25 c25 k25
  have b25 := F25.binds (ps := ["form", "sign", "one", "other", "way"]) fun _ _ _ _ _ _ us hl => match us, hl with | [_, _, _, _, _], _ => rfl
  have m25 := PySem.W.mg_of X G a25
  have F26 := fun_mk (st := s_done) l26 c26 k26
  have m26 := PySem.W.mg_of X G a26
  have F27 := fun_mk (st := s_compared) l27 c27 k27
  have b27 := F27.binds (ps := ["form", "a", "b"]) fun _ _ _ _ _ _ us hl => match us, hl with | [_, _, _], _ => rfl
  have m27 := PySem.W.mg_of X G a27
  have F28 := fun_mk (st := s_rank_of) l28 c28 k28
  have b28 := F28.binds (ps := ["form", "word"]) fun _ _ _ _ _ _ us hl => match us, hl with | [_, _], _ => rfl
  have m28 := PySem.W.mg_of X G a28
  have F29 := fun_mk (st := s_size_of) l29 c29 k29
  have b29 := F29.binds (ps := ["form", "word"]) fun _ _ _ _ _ _ us hl => match us, hl with | [_, _], _ => rfl
  have m29 := PySem.W.mg_of X G a29
  have F30 := fun_mk (st := s_digits_of) l30 c30 k30
  have b30 := F30.binds (ps := ["one", "other", "many"]) fun _ _ _ _ _ _ us hl => match us, hl with | [_, _, _], _ => rfl
  have m30 := PySem.W.mg_of X G a30
  have F31 := fun_mk (st := s_worth_of) l31 c31 k31
  have b31 := F31.binds (ps := ["digits"]) fun _ _ _ _ _ _ us hl => match us, hl with | [_], _ => rfl
  have m31 := PySem.W.mg_of X G a31
  have F32 := fun_mk (st := s_zeros_of) l32 c32 k32
  have b32 := F32.binds (ps := ["number", "many"]) fun _ _ _ _ _ _ us hl => match us, hl with | [_, _], _ => rfl
  have m32 := PySem.W.mg_of X G a32
  have F33 := fun_mk (st := s_marks_of) l33 c33 k33
  have b33 := F33.binds (ps := ["digits"]) fun _ _ _ _ _ _ us hl => match us, hl with | [_], _ => rfl
  have m33 := PySem.W.mg_of X G a33
  have F34 := fun_mk (st := s_is_mark) l34 c34 k34
  have b34 := F34.binds (ps := ["digits", "place"]) fun _ _ _ _ _ _ us hl => match us, hl with | [_, _], _ => rfl
  have m34 := PySem.W.mg_of X G a34
  have F35 := fun_mk (st := s_first_mark) l35 c35 k35
  have b35 := F35.binds (ps := ["digits"]) fun _ _ _ _ _ _ us hl => match us, hl with | [_], _ => rfl
  have m35 := PySem.W.mg_of X G a35
  have F36 := fun_mk (st := s_guess) l36 c36 k36
  have b36 := F36.binds (ps := ["one", "other", "many"]) fun _ _ _ _ _ _ us hl => match us, hl with | [_, _, _], _ => rfl
  have m36 := PySem.W.mg_of X G a36
  have F37 := fun_mk (st := s_have_heads) l37 c37 k37
  have b37 := F37.binds (ps := ["form", "words"]) fun _ _ _ _ _ _ us hl => match us, hl with | [_, _], _ => rfl
  have m37 := PySem.W.mg_of X G a37
  have F38 := fun_mk (st := s_head_of) l38 c38 k38
  have b38 := F38.binds (ps := ["form", "word"]) fun _ _ _ _ _ _ us hl => match us, hl with | [_, _], _ => rfl
  have m38 := PySem.W.mg_of X G a38
  have F39 := fun_mk (st := s_plain_step) l39 c39 k39
  have b39 := F39.binds (ps := ["name", "form", "op", "words", "way"]) fun _ _ _ _ _ _ us hl => match us, hl with | [_, _, _, _, _], _ => rfl
  have m39 := PySem.W.mg_of X G a39
  have F40 := fun_mk (st := s_round_step) l40 c40 k40
  have b40 := F40.binds (ps := ["form", "sign", "total", "power", "way", "more"]) fun _ _ _ _ _ _ us hl => match us, hl with | [_, _, _, _, _, _], _ => rfl
  have m40 := PySem.W.mg_of X G a40
  have F41 := fun_mk (st := s_total_steps) l41 c41 k41
  have b41 := F41.binds (ps := ["greater", "lesser", "more", "alike", "many"]) fun _ _ _ _ _ _ us hl => match us, hl with | [_, _, _, _, _], _ => rfl
  have m41 := PySem.W.mg_of X G a41
  have F42 := fun_mk (st := s_add_steps) l42 c42 k42
  have m42 := PySem.W.mg_of X G a42
  have F43 := fun_mk (st := s_take_steps) l43 c43 k43
  have m43 := PySem.W.mg_of X G a43
  have F44 := fun_mk (st := s_ordered) l44 c44 k44
  have b44 := F44.binds (ps := ["form", "a", "b"]) fun _ _ _ _ _ _ us hl => match us, hl with | [_, _, _], _ => rfl
  have m44 := PySem.W.mg_of X G a44
  have F45 := fun_mk (st := s_is_number) l45 c45 k45
  have b45 := F45.binds (ps := ["thing"]) fun _ _ _ _ _ _ us hl => match us, hl with | [_], _ => rfl
  have m45 := PySem.W.mg_of X G a45
  have F46 := fun_mk (st := s_is_number_in) l46 c46 k46
  have b46 := F46.binds (ps := ["least", "greatest", "thing"]) fun _ _ _ _ _ _ us hl => match us, hl with | [_, _, _], _ => rfl
  have m46 := PySem.W.mg_of X G a46
  have F47 := fun_mk (st := s_full_head) l47 c47 k47
  have b47 := F47.binds (ps := ["form", "word"]) fun _ _ _ _ _ _ us hl => match us, hl with | [_, _], _ => rfl
  have m47 := PySem.W.mg_of X G a47
  have F48 := fun_mk (st := s_join_steps) l48 c48 k48
  have m48 := PySem.W.mg_of X G a48
  have F49 := fun_mk (st := s_product_of_heads) l49 c49 k49
  have b49 := F49.binds (ps := ["form", "a", "b"]) fun _ _ _ _ _ _ us hl => match us, hl with | [_, _, _], _ => rfl
  have m49 := PySem.W.mg_of X G a49
  have F50 := fun_mk (st := s_placed) l50 c50 k50
  have b50 := F50.binds (ps := ["form", "product", "term"]) fun _ _ _ _ _ _ us hl => match us, hl with | [_, _, _], _ => rfl
  have m50 := PySem.W.mg_of X G a50
  have F51 := fun_mk (st := s_fours_of) l51 c51 k51
  have b51 := F51.binds (ps := ["number"]) fun _ _ _ _ _ _ us hl => match us, hl with | [_], _ => rfl
  have m51 := PySem.W.mg_of X G a51
  have F52 := fun_mk (st := s_four_of) l52 c52 k52
  have b52 := F52.binds (ps := ["bits"]) fun _ _ _ _ _ _ us hl => match us, hl with | [_], _ => rfl
  have m52 := PySem.W.mg_of X G a52
  have F53 := fun_mk (st := s_rows_of) l53 c53 k53
  have b53 := F53.binds (ps := ["one", "number"]) fun _ _ _ _ _ _ us hl => match us, hl with | [_, _], _ => rfl
  have m53 := PySem.W.mg_of X G a53
  have F54 := fun_mk (st := s_saved) l54 c54 k54
  have b54 := F54.binds (ps := ["x", "y", "z"]) fun _ _ _ _ _ _ us hl => match us, hl with | [_, _, _], _ => rfl
  have m54 := PySem.W.mg_of X G a54
  have F55 := fun_mk (st := s_levels_of) l55 c55 k55
  have b55 := F55.binds (ps := ["rows"]) fun _ _ _ _ _ _ us hl => match us, hl with | [_], _ => rfl
  have m55 := PySem.W.mg_of X G a55
  have F56 := fun_mk (st := s_level_behind) l56 c56 k56
  have b56 := F56.binds (ps := ["rows"]) fun _ _ _ _ _ _ us hl => match us, hl with | [_], _ => rfl
  have m56 := PySem.W.mg_of X G a56
  have F57 := fun_mk (st := s_times_steps) l57 c57 k57
  have m57 := PySem.W.mg_of X G a57
  have F58 := fun_mk (st := sBox) l58 c58 k58
  have b58 := F58.binds (ps := ["_law_script", "_law_k"]) fun _ _ _ _ _ _ us hl => match us, hl with | [_, _], _ => rfl
  have m58 := PySem.W.mg_of X G a58
  have F59 := fun_mk (st := sTake) l59 c59 k59
  have b59 := F59.binds (ps := ["_law_box_here", "_law_size"]) fun _ _ _ _ _ _ us hl => match us, hl with | [_, _], _ => rfl
  have m59 := PySem.W.mg_of X G a59
  have F60 := fun_mk (st := sFolded) l60 c60 k60
  have b60 := F60.binds (ps := ["_law_script", "_law_size"]) fun _ _ _ _ _ _ us hl => match us, hl with | [_, _], _ => rfl
  have m60 := PySem.W.mg_of X G a60
  have F61 := fun_mk (st := sSame) l61 c61 k61
  have b61 := F61.binds (ps := ["_law_found", "_law_due"]) fun _ _ _ _ _ _ us hl => match us, hl with | [_, _], _ => rfl
  have m61 := PySem.W.mg_of X G a61
  have F62 := fun_mk (st := s__law_plain) l62 c62 k62
  have b62 := F62.binds (ps := ["_law_box_here", "_law_form", "_law_scale"]) fun _ _ _ _ _ _ us hl => match us, hl with | [_, _, _], _ => rfl
  have m62 := PySem.W.mg_of X G a62
  have F63 := fun_mk (st := s__law_pair) l63 c63 k63
  have b63 := F63.binds (ps := ["_law_box_here", "_law_form", "_law_case"]) fun _ _ _ _ _ _ us hl => match us, hl with | [_, _, _], _ => rfl
  have m63 := PySem.W.mg_of X G a63
  have F64 := fun_mk (st := s__law_cut_right) l64 c64 k64
  have b64 := F64.binds (ps := ["_law_form", "_law_steps", "_law_how"]) fun _ _ _ _ _ _ us hl => match us, hl with | [_, _, _], _ => rfl
  have m64 := PySem.W.mg_of X G a64
  have F65 := fun_mk (st := s__law_words_right) l65 c65 k65
  have b65 := F65.binds (ps := ["_law_form", "_law_a", "_law_b", "_law_c", "_law_how"]) fun _ _ _ _ _ _ us hl => match us, hl with | [_, _, _, _, _], _ => rfl
  have m65 := PySem.W.mg_of X G a65
  have F66 := fun_mk (st := s__law_rises) l66 c66 k66
  have b66 := F66.binds (ps := ["_law_form", "_law_a", "_law_b", "_law_how"]) fun _ _ _ _ _ _ us hl => match us, hl with | [_, _, _, _], _ => rfl
  have m66 := PySem.W.mg_of X G a66
  have F67 := fun_mk (st := s_law) l67 c67 k67
  have F68 := fun_mk (st := s_Form___init__) l68 c68 k68
  have b68 := F68.binds (ps := ["self", "scale", "tail"]) fun _ _ _ _ _ _ us hl => match us, hl with | [_, _, _], _ => rfl
  have M68 : Meth K C "__init__" f68 := ⟨a68, i68, k68⟩
  have F69 := fun_mk (st := s_Form_bias) l69 c69 k69
  have b69 := F69.binds (ps := ["self"]) fun _ _ _ _ _ _ us hl => match us, hl with | [_], _ => rfl
  have M69 : Meth K C "bias" f69 := ⟨a69, i69, k69⟩
  have F70 := fun_mk (st := s_Form_top) l70 c70 k70
  have b70 := F70.binds (ps := ["self"]) fun _ _ _ _ _ _ us hl => match us, hl with | [_], _ => rfl
  have M70 : Meth K C "top" f70 := ⟨a70, i70, k70⟩
  have F71 := fun_mk (st := s_Form_parts) l71 c71 k71
  have b71 := F71.binds (ps := ["self", "word"]) fun _ _ _ _ _ _ us hl => match us, hl with | [_, _], _ => rfl
  have M71 : Meth K C "parts" f71 := ⟨a71, i71, k71⟩
  have F72 := fun_mk (st := s_Form_word_of) l72 c72 k72
  have b72 := F72.binds (ps := ["self", "sign", "scale", "tail"]) fun _ _ _ _ _ _ us hl => match us, hl with | [_, _, _, _], _ => rfl
  have M72 : Meth K C "word_of" f72 := ⟨a72, i72, k72⟩
  have F73 := fun_mk (st := s_Form_sort_of) l73 c73 k73
  have b73 := F73.binds (ps := ["self", "word"]) fun _ _ _ _ _ _ us hl => match us, hl with | [_, _], _ => rfl
  have M73 : Meth K C "sort_of" f73 := ⟨a73, i73, k73⟩
  have F74 := funA_mk (st := s_Form_nought) l74 c74 k74
  have b74 := bindsA (st := s_Form_nought) (ps := ["self", "sign"]) l74 t74 fun _ _ _ _ _ _ us hl => match us, hl with | [_, _], _ => ⟨_, rfl, rfl⟩
  have d74 := bindsAD (st := s_Form_nought) (ps := ["self", "sign"]) l74 t74 fun _ _ _ _ _ _ us hl => match us, hl with | [_], _ => ⟨_, rfl, rfl⟩
  have kb74 := kbindsA (x1 := "sign") (st := s_Form_nought) (ps := ["self", "sign"]) l74 t74 fun _ _ _ _ _ _ _ _ => ⟨_, rfl, rfl⟩
  have M74 : Meth K C "nought" f74 := ⟨a74, i74, k74⟩
  have F75 := funA_mk (st := s_Form_endless) l75 c75 k75
  have b75 := bindsA (st := s_Form_endless) (ps := ["self", "sign"]) l75 t75 fun _ _ _ _ _ _ us hl => match us, hl with | [_, _], _ => ⟨_, rfl, rfl⟩
  have d75 := bindsAD (st := s_Form_endless) (ps := ["self", "sign"]) l75 t75 fun _ _ _ _ _ _ us hl => match us, hl with | [_], _ => ⟨_, rfl, rfl⟩
  have kb75 := kbindsA (x1 := "sign") (st := s_Form_endless) (ps := ["self", "sign"]) l75 t75 fun _ _ _ _ _ _ _ _ => ⟨_, rfl, rfl⟩
  have M75 : Meth K C "endless" f75 := ⟨a75, i75, k75⟩
  have F76 := funA_mk (st := s_Form_greatest) l76 c76 k76
  have b76 := bindsA (st := s_Form_greatest) (ps := ["self", "sign"]) l76 t76 fun _ _ _ _ _ _ us hl => match us, hl with | [_, _], _ => ⟨_, rfl, rfl⟩
  have d76 := bindsAD (st := s_Form_greatest) (ps := ["self", "sign"]) l76 t76 fun _ _ _ _ _ _ us hl => match us, hl with | [_], _ => ⟨_, rfl, rfl⟩
  have kb76 := kbindsA (x1 := "sign") (st := s_Form_greatest) (ps := ["self", "sign"]) l76 t76 fun _ _ _ _ _ _ _ _ => ⟨_, rfl, rfl⟩
  have M76 : Meth K C "greatest" f76 := ⟨a76, i76, k76⟩
  have F77 := fun_mk (st := s_Form_none_word) l77 c77 k77
  have b77 := F77.binds (ps := ["self"]) fun _ _ _ _ _ _ us hl => match us, hl with | [_], _ => rfl
  have M77 : Meth K C "none_word" f77 := ⟨a77, i77, k77⟩
  have F78 := fun_mk (st := s_Form_turned) l78 c78 k78
  have b78 := F78.binds (ps := ["self", "word"]) fun _ _ _ _ _ _ us hl => match us, hl with | [_, _], _ => rfl
  have M78 : Meth K C "turned" f78 := ⟨a78, i78, k78⟩
  have F79 := fun_mk (st := s_Form_worth) l79 c79 k79
  have b79 := F79.binds (ps := ["self", "word"]) fun _ _ _ _ _ _ us hl => match us, hl with | [_, _], _ => rfl
  have M79 : Meth K C "worth" f79 := ⟨a79, i79, k79⟩
  have F80 := fun_mk (st := s_Divider___init__) l80 c80 k80
  have M80 : Meth K CD "__init__" f80 := ⟨a80, i80, k80⟩
  have F81 := fun_mk (st := s_Divider_begin) l81 c81 k81
  have b81 := F81.binds (ps := ["self"]) fun _ _ _ _ _ _ us hl => match us, hl with | [_], _ => rfl
  have M81 : Meth K CD "begin" f81 := ⟨a81, i81, k81⟩
  have F82 := fun_mk (st := s_Divider_step) l82 c82 k82
  have b82 := F82.binds (ps := ["self"]) fun _ _ _ _ _ _ us hl => match us, hl with | [_], _ => rfl
  have M82 : Meth K CD "step" f82 := ⟨a82, i82, k82⟩
  have F83 := fun_mk (st := s_Divider_digit_by) l83 c83 k83
  have b83 := F83.binds (ps := ["self", "rest"]) fun _ _ _ _ _ _ us hl => match us, hl with | [_, _], _ => rfl
  have M83 : Meth K CD "digit_by" f83 := ⟨a83, i83, k83⟩
  have F84 := fun_mk (st := s_Divider_digits) l84 c84 k84
  have b84 := F84.binds (ps := ["self"]) fun _ _ _ _ _ _ us hl => match us, hl with | [_], _ => rfl
  have M84 : Meth K CD "digits" f84 := ⟨a84, i84, k84⟩
  have F85 := fun_mk (st := s_Divider_quotient) l85 c85 k85
  have b85 := F85.binds (ps := ["self"]) fun _ _ _ _ _ _ us hl => match us, hl with | [_], _ => rfl
  have M85 : Meth K CD "quotient" f85 := ⟨a85, i85, k85⟩
  have F86 := fun_mk (st := s_Divider_rest) l86 c86 k86
  have b86 := F86.binds (ps := ["self"]) fun _ _ _ _ _ _ us hl => match us, hl with | [_], _ => rfl
  have M86 : Meth K CD "rest" f86 := ⟨a86, i86, k86⟩
  have F87 := fun_mk (st := s_Divider_divisor) l87 c87 k87
  have b87 := F87.binds (ps := ["self"]) fun _ _ _ _ _ _ us hl => match us, hl with | [_], _ => rfl
  have M87 : Meth K CD "divisor" f87 := ⟨a87, i87, k87⟩
  have F88 := fun_mk (st := s_Divider_left) l88 c88 k88
  have b88 := F88.binds (ps := ["self"]) fun _ _ _ _ _ _ us hl => match us, hl with | [_], _ => rfl
  have M88 : Meth K CD "left" f88 := ⟨a88, i88, k88⟩
  have F89 := fun_mk (st := s_Divider_outcome) l89 c89 k89
  have b89 := F89.binds (ps := ["self"]) fun _ _ _ _ _ _ us hl => match us, hl with | [_], _ => rfl
  have M89 : Meth K CD "outcome" f89 := ⟨a89, i89, k89⟩
  have clC : Cls K C := ⟨pgC, hdC, poC, saC⟩
  have mgC := PySem.W.mg_of X G aC
  have clCD : Cls K CD := ⟨pgCD, hdCD, poCD, saCD⟩
  have mgCD := PySem.W.mg_of X G aCD
  have B : Bl mg := ⟨PySem.W.mg_none_of X G z1, PySem.W.mg_none_of X G z2, PySem.W.mg_none_of X G z3, PySem.W.mg_none_of X G z4, PySem.W.mg_none_of X G z5, PySem.W.mg_none_of X G z6, PySem.W.mg_none_of X G z7, PySem.W.mg_none_of X G z8, PySem.W.mg_none_of X G z9, PySem.W.mg_none_of X G z10, PySem.W.mg_none_of X G z11, PySem.W.mg_none_of X G z12, PySem.W.mg_none_of X G z13, PySem.W.mg_none_of X G z14, PySem.W.mg_none_of X G z15, PySem.W.mg_none_of X G z16, PySem.W.mg_none_of X G z17⟩
  refine ⟨PySem.W.fnOf "law" "law" (defArgs s_law) (defBody s_law) (defScope s_law) .none kV67 dc67 pm67 an67 cd67 ct67, fun s v => .of_eq rfl, fun base _ _ => ?_⟩
  have kb4_way : ∃ g, KBn K (PySem.W.fnOf "rounded" "rounded" (defArgs s_rounded) (defBody s_rounded) (defScope s_rounded) .none (.ref Dk4) dc4 pm4 an4 cd4 ct4) ["form", "sign", "number", "power", "way", "more"] 4 ["way"] g (fun vs zs => vs ++ (zs ++ [.bl false])) := ⟨fun vs zs => vs ++ (zs ++ [.bool false]), ⟨kbn_of (st := s_rounded) (ml := [("more", .bool false)]) (gV := fun vs zs => vs ++ (zs ++ [.bl false])) (fun q hq => by rcases List.mem_cons.mp hq with rfl | hq; exact w4_1; exact nomatch hq) (fun us ws l1 l2 => match us, ws, l1, l2 with | [_, _, _, _], [_], _, _ => ⟨_, _, _, _, _, _, rfl, rfl, (show _ = pure _ from rfl)⟩) (fun _ _ r1 r2 => r1.append (r2.append (.cons rfl .nil))), fun r1 r2 => r1.append (r2.append (.cons rfl .nil))⟩⟩
  have kb4_way_more : ∃ g, KBn K (PySem.W.fnOf "rounded" "rounded" (defArgs s_rounded) (defBody s_rounded) (defScope s_rounded) .none (.ref Dk4) dc4 pm4 an4 cd4 ct4) ["form", "sign", "number", "power", "way", "more"] 4 ["way", "more"] g (fun vs zs => vs ++ zs) := ⟨fun vs zs => vs ++ zs, ⟨kbn_of (st := s_rounded) (ml := []) (gV := fun vs zs => vs ++ zs) (fun q hq => nomatch hq) (fun us ws l1 l2 => match us, ws, l1, l2 with | [_, _, _, _], [_, _], _, _ => (show _ = pure _ from rfl)) (fun _ _ r1 r2 => r1.append r2), fun r1 r2 => r1.append r2⟩⟩
  have kb10_way : ∃ g, KBn K (PySem.W.fnOf "added" "added" (defArgs s_added) (defBody s_added) (defScope s_added) .none (.ref Dk10) dc10 pm10 an10 cd10 ct10) ["form", "a", "b", "way"] 3 ["way"] g (fun vs zs => vs ++ zs) := ⟨fun vs zs => vs ++ zs, ⟨kbn_of (st := s_added) (ml := []) (gV := fun vs zs => vs ++ zs) (fun q hq => nomatch hq) (fun us ws l1 l2 => match us, ws, l1, l2 with | [_, _, _], [_], _, _ => (show _ = pure _ from rfl)) (fun _ _ r1 r2 => r1.append r2), fun r1 r2 => r1.append r2⟩⟩
  have kb11_way : ∃ g, KBn K (PySem.W.fnOf "taken" "taken" (defArgs s_taken) (defBody s_taken) (defScope s_taken) .none (.ref Dk11) dc11 pm11 an11 cd11 ct11) ["form", "a", "b", "way"] 3 ["way"] g (fun vs zs => vs ++ zs) := ⟨fun vs zs => vs ++ zs, ⟨kbn_of (st := s_taken) (ml := []) (gV := fun vs zs => vs ++ zs) (fun q hq => nomatch hq) (fun us ws l1 l2 => match us, ws, l1, l2 with | [_, _, _], [_], _, _ => (show _ = pure _ from rfl)) (fun _ _ r1 r2 => r1.append r2), fun r1 r2 => r1.append r2⟩⟩
  have kb12_way : ∃ g, KBn K (PySem.W.fnOf "multiplied" "multiplied" (defArgs s_multiplied) (defBody s_multiplied) (defScope s_multiplied) .none (.ref Dk12) dc12 pm12 an12 cd12 ct12) ["form", "a", "b", "way"] 3 ["way"] g (fun vs zs => vs ++ zs) := ⟨fun vs zs => vs ++ zs, ⟨kbn_of (st := s_multiplied) (ml := []) (gV := fun vs zs => vs ++ zs) (fun q hq => nomatch hq) (fun us ws l1 l2 => match us, ws, l1, l2 with | [_, _, _], [_], _, _ => (show _ = pure _ from rfl)) (fun _ _ r1 r2 => r1.append r2), fun r1 r2 => r1.append r2⟩⟩
  have kb13_way : ∃ g, KBn K (PySem.W.fnOf "divided" "divided" (defArgs s_divided) (defBody s_divided) (defScope s_divided) .none (.ref Dk13) dc13 pm13 an13 cd13 ct13) ["form", "a", "b", "way"] 3 ["way"] g (fun vs zs => vs ++ zs) := ⟨fun vs zs => vs ++ zs, ⟨kbn_of (st := s_divided) (ml := []) (gV := fun vs zs => vs ++ zs) (fun q hq => nomatch hq) (fun us ws l1 l2 => match us, ws, l1, l2 with | [_, _, _], [_], _, _ => (show _ = pure _ from rfl)) (fun _ _ r1 r2 => r1.append r2), fun r1 r2 => r1.append r2⟩⟩
  have kb14_way : ∃ g, KBn K (PySem.W.fnOf "joined" "joined" (defArgs s_joined) (defBody s_joined) (defScope s_joined) .none (.ref Dk14) dc14 pm14 an14 cd14 ct14) ["form", "a", "b", "c", "way"] 4 ["way"] g (fun vs zs => vs ++ zs) := ⟨fun vs zs => vs ++ zs, ⟨kbn_of (st := s_joined) (ml := []) (gV := fun vs zs => vs ++ zs) (fun q hq => nomatch hq) (fun us ws l1 l2 => match us, ws, l1, l2 with | [_, _, _, _], [_], _, _ => (show _ = pure _ from rfl)) (fun _ _ r1 r2 => r1.append r2), fun r1 r2 => r1.append r2⟩⟩
  have kb26_way : ∃ g, KBn K (PySem.W.fnOf "done" "done" (defArgs s_done) (defBody s_done) (defScope s_done) .none (.ref Dk26) dc26 pm26 an26 cd26 ct26) ["form", "op", "words", "way"] 3 ["way"] g (fun vs zs => vs ++ zs) := ⟨fun vs zs => vs ++ zs, ⟨kbn_of (st := s_done) (ml := []) (gV := fun vs zs => vs ++ zs) (fun q hq => nomatch hq) (fun us ws l1 l2 => match us, ws, l1, l2 with | [_, _, _], [_], _, _ => (show _ = pure _ from rfl)) (fun _ _ r1 r2 => r1.append r2), fun r1 r2 => r1.append r2⟩⟩
  have kb26_ : ∃ ds, Vals [.str "near"] ds ∧ Binds K (PySem.W.fnOf "done" "done" (defArgs s_done) (defBody s_done) (defScope s_done) .none (.ref Dk26) dc26 pm26 an26 cd26 ct26) ["form", "op", "words", "way"] ds := ⟨_, (.cons ⟨_, rfl⟩ .nil), bnd_of (st := s_done) (ml := [("way", .str "near" tk26_0)]) (ds := [.str "near" tk26_0]) (fun q hq => by rcases List.mem_cons.mp hq with rfl | hq; exact w26_0; exact nomatch hq) (fun us l1 => match us, l1 with | [_, _, _], _ => ⟨_, _, _, _, _, _, rfl, rfl, (show _ = pure _ from rfl)⟩)⟩
  have kb42_way : ∃ g, KBn K (PySem.W.fnOf "add_steps" "add_steps" (defArgs s_add_steps) (defBody s_add_steps) (defScope s_add_steps) .none (.ref Dk42) dc42 pm42 an42 cd42 ct42) ["form", "a", "b", "way"] 3 ["way"] g (fun vs zs => vs ++ zs) := ⟨fun vs zs => vs ++ zs, ⟨kbn_of (st := s_add_steps) (ml := []) (gV := fun vs zs => vs ++ zs) (fun q hq => nomatch hq) (fun us ws l1 l2 => match us, ws, l1, l2 with | [_, _, _], [_], _, _ => (show _ = pure _ from rfl)) (fun _ _ r1 r2 => r1.append r2), fun r1 r2 => r1.append r2⟩⟩
  have kb43_way : ∃ g, KBn K (PySem.W.fnOf "take_steps" "take_steps" (defArgs s_take_steps) (defBody s_take_steps) (defScope s_take_steps) .none (.ref Dk43) dc43 pm43 an43 cd43 ct43) ["form", "a", "b", "way"] 3 ["way"] g (fun vs zs => vs ++ zs) := ⟨fun vs zs => vs ++ zs, ⟨kbn_of (st := s_take_steps) (ml := []) (gV := fun vs zs => vs ++ zs) (fun q hq => nomatch hq) (fun us ws l1 l2 => match us, ws, l1, l2 with | [_, _, _], [_], _, _ => (show _ = pure _ from rfl)) (fun _ _ r1 r2 => r1.append r2), fun r1 r2 => r1.append r2⟩⟩
  have kb48_way : ∃ g, KBn K (PySem.W.fnOf "join_steps" "join_steps" (defArgs s_join_steps) (defBody s_join_steps) (defScope s_join_steps) .none (.ref Dk48) dc48 pm48 an48 cd48 ct48) ["form", "a", "b", "c", "way"] 4 ["way"] g (fun vs zs => vs ++ zs) := ⟨fun vs zs => vs ++ zs, ⟨kbn_of (st := s_join_steps) (ml := []) (gV := fun vs zs => vs ++ zs) (fun q hq => nomatch hq) (fun us ws l1 l2 => match us, ws, l1, l2 with | [_, _, _, _], [_], _, _ => (show _ = pure _ from rfl)) (fun _ _ r1 r2 => r1.append r2), fun r1 r2 => r1.append r2⟩⟩
  have kb57_way : ∃ g, KBn K (PySem.W.fnOf "times_steps" "times_steps" (defArgs s_times_steps) (defBody s_times_steps) (defScope s_times_steps) .none (.ref Dk57) dc57 pm57 an57 cd57 ct57) ["form", "a", "b", "way"] 3 ["way"] g (fun vs zs => vs ++ zs) := ⟨fun vs zs => vs ++ zs, ⟨kbn_of (st := s_times_steps) (ml := []) (gV := fun vs zs => vs ++ zs) (fun q hq => nomatch hq) (fun us ws l1 l2 => match us, ws, l1, l2 with | [_, _, _], [_], _, _ => (show _ = pure _ from rfl)) (fun _ _ r1 r2 => r1.append r2), fun r1 r2 => r1.append r2⟩⟩
  have kb80_way_signed : ∃ g, KBn K (PySem.W.fnOf "__init__" "Divider.__init__" (defArgs s_Divider___init__) (defBody s_Divider___init__) (defScope s_Divider___init__) .none (.ref Dk80) dc80 pm80 an80 cd80 ct80) ["self", "form", "a", "b", "way", "signed"] 4 ["way", "signed"] g (fun vs zs => vs ++ zs) := ⟨fun vs zs => vs ++ zs, ⟨kbn_of (st := s_Divider___init__) (ml := []) (gV := fun vs zs => vs ++ zs) (fun q hq => nomatch hq) (fun us ws l1 l2 => match us, ws, l1, l2 with | [_, _, _, _], [_, _], _, _ => (show _ = pure _ from rfl)) (fun _ _ r1 r2 => r1.append r2), fun r1 r2 => r1.append r2⟩⟩
  have L : LL K mg C CD (pkz f1 [f2, f3, f4, f5, f6, f7, f8, f9, f10, f11, f12, f13, f14, f15, f16, f17, f18, f19, f20, f21, f22, f23, f24, f25, f26, f27, f28, f29, f30, f31, f32, f33, f34, f35, f36, f37, f38, f39, f40, f41, f42, f43, f44, f45, f46, f47, f48, f49, f50, f51, f52, f53, f54, f55, f56, f57, f58, f59, f60, f61, f62, f63, f64, f65, f66, f68, f69, f70, f71, f72, f73, f74, f75, f76, f77, f78, f79, f80, f81, f82, f83, f84, f85, f86, f87, f88, f89]) (pkz _ [_, _, _, _, _, _, _, _, _, _, _, _, _, _, _, _, _, _, _, _, _, _, _, _, _, _, _, _, _, _, _, _, _, _, _, _, _, _, _, _, _, _, _, _, _, _, _, _, _, _, _, _, _, _, _, _, _, _, _, _, _, _, _, _, _, _, _, _, _, _, _, _, _, _, _, _, _, _, _, _, _, _, _, _, _, _, _]) vT74 vT75 vT76 tgNEAR tgCUT tgUP tgDOWN w dO esO nO := ⟨F1, m1, b1, F2, m2, b2, F3, m3, b3, F4, m4, kb4_way, kb4_way_more, F5, m5, b5, F6, m6, b6, F7, m7, b7, F8, m8, b8, F9, m9, b9, F10, m10, kb10_way, F11, m11, kb11_way, F12, m12, kb12_way, F13, m13, kb13_way, F14, m14, kb14_way, F15, m15, b15, F16, m16, b16, F17, m17, b17, F18, m18, b18, F19, m19, b19, F20, m20, b20, F21, m21, b21, F22, m22, b22, F23, m23, b23, F24, m24, b24, F25, m25, b25, F26, m26, kb26_way, kb26_, F27, m27, b27, F28, m28, b28, F29, m29, b29, F30, m30, b30, F31, m31, b31, F32, m32, b32, F33, m33, b33, F34, m34, b34, F35, m35, b35, F36, m36, b36, F37, m37, b37, F38, m38, b38, F39, m39, b39, F40, m40, b40, F41, m41, b41, F42, m42, kb42_way, F43, m43, kb43_way, F44, m44, b44, F45, m45, b45, F46, m46, b46, F47, m47, b47, F48, m48, kb48_way, F49, m49, b49, F50, m50, b50, F51, m51, b51, F52, m52, b52, F53, m53, b53, F54, m54, b54, F55, m55, b55, F56, m56, b56, F57, m57, kb57_way, F58, m58, b58, F59, m59, b59, F60, m60, b60, F61, m61, b61, F62, m62, b62, F63, m63, b63, F64, m64, b64, F65, m65, b65, F66, m66, b66, ⟨clC, naC0, naC1, mgC⟩, ⟨mkC, a68, i68, kcC⟩, F68, b68, F69, b69, M69, F70, b70, M70, F71, b71, M71, F72, b72, M72, F73, b73, M73, F74, b74, M74, d74, F75, b75, M75, d75, F76, b76, M76, d76, F77, b77, M77, F78, b78, M78, F79, b79, M79, ⟨clCD, naCD0, naCD1, naCD2, naCD3, naCD4, naCD5, naCD6, naCD7, naCD8, naCD9, mgCD⟩, ⟨mkCD, a80, i80, kcCD⟩, F80, kb80_way_signed, F81, b81, M81, F82, b82, M82, F83, b83, M83, F84, b84, M84, F85, b85, M85, F86, b86, M86, F87, b87, M87, F88, b88, M88, F89, b89, M89, PySem.W.mg_of X G gNEAR, PySem.W.mg_of X G gCUT, PySem.W.mg_of X G gUP, PySem.W.mg_of X G gDOWN, PySem.W.mg_of X G aO, ⟨lO, tO, wO⟩, oO_add, oO_take, oO_times, oO_over, oO_join⟩
  exact ok_law F67 B L
end GZ
noncomputable def PySem.W.Fast.tw14350492347023027782 : PySem.Program := PySem.Challenge.pw_guessedzeros_k83_whole_great_forms_by_ca
theorem PySem.W.Fast.te14350492347023027782 : PySem.Challenge.pw_guessedzeros_k83_whole_great_forms_by_ca = PySem.W.Fast.tw14350492347023027782 := rfl
open PySem PySem.W PyProof.Rows
set_option maxRecDepth 100000 in
set_option maxHeartbeats 0 in
theorem PySem.Challenge.cw_guessedzeros_k83_whole_great_forms_by_ca_holds : PySem.Challenge.rw_guessedzeros_k83_whole_great_forms_by_ca.Holds := by
  w_on; o_law; k_headLK; (case hw => w_witness2)
  k_fill
  refine L2.walk_of (l := PySem.Challenge.rw_guessedzeros_k83_whole_great_forms_by_ca) (n := 63) (k := 15) (x := "_law_script") (CX := fun _ => L2.CX0) (sp := fun w => GZ.spLaw _) rfl (by decide) rfl ⟨rfl, by decide, by decide⟩ (fun w h Y => PySem.W.kIn_of Y) ?F (fun _ _ a ns hl _ hS => ⟨a, ns, rfl, hS, hl, fun _ => rfl⟩) (fun _ _ _ _ _ h => h)
  case F =>
    intro w mg fa h KX G hmg
    refine' GZ.all_mk KX G hmg ?a1 ?l1 ?c1 ?k1 ?a2 ?l2 ?c2 ?k2 ?a3 ?l3 ?c3 ?k3 ?a4 ?l4 ?c4 ?k4 ?w4_0 ?w4_1 ?a5 ?l5 ?c5 ?k5 ?a6 ?l6 ?c6 ?k6 ?a7 ?l7 ?c7 ?k7 ?a8 ?l8 ?c8 ?k8 ?a9 ?l9 ?c9 ?k9 ?a10 ?l10 ?c10 ?k10 ?w10_0 ?a11 ?l11 ?c11 ?k11 ?w11_0 ?a12 ?l12 ?c12 ?k12 ?w12_0 ?a13 ?l13 ?c13 ?k13 ?w13_0 ?a14 ?l14 ?c14 ?k14 ?w14_0 ?a15 ?l15 ?c15 ?k15 ?a16 ?l16 ?c16 ?k16 ?a17 ?l17 ?c17 ?k17 ?a18 ?l18 ?c18 ?k18 ?a19 ?l19 ?c19 ?k19 ?a20 ?l20 ?c20 ?k20 ?a21 ?l21 ?c21 ?k21 ?a22 ?l22 ?c22 ?k22 ?a23 ?l23 ?c23 ?k23 ?a24 ?l24 ?c24 ?k24 ?a25 ?l25 ?c25 ?k25 ?a26 ?l26 ?c26 ?k26 ?w26_0 ?a27 ?l27 ?c27 ?k27 ?a28 ?l28 ?c28 ?k28 ?a29 ?l29 ?c29 ?k29 ?a30 ?l30 ?c30 ?k30 ?a31 ?l31 ?c31 ?k31 ?a32 ?l32 ?c32 ?k32 ?a33 ?l33 ?c33 ?k33 ?a34 ?l34 ?c34 ?k34 ?a35 ?l35 ?c35 ?k35 ?a36 ?l36 ?c36 ?k36 ?a37 ?l37 ?c37 ?k37 ?a38 ?l38 ?c38 ?k38 ?a39 ?l39 ?c39 ?k39 ?a40 ?l40 ?c40 ?k40 ?a41 ?l41 ?c41 ?k41 ?a42 ?l42 ?c42 ?k42 ?w42_0 ?a43 ?l43 ?c43 ?k43 ?w43_0 ?a44 ?l44 ?c44 ?k44 ?a45 ?l45 ?c45 ?k45 ?a46 ?l46 ?c46 ?k46 ?a47 ?l47 ?c47 ?k47 ?a48 ?l48 ?c48 ?k48 ?w48_0 ?a49 ?l49 ?c49 ?k49 ?a50 ?l50 ?c50 ?k50 ?a51 ?l51 ?c51 ?k51 ?a52 ?l52 ?c52 ?k52 ?a53 ?l53 ?c53 ?k53 ?a54 ?l54 ?c54 ?k54 ?a55 ?l55 ?c55 ?k55 ?a56 ?l56 ?c56 ?k56 ?a57 ?l57 ?c57 ?k57 ?w57_0 ?a58 ?l58 ?c58 ?k58 ?a59 ?l59 ?c59 ?k59 ?a60 ?l60 ?c60 ?k60 ?a61 ?l61 ?c61 ?k61 ?a62 ?l62 ?c62 ?k62 ?a63 ?l63 ?c63 ?k63 ?a64 ?l64 ?c64 ?k64 ?a65 ?l65 ?c65 ?k65 ?a66 ?l66 ?c66 ?k66 ?a67 ?l67 ?c67 ?k67 ?aC ?pgC ?hdC ?poC ?saC ?mkC ?kcC ?naC0 ?naC1 ?aCD ?pgCD ?hdCD ?poCD ?saCD ?mkCD ?kcCD ?naCD0 ?naCD1 ?naCD2 ?naCD3 ?naCD4 ?naCD5 ?naCD6 ?naCD7 ?naCD8 ?naCD9 ?a68 ?i68 ?l68 ?c68 ?k68 ?a69 ?i69 ?l69 ?c69 ?k69 ?a70 ?i70 ?l70 ?c70 ?k70 ?a71 ?i71 ?l71 ?c71 ?k71 ?a72 ?i72 ?l72 ?c72 ?k72 ?a73 ?i73 ?l73 ?c73 ?k73 ?a74 ?i74 ?l74 ?c74 ?k74 ?t74 ?a75 ?i75 ?l75 ?c75 ?k75 ?t75 ?a76 ?i76 ?l76 ?c76 ?k76 ?t76 ?a77 ?i77 ?l77 ?c77 ?k77 ?a78 ?i78 ?l78 ?c78 ?k78 ?a79 ?i79 ?l79 ?c79 ?k79 ?a80 ?i80 ?l80 ?c80 ?k80 ?w80_0 ?w80_1 ?a81 ?i81 ?l81 ?c81 ?k81 ?a82 ?i82 ?l82 ?c82 ?k82 ?a83 ?i83 ?l83 ?c83 ?k83 ?a84 ?i84 ?l84 ?c84 ?k84 ?a85 ?i85 ?l85 ?c85 ?k85 ?a86 ?i86 ?l86 ?c86 ?k86 ?a87 ?i87 ?l87 ?c87 ?k87 ?a88 ?i88 ?l88 ?c88 ?k88 ?a89 ?i89 ?l89 ?c89 ?k89 ?z1 ?z2 ?z3 ?z4 ?z5 ?z6 ?z7 ?z8 ?z9 ?z10 ?z11 ?z12 ?z13 ?z14 ?z15 ?z16 ?z17 ?gNEAR ?gCUT ?gUP ?gDOWN ?aO ?lO ?tO ?wO ?oO_add ?oO_take ?oO_times ?oO_over ?oO_join
    (case a1 => k_is)
    (case l1 => k_is)
    (case c1 => k_is)
    (case k1 => k_is)
    (case a2 => k_is)
    (case l2 => k_is)
    (case c2 => k_is)
    (case k2 => k_is)
    (case a3 => k_is)
    (case l3 => k_is)
    (case c3 => k_is)
    (case k3 => k_is)
    (case a4 => k_is)
    (case l4 => k_is)
    (case c4 => k_is)
    (case k4 => k_is)
    (case w4_0 => k_is)
    (case w4_1 => k_is)
    (case a5 => k_is)
    (case l5 => k_is)
    (case c5 => k_is)
    (case k5 => k_is)
    (case a6 => k_is)
    (case l6 => k_is)
    (case c6 => k_is)
    (case k6 => k_is)
    (case a7 => k_is)
    (case l7 => k_is)
    (case c7 => k_is)
    (case k7 => k_is)
    (case a8 => k_is)
    (case l8 => k_is)
    (case c8 => k_is)
    (case k8 => k_is)
    (case a9 => k_is)
    (case l9 => k_is)
    (case c9 => k_is)
    (case k9 => k_is)
    (case a10 => k_is)
    (case l10 => k_is)
    (case c10 => k_is)
    (case k10 => k_is)
    (case w10_0 => k_is)
    (case a11 => k_is)
    (case l11 => k_is)
    (case c11 => k_is)
    (case k11 => k_is)
    (case w11_0 => k_is)
    (case a12 => k_is)
    (case l12 => k_is)
    (case c12 => k_is)
    (case k12 => k_is)
    (case w12_0 => k_is)
    (case a13 => k_is)
    (case l13 => k_is)
    (case c13 => k_is)
    (case k13 => k_is)
    (case w13_0 => k_is)
    (case a14 => k_is)
    (case l14 => k_is)
    (case c14 => k_is)
    (case k14 => k_is)
    (case w14_0 => k_is)
    (case a15 => k_is)
    (case l15 => k_is)
    (case c15 => k_is)
    (case k15 => k_is)
    (case a16 => k_is)
    (case l16 => k_is)
    (case c16 => k_is)
    (case k16 => k_is)
    (case a17 => k_is)
    (case l17 => k_is)
    (case c17 => k_is)
    (case k17 => k_is)
    (case a18 => k_is)
    (case l18 => k_is)
    (case c18 => k_is)
    (case k18 => k_is)
    (case a19 => k_is)
    (case l19 => k_is)
    (case c19 => k_is)
    (case k19 => k_is)
    (case a20 => k_is)
    (case l20 => k_is)
    (case c20 => k_is)
    (case k20 => k_is)
    (case a21 => k_is)
    (case l21 => k_is)
    (case c21 => k_is)
    (case k21 => k_is)
    (case a22 => k_is)
    (case l22 => k_is)
    (case c22 => k_is)
    (case k22 => k_is)
    (case a23 => k_is)
    (case l23 => k_is)
    (case c23 => k_is)
    (case k23 => k_is)
    (case a24 => k_is)
    (case l24 => k_is)
    (case c24 => k_is)
    (case k24 => k_is)
    (case a25 => k_is)
    (case l25 => k_is)
    (case c25 => k_is)
    (case k25 => k_is)
    (case a26 => k_is)
    (case l26 => k_is)
    (case c26 => k_is)
    (case k26 => k_is)
    (case w26_0 => k_is)
    (case a27 => k_is)
    (case l27 => k_is)
    (case c27 => k_is)
    (case k27 => k_is)
    (case a28 => k_is)
    (case l28 => k_is)
    (case c28 => k_is)
    (case k28 => k_is)
    (case a29 => k_is)
    (case l29 => k_is)
    (case c29 => k_is)
    (case k29 => k_is)
    (case a30 => k_is)
    (case l30 => k_is)
    (case c30 => k_is)
    (case k30 => k_is)
    (case a31 => k_is)
    (case l31 => k_is)
    (case c31 => k_is)
    (case k31 => k_is)
    (case a32 => k_is)
    (case l32 => k_is)
    (case c32 => k_is)
    (case k32 => k_is)
    (case a33 => k_is)
    (case l33 => k_is)
    (case c33 => k_is)
    (case k33 => k_is)
    (case a34 => k_is)
    (case l34 => k_is)
    (case c34 => k_is)
    (case k34 => k_is)
    (case a35 => k_is)
    (case l35 => k_is)
    (case c35 => k_is)
    (case k35 => k_is)
    (case a36 => k_is)
    (case l36 => k_is)
    (case c36 => k_is)
    (case k36 => k_is)
    (case a37 => k_is)
    (case l37 => k_is)
    (case c37 => k_is)
    (case k37 => k_is)
    (case a38 => k_is)
    (case l38 => k_is)
    (case c38 => k_is)
    (case k38 => k_is)
    (case a39 => k_is)
    (case l39 => k_is)
    (case c39 => k_is)
    (case k39 => k_is)
    (case a40 => k_is)
    (case l40 => k_is)
    (case c40 => k_is)
    (case k40 => k_is)
    (case a41 => k_is)
    (case l41 => k_is)
    (case c41 => k_is)
    (case k41 => k_is)
    (case a42 => k_is)
    (case l42 => k_is)
    (case c42 => k_is)
    (case k42 => k_is)
    (case w42_0 => k_is)
    (case a43 => k_is)
    (case l43 => k_is)
    (case c43 => k_is)
    (case k43 => k_is)
    (case w43_0 => k_is)
    (case a44 => k_is)
    (case l44 => k_is)
    (case c44 => k_is)
    (case k44 => k_is)
    (case a45 => k_is)
    (case l45 => k_is)
    (case c45 => k_is)
    (case k45 => k_is)
    (case a46 => k_is)
    (case l46 => k_is)
    (case c46 => k_is)
    (case k46 => k_is)
    (case a47 => k_is)
    (case l47 => k_is)
    (case c47 => k_is)
    (case k47 => k_is)
    (case a48 => k_is)
    (case l48 => k_is)
    (case c48 => k_is)
    (case k48 => k_is)
    (case w48_0 => k_is)
    (case a49 => k_is)
    (case l49 => k_is)
    (case c49 => k_is)
    (case k49 => k_is)
    (case a50 => k_is)
    (case l50 => k_is)
    (case c50 => k_is)
    (case k50 => k_is)
    (case a51 => k_is)
    (case l51 => k_is)
    (case c51 => k_is)
    (case k51 => k_is)
    (case a52 => k_is)
    (case l52 => k_is)
    (case c52 => k_is)
    (case k52 => k_is)
    (case a53 => k_is)
    (case l53 => k_is)
    (case c53 => k_is)
    (case k53 => k_is)
    (case a54 => k_is)
    (case l54 => k_is)
    (case c54 => k_is)
    (case k54 => k_is)
    (case a55 => k_is)
    (case l55 => k_is)
    (case c55 => k_is)
    (case k55 => k_is)
    (case a56 => k_is)
    (case l56 => k_is)
    (case c56 => k_is)
    (case k56 => k_is)
    (case a57 => k_is)
    (case l57 => k_is)
    (case c57 => k_is)
    (case k57 => k_is)
    (case w57_0 => k_is)
    (case a58 => k_is)
    (case l58 => k_is)
    (case c58 => k_is)
    (case k58 => k_is)
    (case a59 => k_is)
    (case l59 => k_is)
    (case c59 => k_is)
    (case k59 => k_is)
    (case a60 => k_is)
    (case l60 => k_is)
    (case c60 => k_is)
    (case k60 => k_is)
    (case a61 => k_is)
    (case l61 => k_is)
    (case c61 => k_is)
    (case k61 => k_is)
    (case a62 => k_is)
    (case l62 => k_is)
    (case c62 => k_is)
    (case k62 => k_is)
    (case a63 => k_is)
    (case l63 => k_is)
    (case c63 => k_is)
    (case k63 => k_is)
    (case a64 => k_is)
    (case l64 => k_is)
    (case c64 => k_is)
    (case k64 => k_is)
    (case a65 => k_is)
    (case l65 => k_is)
    (case c65 => k_is)
    (case k65 => k_is)
    (case a66 => k_is)
    (case l66 => k_is)
    (case c66 => k_is)
    (case k66 => k_is)
    (case a67 => k_is)
    (case l67 => k_is)
    (case c67 => k_is)
    (case k67 => k_is)
    (case aC => k_is)
    (case pgC => k_is)
    (case hdC => k_is)
    (case poC => k_is)
    (case saC => k_is)
    (case mkC => k_is)
    (case kcC => k_is)
    (case naC0 => k_is)
    (case naC1 => k_is)
    (case aCD => k_is)
    (case pgCD => k_is)
    (case hdCD => k_is)
    (case poCD => k_is)
    (case saCD => k_is)
    (case mkCD => k_is)
    (case kcCD => k_is)
    (case naCD0 => k_is)
    (case naCD1 => k_is)
    (case naCD2 => k_is)
    (case naCD3 => k_is)
    (case naCD4 => k_is)
    (case naCD5 => k_is)
    (case naCD6 => k_is)
    (case naCD7 => k_is)
    (case naCD8 => k_is)
    (case naCD9 => k_is)
    (case a68 => k_is)
    (case i68 => k_is)
    (case l68 => k_is)
    (case c68 => k_is)
    (case k68 => k_is)
    (case a69 => k_is)
    (case i69 => k_is)
    (case l69 => k_is)
    (case c69 => k_is)
    (case k69 => k_is)
    (case a70 => k_is)
    (case i70 => k_is)
    (case l70 => k_is)
    (case c70 => k_is)
    (case k70 => k_is)
    (case a71 => k_is)
    (case i71 => k_is)
    (case l71 => k_is)
    (case c71 => k_is)
    (case k71 => k_is)
    (case a72 => k_is)
    (case i72 => k_is)
    (case l72 => k_is)
    (case c72 => k_is)
    (case k72 => k_is)
    (case a73 => k_is)
    (case i73 => k_is)
    (case l73 => k_is)
    (case c73 => k_is)
    (case k73 => k_is)
    (case a74 => k_is)
    (case i74 => k_is)
    (case l74 => k_is)
    (case c74 => k_is)
    (case k74 => k_is)
    (case t74 => k_is)
    (case a75 => k_is)
    (case i75 => k_is)
    (case l75 => k_is)
    (case c75 => k_is)
    (case k75 => k_is)
    (case t75 => k_is)
    (case a76 => k_is)
    (case i76 => k_is)
    (case l76 => k_is)
    (case c76 => k_is)
    (case k76 => k_is)
    (case t76 => k_is)
    (case a77 => k_is)
    (case i77 => k_is)
    (case l77 => k_is)
    (case c77 => k_is)
    (case k77 => k_is)
    (case a78 => k_is)
    (case i78 => k_is)
    (case l78 => k_is)
    (case c78 => k_is)
    (case k78 => k_is)
    (case a79 => k_is)
    (case i79 => k_is)
    (case l79 => k_is)
    (case c79 => k_is)
    (case k79 => k_is)
    (case a80 => k_is)
    (case i80 => k_is)
    (case l80 => k_is)
    (case c80 => k_is)
    (case k80 => k_is)
    (case w80_0 => k_is)
    (case w80_1 => k_is)
    (case a81 => k_is)
    (case i81 => k_is)
    (case l81 => k_is)
    (case c81 => k_is)
    (case k81 => k_is)
    (case a82 => k_is)
    (case i82 => k_is)
    (case l82 => k_is)
    (case c82 => k_is)
    (case k82 => k_is)
    (case a83 => k_is)
    (case i83 => k_is)
    (case l83 => k_is)
    (case c83 => k_is)
    (case k83 => k_is)
    (case a84 => k_is)
    (case i84 => k_is)
    (case l84 => k_is)
    (case c84 => k_is)
    (case k84 => k_is)
    (case a85 => k_is)
    (case i85 => k_is)
    (case l85 => k_is)
    (case c85 => k_is)
    (case k85 => k_is)
    (case a86 => k_is)
    (case i86 => k_is)
    (case l86 => k_is)
    (case c86 => k_is)
    (case k86 => k_is)
    (case a87 => k_is)
    (case i87 => k_is)
    (case l87 => k_is)
    (case c87 => k_is)
    (case k87 => k_is)
    (case a88 => k_is)
    (case i88 => k_is)
    (case l88 => k_is)
    (case c88 => k_is)
    (case k88 => k_is)
    (case a89 => k_is)
    (case i89 => k_is)
    (case l89 => k_is)
    (case c89 => k_is)
    (case k89 => k_is)
    (case z1 => k_is)
    (case z2 => k_is)
    (case z3 => k_is)
    (case z4 => k_is)
    (case z5 => k_is)
    (case z6 => k_is)
    (case z7 => k_is)
    (case z8 => k_is)
    (case z9 => k_is)
    (case z10 => k_is)
    (case z11 => k_is)
    (case z12 => k_is)
    (case z13 => k_is)
    (case z14 => k_is)
    (case z15 => k_is)
    (case z16 => k_is)
    (case z17 => k_is)
    (case gNEAR => k_is)
    (case gCUT => k_is)
    (case gUP => k_is)
    (case gDOWN => k_is)
    (case aO => k_is)
    (case lO => k_is)
    (case tO => exact ⟨⟨_, _, rfl, rfl⟩, ⟨_, _, rfl, rfl⟩, ⟨_, _, rfl, rfl⟩, ⟨_, _, rfl, rfl⟩, ⟨_, _, rfl, rfl⟩, trivial⟩)
    (case wO => rfl)
    (case oO_add => k_is)
    (case oO_take => k_is)
    (case oO_times => k_is)
    (case oO_over => k_is)
    (case oO_join => k_is)

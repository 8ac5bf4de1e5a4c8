import PyProof.Rows.All
import Wide.All
import OpenK.AllK
import Wide.FinOn
import HandS.ForMost
import HandS.Walk
import HandS.Zip
import HandS.WideBits
import HandS.IsInst
import OpenK.KEqL
import HandS.More
import HandS.Flow
import HandS.NoneIn
import HandS.Defaults
import HandS.Wide
import HandS.Style
import HandS.Star
import HandS.MakeKwOnly
import HandS.ExcIs
import KE.KExcInit
import KE.KExcIs
import KE.KTryMore
import HandS.Exc
import HandS.ExcInit
import HandS.WordsExc
import HandS.ExcValue
import HandS.ExcOwn
import HandS.IsInst
import HandS.ForSpec
import PyProof.ReprBulk
import PyProof.ReprRoads
import PySem.Challenge.RW_guessedzeros_k41_divisions_alike_and_ref
set_option Elab.async false
set_option linter.all false
set_option maxRecDepth 100000
set_option maxHeartbeats 40000000
namespace GZ
open PySem PySem.Spec PyProof.Rows L2
/-! ### the text by places -/
def topS (i : Nat) : Stmt := PySem.Challenge.pw_guessedzeros_k41_divisions_alike_and_ref.main.body.getD i (.Pass ⟨0, 0, 0, 0⟩)
abbrev s_worth_of : Stmt := topS 2
theorem sc_worth_of : FnScope ["digits", "worth", "digit"] ["digits"] (defScope s_worth_of) := ⟨rfl, rfl, rfl, by decide +kernel, rfl, by decide +kernel, by decide +kernel⟩
abbrev s_is_number : Stmt := topS 10
theorem sc_is_number : FnScope ["thing"] ["thing"] (defScope s_is_number) := ⟨rfl, rfl, rfl, by decide +kernel, rfl, by decide +kernel, by decide +kernel⟩
abbrev s_is_number_in : Stmt := topS 11
theorem sc_is_number_in : FnScope ["least", "greatest", "thing"] ["least", "greatest", "thing"] (defScope s_is_number_in) := ⟨rfl, rfl, rfl, by decide +kernel, rfl, by decide +kernel, by decide +kernel⟩
abbrev s_Form___init__ : Stmt := inClass (topS 13) 0
theorem sc_Form___init__ : FnScope ["self", "scale", "tail"] ["self", "scale", "tail"] (defScope s_Form___init__) := ⟨rfl, rfl, rfl, by decide +kernel, rfl, by decide +kernel, by decide +kernel⟩
abbrev s_Form_bias : Stmt := inClass (topS 13) 2
theorem sc_Form_bias : FnScope ["self"] ["self"] (defScope s_Form_bias) := ⟨rfl, rfl, rfl, by decide +kernel, rfl, by decide +kernel, by decide +kernel⟩
abbrev s_Form_top : Stmt := inClass (topS 13) 3
theorem sc_Form_top : FnScope ["self"] ["self"] (defScope s_Form_top) := ⟨rfl, rfl, rfl, by decide +kernel, rfl, by decide +kernel, by decide +kernel⟩
abbrev s_Form_parts : Stmt := inClass (topS 13) 4
theorem sc_Form_parts : FnScope ["self", "word", "sign", "scale", "tail"] ["self", "word"] (defScope s_Form_parts) := ⟨rfl, rfl, rfl, by decide +kernel, rfl, by decide +kernel, by decide +kernel⟩
abbrev s_Form_word_of : Stmt := inClass (topS 13) 5
theorem sc_Form_word_of : FnScope ["self", "sign", "scale", "tail"] ["self", "sign", "scale", "tail"] (defScope s_Form_word_of) := ⟨rfl, rfl, rfl, by decide +kernel, rfl, by decide +kernel, by decide +kernel⟩
abbrev s_Form_sort_of : Stmt := inClass (topS 13) 7
theorem sc_Form_sort_of : FnScope ["self", "word", "sign", "scale", "tail"] ["self", "word"] (defScope s_Form_sort_of) := ⟨rfl, rfl, rfl, by decide +kernel, rfl, by decide +kernel, by decide +kernel⟩
abbrev s_Form_nought : Stmt := inClass (topS 13) 8
theorem sc_Form_nought : FnScope ["self", "sign"] ["self", "sign"] (defScope s_Form_nought) := ⟨rfl, rfl, rfl, by decide +kernel, rfl, by decide +kernel, by decide +kernel⟩
abbrev s_Form_endless : Stmt := inClass (topS 13) 9
theorem sc_Form_endless : FnScope ["self", "sign"] ["self", "sign"] (defScope s_Form_endless) := ⟨rfl, rfl, rfl, by decide +kernel, rfl, by decide +kernel, by decide +kernel⟩
abbrev s_Form_greatest : Stmt := inClass (topS 13) 10
theorem sc_Form_greatest : FnScope ["self", "sign"] ["self", "sign"] (defScope s_Form_greatest) := ⟨rfl, rfl, rfl, by decide +kernel, rfl, by decide +kernel, by decide +kernel⟩
abbrev s_Form_none_word : Stmt := inClass (topS 13) 12
theorem sc_Form_none_word : FnScope ["self"] ["self"] (defScope s_Form_none_word) := ⟨rfl, rfl, rfl, by decide +kernel, rfl, by decide +kernel, by decide +kernel⟩
abbrev s_Form_worth : Stmt := inClass (topS 13) 14
theorem sc_Form_worth : FnScope ["self", "word", "sign", "scale", "tail", "number", "power"] ["self", "word"] (defScope s_Form_worth) := ⟨rfl, rfl, rfl, by decide +kernel, rfl, by decide +kernel, by decide +kernel⟩
abbrev s_cut_off : Stmt := topS 18
theorem sc_cut_off : FnScope ["number", "by", "kept"] ["number", "by"] (defScope s_cut_off) := ⟨rfl, rfl, rfl, by decide +kernel, rfl, by decide +kernel, by decide +kernel⟩
abbrev s_last_power : Stmt := topS 19
theorem sc_last_power : FnScope ["form", "number", "power"] ["form", "number", "power"] (defScope s_last_power) := ⟨rfl, rfl, rfl, by decide +kernel, rfl, by decide +kernel, by decide +kernel⟩
abbrev s_least_power : Stmt := topS 20
theorem sc_least_power : FnScope ["form"] ["form"] (defScope s_least_power) := ⟨rfl, rfl, rfl, by decide +kernel, rfl, by decide +kernel, by decide +kernel⟩
abbrev s_rounded : Stmt := topS 21
theorem sc_rounded : FnScope ["form", "sign", "number", "power", "way", "more", "last", "many", "rest", "size"] ["form", "sign", "number", "power", "way", "more"] (defScope s_rounded) := ⟨rfl, rfl, rfl, by decide +kernel, rfl, by decide +kernel, by decide +kernel⟩
abbrev s_parted : Stmt := topS 22
theorem sc_parted : FnScope ["number", "by", "more", "halves", "below"] ["number", "by", "more"] (defScope s_parted) := ⟨rfl, rfl, rfl, by decide +kernel, rfl, by decide +kernel, by decide +kernel⟩
abbrev s_goes_up : Stmt := topS 23
theorem sc_goes_up : FnScope ["way", "sign", "many", "rest"] ["way", "sign", "many", "rest"] (defScope s_goes_up) := ⟨rfl, rfl, rfl, by decide +kernel, rfl, by decide +kernel, by decide +kernel⟩
abbrev s_goes_away : Stmt := topS 24
theorem sc_goes_away : FnScope ["way", "sign"] ["way", "sign"] (defScope s_goes_away) := ⟨rfl, rfl, rfl, by decide +kernel, rfl, by decide +kernel, by decide +kernel⟩
abbrev s_word_beyond : Stmt := topS 25
theorem sc_word_beyond : FnScope ["form", "sign", "way"] ["form", "sign", "way"] (defScope s_word_beyond) := ⟨rfl, rfl, rfl, by decide +kernel, rfl, by decide +kernel, by decide +kernel⟩
abbrev s_flags_of_rest : Stmt := topS 26
theorem sc_flags_of_rest : FnScope ["form", "number", "power", "rest"] ["form", "number", "power", "rest"] (defScope s_flags_of_rest) := ⟨rfl, rfl, rfl, by decide +kernel, rfl, by decide +kernel, by decide +kernel⟩
abbrev s_divided : Stmt := topS 28
theorem sc_divided : FnScope ["form", "a", "b", "way", "one", "other", "sign"] ["form", "a", "b", "way"] (defScope s_divided) := ⟨rfl, rfl, rfl, by decide +kernel, rfl, by decide +kernel, by decide +kernel⟩
abbrev s_has_none : Stmt := topS 29
theorem sc_has_none : FnScope ["form", "words", "word"] ["form", "words"] (defScope s_has_none) := ⟨rfl, rfl, rfl, by decide +kernel, rfl, by decide +kernel, by decide +kernel⟩
abbrev s_bad : Stmt := topS 30
theorem sc_bad : FnScope ["form"] ["form"] (defScope s_bad) := ⟨rfl, rfl, rfl, by decide +kernel, rfl, by decide +kernel, by decide +kernel⟩
abbrev s_sign_of : Stmt := topS 31
theorem sc_sign_of : FnScope ["form", "word"] ["form", "word"] (defScope s_sign_of) := ⟨rfl, rfl, rfl, by decide +kernel, rfl, by decide +kernel, by decide +kernel⟩
abbrev s_unlike_sign : Stmt := topS 32
theorem sc_unlike_sign : FnScope ["form", "a", "b"] ["form", "a", "b"] (defScope s_unlike_sign) := ⟨rfl, rfl, rfl, by decide +kernel, rfl, by decide +kernel, by decide +kernel⟩
abbrev s_quotient_rounded : Stmt := topS 33
theorem sc_quotient_rounded : FnScope ["form", "sign", "one", "other", "way", "number", "power", "divisor", "divisor_power", "by", "quotient", "rest"] ["form", "sign", "one", "other", "way"] (defScope s_quotient_rounded) := ⟨rfl, rfl, rfl, by decide +kernel, rfl, by decide +kernel, by decide +kernel⟩
abbrev s_have_heads : Stmt := topS 35
theorem sc_have_heads : FnScope ["form", "words", "word"] ["form", "words"] (defScope s_have_heads) := ⟨rfl, rfl, rfl, by decide +kernel, rfl, by decide +kernel, by decide +kernel⟩
abbrev s_head_of : Stmt := topS 36
theorem sc_head_of : FnScope ["form", "word", "number", "power"] ["form", "word"] (defScope s_head_of) := ⟨rfl, rfl, rfl, by decide +kernel, rfl, by decide +kernel, by decide +kernel⟩
abbrev s_Divider___init__ : Stmt := inClass (topS 38) 0
theorem sc_Divider___init__ : FnScope ["self", "form", "a", "b", "way", "signed"] ["self", "form", "a", "b", "way", "signed"] (defScope s_Divider___init__) := ⟨rfl, rfl, rfl, by decide +kernel, rfl, by decide +kernel, by decide +kernel⟩
abbrev s_Divider_begin : Stmt := inClass (topS 38) 1
theorem sc_Divider_begin : FnScope ["self", "power", "other_power"] ["self"] (defScope s_Divider_begin) := ⟨rfl, rfl, rfl, by decide +kernel, rfl, by decide +kernel, by decide +kernel⟩
abbrev s_Divider_step : Stmt := inClass (topS 38) 2
theorem sc_Divider_step : FnScope ["self", "rest", "digit"] ["self"] (defScope s_Divider_step) := ⟨rfl, rfl, rfl, by decide +kernel, rfl, by decide +kernel, by decide +kernel⟩
abbrev s_Divider_digit_by : Stmt := inClass (topS 38) 3
theorem sc_Divider_digit_by : FnScope ["self", "rest", "bound"] ["self", "rest"] (defScope s_Divider_digit_by) := ⟨rfl, rfl, rfl, by decide +kernel, rfl, by decide +kernel, by decide +kernel⟩
abbrev s_Divider_digits : Stmt := inClass (topS 38) 4
theorem sc_Divider_digits : FnScope ["self"] ["self"] (defScope s_Divider_digits) := ⟨rfl, rfl, rfl, by decide +kernel, rfl, by decide +kernel, by decide +kernel⟩
abbrev s_Divider_quotient : Stmt := inClass (topS 38) 5
theorem sc_Divider_quotient : FnScope ["self"] ["self"] (defScope s_Divider_quotient) := ⟨rfl, rfl, rfl, by decide +kernel, rfl, by decide +kernel, by decide +kernel⟩
abbrev s_Divider_rest : Stmt := inClass (topS 38) 6
theorem sc_Divider_rest : FnScope ["self"] ["self"] (defScope s_Divider_rest) := ⟨rfl, rfl, rfl, by decide +kernel, rfl, by decide +kernel, by decide +kernel⟩
abbrev s_Divider_divisor : Stmt := inClass (topS 38) 7
theorem sc_Divider_divisor : FnScope ["self"] ["self"] (defScope s_Divider_divisor) := ⟨rfl, rfl, rfl, by decide +kernel, rfl, by decide +kernel, by decide +kernel⟩
abbrev s_Divider_left : Stmt := inClass (topS 38) 8
theorem sc_Divider_left : FnScope ["self"] ["self"] (defScope s_Divider_left) := ⟨rfl, rfl, rfl, by decide +kernel, rfl, by decide +kernel, by decide +kernel⟩
abbrev s_Divider_outcome : Stmt := inClass (topS 38) 9
theorem sc_Divider_outcome : FnScope ["self", "quotient", "more", "sign"] ["self"] (defScope s_Divider_outcome) := ⟨rfl, rfl, rfl, by decide +kernel, rfl, by decide +kernel, by decide +kernel⟩
abbrev s_Divider_like : Stmt := inClass (topS 38) 10
theorem sc_Divider_like : FnScope ["self", "twin"] ["self"] (defScope s_Divider_like) := ⟨rfl, rfl, rfl, by decide +kernel, rfl, by decide +kernel, by decide +kernel⟩
abbrev s_full_head : Stmt := topS 39
theorem sc_full_head : FnScope ["form", "word", "head", "power", "by"] ["form", "word"] (defScope s_full_head) := ⟨rfl, rfl, rfl, by decide +kernel, rfl, by decide +kernel, by decide +kernel⟩
abbrev sBox : Stmt := topS 41
abbrev sTake : Stmt := topS 42
abbrev sFolded : Stmt := topS 43
abbrev sSame : Stmt := topS 44
abbrev s__law_form : Stmt := topS 45
theorem sc__law_form : FnScope ["_law_box_here", "_law_some"] ["_law_box_here"] (defScope s__law_form) := ⟨rfl, rfl, rfl, by decide +kernel, rfl, by decide +kernel, by decide +kernel⟩
abbrev s__law_word : Stmt := topS 46
theorem sc__law_word : FnScope ["_law_box_here", "_law_scale", "_law_tail", "_law_top", "_law_some", "_law_mode", "_law_word_here"] ["_law_box_here", "_law_scale", "_law_tail"] (defScope s__law_word) := ⟨rfl, rfl, rfl, by decide +kernel, rfl, by decide +kernel, by decide +kernel⟩
abbrev s__law_begun : Stmt := topS 47
theorem sc__law_begun : FnScope ["_law_form_here", "_law_a", "_law_b", "_law_mode", "_law_by_signs", "_law_how"] ["_law_form_here", "_law_a", "_law_b", "_law_mode", "_law_by_signs", "_law_how"] (defScope s__law_begun) := ⟨rfl, rfl, rfl, by decide +kernel, rfl, by decide +kernel, by decide +kernel⟩
abbrev s__law_refused : Stmt := topS 48
theorem sc__law_refused : FnScope ["_law_divider", "_law_which", "_law_found", "_law_caught", "error"] ["_law_divider", "_law_which"] (defScope s__law_refused) := ⟨rfl, rfl, rfl, by decide +kernel, rfl, by decide +kernel, by decide +kernel⟩
abbrev s__law_state : Stmt := topS 49
theorem sc__law_state : FnScope ["_law_divider", "_law_told"] ["_law_divider"] (defScope s__law_state) := ⟨rfl, rfl, rfl, by decide +kernel, rfl, by decide +kernel, by decide +kernel⟩
abbrev s__law_go : Stmt := topS 50
theorem sc__law_go : FnScope ["_law_box_here", "_law_divider", "_law_ahead", "_law_found", "_law_digit", "_law_which"] ["_law_box_here", "_law_divider"] (defScope s__law_go) := ⟨rfl, rfl, rfl, by decide +kernel, rfl, by decide +kernel, by decide +kernel⟩
abbrev s__law_right : Stmt := topS 51
theorem sc__law_right : FnScope ["_law_box_here", "_law_scale", "_law_tail", "_law_form_here", "_law_words", "_law_mode", "_law_by_signs", "_law_one", "_law_other", "_law_third", "_law_turn", "_law_copy", "_law_kept", "_law_ahead", "_law_held", "_law_divider"] ["_law_box_here"] (defScope s__law_right) := ⟨rfl, rfl, rfl, by decide +kernel, rfl, by decide +kernel, by decide +kernel⟩
abbrev s_law : Stmt := topS 52
theorem sc_law : FnScope ["_law_script", "_law_cells", "_law_k"] ["_law_script"] (defScope s_law) := ⟨rfl, rfl, rfl, by decide +kernel, rfl, by decide +kernel, by decide +kernel⟩
/-! ### built-in names that the text leaves alone -/
structure Bl (mg : Str → Option Value) : Prop where
  len : mg "len" = none
  abs : mg "abs" = none
  int : mg "int" = none
  divmod : mg "divmod" = none
  list : mg "list" = none
  enumerate : mg "enumerate" = none
  isinstance : mg "isinstance" = none
  tuple : mg "tuple" = none
  str : mg "str" = none
  bool : mg "bool" = none
  zip : mg "zip" = none
  all : mg "all" = none
  range : mg "range" = none
  max : mg "max" = none
  any : mg "any" = none
  min : mg "min" = none
  sum : mg "sum" = none
/-! ### rules with the written part told (for the blocks of comprehensions) -/
section
variable {X : Cx} {K : PySem.W.Frag}
theorem call_len_seqK (h : X.K = K := by rfl) : CallR X (.builtin "len") (fun xs H Q => ∃ p ys, xs = [.ref p] ∧ (SqL K H p ys ∨ SqT K H p ys) ∧ Q (.int ys.length) H) := by subst h; exact call_len_seq
theorem call_list_ofK (h : X.K = K := by rfl) : CallR X (.type "list") (fun xs H Q => ∃ p ys, xs = [.ref p] ∧ (SqL K H p ys ∨ SqT K H p ys) ∧ ∀ l, H l = none → Q (.ref l) (upd H l (.lst ys))) := by subst h; exact call_list_of
theorem call_tuple_ofK (h : X.K = K := by rfl) : CallR X (.type "tuple") (fun xs H Q => ∃ p ys, xs = [.ref p] ∧ ((SqL K H p ys ∧ ∀ l, H l = none → Q (.ref l) (upd H l (.tup ys))) ∨ (SqT K H p ys ∧ Q (.ref p) H))) := by subst h; exact call_tuple_of
theorem ix_listK (h : X.K = K := by rfl) : IxR X (rIxL K) := by subst h; exact ix_list
theorem ix_tupK (h : X.K = K := by rfl) : IxR X (rIxT K) := by subst h; exact ix_tup
theorem ix_seqK (h : X.K = K := by rfl) : IxR X (rIx K) := by subst h; exact ix_seq
theorem op_in_seqK (h : X.K = K := by rfl) : OpR X (compareOp .In) (rIn K false) := by subst h; exact op_in_seq
theorem op_notIn_seqK (h : X.K = K := by rfl) : OpR X (compareOp .NotIn) (rIn K true) := by subst h; exact op_notIn_seq
theorem sl_listK (h : X.K = K := by rfl) : SlR X (rSlL K) := by subst h; exact sl_list
theorem cr_sumK (hc : X.calm = true) (h : X.K = K := by rfl) : CallR X (.builtin "sum") (rSum K) := by subst h; exact cr_sum hc
theorem cr_allK (hc : X.calm = true) (h : X.K = K := by rfl) : CallR X (.builtin "all") (rAll K) := by subst h; exact cr_all hc
theorem cr_anyK (hc : X.calm = true) (h : X.K = K := by rfl) : CallR X (.builtin "any") (rAny K) := by subst h; exact cr_any hc
theorem call_isiK' (h : X.K = K := by rfl) : CallR X (.builtin "isinstance") (rIsi K) := by subst h; exact call_isi
theorem pi_listK {tg l : Expr} {tl : TE} (hl : PE X l tl) (h : X.K = K := by rfl) : PI X tg l (iList K tl) := by subst h; exact pi_list hl
theorem pi_tupK {tg l : Expr} {tl : TE} (hl : PE X l tl) (h : X.K = K := by rfl) : PI X tg l (iTup K tl) := by subst h; exact pi_tup hl
theorem pe_fldK {e : Expr} {ta : TE} {f : Str} {pos : Pos} (he : PE X e ta) (hb : attributeBase e f X.env (eval e X.env) = eval e X.env) (h : X.K = K := by rfl) : PE X (.Attribute e f pos) (tFld K ta f) := by subst h; exact pe_fld he hb
end
/-! ### heaps -/
theorem same_upd {H : Hp} {p : Addr} {o : HO} (h : H p = none) : Same H (upd H p o) := fun b x e => by
  rw [upd_ne (ne_of_none e h)]
  exact e
/-- all but what stands at b is as it was -/
def Keep (b : Addr) (H H' : Hp) : Prop := ∀ p o, H p = some o → p ≠ b → H' p = some o
theorem Keep.refl (b : Addr) (H : Hp) : Keep b H H := fun _ _ h _ => h
theorem Keep.trans {b : Addr} {H H1 H2 : Hp} (x : Keep b H H1) (y : Keep b H1 H2) : Keep b H H2 := fun p o h n => y p o (x p o h n) n
theorem Keep.ofSame {b : Addr} {H H1 : Hp} (x : Same H H1) : Keep b H H1 := fun p o h _ => x p o h
theorem Keep.upd {b : Addr} {H : Hp} {o : HO} : Keep b H (upd H b o) := fun p x h n => by
  rw [upd_ne n]
  exact h
theorem Keep.new {b p : Addr} {H : Hp} {o : HO} (h : H p = none) : Keep b H (L2.upd H p o) := .ofSame (same_upd h)
theorem Keep.seq {K : PySem.W.Frag} {b a : Addr} {H H' : Hp} {xs : List V} (e : Keep b H H') (n : a ≠ b) (h : SqL K H a xs) : SqL K H' a xs := by
  rcases h with (h | ⟨o, h⟩) | h
  · exact .inl (.inl (e _ _ h n))
  · exact .inl (.inr ⟨o, e _ _ h n⟩)
  · exact .inr h
theorem Keep.seqT {K : PySem.W.Frag} {b a : Addr} {H H' : Hp} {xs : List V} (e : Keep b H H') (n : a ≠ b) (h : SqT K H a xs) : SqT K H' a xs := by
  rcases h with (h | ⟨o, h⟩) | h
  · exact .inl (.inl (e _ _ h n))
  · exact .inl (.inr ⟨o, e _ _ h n⟩)
  · exact .inr h
theorem Same.seqT {K : PySem.W.Frag} {a : Addr} {H H' : Hp} {xs : List V} (e : Same H H') (h : SqT K H a xs) : SqT K H' a xs := by
  rcases h with (h | ⟨o, h⟩) | h
  · exact .inl (.inl (e _ _ h))
  · exact .inl (.inr ⟨o, e _ _ h⟩)
  · exact .inr h
/-- a drawing box: three ints, the last at most c -/
def BoxAt (c : Int) (H : Hp) (b : Addr) : Prop := ∃ x0 x1 x2 : Int, H b = some (.lst [.int x0, .int x1, .int x2]) ∧ 0 ≤ x0 ∧ 0 ≤ x1 ∧ x1 < 2147483647 ∧ 0 ≤ x2 ∧ x2 ≤ c
theorem BoxAt.mono {c d : Int} {H : Hp} {b : Addr} (h : BoxAt c H b) (l : c ≤ d) : BoxAt d H b := by
  obtain ⟨x0, x1, x2, e, a1, a2, a3, a4, a5⟩ := h
  exact ⟨x0, x1, x2, e, a1, a2, a3, a4, by omega⟩
theorem BoxAt.same {c : Int} {H H' : Hp} {b : Addr} (h : BoxAt c H b) (s : Same H H') : BoxAt c H' b := by
  obtain ⟨x0, x1, x2, e, r⟩ := h
  exact ⟨x0, x1, x2, s _ _ e, r⟩
theorem BoxAt.at {c : Int} {H H' : Hp} {b : Addr} (h : BoxAt c H b) (s : H' b = H b) : BoxAt c H' b := by
  obtain ⟨x0, x1, x2, e, r⟩ := h
  exact ⟨x0, x1, x2, by rw [s]; exact e, r⟩
theorem BoxAt.ne {c : Int} {H : Hp} {b p : Addr} (h : BoxAt c H b) (n : H p = none) : b ≠ p := by
  obtain ⟨x0, x1, x2, e, r⟩ := h
  exact ne_of_none e n
theorem e7 : (10 : Int) ^ ((7 : Int).toNat) = 10000000 := by decide
theorem e18 : (10 : Int) ^ ((18 : Int).toNat) = 1000000000000000000 := by decide
theorem divp_small {i j : Int} (h0 : 0 < j) (h1 : j < 2 ^ 250) : CDivP i j := by
  refine ⟨h0, ?_⟩
  show (decide ((if j == 0 then 0 else j.natAbs.log2 / 30 + 1) > 300) && _) = false
  rw [if_neg (show ¬ (j == 0) = true by simpa using (show j ≠ 0 by omega))]
  have hl : j.natAbs.log2 < 250 := PySem.Flt.log2_lt_of (by decide) (by omega)
  rw [decide_eq_false (show ¬ (j.natAbs.log2 / 30 + 1 > 300) by omega), Bool.false_and]
section
variable {P : Program} {w : World} {K : PySem.W.Frag} {mg : Str → Option Value} {base : Heap}
/-! ### _law_take -/
theorem scTake : FnScope ["_law_box_here", "_law_size", "_law_found", "_law_step", "_law_once", "_law_twice"] ["_law_box_here", "_law_size"] (defScope sTake) := ⟨rfl, rfl, rfl, by decide +kernel, rfl, by decide +kernel, by decide +kernel⟩
def spTake (k : Nat) : Sp := fun vs H Q _ => ∃ (b : Addr) (n c : Int), vs = [.ref b, .int n] ∧ BoxAt c H b ∧ 1 ≤ n ∧ n ≤ 10000000 ^ k ∧ n < 2 ^ 250 ∧ c + 2 ^ k ≤ 1000000000 ∧ 0 < k ∧
  ∀ (r : Int) (H' : Hp), 0 ≤ r → r < n → BoxAt (c + 2 ^ (k - 1)) H' b → Keep b H H' → Q (.int r) H'
theorem take_none {f : Addr} {fd : FuncData} : FnOk P w K mg base CX0 0 f fd ["_law_box_here", "_law_size"] (spTake 0) := by
  have no : ∀ vs H Q E, ¬ spTake 0 vs H Q E := fun vs H Q E h => by
    obtain ⟨b, n, c, _, _, _, _, _, _, h0, _⟩ := h
    omega
  exact ⟨fun vs H Q E h => absurd h (no vs H Q E), fun A outer s H args us vs Q E _ _ _ _ h => absurd h (no vs H Q E)⟩
theorem ok_take1 {f : Addr} {fd : FuncData} {k : Nat} (F : Fun K "_law_take" "_law_take" sTake f fd) (G : FnOk P w K mg base CX0 k f fd ["_law_box_here", "_law_size"] (spTake k)) (bf : Binds K fd ["_law_box_here", "_law_size"] []) (mf : mg "_law_take" = some (.ref f)) (B : Bl mg) :
    FnOk P w K mg base CX0 (k + 1) f fd ["_law_box_here", "_law_size"] (spTake (k + 1)) := by
  refine F.ok scTake (fun vs H Q E h => ?_) (fun cdv A outer s H vs Q E hr h => ?_)
  · obtain ⟨b, n, c, rfl, _⟩ := h
    rfl
  obtain ⟨b, n, c, rfl, hB, hn1, hnk, hn60, hc, _, q⟩ := h
  obtain ⟨x0, x1, x2, hb, h0, h1, h1', h2, h2'⟩ := hB
  have hp : (0 : Int) < 2 ^ k := Int.pow_pos (by decide)
  have hk2 : (2 : Int) ^ (k + 1) = 2 ^ k * 2 := Int.pow_succ 2 k
  refine ⟨_, pss_cons (ps_if (pt_cmpR op_gt (pe_ix ix_list (pv 0) pe_int (fun _ _ => rfl)) pe_int (nomark _))
      (pss_cons (ps_asg (pe_callB call_divmodW (by rfl) B.divmod boot_divmod (pa_cons (pe_ix ix_list (pv 0) pe_int (fun _ _ => rfl)) (pa_cons (pv 1) pa_nil)))
          (pg_tup (by rfl) (pgs_cons (pg_sub (pv 0) pe_int set_list) (pgs_cons (pg_name (i := 2) scTake.nd rfl (.inl rfl)) pgs_nil))))
        (pss_one (ps_ret (pv 2)))) pss_nil)
    (pss_cons (ps_if (pt_cmpR op_gt (pv 1) (pe_op op_pow pe_int pe_int) (nomark _))
      (pss_one (ps_ret (pe_op op_mod (pe_op op_add (pe_call G hr (by rfl) mf F.kp bf .nil pass0 (pa_cons (pv 0) (pa_cons (pe_op op_pow pe_int pe_int) pa_nil)))
          (pe_op op_mul (pe_op op_pow pe_int pe_int) (pe_call G hr (by rfl) mf F.kp bf .nil pass0 (pa_cons (pv 0) (pa_cons (pe_op op_add (pe_op op_fdiv (pe_op op_sub (pv 1) pe_int) (pe_op op_pow pe_int pe_int)) pe_int) pa_nil))))) (pv 1)))) pss_nil)
    (pss_cons (ps_asg (pe_op op_add (pe_ix ix_list (pv 0) pe_int (fun _ _ => rfl)) pe_int) (pg_sub (pv 0) pe_int set_list))
    (pss_cons (ps_set (i := 3) scTake.nd rfl (.inl rfl) (pe_op op_add pe_int (pe_op op_mul (pe_ix ix_list (pv 0) pe_int (fun _ _ => rfl)) (pe_ix ix_list (pv 0) pe_int (fun _ _ => rfl)))))
    (pss_cons (ps_set (i := 4) scTake.nd rfl (.inl rfl) (pe_op op_mod (pe_op op_mul (pe_op op_add (pe_ix ix_list (pv 0) pe_int (fun _ _ => rfl)) (pe_op op_mul pe_int (pe_ix ix_list (pv 0) pe_int (fun _ _ => rfl)))) (pv 3)) pe_int))
    (pss_cons (ps_set (i := 5) scTake.nd rfl (.inl rfl) (pe_op op_mod (pe_op op_add (pe_op op_mul (pv 4) (pe_op op_add (pe_op op_mod (pv 4) pe_int) pe_int)) (pe_ix ix_list (pv 0) pe_int (fun _ _ => rfl))) pe_int))
    (pss_one (ps_ret (pe_op op_mod (pe_op op_fdiv (pe_op op_mod (pe_op op_mul (pv 5) (pe_op op_add (pe_op op_mod (pv 5) pe_int) pe_int)) pe_int) pe_int) (pv 1))))))))), ?_⟩
  refine ⟨_, rfl, b, _, _, _, rfl, rfl, SqL.of hb, rfl, _, _, rfl, rfl, _, rfl, ite2 (fun cc => ?_) (fun cc => ?_)⟩
  · -- the great number's own digits
    refine ⟨_, rfl, b, _, _, _, rfl, rfl, SqL.of hb, rfl, _, rfl, _, _, rfl, divp_small (by omega) (by omega), fun p np => ?_⟩
    have nbp : b ≠ p := ne_of_none hb np
    refine ⟨p, _, rfl, .inl (.inl upd_same), rfl, _, _, rfl, _, rfl, b, _, _, 0, rfl, rfl, (by rw [upd_ne nbp]; exact hb), rfl, _, _, rfl, rfl, _, rfl, ?_⟩
    refine q _ _ (Int.emod_nonneg _ (by omega)) (Int.emod_lt_of_pos _ (by omega)) ⟨x0 / n, x1, x2, upd_same, Int.ediv_nonneg h0 (by omega), h1, h1', h2, by show x2 ≤ c + 2 ^ k; omega⟩ ?_
    exact Keep.trans (Keep.new np) Keep.upd
  · refine ⟨_, rfl, _, _, rfl, rfl, ⟨by decide, by decide, by decide⟩, _, _, rfl, rfl, _, rfl, ite2 (fun c2 => ?_) (fun c2 => ?_)⟩
    · -- two lesser draws
      have c3 : (10 : Int) ^ ((7 : Int).toNat) < n := of_decide_eq_true c2
      rw [e7] at c3
      have hk : 0 < k := by
        rcases Nat.eq_zero_or_pos k with z | z
        · subst z
          rw [show (10000000 : Int) ^ (0 + 1) = 10000000 by decide] at hnk
          omega
        · exact z
      obtain ⟨j, rfl⟩ : ∃ j, k = j + 1 := ⟨k - 1, by omega⟩
      have hj2 : (2 : Int) ^ (j + 1) = 2 ^ j * 2 := Int.pow_succ 2 j
      have hjp : (0 : Int) < 2 ^ j := Int.pow_pos (by decide)
      have h10 : (10000000 : Int) ≤ 10000000 ^ (j + 1) := by
        rw [Int.pow_succ]
        have : (0 : Int) < 10000000 ^ j := Int.pow_pos (by decide)
        omega
      have hdiv : (n - 1) / 10000000 + 1 ≤ 10000000 ^ (j + 1) := by
        rw [Int.pow_succ] at hnk
        have : n - 1 < 10000000 ^ (j + 1) * 10000000 := by omega
        have := Int.ediv_lt_of_lt_mul (by decide) this
        omega
      refine ⟨_, rfl, _, _, rfl, rfl, ⟨by decide, by decide, by decide⟩, b, _, c, rfl, ⟨x0, x1, x2, hb, h0, h1, h1', h2, h2'⟩, (by rw [e7]; decide), (by rw [e7]; exact h10), (by rw [e7]; decide), by omega, by omega, fun r1 H1 a1 a2 B1 k1 => ?_⟩
      refine ⟨_, _, rfl, rfl, ⟨by decide, by decide, by decide⟩, _, rfl, _, rfl, _, _, rfl, rfl, _, _, rfl, rfl, ⟨by decide, by decide, by decide⟩, _, _, rfl, rfl, (by rw [e7]; exact ⟨by decide, by decide⟩), _, _, rfl, rfl, ?_⟩
      rw [e7]
      refine ⟨b, _, c + 2 ^ j, rfl, B1, by omega, hdiv, by omega, by omega, by omega, fun r2 H2 a3 a4 B2 k2 => ?_⟩
      refine ⟨_, _, rfl, rfl, .inl ⟨by decide, by decide⟩, _, _, rfl, rfl, _, rfl, _, _, rfl, rfl, (by show (0 : Int) < n; omega), ?_⟩
      refine q _ _ (Int.emod_nonneg _ (by omega)) (Int.emod_lt_of_pos _ (by omega)) (B2.mono ?_) (k1.trans k2)
      show c + 2 ^ j + 2 ^ j ≤ c + 2 ^ (j + 1)
      omega
    · -- a turn of the wheel
      refine ⟨_, rfl, b, _, _, _, rfl, rfl, SqL.of hb, rfl, _, _, rfl, rfl, _, rfl, b, _, _, 2, rfl, rfl, hb, rfl, ?_⟩
      have hb2 : (upd H b (.lst [.int x0, .int x1, .int (x2 + 1)])) b = some (.lst [.int x0, .int x1, .int (x2 + 1)]) := upd_same
      refine ⟨_, rfl, b, _, _, _, rfl, rfl, SqL.of hb2, rfl, _, rfl, b, _, _, _, rfl, rfl, SqL.of hb2, rfl, _, _, rfl, rfl, .inl ⟨by omega, by omega⟩, _, _, rfl, rfl, ?_⟩
      refine ⟨_, rfl, b, _, _, _, rfl, rfl, SqL.of hb2, rfl, _, rfl, b, _, _, _, rfl, rfl, SqL.of hb2, rfl, _, _, rfl, rfl, .inl ⟨by omega, by omega⟩, _, _, rfl, rfl, _, rfl, _, _, rfl, rfl, .inl ⟨by omega, by omega⟩, _, _, rfl, rfl, (by show (0 : Int) < 2147483587; decide), ?_⟩
      generalize (x1 + 39373 * (x2 + 1)) * (69621 + (x2 + 1) * (x2 + 1)) = y
      have y1 := Int.emod_nonneg y (show (2147483587 : Int) ≠ 0 by decide)
      have y2 := Int.emod_lt_of_pos y (show (0 : Int) < 2147483587 by decide)
      refine ⟨_, rfl, _, rfl, _, _, rfl, rfl, (by show (0 : Int) < 30011; decide), _, _, rfl, rfl, _, _, rfl, rfl, .inl ⟨by omega, by omega⟩, _, rfl, b, _, _, _, rfl, rfl, SqL.of hb2, rfl, _, _, rfl, rfl, _, _, rfl, rfl, (by show (0 : Int) < 2147483563; decide), ?_⟩
      generalize (y % 2147483587 * (y % 2147483587 % 30011 + 5) + (x2 + 1)) = z
      have z1 := Int.emod_nonneg z (show (2147483563 : Int) ≠ 0 by decide)
      have z2 := Int.emod_lt_of_pos z (show (0 : Int) < 2147483563 by decide)
      refine ⟨_, rfl, _, rfl, _, _, rfl, rfl, (by show (0 : Int) < 1013; decide), _, _, rfl, rfl, _, _, rfl, rfl, .inl ⟨by omega, by omega⟩, _, _, rfl, rfl, (by show (0 : Int) < 998244353; decide), _, _, rfl, rfl, ⟨by decide, by decide⟩, _, rfl, _, _, rfl, rfl, (by show (0 : Int) < n; omega), ?_⟩
      refine q _ _ (Int.emod_nonneg _ (by omega)) (Int.emod_lt_of_pos _ (by omega)) ⟨x0, x1, x2 + 1, hb2, h0, h1, h1', by omega, by show x2 + 1 ≤ c + 2 ^ k; omega⟩ Keep.upd
theorem ok_take {f : Addr} {fd : FuncData} (F : Fun K "_law_take" "_law_take" sTake f fd) (bf : Binds K fd ["_law_box_here", "_law_size"] []) (mf : mg "_law_take" = some (.ref f)) (B : Bl mg) : ∀ k : Nat, FnOk P w K mg base CX0 k f fd ["_law_box_here", "_law_size"] (spTake k)
  | 0 => take_none
  | k + 1 => ok_take1 F (ok_take F bf mf B k) bf mf B
/-! ### _law_box -/
theorem scBox : FnScope ["_law_script", "_law_k", "_law_cell"] ["_law_script", "_law_k"] (defScope sBox) := ⟨rfl, rfl, rfl, by decide +kernel, rfl, by decide +kernel, by decide +kernel⟩
def spBox (K : PySem.W.Frag) : Sp := fun vs H Q _ => ∃ (a : Addr) (zs : List Int) (k : Int), vs = [.ref a, .int k] ∧ SqL K H a (zs.map V.int) ∧ 0 ≤ k ∧ k ≤ 1000 ∧
  ∀ (p : Addr) (H' : Hp), H p = none → Same H H' → BoxAt 0 H' p → Q (.ref p) H'
theorem b01 (b : Bool) : (-(2 ^ 64) < (if b = true then (1 : Int) else 0)) ∧ (if b = true then (1 : Int) else 0) < 2 ^ 64 := by cases b <;> decide
theorem b01n (b : Bool) : 0 ≤ (if b = true then (1 : Int) else 0) := by cases b <;> decide
theorem abs_nn (i : Int) : 0 ≤ (if i < 0 then -i else i) := by
  split <;> omega
theorem at_int {zs : List Int} {k : Int} (h0 : 0 ≤ k) (h : k < (zs.length : Int)) : ∃ v : Int, atI (zs.map V.int) k = some (.int v) ∧ zs[k.toNat]? = some v := by
  have hk : k.toNat < zs.length := by omega
  have ek : k = ((k.toNat : Nat) : Int) := by omega
  have q : atI (zs.map V.int) ((k.toNat : Nat) : Int) = some (.int zs[k.toNat]) := atI_nat (by rw [List.getElem?_map, List.getElem?_eq_getElem hk] <;> rfl)
  rw [← ek] at q
  exact ⟨zs[k.toNat], q, List.getElem?_eq_getElem hk⟩
theorem ok_box {f : Addr} {fd : FuncData} {k : Nat} (F : Fun K "_law_box" "_law_box" sBox f fd) (B : Bl mg) : FnOk P w K mg base CX0 (k + 1) f fd ["_law_script", "_law_k"] (spBox K) := by
  refine F.ok scBox (fun vs H Q E h => ?_) (fun cdv A outer s H vs Q E hr h => ?_)
  · obtain ⟨a, zs, k, rfl, _⟩ := h
    rfl
  obtain ⟨a, zs, k, rfl, hS, h0, h1, q⟩ := h
  refine ⟨_, pss_cons (ps_set (i := 2) scBox.nd rfl (.inl rfl) (pe_ifExp (pt_cmpR op_lt (pv 1) (pe_callB call_len_seq (by rfl) B.len PySem.boot_len (pa_cons (pv 0) pa_nil)) (nomark _)) (pe_ix ix_list (pv 0) (pv 1) (fun _ _ => rfl)) pe_int))
    (pss_one (ps_ret (pe_lst (pa_cons (pe_op op_mul (pe_callB call_abs (by rfl) B.abs boot_abs (pa_cons (pv 2) pa_nil)) (pe_callTy call_int1 (by rfl) B.int PyProof.Rows.boot_int (pa_cons (pe_cmpR op_ge (pe_callB call_abs (by rfl) B.abs boot_abs (pa_cons (pv 2) pa_nil)) (pe_op op_pow pe_int pe_int) (nomark _)) pa_nil)))
      (pa_cons (pe_op op_mod (pe_op op_mul (pe_op op_add (pe_op op_add (pe_op op_mod (pv 2) pe_int) (pe_op op_mul pe_int (pv 1))) pe_int) pe_int) pe_int) (pa_cons pe_int pa_nil)))))), ?_⟩
  refine ⟨_, rfl, _, rfl, a, _, rfl, .inl hS, _, _, rfl, rfl, _, rfl, ite2 (fun cc => ?_) (fun cc => ?_)⟩
  · have c1 : k < (((zs.map V.int).length : Nat) : Int) := of_decide_eq_true cc
    rw [List.length_map] at c1
    obtain ⟨v, hv, _⟩ := at_int h0 c1
    refine ⟨_, rfl, _, rfl, a, _, _, _, rfl, rfl, hS, hv, ?_⟩
    refine ⟨_, rfl, _, rfl, _, rfl, _, rfl, _, _, rfl, rfl, ⟨by decide, by decide, by decide⟩, _, _, rfl, rfl, .inr ⟨_, rfl, ?_⟩⟩
    refine ⟨_, _, rfl, rfl, .inr (b01 _), _, rfl, _, _, rfl, rfl, (by show (0 : Int) < 2147483629; decide), _, rfl, _, _, rfl, rfl, .inl ⟨by decide, by decide⟩, _, _, rfl, rfl, _, _, rfl, rfl, _, _, rfl, rfl, .inr ⟨by decide, by decide⟩, _, _, rfl, rfl, (by show (0 : Int) < 2147483647; decide), (by show 3 ≤ sizeLine; decide), fun p np => ?_⟩
    refine q p _ np (same_upd np) ⟨_, _, _, upd_same, Int.mul_nonneg (abs_nn v) (b01n _), Int.emod_nonneg _ (by decide), Int.emod_lt_of_pos _ (by decide), by decide, by decide⟩
  · refine ⟨_, rfl, _, rfl, _, rfl, _, rfl, _, _, rfl, rfl, ⟨by decide, by decide, by decide⟩, _, _, rfl, rfl, .inr ⟨_, rfl, ?_⟩⟩
    refine ⟨_, _, rfl, rfl, .inr (b01 _), _, rfl, _, _, rfl, rfl, (by show (0 : Int) < 2147483629; decide), _, rfl, _, _, rfl, rfl, .inl ⟨by decide, by decide⟩, _, _, rfl, rfl, _, _, rfl, rfl, _, _, rfl, rfl, .inr ⟨by decide, by decide⟩, _, _, rfl, rfl, (by show (0 : Int) < 2147483647; decide), (by show 3 ≤ sizeLine; decide), fun p np => ?_⟩
    refine q p _ np (same_upd np) ⟨_, _, _, upd_same, Int.mul_nonneg (abs_nn 0) (b01n _), Int.emod_nonneg _ (by decide), Int.emod_lt_of_pos _ (by decide), by decide, by decide⟩
/-! ### _law_folded -/
theorem scFolded : FnScope ["_law_script", "_law_size", "_law_cells", "_law_k", "_law_cell"] ["_law_script", "_law_size"] (defScope sFolded) := ⟨rfl, rfl, rfl, by decide +kernel, rfl, by decide +kernel, by decide +kernel⟩
def spFolded (K : PySem.W.Frag) : Sp := fun vs H Q _ => ∃ (a : Addr) (ns : List Int) (m : Nat), vs = [.ref a, .int (m : Int)] ∧ SqL K H a (ns.map V.int) ∧ ns.length ≤ 63 ∧ 1 ≤ m ∧ m ≤ 63 ∧
  ∀ (p : Addr) (H' : Hp) (zs : List Int), H p = none → Same H H' → H' p = some (.lst (zs.map V.int)) → zs.length = min ns.length m → Q (.ref p) H'
theorem cut_lo (ns : List Int) (m : Nat) : cutV (ns.map V.int) none (some (m : Int)) = (ns.take m).map V.int := by
  unfold cutV
  rw [HT.sIx_none, HT.sIx_nat, List.drop_zero, Nat.sub_zero, List.length_map, ← List.map_take]
  congr 1
  rw [List.take_eq_take_iff]
  omega
theorem cut_mid (ns : List Int) (m j : Nat) : ∃ ws : List Int, cutV (ns.map V.int) (some (m : Int)) (some (j : Int)) = ws.map V.int ∧ ws.length ≤ ns.length - m := by
  unfold cutV
  rw [HT.sIx_nat, HT.sIx_nat, List.length_map, ← List.map_drop, ← List.map_take]
  refine ⟨_, rfl, ?_⟩
  rw [List.length_take, List.length_drop]
  omega
theorem int_at {ws : List Int} {i : Nat} {x : V} (h : (ws.map V.int)[i]? = some x) : ∃ z, ws[i]? = some z ∧ x = .int z := by
  rw [List.getElem?_map] at h
  cases e : ws[i]? with
  | none =>
    rw [e] at h
    cases h
  | some z =>
    rw [e] at h
    exact ⟨z, rfl, (Option.some.inj h).symm⟩
theorem map_set (zs : List Int) (j : Nat) (v : Int) : (zs.map V.int).set j (.int v) = (zs.set j v).map V.int := List.map_set.symm
theorem ixN_nat {n j : Nat} (h : j < n) : ixN n (j : Int) = some j := by
  unfold ixN
  rw [if_pos (Int.natCast_nonneg j), if_pos (by omega), Int.toNat_natCast]
theorem ok_folded {f : Addr} {fd : FuncData} {k : Nat} (F : Fun K "_law_folded" "_law_folded" sFolded f fd) (B : Bl mg) : FnOk P w K mg base CX0 (k + 1) f fd ["_law_script", "_law_size"] (spFolded K) := by
  refine F.ok scFolded (fun vs H Q E h => ?_) (fun cdv A outer s H vs Q E hr h => ?_)
  · obtain ⟨a, ns, m, rfl, _⟩ := h
    rfl
  obtain ⟨a, ns, m, rfl, hS, h63, hm1, hm2, q⟩ := h
  refine ⟨_, pss_cons (ps_set (i := 2) scFolded.nd rfl (.inl rfl) (pe_callTy call_list_of (by rfl) B.list PyProof.Rows.boot_list (pa_cons (pe_slice sl_list (pv 0) po_none (po_some (pv 1))) pa_nil)))
    (pss_cons (ps_for PassesOwn.never rfl (pi_enum (by rfl) B.enumerate (pa_cons (pe_slice sl_list (pv 0) (po_some (pv 1)) (po_some pe_int)) pa_nil))
        (pg_tup rfl (pgs_cons (pg_name (i := 3) scFolded.nd rfl (.inl rfl)) (pgs_cons (pg_name (i := 4) scFolded.nd rfl (.inl rfl)) pgs_nil)))
      (pss_one (ps_asg (pe_op op_add (pe_ix ix_list (pv 2) (pe_op op_mod (pv 3) (pv 1)) (fun _ _ => rfl)) (pe_op op_mul (pv 4) (pe_op op_add (pv 3) pe_int))) (pg_sub (pv 2) (pe_op op_mod (pv 3) (pv 1)) set_list))))
    (pss_one (ps_ret (pv 2)))), ?_⟩
  refine ⟨_, rfl, _, rfl, _, rfl, a, _, rfl, hS, fun c0 nc0 => ?_⟩
  rw [cut_lo]
  have s0 : Same H (upd H c0 (.lst ((ns.take m).map V.int))) := same_upd nc0
  refine ⟨c0, _, rfl, .inl (.inl (.inl upd_same)), fun p np => ?_⟩
  have npH : H p = none := s0.free np
  have ne0 : c0 ≠ p := fun e => by
    subst e
    rw [upd_same] at np
    cases np
  have s1 := s0.trans (same_upd (o := .lst ((ns.take m).map V.int)) np)
  refine ⟨_, rfl, _, rfl, _, rfl, _, rfl, a, _, rfl, s1.seq hS, fun c nc => ?_⟩
  obtain ⟨ws, ew, lw⟩ := cut_mid ns m 63
  rw [show ((63 : Nat) : Int) = (63 : Int) from rfl] at ew
  rw [ew]
  have s2 := s1.trans (same_upd (o := .lst (ws.map V.int)) nc)
  have nec : c ≠ p := fun e => by
    subst e
    rw [upd_same] at nc
    cases nc
  refine ⟨c, _, rfl, .inl (.inl upd_same), ?_⟩
  refine for_it (walk_enum (K := K) (a := c) (xs := ws.map V.int)) (fun i σ H3 => ∃ (y3 y4 : Option V) (zs : List Int), σ = [some (.ref a), some (.int (m : Int)), some (.ref p), y3, y4] ∧ Same H H3 ∧ H3 c = some (.lst (ws.map V.int)) ∧ H3 p = some (.lst (zs.map V.int)) ∧ zs.length = min ns.length m)
    ⟨none, none, ns.take m, rfl, s2, upd_same, ?_, ?_⟩ (fun i σ H3 _ ⟨_, _, _, _, _, e, _⟩ => .inl (.inl e)) ?_ ?_
  · rw [upd_ne nec.symm]
    exact upd_same
  · rw [List.length_take, Nat.min_comm]
  · rintro i v σ H3 H4 hi ⟨y3, y4, zs, rfl, s3, ec, ep, el⟩ ⟨T, x, y, rfl, nT, rfl, e1, e2⟩
    cases e1
    obtain ⟨z, _, rfl⟩ := int_at e2
    rw [List.length_map] at hi
    have npT : p ≠ T := ne_of_none ep nT
    have ncT : c ≠ T := ne_of_none ec nT
    have sT : Same H3 (upd H3 T (.tup [.int (i : Nat), .int z])) := same_upd nT
    refine ⟨T, _, rfl, .inl (.inl upd_same), rfl, _, _, rfl, _, _, rfl, rfl, ?_⟩
    have lm : (i : Int) % (m : Int) = ((i % m : Nat) : Int) := rfl
    have hl : i % m < zs.length := by
      have := Nat.mod_lt i (show 0 < m by omega)
      omega
    have ev : (zs.map V.int)[i % m]? = some (.int zs[i % m]) := by
      rw [List.getElem?_map, List.getElem?_eq_getElem hl]
      rfl
    refine ⟨_, rfl, _, rfl, _, rfl, _, _, rfl, rfl, (by show (0 : Int) < (m : Int); omega), p, _, _, _, rfl, rfl, SqL.of (sT _ _ ep), (by rw [lm]; exact atI_nat ev), _, rfl, _, rfl, _, _, rfl, rfl, _, _, rfl, rfl, .inr ⟨by omega, by omega⟩, _, _, rfl, rfl, ?_⟩
    refine ⟨_, rfl, _, rfl, _, rfl, _, _, rfl, rfl, (by show (0 : Int) < (m : Int); omega), p, _, _, i % m, rfl, rfl, sT _ _ ep, (by rw [lm, List.length_map]; exact ixN_nat hl), ?_⟩
    refine ⟨_, _, zs.set (i % m) (zs[i % m] + z * ((i : Int) + 2)), rfl, fun b o e => ?_, ?_, ?_, ?_⟩
    · rw [upd_ne (ne_of_none e npH)]
      exact sT _ _ (s3 _ _ e)
    · rw [upd_ne nec]
      exact sT _ _ ec
    · rw [upd_same, map_set]
    · rw [List.length_set]
      exact el
  · rintro σ H3 ⟨y3, y4, zs, rfl, s3, ec, ep, el⟩
    exact ⟨_, rfl, q p H3 zs npH s3 ep el⟩
/-! ### _law_same: of two things of one kind and worth -/
theorem scSame : FnScope ["_law_found", "_law_due", "_law_one", "_law_other"] ["_law_found", "_law_due"] (defScope sSame) := ⟨rfl, rfl, rfl, by decide +kernel, rfl, by decide +kernel, by decide +kernel⟩
def Lv : Nat → PyData → Prop
  | _, .none => True
  | _, .bool _ => True
  | _, .int _ => True
  | _, .str _ => True
  | n + 1, .list ds => ds.length ≤ 1000000 ∧ ∀ d ∈ ds, Lv n d
  | n + 1, .tuple ds => ds.length ≤ 1000000 ∧ ∀ d ∈ ds, Lv n d
  | _, _ => False
mutual
theorem Dp.same {H H' : Hp} (s : Same H H') : ∀ (d : PyData) (v : V), Dp K H v d → Dp K H' v d
  | .none, _, h => by
    cases h
    exact .non
  | .bool b, _, h => by
    cases h
    exact .bl b
  | .int i, _, h => by
    cases h
    exact .int i
  | .str x, _, h => by
    cases h
    exact .str x
  | .list ds, _, h => by
    cases h with
    | lst hs ha => exact .lst (s.seq hs) (Dp.sameAll s ds _ ha)
  | .tuple ds, _, h => by
    cases h with
    | tup hs ha => exact .tup (Same.seqT s hs) (Dp.sameAll s ds _ ha)
  | .dict _, _, h => by cases h
theorem Dp.sameAll {H H' : Hp} (s : Same H H') : ∀ (ds : List PyData) (vs : List V), DpAll K H vs ds → DpAll K H' vs ds
  | [], _, h => by
    cases h
    exact .nil
  | d :: ds, _, h => by
    cases h with
    | cons h1 h2 => exact .cons (Dp.same s d _ h1) (Dp.sameAll s ds _ h2)
end
theorem DpAll.len {H : Hp} : ∀ {ds : List PyData} {vs : List V}, DpAll K H vs ds → vs.length = ds.length
  | [], _, h => by
    cases h
    rfl
  | d :: ds, _, h => by
    cases h with
    | cons h1 h2 => rw [List.length_cons, List.length_cons, DpAll.len h2]
theorem DpAll.get {H : Hp} : ∀ {ds : List PyData} {vs : List V} {i : Nat} {x : V}, DpAll K H vs ds → vs[i]? = some x → ∃ d, ds[i]? = some d ∧ Dp K H x d
  | [], _, i, x, h, e => by
    cases h
    cases e
  | d :: ds, _, 0, x, h, e => by
    cases h with
    | cons h1 h2 =>
      cases e
      exact ⟨d, rfl, h1⟩
  | d :: ds, _, i + 1, x, h, e => by
    cases h with
    | @cons _ vs _ _ h1 h2 => exact DpAll.get (ds := ds) (vs := vs) h2 (show vs[i]? = some x from e)
theorem walk_zipT {a b : Addr} {xs ys : List V} {n : Nat} (hn : n = min xs.length ys.length) : Walk (RZ.ItzT K a b) n (fun H => SqT K H a xs ∧ SqT K H b ys) (YPair (fun i => xs[i]?) (fun i => ys[i]?)) := by
  subst hn
  refine ⟨fun i _ hi q => ?_, fun _ q => ⟨xs, ys, q.1, q.2, by omega⟩, fun i H v H' _ q y => ?_⟩
  · have h1 : i < xs.length := by omega
    have h2 : i < ys.length := by omega
    exact ⟨xs, ys, xs[i], ys[i], q.1, q.2, by simp [h1], by simp [h2]⟩
  · obtain ⟨T, x, z, h1, h2, h3, h4, h5⟩ := y
    exact ⟨T, x, z, h1, h2, h3, h4 xs q.1, h5 ys q.2⟩
theorem ty_lst {H : Hp} {a : Addr} {xs : List V} (h : SqL K H a xs) : TyX K H (.ref a) (.type "list") := by
  rcases h with (h | ⟨o, h⟩) | ⟨o, its, n, h1, h2, _⟩
  · exact .base (.lst h)
  · exact .base (.frz h)
  · exact .kList h1 h2
theorem ty_tup {H : Hp} {a : Addr} {xs : List V} (h : SqT K H a xs) : TyX K H (.ref a) (.type "tuple") := by
  rcases h with (h | ⟨o, h⟩) | ⟨o, its, n, h1, h2, _⟩
  · exact .base (.tup h)
  · exact .fTuple h
  · exact .kTuple h1 h2
def spSame (K : PySem.W.Frag) (k : Nat) : Sp := fun vs H Q _ => ∃ (x y : V) (d : PyData) (j : Nat), vs = [x, y] ∧ k = j + 1 ∧ Lv j d ∧ Dp K H x d ∧ Dp K H y d ∧ ∀ H', Same H H' → Q (.bl true) H'
theorem same_none {f : Addr} {fd : FuncData} : FnOk P w K mg base CX0 0 f fd ["_law_found", "_law_due"] (spSame K 0) := by
  have no : ∀ vs H Q E, ¬ spSame K 0 vs H Q E := fun vs H Q E h => by
    obtain ⟨x, y, d, j, _, h0, _⟩ := h
    omega
  exact ⟨fun vs H Q E h => absurd h (no vs H Q E), fun A outer s H args us vs Q E _ _ _ _ h => absurd h (no vs H Q E)⟩
theorem yesT {σ : L2.St} {H : Hp} {R S : Hp → Prop} (h : R H) : tYes σ H fun b H3 => if b = true then R H3 else S H3 := h
theorem repl_snoc {α : Type} (i : Nat) (x : α) : List.replicate i x ++ [x] = List.replicate (i + 1) x := List.replicate_succ'.symm
theorem all_repl (n : Nat) : (List.replicate n true).all id = true := by
  rw [List.all_eq_true]
  intro x hx
  rw [List.eq_of_mem_replicate hx]
  rfl
theorem kitLT {t : String} {r1 r2 : Bool} (h1 : kitB t "list" = some r1) (h2 : kitB t "tuple" = some r2) : PySem.W.kitAny K (.type t) [.type "list", .type "tuple"] = some (r1 || r2) := by
  refine kitAny_cons (kit_ty h1) (fun e => ?_) (fun e => by rw [e]; rfl)
  rw [e, Bool.false_or]
  refine kitAny_cons (kit_ty h2) (fun e => ?_) (fun e => e)
  rw [e]
  rfl
theorem ok_same1 {f : Addr} {fd : FuncData} {k : Nat} (F : Fun K "_law_same" "_law_same" sSame f fd) (G : FnOk P w K mg base CX0 k f fd ["_law_found", "_law_due"] (spSame K k)) (bf : Binds K fd ["_law_found", "_law_due"] []) (mf : mg "_law_same" = some (.ref f)) (B : Bl mg) :
    FnOk P w K mg base CX0 (k + 1) f fd ["_law_found", "_law_due"] (spSame K (k + 1)) := by
  refine F.ok scSame (fun vs H Q E h => ?_) (fun cdv A outer s H vs Q E hr h => ?_)
  · obtain ⟨x, y, d, j, rfl, _⟩ := h
    rfl
  obtain ⟨x, y, d, j, rfl, ej, lv, dx, dy, q⟩ := h
  obtain rfl : k = j := by omega
  refine ⟨_, pss_cons (ps_if (pt_val (pe_callB call_isiT (by rfl) B.isinstance boot_isinstance (pa_cons (pv 1) (pa_cons (pe_tup (pa_cons (pe_bltn (v := .ty "list") (by rfl) B.list PyProof.Rows.boot_list rfl) (pa_cons (pe_bltn (v := .ty "tuple") (by rfl) B.tuple PyProof.Rows.boot_tuple rfl) pa_nil))) pa_nil))))
      (pss_cons (ps_if (PW.pt (pw_or (pt_cmpR op_ne (pe_callB call_isi (by rfl) B.isinstance boot_isinstance (pa_cons (pv 0) (pa_cons (pe_bltn (v := .ty "list") (by rfl) B.list PyProof.Rows.boot_list rfl) pa_nil))) (pe_callB call_isi (by rfl) B.isinstance boot_isinstance (pa_cons (pv 1) (pa_cons (pe_bltn (v := .ty "list") (by rfl) B.list PyProof.Rows.boot_list rfl) pa_nil))) (nomark _))
          (pw_or1 (pt_cmpR op_ne (pe_callB call_isi (by rfl) B.isinstance boot_isinstance (pa_cons (pv 0) (pa_cons (pe_bltn (v := .ty "tuple") (by rfl) B.tuple PyProof.Rows.boot_tuple rfl) pa_nil))) (pe_callB call_isi (by rfl) B.isinstance boot_isinstance (pa_cons (pv 1) (pa_cons (pe_bltn (v := .ty "tuple") (by rfl) B.tuple PyProof.Rows.boot_tuple rfl) pa_nil))) (nomark _)))))
          (pss_one (ps_ret pe_bl)) pss_nil)
        (pss_one (ps_ret (pe_and (pe_cmpR op_eq (pe_callB call_len_seq (by rfl) B.len PySem.boot_len (pa_cons (pv 0) pa_nil)) (pe_callB call_len_seq (by rfl) B.len PySem.boot_len (pa_cons (pv 1) pa_nil)) (nomark _))
          (pe_one (pe_callB (cr_all rfl) (by rfl) B.all boot_all (pa_cons (pe_lc (own := [("_law_one", 2), ("_law_other", 3)]) (g := gTup K 2 (gCons (gName 2) (gCons (gName 3) gNil))) (by rfl) scSame.nd (RZ.pi_zipA (by rfl) B.zip (pa_cons (pv 0) (pa_cons (pv 1) pa_nil)))
            (blkOk_by (own := [("_law_one", 2), ("_law_other", 3)]) (N := ["_law_found", "_law_due", "_law_one", "_law_other"]) (sc := defScope sSame) (by decide +kernel))
            (fun _ _ _ _ _ => pg_tup rfl (pgs_cons (pg_name (i := 2) scSame.nd rfl (Or.inl rfl) (.inr rfl)) (pgs_cons (pg_name (i := 3) scSame.nd rfl (Or.inl rfl) (.inr rfl)) pgs_nil))) (fun _ _ _ _ _ => pts_nil)
            (fun _ _ _ _ _ => pe_call G hr (by rfl) mf F.kp bf .nil pass0 (pa_cons (pv 2) (pa_cons (pv 3) pa_nil)))) pa_nil))))))) pss_nil)
    (pss_cons (ps_if (PW.pt (pw_or (pt_cmpR op_isN (pv 1) pe_non (nomark _)) (pw_or1 (pt_val (pe_callB call_isi (by rfl) B.isinstance boot_isinstance (pa_cons (pv 1) (pa_cons (pe_bltn (v := .ty "str") (by rfl) B.str PyProof.Rows.boot_str rfl) pa_nil)))))))
      (pss_one (ps_ret (pe_and (pe_cmpR op_eq (pv 0) (pv 1) (nomark _)) (pe_one (pe_cmpR op_eq (pe_callB call_isi (by rfl) B.isinstance boot_isinstance (pa_cons (pv 0) (pa_cons (pe_bltn (v := .ty "str") (by rfl) B.str PyProof.Rows.boot_str rfl) pa_nil))) (pe_callB call_isi (by rfl) B.isinstance boot_isinstance (pa_cons (pv 1) (pa_cons (pe_bltn (v := .ty "str") (by rfl) B.str PyProof.Rows.boot_str rfl) pa_nil))) (nomark _)))))) pss_nil)
    (pss_one (ps_ret (pe_and (pe_callB call_isi (by rfl) B.isinstance boot_isinstance (pa_cons (pv 0) (pa_cons (pe_bltn (v := .ty "int") (by rfl) B.int PyProof.Rows.boot_int rfl) pa_nil))) (pe_and (pe_cmpR op_eq (pe_callB call_isi (by rfl) B.isinstance boot_isinstance (pa_cons (pv 0) (pa_cons (pe_bltn (v := .ty "bool") (by rfl) B.bool PyProof.Rows.boot_bool rfl) pa_nil))) (pe_callB call_isi (by rfl) B.isinstance boot_isinstance (pa_cons (pv 1) (pa_cons (pe_bltn (v := .ty "bool") (by rfl) B.bool PyProof.Rows.boot_bool rfl) pa_nil))) (nomark _))
      (pe_one (pe_cmpR op_eq (pv 0) (pv 1) (nomark _)))))))), ?_⟩
  have pr : Paired ClsV [.ty "list", .ty "tuple"] [.type "list", .type "tuple"] := .cons (.ty _) (.cons (.ty _) .nil)
  refine ⟨_, rfl, (by show 2 ≤ sizeLine; decide), fun tp ntp => ?_⟩
  have s0 : Same H (upd H tp (.tup [.ty "list", .ty "tuple"])) := same_upd ntp
  cases d with
  | none =>
    cases dx
    cases dy
    refine ⟨_, tp, _, _, _, _, rfl, upd_same, pr, .base .non, kitLT (t := "NoneType") (r1 := false) (r2 := false) (by decide +kernel) (by decide +kernel), _, rfl, iteF ?_⟩
    refine ⟨_, rfl, rfl, _, rfl, iteT (iteT ?_)⟩
    refine ⟨_, rfl, _, rfl, rfl, _, rfl, iteT ?_⟩
    refine ⟨_, rfl, _, _, _, _, _, rfl, .ty _, .base .non, kit_ty (by decide +kernel : kitB "NoneType" "str" = some false), _, rfl, _, _, _, _, _, rfl, .ty _, .base .non, kit_ty (by decide +kernel : kitB "NoneType" "str" = some false), rfl, q _ s0⟩
  | bool b =>
    cases dx
    cases dy
    refine ⟨_, tp, _, _, _, _, rfl, upd_same, pr, .base (.bl _), kitLT (t := "bool") (r1 := false) (r2 := false) (by decide +kernel) (by decide +kernel), _, rfl, iteF ?_⟩
    refine ⟨_, rfl, rfl, _, rfl, iteF ?_⟩
    refine ⟨_, rfl, _, _, _, _, _, rfl, .ty _, .base (.bl _), kit_ty (by decide +kernel : kitB "bool" "str" = some false), _, rfl, iteF ?_⟩
    refine ⟨_, rfl, _, _, _, _, _, rfl, .ty _, .base (.bl _), kit_ty (by decide +kernel : kitB "bool" "int" = some true), _, rfl, iteT ?_⟩
    refine ⟨_, rfl, _, _, _, _, _, rfl, .ty _, .base (.bl _), kit_ty (by decide +kernel : kitB "bool" "bool" = some true), _, rfl, _, _, _, _, _, rfl, .ty _, .base (.bl _), kit_ty (by decide +kernel : kitB "bool" "bool" = some true), rfl, _, rfl, iteT ?_⟩
    refine ⟨_, rfl, _, rfl, rfl, ?_⟩
    rw [decide_eq_true rfl]
    exact q _ s0
  | int i =>
    cases dx
    cases dy
    refine ⟨_, tp, _, _, _, _, rfl, upd_same, pr, .base (.int _), kitLT (t := "int") (r1 := false) (r2 := false) (by decide +kernel) (by decide +kernel), _, rfl, iteF ?_⟩
    refine ⟨_, rfl, rfl, _, rfl, iteF ?_⟩
    refine ⟨_, rfl, _, _, _, _, _, rfl, .ty _, .base (.int _), kit_ty (by decide +kernel : kitB "int" "str" = some false), _, rfl, iteF ?_⟩
    refine ⟨_, rfl, _, _, _, _, _, rfl, .ty _, .base (.int _), kit_ty (by decide +kernel : kitB "int" "int" = some true), _, rfl, iteT ?_⟩
    refine ⟨_, rfl, _, _, _, _, _, rfl, .ty _, .base (.int _), kit_ty (by decide +kernel : kitB "int" "bool" = some false), _, rfl, _, _, _, _, _, rfl, .ty _, .base (.int _), kit_ty (by decide +kernel : kitB "int" "bool" = some false), rfl, _, rfl, iteT ?_⟩
    refine ⟨_, rfl, _, rfl, rfl, ?_⟩
    rw [decide_eq_true rfl]
    exact q _ s0
  | str z =>
    cases dx
    cases dy
    refine ⟨_, tp, _, _, _, _, rfl, upd_same, pr, .base (.str _), kitLT (t := "str") (r1 := false) (r2 := false) (by decide +kernel) (by decide +kernel), _, rfl, iteF ?_⟩
    refine ⟨_, rfl, rfl, _, rfl, iteF ?_⟩
    refine ⟨_, rfl, _, _, _, _, _, rfl, .ty _, .base (.str _), kit_ty (by decide +kernel : kitB "str" "str" = some true), _, rfl, iteT ?_⟩
    refine ⟨_, rfl, _, rfl, rfl, ?_⟩
    rw [decide_eq_true rfl]
    refine ⟨_, rfl, iteT ?_⟩
    exact ⟨_, rfl, _, _, _, _, _, rfl, .ty _, .base (.str _), kit_ty (by decide +kernel : kitB "str" "str" = some true), _, rfl, _, _, _, _, _, rfl, .ty _, .base (.str _), kit_ty (by decide +kernel : kitB "str" "str" = some true), rfl, q _ s0⟩
  | list ds =>
    cases dx with
    | @lst a xs _ hx ax =>
    cases dy with
    | @lst b ys _ hy ay =>
    obtain ⟨i, rfl⟩ : ∃ i, k = i + 1 := by
      cases k with
      | zero => exact absurd lv id
      | succ i => exact ⟨i, rfl⟩
    have lx := DpAll.len ax
    have ly := DpAll.len ay
    have hx1 := s0.seq hx
    have hy1 := s0.seq hy
    refine ⟨_, tp, _, _, _, _, rfl, upd_same, pr, ty_lst hy1, kitLT (t := "list") (r1 := true) (r2 := false) (by decide +kernel) (by decide +kernel), _, rfl, iteT ?_⟩
    refine ⟨_, rfl, _, _, _, _, _, rfl, .ty _, ty_lst hx1, kit_ty (by decide +kernel : kitB "list" "list" = some true), _, rfl, _, _, _, _, _, rfl, .ty _, ty_lst hy1, kit_ty (by decide +kernel : kitB "list" "list" = some true), rfl, _, rfl, iteF ?_⟩
    refine ⟨_, rfl, _, _, _, _, _, rfl, .ty _, ty_lst hx1, kit_ty (by decide +kernel : kitB "list" "tuple" = some false), _, rfl, _, _, _, _, _, rfl, .ty _, ty_lst hy1, kit_ty (by decide +kernel : kitB "list" "tuple" = some false), rfl, _, rfl, iteF ?_⟩
    refine ⟨_, rfl, a, _, rfl, .inl hx1, _, rfl, b, _, rfl, .inl hy1, rfl, ?_⟩
    rw [decide_eq_true (by rw [lx, ly])]
    refine ⟨_, rfl, iteT ?_⟩
    refine ⟨_, rfl, _, rfl, a, b, xs, ys, rfl, .inl ⟨hx1, hy1, fun D nD => ?_⟩⟩
    have sD := s0.trans (same_upd (o := .lst []) nD)
    refine lc_it (walk_zip (K := K) (a := a) (b := b) (xs := xs) (ys := ys) rfl) (fun i H3 => Same H H3 ∧ H3 D = some (.lst (List.replicate i (.bl true)))) ⟨sD, upd_same⟩ (fun i H3 _ ⟨s3, _⟩ => ⟨s3.seq hx, s3.seq hy⟩) ?_ ?_
    · rintro i v H3 H4 hi ⟨s3, eD⟩ ⟨T, x, y, rfl, nT, rfl, e1, e2⟩
      obtain ⟨d1, g1, p1⟩ := DpAll.get ax e1
      obtain ⟨d2, g2, p2⟩ := DpAll.get ay e2
      obtain rfl : d1 = d2 := Option.some.inj (g1.symm.trans g2)
      have s4 := s3.trans (same_upd (o := .tup [x, y]) nT)
      refine ⟨T, _, rfl, .inl (.inl upd_same), rfl, _, _, rfl, _, _, rfl, rfl, rfl, ?_⟩
      refine yesT ?_
      refine ⟨_, rfl, _, rfl, x, y, d1, _, rfl, rfl, lv.2 d1 (List.mem_of_getElem? g1), Dp.same s4 _ _ p1, Dp.same s4 _ _ p2, fun H5 s5 => ?_⟩
      refine ⟨_, s5 _ _ (by rw [upd_ne (ne_of_none eD nT)]; exact eD), ?_, fun p o e => ?_, ?_⟩
      · rw [List.length_replicate]
        have := lv.1
        refine Nat.lt_of_lt_of_le (show i < 1000000 by omega) (by decide)
      · rw [upd_ne (ne_of_none e (s0.free nD))]
        exact s5 _ _ (s4 _ _ e)
      · rw [upd_same, repl_snoc]
    · rintro H3 ⟨s3, eD⟩
      refine ⟨D, List.replicate (min xs.length ys.length) true, rfl, .inl (.inl (by rw [List.map_replicate]; exact eD)), ?_⟩
      rw [all_repl]
      exact q _ s3
  | tuple ds =>
    cases dx with
    | @tup a xs _ hx ax =>
    cases dy with
    | @tup b ys _ hy ay =>
    obtain ⟨i, rfl⟩ : ∃ i, k = i + 1 := by
      cases k with
      | zero => exact absurd lv id
      | succ i => exact ⟨i, rfl⟩
    have lx := DpAll.len ax
    have ly := DpAll.len ay
    have hx1 := Same.seqT s0 hx
    have hy1 := Same.seqT s0 hy
    refine ⟨_, tp, _, _, _, _, rfl, upd_same, pr, ty_tup hy1, kitLT (t := "tuple") (r1 := false) (r2 := true) (by decide +kernel) (by decide +kernel), _, rfl, iteT ?_⟩
    refine ⟨_, rfl, _, _, _, _, _, rfl, .ty _, ty_tup hx1, kit_ty (by decide +kernel : kitB "tuple" "list" = some false), _, rfl, _, _, _, _, _, rfl, .ty _, ty_tup hy1, kit_ty (by decide +kernel : kitB "tuple" "list" = some false), rfl, _, rfl, iteF ?_⟩
    refine ⟨_, rfl, _, _, _, _, _, rfl, .ty _, ty_tup hx1, kit_ty (by decide +kernel : kitB "tuple" "tuple" = some true), _, rfl, _, _, _, _, _, rfl, .ty _, ty_tup hy1, kit_ty (by decide +kernel : kitB "tuple" "tuple" = some true), rfl, _, rfl, iteF ?_⟩
    refine ⟨_, rfl, a, _, rfl, .inr hx1, _, rfl, b, _, rfl, .inr hy1, rfl, ?_⟩
    rw [decide_eq_true (by rw [lx, ly])]
    refine ⟨_, rfl, iteT ?_⟩
    refine ⟨_, rfl, _, rfl, a, b, xs, ys, rfl, .inr ⟨hx1, hy1, fun D nD => ?_⟩⟩
    have sD := s0.trans (same_upd (o := .lst []) nD)
    refine lc_it (walk_zipT (K := K) (a := a) (b := b) (xs := xs) (ys := ys) rfl) (fun i H3 => Same H H3 ∧ H3 D = some (.lst (List.replicate i (.bl true)))) ⟨sD, upd_same⟩ (fun i H3 _ ⟨s3, _⟩ => ⟨Same.seqT s3 hx, Same.seqT s3 hy⟩) ?_ ?_
    · rintro i v H3 H4 hi ⟨s3, eD⟩ ⟨T, x, y, rfl, nT, rfl, e1, e2⟩
      obtain ⟨d1, g1, p1⟩ := DpAll.get ax e1
      obtain ⟨d2, g2, p2⟩ := DpAll.get ay e2
      obtain rfl : d1 = d2 := Option.some.inj (g1.symm.trans g2)
      have s4 := s3.trans (same_upd (o := .tup [x, y]) nT)
      refine ⟨T, _, rfl, .inl (.inl upd_same), rfl, _, _, rfl, _, _, rfl, rfl, rfl, ?_⟩
      refine yesT ?_
      refine ⟨_, rfl, _, rfl, x, y, d1, _, rfl, rfl, lv.2 d1 (List.mem_of_getElem? g1), Dp.same s4 _ _ p1, Dp.same s4 _ _ p2, fun H5 s5 => ?_⟩
      refine ⟨_, s5 _ _ (by rw [upd_ne (ne_of_none eD nT)]; exact eD), ?_, fun p o e => ?_, ?_⟩
      · rw [List.length_replicate]
        have := lv.1
        refine Nat.lt_of_lt_of_le (show i < 1000000 by omega) (by decide)
      · rw [upd_ne (ne_of_none e (s0.free nD))]
        exact s5 _ _ (s4 _ _ e)
      · rw [upd_same, repl_snoc]
    · rintro H3 ⟨s3, eD⟩
      refine ⟨D, List.replicate (min xs.length ys.length) true, rfl, .inl (.inl (by rw [List.map_replicate]; exact eD)), ?_⟩
      rw [all_repl]
      exact q _ s3
  | dict _ => cases dx
theorem ok_same {f : Addr} {fd : FuncData} (F : Fun K "_law_same" "_law_same" sSame f fd) (bf : Binds K fd ["_law_found", "_law_due"] []) (mf : mg "_law_same" = some (.ref f)) (B : Bl mg) : ∀ k : Nat, FnOk P w K mg base CX0 k f fd ["_law_found", "_law_due"] (spSame K k)
  | 0 => same_none
  | k + 1 => ok_same1 F (ok_same F bf mf B k) bf mf B
end
end GZ
namespace GM
theorem pow_pos' (n : Nat) : (0 : Int) < 2 ^ n := Int.pow_pos (by decide)
theorem pow_s (n : Nat) : (2 : Int) ^ (n + 1) = 2 ^ n * 2 := Int.pow_succ 2 n
theorem pow_le' {m n : Nat} (h : m ≤ n) : (2 : Int) ^ m ≤ 2 ^ n := by
  induction n with
  | zero =>
    have : m = 0 := by omega
    rw [this]
    exact Int.le_refl _
  | succ n ih =>
    by_cases e : m = n + 1
    · rw [e]
      exact Int.le_refl _
    · have := ih (by omega)
      have := pow_s n
      have := pow_pos' n
      omega
theorem pow_add' (m n : Nat) : (2 : Int) ^ (m + n) = 2 ^ m * 2 ^ n := Int.pow_add 2 m n
theorem bits_pow {x : Nat} {e : Nat} (h : x < 2 ^ e) : PySem.Builtin.Int.intBits (x : Int) ≤ e := PyProof.Rows.intBits_le (by rw [Int.natAbs_natCast]; exact h)
theorem bits_le_pow {x : Nat} {e : Nat} (h : 2 ^ e ≤ x) : e + 1 ≤ PySem.Builtin.Int.intBits (x : Int) := by
  have hx : x ≠ 0 := by
    have := Nat.two_pow_pos e
    omega
  unfold PySem.Builtin.Int.intBits
  rw [if_neg (by simpa using hx), Int.natAbs_natCast]
  have := (Nat.le_log2 hx).mpr h
  omega
theorem bits_unique {x e : Nat} (h1 : 2 ^ e ≤ x) (h2 : x < 2 ^ (e + 1)) : PySem.Builtin.Int.intBits (x : Int) = e + 1 := by
  have := bits_pow h2
  have := bits_le_pow h1
  omega
theorem bits_ex {x : Nat} (h : 0 < x) : ∃ e, 2 ^ e ≤ x ∧ x < 2 ^ (e + 1) := ⟨x.log2, Nat.log2_self_le (by omega), Nat.lt_log2_self⟩
theorem bits_half {x : Nat} (h : 0 < x) : PySem.Builtin.Int.intBits (x : Int) = PySem.Builtin.Int.intBits ((x / 2 : Nat) : Int) + 1 := by
  obtain ⟨e, h1, h2⟩ := bits_ex h
  rw [bits_unique h1 h2]
  cases e with
  | zero =>
    have : x = 1 := by
      simp at h1 h2
      omega
    rw [this]
    rfl
  | succ e =>
    rw [bits_unique (x := x / 2) (e := e)]
    · rw [Nat.pow_succ] at h1
      omega
    · rw [Nat.pow_succ] at h2
      omega
theorem bits_double {x m : Nat} (h : 0 < x) (hm : m ≤ 1) : PySem.Builtin.Int.intBits ((2 * x + m : Nat) : Int) = PySem.Builtin.Int.intBits (x : Int) + 1 := by
  rw [bits_half (x := 2 * x + m) (by omega), show (2 * x + m) / 2 = x by omega]
theorem shr_lt {x : Int} {a b : Nat} (h0 : 0 ≤ x) (h : x < 2 ^ (a + b)) : 0 ≤ x / 2 ^ b ∧ x / 2 ^ b < 2 ^ a := by
  have hb := pow_pos' b
  refine ⟨Int.ediv_nonneg h0 (by omega), ?_⟩
  rw [pow_add'] at h
  exact Int.ediv_lt_of_lt_mul hb h
end GM
namespace GM
/-! ### words: a sign, a scale of m bits, a tail of t bits -/
def bit (a : Int) (n : Nat) : Int := a / 2 ^ n % 2
def blr (a : Int) : Nat → List Int
  | 0 => []
  | n + 1 => bit a n :: blr a n
def wv : List Int → Int
  | [] => 0
  | d :: r => d * 2 ^ r.length + wv r
theorem blr_len (a : Int) : ∀ n, (blr a n).length = n
  | 0 => rfl
  | n + 1 => by
    show (blr a n).length + 1 = n + 1
    rw [blr_len a n]
theorem div_div (w : Int) (t m : Nat) : w / 2 ^ t / 2 ^ m = w / 2 ^ (t + m) := by
  rw [pow_add', Int.ediv_ediv_of_nonneg (Int.le_of_lt (pow_pos' t))]
theorem bit_div (w : Int) (t m : Nat) : bit (w / 2 ^ t) m = bit w (m + t) := by
  unfold bit
  rw [div_div, Nat.add_comm t m]
theorem blr_take (w : Int) (t : Nat) : ∀ m, (blr w (m + t)).take m = blr (w / 2 ^ t) m
  | 0 => rfl
  | m + 1 => by
    show (blr w ((m + 1) + t)).take (m + 1) = bit (w / 2 ^ t) m :: blr (w / 2 ^ t) m
    rw [show m + 1 + t = (m + t) + 1 by omega]
    show bit w (m + t) :: (blr w (m + t)).take m = _
    rw [blr_take w t m, bit_div]
theorem blr_drop (w : Int) (t : Nat) : ∀ m, (blr w (m + t)).drop m = blr w t
  | 0 => by rw [Nat.zero_add]; rfl
  | m + 1 => by
    rw [show m + 1 + t = (m + t) + 1 by omega]
    show (blr w (m + t)).drop m = _
    exact blr_drop w t m
theorem mod_step (a : Int) (n : Nat) : bit a n * 2 ^ n + a % 2 ^ n = a % 2 ^ (n + 1) := by
  unfold bit
  have hp := pow_pos' n
  have e1 := Int.emod_add_mul_ediv a (2 ^ n)
  have e2 := Int.emod_add_mul_ediv (a / 2 ^ n) 2
  have h1 := Int.emod_nonneg a (show (2 : Int) ^ n ≠ 0 by omega)
  have h2 := Int.emod_lt_of_pos a hp
  have e3 : 2 ^ n * (a / 2 ^ n) = a / 2 ^ n % 2 * 2 ^ n + a / 2 ^ n / 2 * (2 ^ n * 2) := by
    conv => lhs; rw [← e2]
    rw [Int.mul_add, Int.mul_comm (2 ^ n) (a / 2 ^ n % 2), ← Int.mul_assoc, Int.mul_comm (2 ^ n * 2) _]
  have key : (a / 2 ^ n % 2 * 2 ^ n + a % 2 ^ n) + a / 2 ^ n / 2 * 2 ^ (n + 1) = a := by
    rw [pow_s]
    omega
  have hb : 0 ≤ a / 2 ^ n % 2 * 2 ^ n + a % 2 ^ n ∧ a / 2 ^ n % 2 * 2 ^ n + a % 2 ^ n < 2 ^ (n + 1) := by
    rw [pow_s]
    have : a / 2 ^ n % 2 = 0 ∨ a / 2 ^ n % 2 = 1 := by omega
    rcases this with z | z <;> rw [z] <;> omega
  have em := Int.add_mul_emod_self_right (a / 2 ^ n % 2 * 2 ^ n + a % 2 ^ n) (a / 2 ^ n / 2) (2 ^ (n + 1))
  rw [key, Int.emod_eq_of_lt hb.1 hb.2] at em
  exact em.symm
theorem wv_blr (a : Int) : ∀ n, wv (blr a n) = a % 2 ^ n
  | 0 => by
    show (0 : Int) = a % 1
    omega
  | n + 1 => by
    show bit a n * 2 ^ (blr a n).length + wv (blr a n) = _
    rw [blr_len, wv_blr a n, ← mod_step a n]
theorem fold2 : ∀ (ds : List Int) (w : Int), ds.foldl (fun a b => a * 2 + b) w = w * 2 ^ ds.length + wv ds
  | [], w => by
    show w = w * 2 ^ 0 + 0
    rw [Int.pow_zero]
    omega
  | d :: r, w => by
    show r.foldl (fun a b => a * 2 + b) (w * 2 + d) = w * 2 ^ (r.length + 1) + (d * 2 ^ r.length + wv r)
    rw [fold2 r, pow_s, Int.add_mul, Int.mul_assoc, Int.mul_comm 2 (2 ^ r.length)]
    omega
theorem wv_ones : ∀ k, wv (List.replicate k 1) = 2 ^ k - 1
  | 0 => rfl
  | k + 1 => by
    rw [List.replicate_succ]
    show 1 * 2 ^ (List.replicate k (1 : Int)).length + wv (List.replicate k 1) = _
    rw [List.length_replicate, wv_ones k, pow_s]
    omega
/-- sign, scale, tail of a word -/
def sgn (m t : Nat) (w : Int) : Int := w / 2 ^ (m + t) % 2
def scl (m t : Nat) (w : Int) : Int := w / 2 ^ t % 2 ^ m
def tlp (t : Nat) (w : Int) : Int := w % 2 ^ t
theorem scl_tlp (m t : Nat) (w : Int) : scl m t w * 2 ^ t + tlp t w = w % 2 ^ (m + t) := by
  induction m with
  | zero =>
    unfold scl tlp
    rw [Int.pow_zero, Int.emod_one, Int.zero_mul, Int.zero_add, Nat.zero_add]
  | succ m ih =>
    have e := mod_step (w / 2 ^ t) m
    have e2 := mod_step w (m + t)
    rw [bit_div] at e
    unfold scl at ih ⊢
    rw [← e, Int.add_mul, show m + 1 + t = (m + t) + 1 by omega, ← e2, ← ih, Int.mul_assoc, ← pow_add']
    omega
theorem sgn_01 {m t : Nat} {w : Int} : sgn m t w = 0 ∨ sgn m t w = 1 := by
  unfold sgn
  omega
theorem word_eq {m t : Nat} {w : Int} (h0 : 0 ≤ w) (h1 : w < 2 ^ (1 + m + t)) : sgn m t w * 2 ^ (m + t) + w % 2 ^ (m + t) = w := by
  have e := mod_step w (m + t)
  rw [show m + t + 1 = 1 + m + t by omega, Int.emod_eq_of_lt h0 h1] at e
  exact e
theorem scl_nn (m t : Nat) (w : Int) : 0 ≤ scl m t w ∧ scl m t w < 2 ^ m := ⟨Int.emod_nonneg _ (by have := pow_pos' m; omega), Int.emod_lt_of_pos _ (pow_pos' m)⟩
theorem tlp_nn (t : Nat) (w : Int) : 0 ≤ tlp t w ∧ tlp t w < 2 ^ t := ⟨Int.emod_nonneg _ (by have := pow_pos' t; omega), Int.emod_lt_of_pos _ (pow_pos' t)⟩
/-- with the other sign -/
def trn (m t : Nat) (w : Int) : Int := (1 - sgn m t w) * 2 ^ (m + t) + w % 2 ^ (m + t)
theorem mk_parts {m t : Nat} {s r : Int} (hs : s = 0 ∨ s = 1) (h0 : 0 ≤ r) (h1 : r < 2 ^ (m + t)) : 0 ≤ s * 2 ^ (m + t) + r ∧ s * 2 ^ (m + t) + r < 2 ^ (1 + m + t) ∧ sgn m t (s * 2 ^ (m + t) + r) = s ∧ (s * 2 ^ (m + t) + r) % 2 ^ (m + t) = r := by
  have hp := pow_pos' (m + t)
  have e : (2 : Int) ^ (1 + m + t) = 2 ^ (m + t) * 2 := by rw [← pow_s]; congr 1; omega
  have em : (s * 2 ^ (m + t) + r) % 2 ^ (m + t) = r := by
    rw [Int.add_comm, Int.add_mul_emod_self_right, Int.emod_eq_of_lt h0 h1]
  have ed : (s * 2 ^ (m + t) + r) / 2 ^ (m + t) = s := by
    rw [Int.add_comm, Int.add_mul_ediv_right _ _ (by omega), Int.ediv_eq_zero_of_lt h0 h1, Int.zero_add]
  refine ⟨?_, ?_, ?_, em⟩
  · rcases hs with z | z <;> subst z <;> omega
  · rw [e]
    rcases hs with z | z <;> subst z <;> omega
  · unfold sgn
    rw [ed]
    omega
theorem trn_trn {m t : Nat} {w : Int} (h0 : 0 ≤ w) (h1 : w < 2 ^ (1 + m + t)) : trn m t (trn m t w) = w ∧ 0 ≤ trn m t w ∧ trn m t w < 2 ^ (1 + m + t) := by
  have hp := pow_pos' (m + t)
  have hs : 1 - sgn m t w = 0 ∨ 1 - sgn m t w = 1 := by
    have := sgn_01 (m := m) (t := t) (w := w)
    omega
  obtain ⟨a, b, c, d⟩ := mk_parts (m := m) (t := t) hs (Int.emod_nonneg w (show (2 : Int) ^ (m + t) ≠ 0 by omega)) (Int.emod_lt_of_pos w hp)
  refine ⟨?_, a, b⟩
  show (1 - sgn m t (trn m t w)) * 2 ^ (m + t) + trn m t w % 2 ^ (m + t) = w
  rw [show sgn m t (trn m t w) = 1 - sgn m t w from c, show trn m t w % 2 ^ (m + t) = w % 2 ^ (m + t) from d, show 1 - (1 - sgn m t w) = sgn m t w by omega]
  exact word_eq h0 h1
end GM
namespace GR
open PySem
/-! ### the rounding, as a function -/
def bl (n : Int) : Int := (Builtin.Int.intBits n : Nat)
def cutQ (n b : Int) : Int := if b < 0 then n * 2 ^ (-b).toNat else n / 2 ^ b.toNat
def cutR (n b : Int) : Bool := if b < 0 then false else !decide (n / 2 ^ b.toNat * 2 ^ b.toNat = n)
def lea (sc tl : Nat) : Int := 1 - (2 ^ (sc - 1) - 1) - (tl : Int)
def lap (sc tl : Nat) (n p : Int) : Int := if lea sc tl > bl n + p - 1 - (tl : Int) then lea sc tl else bl n + p - 1 - (tl : Int)
def prQ (n b : Int) : Int := cutQ n (b - 1) / 2 ^ 1
def prR (n b : Int) (more : Bool) : Int := 2 * (cutQ n (b - 1) % 2 ^ 1) + (if cutR n (b - 1) || more then 1 else 0)
def away (way : Str) (s : Int) : Bool := if way = "cut" then false else decide (s = if way = "up" then 0 else 1)
def gup (way : Str) (s many rest : Int) : Bool := if way = "near" then decide (rest = 3) || (decide (rest = 2) && decide (many % 2 = 1)) else !decide (rest = 0) && away way s
def wrd (sc tl : Nat) (s m t : Int) : Int := s * 2 ^ (sc + tl) + (m * 2 ^ tl + t)
def bey (sc tl : Nat) (s : Int) (way : Str) : Int := if (decide (way = "near") || away way s) = true then wrd sc tl s (2 ^ sc - 1) 0 else wrd sc tl s (2 ^ sc - 1 - 1) (2 ^ tl - 1)
def flg (sc : Nat) (n p rest : Int) : List Str := if rest = 0 then [] else if bl n + p ≤ 1 - (2 ^ (sc - 1) - 1) then ["under", "rounded"] else ["rounded"]
def mny (sc tl : Nat) (s n p : Int) (way : Str) (more : Bool) : Int := if gup way s (prQ n (lap sc tl n p - p)) (prR n (lap sc tl n p - p) more) = true then prQ n (lap sc tl n p - p) + 1 else prQ n (lap sc tl n p - p)
def siz (sc tl : Nat) (s n p : Int) (way : Str) (more : Bool) : Int := (lap sc tl n p - lea sc tl) * 2 ^ tl + mny sc tl s n p way more
def rnd (sc tl : Nat) (s n p : Int) (way : Str) (more : Bool) : Int × List Str :=
  if n = 0 then (wrd sc tl s 0 0, [])
  else if siz sc tl s n p way more > wrd sc tl 0 (2 ^ sc - 1 - 1) (2 ^ tl - 1) then (bey sc tl s way, ["over", "rounded"])
  else (wrd sc tl s 0 0 + siz sc tl s n p way more, flg sc n p (prR n (lap sc tl n p - p) more))
theorem lap_ge (sc tl : Nat) (n p : Int) : lea sc tl ≤ lap sc tl n p := by
  unfold lap
  split <;> omega
end GR
namespace GM
/-! ### sizes and their worths -/
def topS (m t : Nat) : Int := (2 ^ m - 1) * 2 ^ t
def num (t : Nat) (s : Int) : Int := if s / 2 ^ t = 0 then s % 2 ^ t else 2 ^ t + s % 2 ^ t
def ex (t : Nat) (s : Int) : Nat := (s / 2 ^ t).toNat - 1
def numE (m t : Nat) (s : Int) : Int := if s = topS m t then 1 else num t s
def exE (m t : Nat) (s : Int) : Nat := if s = topS m t then 1998 + 2 ^ (m - 1) + t else ex t s
def Vv (m t : Nat) (s : Int) : Int := numE m t s * 2 ^ exE m t s
theorem sz_parts (t : Nat) (s : Int) : s / 2 ^ t * 2 ^ t + s % 2 ^ t = s := by
  have := Int.emod_add_mul_ediv s (2 ^ t)
  rw [Int.mul_comm] at this
  omega
theorem num_nn {t : Nat} {s : Int} (h : 0 ≤ s) : 0 ≤ num t s := by
  have hp := pow_pos' t
  have := Int.emod_nonneg s (show (2 : Int) ^ t ≠ 0 by omega)
  unfold num
  split <;> omega
/-- below 2 ^ t times 2 ^ h -/
theorem num_lt {t : Nat} {s : Int} (h0 : 0 ≤ s) : num t s * 2 ^ ex t s < 2 ^ t * 2 ^ (s / 2 ^ t).toNat := by
  have hp := pow_pos' t
  have hl := Int.emod_lt_of_pos s hp
  have hd := Int.ediv_nonneg h0 (Int.le_of_lt hp)
  unfold num ex
  split
  · rename_i e
    rw [e]
    show s % 2 ^ t * 2 ^ 0 < 2 ^ t * 2 ^ 0
    rw [Int.pow_zero]
    omega
  · rename_i e
    obtain ⟨k, hk⟩ : ∃ k : Nat, (s / 2 ^ t).toNat = k + 1 := ⟨(s / 2 ^ t).toNat - 1, by omega⟩
    rw [hk, Nat.add_sub_cancel, pow_s, ← Int.mul_assoc]
    have hk2 := pow_pos' k
    have : (2 ^ t + s % 2 ^ t) * 2 ^ k < (2 ^ t * 2) * 2 ^ k := Int.mul_lt_mul_of_pos_right (by omega) hk2
    rw [show (2 : Int) ^ t * 2 ^ k * 2 = 2 ^ t * 2 * 2 ^ k by rw [Int.mul_assoc, Int.mul_assoc, Int.mul_comm (2 ^ k) 2]]
    exact this
theorem num_ge {t : Nat} {s : Int} {k : Nat} (h : (s / 2 ^ t).toNat = k + 1) : 2 ^ t * 2 ^ k ≤ num t s * 2 ^ ex t s := by
  have hp := pow_pos' t
  have := Int.emod_nonneg s (show (2 : Int) ^ t ≠ 0 by omega)
  have hk2 := pow_pos' k
  unfold num ex
  rw [if_neg (by omega), h, Nat.add_sub_cancel]
  exact Int.mul_le_mul_of_nonneg_right (by omega) (by omega)
theorem num_mono {t : Nat} {a b : Int} (h0 : 0 ≤ a) (h : a < b) : num t a * 2 ^ ex t a < num t b * 2 ^ ex t b := by
  have hp := pow_pos' t
  have ea := sz_parts t a
  have eb := sz_parts t b
  have la := Int.emod_lt_of_pos a hp
  have na := Int.emod_nonneg a (show (2 : Int) ^ t ≠ 0 by omega)
  have nb := Int.emod_nonneg b (show (2 : Int) ^ t ≠ 0 by omega)
  have lb := Int.emod_lt_of_pos b hp
  have hle : a / 2 ^ t ≤ b / 2 ^ t := Int.ediv_le_ediv hp (by omega)
  have hd := Int.ediv_nonneg h0 (Int.le_of_lt hp)
  by_cases e : a / 2 ^ t = b / 2 ^ t
  · have hl : a % 2 ^ t < b % 2 ^ t := by
      rw [e] at ea
      omega
    have hx : ex t a = ex t b := by unfold ex; rw [e]
    rw [hx]
    refine Int.mul_lt_mul_of_pos_right ?_ (pow_pos' _)
    unfold num
    rw [e]
    split <;> omega
  · obtain ⟨k, hk⟩ : ∃ k : Nat, (b / 2 ^ t).toNat = k + 1 := ⟨(b / 2 ^ t).toNat - 1, by omega⟩
    have h1 := num_lt (t := t) h0
    have h2 := num_ge hk
    have h3 : (2 : Int) ^ t * 2 ^ (a / 2 ^ t).toNat ≤ 2 ^ t * 2 ^ k := Int.mul_le_mul_of_nonneg_left (pow_le' (by omega)) (by omega)
    omega
theorem Vv_mono {m t : Nat} (hm : m ≤ 8) {a b : Int} (h0 : 0 ≤ a) (h : a < b) (hb : b ≤ topS m t) : Vv m t a < Vv m t b := by
  unfold Vv numE exE
  rw [if_neg (by omega), if_neg (by omega)]
  by_cases e : b = topS m t
  · rw [if_pos e, if_pos e, Int.one_mul]
    have h1 := num_lt (t := t) h0
    have hp := pow_pos' t
    have hq : a / 2 ^ t < 2 ^ m := by
      refine Int.ediv_lt_of_lt_mul hp ?_
      have : topS m t ≤ 2 ^ m * 2 ^ t := Int.mul_le_mul_of_nonneg_right (by omega) (by omega)
      omega
    have h8 : (2 : Int) ^ m ≤ 2 ^ 8 := pow_le' hm
    rw [← pow_add'] at h1
    have h3 : (a / 2 ^ t).toNat ≤ 256 := by omega
    have h2 : (2 : Int) ^ (t + (a / 2 ^ t).toNat) ≤ 2 ^ (1998 + 2 ^ (m - 1) + t) := pow_le' (by
      generalize 2 ^ (m - 1) = zz
      omega)
    omega
  · rw [if_neg e, if_neg e]
    exact num_mono h0 h
theorem Vv_zero (m t : Nat) (h : 0 < topS m t) : Vv m t 0 = 0 := by
  unfold Vv numE num
  rw [if_neg (by omega), Int.zero_ediv, if_pos rfl, Int.zero_emod, Int.zero_mul]
/-- how two words stand to each other, by worths and by sizes -/
theorem cmp_eq {m t : Nat} (hm : m ≤ 8) {a b : Int} (a0 : 0 ≤ a) (a1 : a ≤ topS m t) (b0 : 0 ≤ b) (b1 : b ≤ topS m t) (hT : 0 < topS m t) (g h : Bool) :
    ((if g then 0 - numE m t a else numE m t a) * 2 ^ (exE m t a - min (exE m t a) (exE m t b)) = (if h then 0 - numE m t b else numE m t b) * 2 ^ (exE m t b - min (exE m t a) (exE m t b)) ↔ (if g then -a else a) = (if h then -b else b)) ∧
    ((if g then 0 - numE m t a else numE m t a) * 2 ^ (exE m t a - min (exE m t a) (exE m t b)) < (if h then 0 - numE m t b else numE m t b) * 2 ^ (exE m t b - min (exE m t a) (exE m t b)) ↔ (if g then -a else a) < (if h then -b else b)) := by
  have pm := pow_pos' (min (exE m t a) (exE m t b))
  have ea : (if g then 0 - numE m t a else numE m t a) * 2 ^ (exE m t a - min (exE m t a) (exE m t b)) * 2 ^ min (exE m t a) (exE m t b) = (if g then -Vv m t a else Vv m t a) := by
    rw [Int.mul_assoc, ← pow_add', show exE m t a - min (exE m t a) (exE m t b) + min (exE m t a) (exE m t b) = exE m t a by omega]
    unfold Vv
    cases g
    · rfl
    · show (0 - numE m t a) * 2 ^ exE m t a = -(numE m t a * 2 ^ exE m t a)
      rw [Int.zero_sub, Int.neg_mul]
  have eb : (if h then 0 - numE m t b else numE m t b) * 2 ^ (exE m t b - min (exE m t a) (exE m t b)) * 2 ^ min (exE m t a) (exE m t b) = (if h then -Vv m t b else Vv m t b) := by
    rw [Int.mul_assoc, ← pow_add', show exE m t b - min (exE m t a) (exE m t b) + min (exE m t a) (exE m t b) = exE m t b by omega]
    unfold Vv
    cases h
    · rfl
    · show (0 - numE m t b) * 2 ^ exE m t b = -(numE m t b * 2 ^ exE m t b)
      rw [Int.zero_sub, Int.neg_mul]
  generalize (if g then 0 - numE m t a else numE m t a) * 2 ^ (exE m t a - min (exE m t a) (exE m t b)) = x at *
  generalize (if h then 0 - numE m t b else numE m t b) * 2 ^ (exE m t b - min (exE m t a) (exE m t b)) = y at *
  have exy : (x = y ↔ (if g then -Vv m t a else Vv m t a) = (if h then -Vv m t b else Vv m t b)) ∧ (x < y ↔ (if g then -Vv m t a else Vv m t a) < (if h then -Vv m t b else Vv m t b)) := by
    rw [← ea, ← eb]
    generalize (2 : Int) ^ min (exE m t a) (exE m t b) = d at *
    refine ⟨⟨fun z => by rw [z], fun z => Int.eq_of_mul_eq_mul_right (by omega) z⟩, ⟨fun z => Int.mul_lt_mul_of_pos_right z pm, fun z => Int.lt_of_mul_lt_mul_right z (by omega)⟩⟩
  rw [exy.1, exy.2]
  have z := Vv_zero m t hT
  have pa : a = 0 ∨ 0 < Vv m t a := by
    rcases Int.lt_or_eq_of_le a0 with q | q
    · have := Vv_mono hm (Int.le_refl 0) q a1
      omega
    · exact .inl q.symm
  have pb : b = 0 ∨ 0 < Vv m t b := by
    rcases Int.lt_or_eq_of_le b0 with q | q
    · have := Vv_mono hm (Int.le_refl 0) q b1
      omega
    · exact .inl q.symm
  have za : a = 0 → Vv m t a = 0 := fun q => by rw [q]; exact z
  have zb : b = 0 → Vv m t b = 0 := fun q => by rw [q]; exact z
  have lt1 : a < b → Vv m t a < Vv m t b := fun q => Vv_mono hm a0 q b1
  have lt2 : b < a → Vv m t b < Vv m t a := fun q => Vv_mono hm b0 q a1
  have eqq : a = b → Vv m t a = Vv m t b := fun q => by rw [q]
  generalize Vv m t a = u at *
  generalize Vv m t b = v at *
  have tri : a < b ∨ a = b ∨ b < a := by omega
  cases g <;> cases h <;> simp only [if_true, if_false, Bool.false_eq_true] <;>
    (rcases tri with q | q | q
     · have := lt1 q; rcases pa with w | w <;> rcases pb with w2 | w2 <;> (try have := za w) <;> (try have := zb w2) <;> constructor <;> omega
     · have := eqq q; rcases pa with w | w <;> rcases pb with w2 | w2 <;> (try have := za w) <;> (try have := zb w2) <;> constructor <;> omega
     · have := lt2 q; rcases pa with w | w <;> rcases pb with w2 | w2 <;> (try have := za w) <;> (try have := zb w2) <;> constructor <;> omega)
end GM
namespace GM
theorem div_s (x : Int) (k : Nat) : x / 2 ^ (k + 1) = x / 2 ^ k / 2 := by
  rw [pow_s, Int.ediv_ediv_of_nonneg (Int.le_of_lt (pow_pos' k))]
end GM
namespace GR
open PySem GM
/-! ### where a worth stands between two words -/
def cmpM (N Mo V : Int) (more : Bool) : Int := if N = V then (if more then 1 else 0) else if N > V then 1 else if N + (if more then 1 else 0) * Mo ≤ V then -1 else 1
theorem cmp_scale {c N Mo V : Int} {more : Bool} (h : 0 < c) : cmpM (N * c) (Mo * c) (V * c) more = cmpM N Mo V more := by
  unfold cmpM
  have e1 : N * c = V * c ↔ N = V := ⟨fun z => Int.eq_of_mul_eq_mul_right (by omega) z, fun z => by rw [z]⟩
  have e2 : N * c > V * c ↔ N > V := ⟨fun z => Int.lt_of_mul_lt_mul_right z (by omega), fun z => Int.mul_lt_mul_of_pos_right z h⟩
  have e3 : N * c + (if more then 1 else 0) * (Mo * c) ≤ V * c ↔ N + (if more then 1 else 0) * Mo ≤ V := by
    rw [← Int.mul_assoc, ← Int.add_mul]
    exact ⟨fun z => Int.le_of_mul_le_mul_right z h, fun z => Int.mul_le_mul_of_nonneg_right z (by omega)⟩
  by_cases c1 : N = V
  · rw [if_pos c1, if_pos (e1.mpr c1)]
  · rw [if_neg c1, if_neg (fun z => c1 (e1.mp z))]
    by_cases c2 : N > V
    · rw [if_pos c2, if_pos (e2.mpr c2)]
    · rw [if_neg c2, if_neg (fun z => c2 (e2.mp z))]
      by_cases c3 : N + (if more then 1 else 0) * Mo ≤ V
      · rw [if_pos c3, if_pos (e3.mpr c3)]
      · rw [if_neg c3, if_neg (fun z => c3 (e3.mp z))]
theorem cmp_ge {N Mo V : Int} {more : Bool} (h : V ≤ N) : 0 ≤ cmpM N Mo V more := by
  unfold cmpM
  split
  · split <;> decide
  · rw [if_pos (by omega)]
    decide
theorem cmp_lt {N Mo V : Int} {more : Bool} (h : N < V) (hm : more = true → N + Mo ≤ V) : cmpM N Mo V more = -1 := by
  unfold cmpM
  rw [if_neg (by omega), if_neg (by omega), if_pos ?_]
  cases more with
  | true =>
    have := hm rfl
    rw [if_pos rfl]
    omega
  | false =>
    rw [if_neg (by decide)]
    omega
/-! ### cutting off, on one scale -/
theorem cut_scale {n : Int} {a D : Nat} {b : Int} (hb : (D : Int) = a + b) : cutQ n b = n * 2 ^ a / 2 ^ D ∧ cutR n b = !decide (n * 2 ^ a % 2 ^ D = 0) := by
  have hD := pow_pos' D
  have ha := pow_pos' a
  unfold cutQ cutR
  by_cases c : b < 0
  · rw [if_pos c, if_pos c]
    have e : (2 : Int) ^ a = 2 ^ (-b).toNat * 2 ^ D := by rw [← pow_add']; congr 1; omega
    rw [e, ← Int.mul_assoc]
    refine ⟨(Int.mul_ediv_cancel _ (by omega)).symm, ?_⟩
    rw [Int.mul_emod_left, decide_eq_true rfl]
    rfl
  · rw [if_neg c, if_neg c]
    have e : (2 : Int) ^ D = 2 ^ b.toNat * 2 ^ a := by rw [← pow_add']; congr 1; omega
    have hp := pow_pos' b.toNat
    rw [e, Int.mul_ediv_mul_of_pos_left _ _ ha]
    refine ⟨rfl, ?_⟩
    rw [show n * 2 ^ a % (2 ^ b.toNat * 2 ^ a) = n % 2 ^ b.toNat * 2 ^ a by rw [Int.mul_comm n, Int.mul_comm (2 ^ b.toNat), Int.mul_emod_mul_of_pos _ _ ha, Int.mul_comm]]
    have e2 := Int.emod_add_mul_ediv n (2 ^ b.toNat)
    rw [Int.mul_comm] at e2
    by_cases d : n % 2 ^ b.toNat = 0
    · rw [d, Int.zero_mul, decide_eq_true rfl, decide_eq_true (by omega)]
    · have d2 : ¬ n % 2 ^ b.toNat * 2 ^ a = 0 := fun z => by
        rcases Int.mul_eq_zero.mp z with y | y
        · exact d y
        · omega
      rw [decide_eq_false d2, decide_eq_false (by omega)]
/-! ### the worth of a size -/
def W (t : Nat) (u : Int) : Int := num t u * 2 ^ ex t u
theorem W_at {t : Nat} {d : Nat} {m : Int} (h0 : 0 ≤ m) (h1 : m ≤ 2 ^ t * 2) (h2 : d = 0 ∨ 2 ^ t ≤ m) : W t (d * 2 ^ t + m) = m * 2 ^ d := by
  have hp := pow_pos' t
  unfold W
  by_cases c : m < 2 ^ t
  · have hd : d = 0 := by omega
    subst hd
    have e : ((0 : Nat) : Int) * 2 ^ t + m = m := by omega
    rw [e]
    unfold num ex
    rw [Int.ediv_eq_zero_of_lt h0 c, if_pos rfl, Int.emod_eq_of_lt h0 c]
    rfl
  · by_cases c2 : m < 2 ^ t * 2
    · have ed : ((d : Int) * 2 ^ t + m) / 2 ^ t = (d : Int) + 1 := by
        rw [show (d : Int) * 2 ^ t + m = (m - 2 ^ t) + ((d : Int) + 1) * 2 ^ t by rw [Int.add_mul]; omega, Int.add_mul_ediv_right _ _ (by omega), Int.ediv_eq_zero_of_lt (by omega) (by omega)]
        omega
      have em : ((d : Int) * 2 ^ t + m) % 2 ^ t = m - 2 ^ t := by
        rw [show (d : Int) * 2 ^ t + m = (m - 2 ^ t) + ((d : Int) + 1) * 2 ^ t by rw [Int.add_mul]; omega, Int.add_mul_emod_self_right, Int.emod_eq_of_lt (by omega) (by omega)]
      unfold num ex
      rw [ed, em, if_neg (by omega), show ((d : Int) + 1).toNat - 1 = d by omega, show 2 ^ t + (m - 2 ^ t) = m by omega]
    · have hm : m = 2 ^ t * 2 := by omega
      have ed : ((d : Int) * 2 ^ t + m) / 2 ^ t = (d : Int) + 2 := by
        rw [show (d : Int) * 2 ^ t + m = 0 + ((d : Int) + 2) * 2 ^ t by rw [Int.add_mul]; omega, Int.add_mul_ediv_right _ _ (by omega), Int.zero_ediv]
        omega
      have em : ((d : Int) * 2 ^ t + m) % 2 ^ t = 0 := by
        rw [show (d : Int) * 2 ^ t + m = 0 + ((d : Int) + 2) * 2 ^ t by rw [Int.add_mul]; omega, Int.add_mul_emod_self_right, Int.zero_emod]
      unfold num ex
      rw [ed, em, if_neg (by omega), show ((d : Int) + 2).toNat - 1 = d + 1 by omega, hm, pow_s, Int.add_zero, Int.mul_assoc, Int.mul_comm 2 (2 ^ d)]
theorem W_mono {t : Nat} {a b : Int} (h0 : 0 ≤ a) (h : a < b) : W t a < W t b := num_mono h0 h
theorem W_le {t : Nat} {a b : Int} (h0 : 0 ≤ a) (h : a ≤ b) : W t a ≤ W t b := by
  rcases Int.lt_or_eq_of_le h with c | c
  · exact Int.le_of_lt (W_mono h0 c)
  · rw [c]
    exact Int.le_refl _
theorem bl_in {n : Int} (h : 0 < n) : ∃ k : Nat, bl n = (k : Int) + 1 ∧ 2 ^ k ≤ n ∧ n < 2 ^ (k + 1) := by
  obtain ⟨e, h1, h2⟩ := bits_ex (x := n.toNat) (by omega)
  have hb := bits_unique h1 h2
  have c1 : ((2 ^ e : Nat) : Int) = (2 : Int) ^ e := PySem.W.kbt_cast _
  have c2 : ((2 ^ (e + 1) : Nat) : Int) = (2 : Int) ^ (e + 1) := PySem.W.kbt_cast _
  rw [show ((n.toNat : Nat) : Int) = n by omega] at hb
  refine ⟨e, ?_, by omega, by omega⟩
  unfold bl
  rw [hb]
  omega
/-- what the search meets, and what the rounding reckons -/
structure Fl (sc tl : Nat) (n p : Int) (more : Bool) (N Mo bq low0 : Int) : Prop where
  lo0 : 0 ≤ low0
  le : ∀ u, 0 ≤ u → u ≤ low0 → 0 ≤ cmpM N Mo (W tl u * bq) more
  gt : ∀ u, low0 < u → cmpM N Mo (W tl u * bq) more = -1
  just : cmpM N Mo (W tl low0 * bq) more = 0 ↔ prR n (lap sc tl n p - p) more = 0
  half : cmpM (N * 2) (Mo * 2) (W tl low0 * bq + W tl (low0 + 1) * bq) more = (if prR n (lap sc tl n p - p) more = 3 then 1 else if prR n (lap sc tl n p - p) more = 2 then 0 else -1)
  rest : 0 ≤ prR n (lap sc tl n p - p) more ∧ prR n (lap sc tl n p - p) more ≤ 3
  odd : low0 % 2 = prQ n (lap sc tl n p - p) % 2
  und : cmpM N Mo (W tl (2 ^ tl) * bq) more < 0 ↔ bl n + p ≤ 1 - (2 ^ (sc - 1) - 1)
theorem floor_facts {sc tl : Nat} {n p : Int} {more : Bool} (htl : 1 ≤ tl) (hn : 0 < n) (hm : more = true → p < lap sc tl n p) {a b : Nat} {B : Int} (ha : p - B = a) (hb : lea sc tl - B = (b : Int) + 1) :
    Fl sc tl n p more (n * 2 ^ a) (2 ^ a) (2 ^ (b + 1)) ((lap sc tl n p - lea sc tl) * 2 ^ tl + prQ n (lap sc tl n p - p)) := by
  obtain ⟨k, hk, hk1, hk2⟩ := bl_in hn
  have hge := lap_ge sc tl n p
  obtain ⟨d, hd⟩ : ∃ d : Nat, lap sc tl n p - lea sc tl = (d : Int) := ⟨(lap sc tl n p - lea sc tl).toNat, by omega⟩
  have hcase : (d = 0 ∧ bl n + p - 1 - tl ≤ lap sc tl n p) ∨ lap sc tl n p = bl n + p - 1 - tl := by
    unfold lap at hd ⊢
    split
    · rename_i c
      rw [if_pos c] at hd
      exact .inl ⟨by omega, by omega⟩
    · exact .inr rfl
  have hle : bl n + p - 1 - tl ≤ lap sc tl n p := by omega
  -- the scale
  obtain ⟨hQ, hR⟩ := cut_scale (n := n) (a := a) (D := d + b) (b := lap sc tl n p - p - 1) (by omega)
  have pD := pow_pos' (d + b)
  have pa := pow_pos' a
  have pt := pow_pos' tl
  have pD1 : (2 : Int) ^ (d + b + 1) = 2 ^ (d + b) * 2 := pow_s _
  have eq : prQ n (lap sc tl n p - p) = n * 2 ^ a / 2 ^ (d + b + 1) := by
    show cutQ n (lap sc tl n p - p - 1) / 2 ^ 1 = _
    rw [hQ, GM.div_div]
  have er : prR n (lap sc tl n p - p) more = 2 * (n * 2 ^ a / 2 ^ (d + b) % 2) + (if (!decide (n * 2 ^ a % 2 ^ (d + b) = 0)) || more then 1 else 0) := by
    show 2 * (cutQ n (lap sc tl n p - p - 1) % 2 ^ 1) + (if cutR n (lap sc tl n p - p - 1) || more then 1 else 0) = _
    rw [hQ, hR]
    rfl
  have hN0 : 0 < n * 2 ^ a := Int.mul_pos hn pa
  have moreD : more = true → ∃ f : Nat, (2 : Int) ^ (d + b) = 2 ^ f * 2 ^ a := fun z => by
    have := hm z
    refine ⟨d + b - a, ?_⟩
    rw [← pow_add']
    congr 1
    omega
  -- sizes of the number
  have hNlt : n * 2 ^ a < 2 ^ (k + 1 + a) := by
    rw [pow_add']
    exact Int.mul_lt_mul_of_pos_right hk2 pa
  have hNge : 2 ^ (k + a) ≤ n * 2 ^ a := by
    rw [pow_add']
    exact Int.mul_le_mul_of_nonneg_right hk1 (by omega)
  have hkd : k + 1 + a ≤ tl + 1 + (d + b + 1) := by omega
  have hm1 : n * 2 ^ a / 2 ^ (d + b + 1) < 2 ^ tl * 2 := by
    refine Int.ediv_lt_of_lt_mul (by omega) ?_
    rw [← pow_s, ← pow_add']
    exact Int.lt_of_lt_of_le hNlt (pow_le' hkd)
  have hm0 : 0 ≤ n * 2 ^ a / 2 ^ (d + b + 1) := Int.ediv_nonneg (by omega) (by omega)
  have hm2 : d = 0 ∨ 2 ^ tl ≤ n * 2 ^ a / 2 ^ (d + b + 1) := by
    rcases hcase with h | h
    · exact .inl h.1
    · right
      refine (Int.le_ediv_iff_mul_le (by omega)).mpr ?_
      rw [← pow_add']
      exact Int.le_trans (pow_le' (by omega)) hNge
  rw [eq, hd]
  have eN := Int.emod_add_mul_ediv (n * 2 ^ a) (2 ^ (d + b + 1))
  have r0 := Int.emod_nonneg (n * 2 ^ a) (show (2 : Int) ^ (d + b + 1) ≠ 0 by omega)
  have r1 := Int.emod_lt_of_pos (n * 2 ^ a) (show (0 : Int) < 2 ^ (d + b + 1) by omega)
  have fN := Int.emod_add_mul_ediv (n * 2 ^ a) (2 ^ (d + b))
  have s0 := Int.emod_nonneg (n * 2 ^ a) (show (2 : Int) ^ (d + b) ≠ 0 by omega)
  have s1 := Int.emod_lt_of_pos (n * 2 ^ a) pD
  have hh : n * 2 ^ a / 2 ^ (d + b + 1) = n * 2 ^ a / 2 ^ (d + b) / 2 := GM.div_s _ _
  have pt2 : (2 : Int) ^ tl = 2 ^ (tl - 1) * 2 := by rw [← pow_s]; congr 1; omega
  have bb : (2 : Int) ^ d * 2 ^ (b + 1) = 2 ^ (d + b) * 2 := by rw [← pow_add', show d + (b + 1) = d + b + 1 by omega, pow_s]
  have v0 : W tl ((d : Int) * 2 ^ tl + n * 2 ^ a / 2 ^ (d + b + 1)) * 2 ^ (b + 1) = n * 2 ^ a / 2 ^ (d + b + 1) * (2 ^ (d + b) * 2) := by
    rw [W_at hm0 (by omega) hm2, Int.mul_assoc, bb]
  have v1 : W tl ((d : Int) * 2 ^ tl + n * 2 ^ a / 2 ^ (d + b + 1) + 1) * 2 ^ (b + 1) = (n * 2 ^ a / 2 ^ (d + b + 1) + 1) * (2 ^ (d + b) * 2) := by
    rw [show (d : Int) * 2 ^ tl + n * 2 ^ a / 2 ^ (d + b + 1) + 1 = (d : Int) * 2 ^ tl + (n * 2 ^ a / 2 ^ (d + b + 1) + 1) by omega, W_at (by omega) (by omega) (by omega), Int.mul_assoc, bb]
  have lo0 : 0 ≤ (d : Int) * 2 ^ tl + n * 2 ^ a / 2 ^ (d + b + 1) := by
    have := Int.mul_nonneg (show (0 : Int) ≤ (d : Int) by omega) (Int.le_of_lt pt)
    omega
  have pb := pow_pos' (b + 1)
  rw [pD1] at eN r0 r1
  have vt : W tl (2 ^ tl) * 2 ^ (b + 1) = 2 ^ (tl + (b + 1)) := by
    have := W_at (t := tl) (d := 0) (m := 2 ^ tl) (by omega) (by omega) (.inl rfl)
    rw [show ((0 : Nat) : Int) * 2 ^ tl + 2 ^ tl = 2 ^ tl by omega, Int.pow_zero, Int.mul_one] at this
    rw [this, ← pow_add']
  have ho : ((d : Int) * 2 ^ tl + n * 2 ^ a / 2 ^ (d + b + 1)) % 2 = n * 2 ^ a / 2 ^ (d + b + 1) % 2 := by
    rw [pt2, ← Int.mul_assoc]
    generalize (d : Int) * 2 ^ (tl - 1) = z
    omega
  have lea1 : 1 - ((2 : Int) ^ (sc - 1) - 1) = lea sc tl + tl := by
    unfold lea
    omega
  -- multiples of what more stands for
  have stepM : more = true → ∀ X : Int, n * 2 ^ a < X * 2 ^ (d + b) → n * 2 ^ a + 2 ^ a ≤ X * 2 ^ (d + b) := fun z X hX => by
    obtain ⟨f, hf⟩ := moreD z
    rw [hf, ← Int.mul_assoc] at hX ⊢
    have h1 : n < X * 2 ^ f := Int.lt_of_mul_lt_mul_right hX (by omega)
    have h2 : (n + 1) * 2 ^ a ≤ X * 2 ^ f * 2 ^ a := Int.mul_le_mul_of_nonneg_right (by omega) (by omega)
    rw [Int.add_mul, Int.one_mul] at h2
    exact h2
  have X1 : more = true → n * 2 ^ a < 2 * (2 ^ (d + b) * (n * 2 ^ a / 2 ^ (d + b + 1))) + 2 ^ (d + b) → n * 2 ^ a + 2 ^ a ≤ 2 * (2 ^ (d + b) * (n * 2 ^ a / 2 ^ (d + b + 1))) + 2 ^ (d + b) := fun z => by
    have := stepM z (2 * (n * 2 ^ a / 2 ^ (d + b + 1)) + 1)
    rw [show (2 * (n * 2 ^ a / 2 ^ (d + b + 1)) + 1) * 2 ^ (d + b) = 2 * (2 ^ (d + b) * (n * 2 ^ a / 2 ^ (d + b + 1))) + 2 ^ (d + b) by rw [Int.add_mul, Int.one_mul, Int.mul_assoc, Int.mul_comm (2 ^ (d + b))]] at this
    exact this
  have X2 : more = true → n * 2 ^ a < 2 * (2 ^ (d + b) * (n * 2 ^ a / 2 ^ (d + b + 1))) + 2 * 2 ^ (d + b) → n * 2 ^ a + 2 ^ a ≤ 2 * (2 ^ (d + b) * (n * 2 ^ a / 2 ^ (d + b + 1))) + 2 * 2 ^ (d + b) := fun z => by
    have := stepM z (2 * (n * 2 ^ a / 2 ^ (d + b + 1)) + 2)
    rw [show (2 * (n * 2 ^ a / 2 ^ (d + b + 1)) + 2) * 2 ^ (d + b) = 2 * (2 ^ (d + b) * (n * 2 ^ a / 2 ^ (d + b + 1))) + 2 * 2 ^ (d + b) by rw [Int.add_mul, Int.mul_assoc, Int.mul_comm (2 ^ (d + b))]] at this
    exact this
  rw [show n * 2 ^ a / 2 ^ (d + b + 1) * (2 ^ (d + b) * 2) = 2 * (2 ^ (d + b) * (n * 2 ^ a / 2 ^ (d + b + 1))) by rw [← Int.mul_assoc, Int.mul_comm _ (2 ^ (d + b)), Int.mul_comm]] at v0
  rw [show (n * 2 ^ a / 2 ^ (d + b + 1) + 1) * (2 ^ (d + b) * 2) = 2 * (2 ^ (d + b) * (n * 2 ^ a / 2 ^ (d + b + 1))) + 2 * 2 ^ (d + b) by rw [Int.add_mul, ← Int.mul_assoc, Int.mul_comm _ (2 ^ (d + b)), Int.mul_comm _ 2]; omega] at v1
  have hb2 : n * 2 ^ a / 2 ^ (d + b) % 2 = 0 ∨ n * 2 ^ a / 2 ^ (d + b) % 2 = 1 := by omega
  have hNN : n * 2 ^ a = n * 2 ^ a % 2 ^ (d + b) + 2 * (2 ^ (d + b) * (n * 2 ^ a / 2 ^ (d + b + 1))) + n * 2 ^ a / 2 ^ (d + b) % 2 * 2 ^ (d + b) := by
    have e1 : n * 2 ^ a / 2 ^ (d + b) = 2 * (n * 2 ^ a / 2 ^ (d + b + 1)) + n * 2 ^ a / 2 ^ (d + b) % 2 := by omega
    have e2 : 2 ^ (d + b) * (n * 2 ^ a / 2 ^ (d + b)) = 2 * (2 ^ (d + b) * (n * 2 ^ a / 2 ^ (d + b + 1))) + n * 2 ^ a / 2 ^ (d + b) % 2 * 2 ^ (d + b) := by
      conv => lhs; rw [e1]
      rw [Int.mul_add, ← Int.mul_assoc, Int.mul_comm _ 2, Int.mul_assoc, Int.mul_comm (2 ^ (d + b)) (n * 2 ^ a / 2 ^ (d + b) % 2)]
    omega
  have hund : (n * 2 ^ a < 2 ^ (tl + (b + 1))) ↔ bl n + p ≤ 1 - (2 ^ (sc - 1) - 1) := by
    constructor
    · intro h
      have : (2 : Int) ^ (k + a) < 2 ^ (tl + (b + 1)) := by omega
      have : k + a < tl + (b + 1) := by
        rcases Nat.lt_or_ge (k + a) (tl + (b + 1)) with c | c
        · exact c
        · have := pow_le' c
          omega
      omega
    · intro h
      have : (2 : Int) ^ (k + 1 + a) ≤ 2 ^ (tl + (b + 1)) := pow_le' (by omega)
      omega
  clear eN r0 r1 fN hh stepM moreD hNlt hNge hkd hm1 hm2 hQ hR hk hk1 hk2 pt2 bb hcase
  have wle : ∀ u v : Int, 0 ≤ u → u ≤ v → W tl u * 2 ^ (b + 1) ≤ W tl v * 2 ^ (b + 1) := fun u v h1 h2 => Int.mul_le_mul_of_nonneg_right (W_le h1 h2) (by omega)
  generalize 2 ^ (d + b) * (n * 2 ^ a / 2 ^ (d + b + 1)) = z at *
  generalize n * 2 ^ a / 2 ^ (d + b) % 2 = hb' at *
  generalize n * 2 ^ a % 2 ^ (d + b) = rem at *
  generalize (d : Int) * 2 ^ tl + n * 2 ^ a / 2 ^ (d + b + 1) = lo at *
  generalize (2 : Int) ^ (d + b) = q at *
  generalize (2 : Int) ^ (b + 1) = bq at *
  generalize n * 2 ^ a = N at *
  generalize (2 : Int) ^ a = Mo at *
  have hgt : ∀ u, lo < u → cmpM N Mo (W tl u * bq) more = -1 := fun u hu => by
    have h1 := wle (lo + 1) u (by omega) (by omega)
    rw [v1] at h1
    have h2 : N < 2 * z + 2 * q := by rcases hb2 with c | c <;> rw [c] at hNN <;> omega
    exact cmp_lt (by omega) fun c => by
      have := X2 c h2
      omega
  refine ⟨lo0, fun u u0 u1 => cmp_ge ?_, hgt, ?_, ?_, ?_, by rw [eq]; exact ho, ?_⟩
  · have h1 := wle u lo u0 u1
    rw [v0] at h1
    rcases hb2 with c | c <;> rw [c] at hNN <;> omega
  · rw [v0, er]
    unfold cmpM
    rcases hb2 with c | c <;> rw [c] at hNN ⊢
    · by_cases c2 : rem = 0
      · rw [if_pos (by omega), c2]
        cases more <;> decide
      · rw [if_neg (by omega), if_pos (by omega), decide_eq_false c2]
        constructor
        · intro h; omega
        · intro h
          revert h
          cases more <;> decide
    · rw [if_neg (by omega), if_pos (by omega)]
      constructor
      · intro h; omega
      · intro h
        split at h <;> omega
  · rw [v0, v1, er]
    rcases hb2 with c | c <;> rw [c] at hNN ⊢
    · have h1 : cmpM (N * 2) (Mo * 2) (2 * z + (2 * z + 2 * q)) more = -1 := cmp_lt (by omega) fun c => by
        have := X1 c (by omega)
        omega
      rw [h1]
      split <;> rfl
    · unfold cmpM
      by_cases c2 : rem = 0
      · rw [if_pos (by omega), c2]
        cases more <;> decide
      · rw [if_neg (by omega), if_pos (by omega), decide_eq_false c2]
        rfl
  · rw [er]
    rcases hb2 with c | c <;> rw [c]
    · split <;> omega
    · split <;> omega
  · rw [vt, ← hund]
    constructor
    · intro h
      rcases Int.lt_or_le N (2 ^ (tl + (b + 1))) with c | c
      · exact c
      · have := cmp_ge (N := N) (Mo := Mo) (more := more) c
        omega
    · intro h
      have h1 : lo < 2 ^ tl := by
        rcases Int.lt_or_le lo (2 ^ tl) with c | c
        · exact c
        · have := wle (2 ^ tl) lo (by omega) c
          rw [vt, v0] at this
          rcases hb2 with c | c <;> rw [c] at hNN <;> omega
      have := hgt _ h1
      rw [vt] at this
      rw [this]
      decide
end GR
namespace GR
open PySem GM
/-! ### what is cut off, and kept as a bit more -/
theorem bl_div {n : Int} {j : Nat} (h : 0 < n / 2 ^ j) : bl (n / 2 ^ j) + j = bl n := by
  have pj := pow_pos' j
  have hm0 := Int.emod_nonneg n (show (2 : Int) ^ j ≠ 0 by omega)
  have hm1 := Int.emod_lt_of_pos n pj
  have dm := Int.emod_add_mul_ediv n (2 ^ j)
  have hpos : 0 < n := by
    have := Int.mul_pos pj h
    omega
  obtain ⟨k, hk, hk1, hk2⟩ := bl_in hpos
  obtain ⟨m, hm, g1, g2⟩ := bl_in h
  have l1 : (2 : Int) ^ (m + j) ≤ n := by
    rw [pow_add' m j]
    have := Int.mul_le_mul_of_nonneg_right g1 (Int.le_of_lt pj)
    rw [Int.mul_comm (n / 2 ^ j)] at this
    omega
  have l2 : n < (2 : Int) ^ (m + 1 + j) := by
    rw [pow_add' (m + 1) j]
    have := Int.mul_le_mul_of_nonneg_right (show n / 2 ^ j + 1 ≤ 2 ^ (m + 1) by omega) (Int.le_of_lt pj)
    rw [Int.add_mul, Int.one_mul, Int.mul_comm (n / 2 ^ j)] at this
    omega
  have e : k = m + j := by
    rcases Nat.lt_trichotomy k (m + j) with c | c | c
    · have := pow_le' (show k + 1 ≤ m + j by omega)
      omega
    · exact c
    · have := pow_le' (show m + 1 + j ≤ k by omega)
      omega
  omega
theorem mod_two {n : Int} {j c : Nat} : n % 2 ^ (c + j) = 0 ↔ (n % 2 ^ j = 0 ∧ n / 2 ^ j % 2 ^ c = 0) := by
  have pj := pow_pos' j
  have pc := pow_pos' c
  have r0 := Int.emod_nonneg n (show (2 : Int) ^ j ≠ 0 by omega)
  have r1 := Int.emod_lt_of_pos n pj
  have R0 := Int.emod_nonneg (n / 2 ^ j) (show (2 : Int) ^ c ≠ 0 by omega)
  have R1 := Int.emod_lt_of_pos (n / 2 ^ j) pc
  have d1 := Int.emod_add_mul_ediv n (2 ^ j)
  have d2 := Int.emod_add_mul_ediv (n / 2 ^ j) (2 ^ c)
  have pcj : (2 : Int) ^ (c + j) = 2 ^ c * 2 ^ j := pow_add' c j
  generalize n % 2 ^ j = r at *
  generalize n / 2 ^ j % 2 ^ c = R at *
  generalize n / 2 ^ j / 2 ^ c = Q at *
  generalize n / 2 ^ j = q at *
  have hlt : 2 ^ j * R + r < 2 ^ (c + j) := by
    have := Int.mul_le_mul_of_nonneg_right (show R + 1 ≤ 2 ^ c by omega) (Int.le_of_lt pj)
    rw [Int.add_mul, Int.one_mul, ← pcj, Int.mul_comm R] at this
    omega
  have hnn : 0 ≤ 2 ^ j * R := Int.mul_nonneg (Int.le_of_lt pj) R0
  have en : n = (2 ^ j * R + r) + Q * 2 ^ (c + j) := by
    rw [← d1, ← d2, pcj, Int.mul_add, ← Int.mul_assoc, Int.mul_comm (2 ^ j) (2 ^ c), Int.mul_comm (2 ^ c * 2 ^ j) Q]
    omega
  rw [en, Int.add_mul_emod_self_right, Int.emod_eq_of_lt (by omega) hlt]
  constructor
  · intro h
    have hz : 2 ^ j * R = 0 := by omega
    exact ⟨by omega, (Int.mul_eq_zero.mp hz).resolve_left (by omega)⟩
  · intro h
    rw [h.2, h.1]
    omega
theorem rnd_cut {sc tl : Nat} {s n p : Int} {w : Str} {more : Bool} (j : Nat) (h0 : 0 < n / 2 ^ j) (hp : p + j < lap sc tl (n / 2 ^ j) (p + j)) :
    rnd sc tl s n p w more = rnd sc tl s (n / 2 ^ j) (p + j) w (!decide (n % 2 ^ j = 0) || more) := by
  have pj := pow_pos' j
  have hb := bl_div h0
  have hb' : bl (n / 2 ^ j) + (p + j) = bl n + p := by omega
  have hl : lap sc tl (n / 2 ^ j) (p + j) = lap sc tl n p := by
    unfold lap
    rw [hb']
  rw [hl] at hp
  have hn : n ≠ 0 := fun z => by
    rw [z, Int.zero_ediv] at h0
    omega
  obtain ⟨c, hc⟩ : ∃ c : Nat, lap sc tl n p - (p + j) - 1 = (c : Int) := ⟨(lap sc tl n p - (p + j) - 1).toNat, by omega⟩
  obtain ⟨q1, r1⟩ := cut_scale (n := n / 2 ^ j) (a := 0) (D := c) (b := lap sc tl n p - (p + j) - 1) (by omega)
  obtain ⟨q2, r2⟩ := cut_scale (n := n) (a := 0) (D := c + j) (b := lap sc tl n p - p - 1) (by omega)
  rw [show (2 : Int) ^ 0 = 1 from rfl, Int.mul_one] at q1 r1 q2 r2
  have eQ : cutQ n (lap sc tl n p - p - 1) = cutQ (n / 2 ^ j) (lap sc tl n p - (p + j) - 1) := by
    rw [q1, q2, pow_add' c j, Int.mul_comm, Int.ediv_ediv_of_nonneg (Int.le_of_lt pj)]
  have eR : (cutR n (lap sc tl n p - p - 1) || more) = (cutR (n / 2 ^ j) (lap sc tl n p - (p + j) - 1) || (!decide (n % 2 ^ j = 0) || more)) := by
    rw [r1, r2, ← Bool.or_assoc]
    congr 1
    rw [Bool.eq_iff_iff, Bool.or_eq_true, Bool.not_eq_true', Bool.not_eq_true', Bool.not_eq_true', decide_eq_false_iff_not, decide_eq_false_iff_not, decide_eq_false_iff_not, mod_two]
    constructor
    · intro h
      by_cases z : n % 2 ^ j = 0
      · exact .inl (fun y => h ⟨z, y⟩)
      · exact .inr z
    · intro h y
      exact h.elim (fun z => z y.2) (fun z => z y.1)
  have ePQ : prQ n (lap sc tl n p - p) = prQ (n / 2 ^ j) (lap sc tl n p - (p + j)) := by
    unfold prQ
    rw [eQ]
  have ePR : prR n (lap sc tl n p - p) more = prR (n / 2 ^ j) (lap sc tl n p - (p + j)) (!decide (n % 2 ^ j = 0) || more) := by
    unfold prR
    rw [eQ, eR]
  unfold rnd siz mny flg
  rw [if_neg hn, if_neg (show ¬ n / 2 ^ j = 0 by omega), hl, hb', ePQ, ePR]
end GR
namespace GR
open PySem GM
/-! ### the same worth told by a lesser power; a word's own worth -/
theorem bl_mul {n : Int} {k : Nat} (h : 0 < n) : bl (n * 2 ^ k) = bl n + k := by
  have pk := pow_pos' k
  have e : n * 2 ^ k / 2 ^ k = n := Int.mul_ediv_cancel _ (by omega)
  have := bl_div (n := n * 2 ^ k) (j := k) (by rw [e]; exact h)
  rw [e] at this
  omega
theorem rnd_scale {sc tl : Nat} {s n p : Int} {w : Str} {m : Bool} (k : Nat) (hn : 0 < n) : rnd sc tl s (n * 2 ^ k) (p - k) w m = rnd sc tl s n p w m := by
  have pk := pow_pos' k
  have hb : bl (n * 2 ^ k) + (p - k) = bl n + p := by
    rw [bl_mul hn]
    omega
  have hl : lap sc tl (n * 2 ^ k) (p - k) = lap sc tl n p := by
    unfold lap
    rw [hb]
  have hz : 0 < n * 2 ^ k := Int.mul_pos hn pk
  obtain ⟨D, hD⟩ : ∃ D : Nat, (D : Int) = (k : Int) + ((p - lap sc tl n p + 1).toNat : Nat) + (lap sc tl n p - p - 1) := ⟨((k : Int) + ((p - lap sc tl n p + 1).toNat : Nat) + (lap sc tl n p - p - 1)).toNat, by omega⟩
  obtain ⟨q1, r1⟩ := cut_scale (n := n) (a := k + (p - lap sc tl n p + 1).toNat) (D := D) (b := lap sc tl n p - p - 1) (by omega)
  obtain ⟨q2, r2⟩ := cut_scale (n := n * 2 ^ k) (a := (p - lap sc tl n p + 1).toNat) (D := D) (b := lap sc tl n p - (p - k) - 1) (by omega)
  have e : n * 2 ^ k * 2 ^ (p - lap sc tl n p + 1).toNat = n * 2 ^ (k + (p - lap sc tl n p + 1).toNat) := by rw [pow_add', Int.mul_assoc]
  rw [e] at q2 r2
  have eQ : cutQ (n * 2 ^ k) (lap sc tl n p - (p - k) - 1) = cutQ n (lap sc tl n p - p - 1) := by rw [q1, q2]
  have eR : cutR (n * 2 ^ k) (lap sc tl n p - (p - k) - 1) = cutR n (lap sc tl n p - p - 1) := by rw [r1, r2]
  have ePQ : prQ (n * 2 ^ k) (lap sc tl n p - (p - k)) = prQ n (lap sc tl n p - p) := by
    unfold prQ
    rw [eQ]
  have ePR : prR (n * 2 ^ k) (lap sc tl n p - (p - k)) m = prR n (lap sc tl n p - p) m := by
    unfold prR
    rw [eQ, eR]
  unfold rnd siz mny flg
  rw [if_neg (show ¬ n * 2 ^ k = 0 by omega), if_neg (show ¬ n = 0 by omega), hl, hb, ePQ, ePR]
theorem rnd_word {sc tl : Nat} {s u : Int} {w : Str} (htl : 1 ≤ tl) (h0 : 0 < u) (h1 : u < (2 ^ sc - 1) * 2 ^ tl) : rnd sc tl s (num tl u) (lea sc tl + (ex tl u : Nat)) w false = (s * 2 ^ (sc + tl) + u, []) := by
  have pt := pow_pos' tl
  have hn : 0 < num tl u := by
    have n := Int.emod_nonneg u (show (2 : Int) ^ tl ≠ 0 by omega)
    have d := Int.emod_add_mul_ediv u (2 ^ tl)
    unfold num
    by_cases c : u / 2 ^ tl = 0
    · rw [if_pos c]
      rw [c, Int.mul_zero, Int.add_zero] at d
      omega
    · rw [if_neg c]
      omega
  have F := floor_facts (sc := sc) (tl := tl) (n := num tl u) (p := lea sc tl + (ex tl u : Nat)) (more := false) htl hn (fun z => nomatch z) (a := ex tl u + 1) (b := 0) (B := lea sc tl - 1) (by omega) (by omega)
  have eN : num tl u * 2 ^ (ex tl u + 1) = W tl u * 2 ^ (0 + 1) := by
    unfold W
    rw [pow_s, ← Int.mul_assoc]
    rfl
  have c0 : cmpM (num tl u * 2 ^ (ex tl u + 1)) (2 ^ (ex tl u + 1)) (W tl u * 2 ^ (0 + 1)) false = 0 := by
    unfold cmpM
    rw [if_pos eN]
    rfl
  have key : (lap sc tl (num tl u) (lea sc tl + (ex tl u : Nat)) - lea sc tl) * 2 ^ tl + prQ (num tl u) (lap sc tl (num tl u) (lea sc tl + (ex tl u : Nat)) - (lea sc tl + (ex tl u : Nat))) = u := by
    have L0 := F.lo0
    rcases Int.lt_trichotomy ((lap sc tl (num tl u) (lea sc tl + (ex tl u : Nat)) - lea sc tl) * 2 ^ tl + prQ (num tl u) (lap sc tl (num tl u) (lea sc tl + (ex tl u : Nat)) - (lea sc tl + (ex tl u : Nat)))) u with c | c | c
    · have := F.gt u c
      rw [c0] at this
      cases this
    · exact c
    · have g := F.le _ L0 (Int.le_refl _)
      have hm := W_mono (t := tl) (Int.le_of_lt h0) c
      have := cmp_lt (N := num tl u * 2 ^ (ex tl u + 1)) (Mo := 2 ^ (ex tl u + 1)) (V := W tl ((lap sc tl (num tl u) (lea sc tl + (ex tl u : Nat)) - lea sc tl) * 2 ^ tl + prQ (num tl u) (lap sc tl (num tl u) (lea sc tl + (ex tl u : Nat)) - (lea sc tl + (ex tl u : Nat)))) * 2 ^ (0 + 1)) (more := false) (by rw [eN]; exact Int.mul_lt_mul_of_pos_right hm (pow_pos' _)) (fun z => nomatch z)
      rw [this] at g
      omega
  have rest := F.just.mp (by rw [key]; exact c0)
  have hg : ∀ x, gup w s x 0 = false := fun x => by
    unfold gup
    split
    · rfl
    · rfl
  have hs : siz sc tl s (num tl u) (lea sc tl + (ex tl u : Nat)) w false = u := by
    unfold siz mny
    rw [rest, hg, if_neg Bool.false_ne_true]
    exact key
  have e1 : wrd sc tl 0 (2 ^ sc - 1 - 1) (2 ^ tl - 1) = (2 ^ sc - 1) * 2 ^ tl - 1 := by
    unfold wrd
    rw [Int.sub_mul (2 ^ sc - 1) 1, Int.one_mul]
    omega
  unfold rnd
  rw [if_neg (show ¬ num tl u = 0 by omega), hs, if_neg (by rw [e1]; omega), rest]
  unfold flg wrd
  rw [if_pos rfl, Int.zero_mul, Int.add_zero, Int.add_zero]
end GR
namespace GZ
open PySem PySem.Spec PyProof.Rows L2
end GZ
namespace L2
open PySem PySem.Spec PyProof.Rows
/-! ### defs that tell lists as texts: around them no text of a list is under way -/
structure FnOkG (P : Program) (w : World) (K : PySem.W.Frag) (mg : Str → Option Value) (base : Heap) (CX : CXT) (k : Nat) (f : Addr) (fd : FuncData) (ps : List Str) (sp : Sp) : Prop where
  lenG : ∀ vs H Q E, sp vs H Q E → vs.length = ps.length
  runG : ∀ (B : Around) (ou : List Env) (u : Shared) (H : Hp) (ar : Args) (us : List Value) (vs : List V) (Q : VK) (E : XK), B.guards = some [] → Room k B → Env0 P w K mg base B ou u H → BindsTo u fd ar (ps.zip us) → Vals vs us → sp vs H Q E → codeAny (model P w) B (.call (.ref f) ar) (CR CX ou P w H u Q E) u
section
variable {P : Program} {w : World} {K : PySem.W.Frag} {mg : Str → Option Value} {base : Heap} {CX : CXT} {f : Addr} {fd : FuncData} {ps : List Str} {sp sq : Sp}
theorem FnOk.toG {k : Nat} (F : FnOk P w K mg base CX k f fd ps sp) : FnOkG P w K mg base CX k f fd ps sp := ⟨F.len, fun B ou u H ar us vs Q E _ r e b v h => F.run B ou u H ar us vs Q E r e b v h⟩
theorem FnOkG.mono {j k : Nat} (F : FnOkG P w K mg base CX j f fd ps sp) (l : j ≤ k) : FnOkG P w K mg base CX k f fd ps sp := ⟨F.lenG, fun B ou u H ar us vs Q E g r => F.runG B ou u H ar us vs Q E g (r.mono l)⟩
theorem FnOkG.imp {k : Nat} (F : FnOkG P w K mg base CX k f fd ps sp) (h : ∀ vs H Q E, sq vs H Q E → sp vs H Q E) : FnOkG P w K mg base CX k f fd ps sq := ⟨fun vs H Q E q => F.lenG vs H Q E (h vs H Q E q), fun B ou u H ar us vs Q E g r e b v z => F.runG B ou u H ar us vs Q E g r e b v (h vs H Q E z)⟩
end
theorem fnG_of {CX : CXT} {P : Program} {w : World} {K : PySem.W.Frag} {mg : Str → Option Value} {base : Heap} {k : Nat} {f : Addr} {nm qu : Str} {pr : Arguments} {bd : List Stmt} {sc : Scope} {dV kV doc pm cdv ct oc : Value} {an od : Option Addr}
    {osl : Array (Option Value)} {N ps : List Str} {sp : Sp} (lk : K.lookup f = some ⟨oc, od, .func (PySem.W.fnOf nm qu pr bd sc dV kV doc pm an cdv ct), osl⟩) (hcd : PySem.W.codeIn K cdv qu = true) (S : FnScope N ps sc)
    (ln : ∀ vs H Q E, sp vs H Q E → vs.length = ps.length)
    (hb : ∀ (B : Around) (ou : List Env) (u : Shared) (H : Hp) (vs : List V) (Q : VK) (E : XK), (B.deeper (envOfC qu sc u.heap.objs.size f cdv)).guards = some [] → Room k (B.deeper (envOfC qu sc u.heap.objs.size f cdv)) → sp vs H Q E →
      ∃ t, PSs (cxOf CX P w K mg base N qu sc f cdv B ou u H E) bd t ∧ t { nx := fun _ G => Q .non G, rt := Q } (start N vs) H) :
    FnOkG P w K mg base CX (k + 1) f (PySem.W.fnOf nm qu pr bd sc dV kV doc pm an cdv ct) ps sp := by
  refine ⟨ln, fun B ou u H ar us vs Q E hg rm e0 bi rv hs => ?_⟩
  have lv := ln _ _ _ _ hs
  have XK : K.In u.heap := e0.mod.kin.keeps fun b o e => (e0.bs b o e).1
  have NL : u.heap.NoLimit := e0.mod.nolimit.keeps fun b o e => (e0.bs b o e).1
  have kd : ∀ y ∈ ps.zip us, sc.names.lookup y.1 = some .local ∨ (sc.names.lookup y.1 = some .cell ∧ ((cellsFrom (u.heap.objs.size + 1) sc.names []).lookup y.1).isSome = true) := fun ⟨n, v⟩ hy => (S.par n (List.of_mem_zip hy).1).elim .inl fun q => .inr ⟨q, PySem.W.cellsFrom_some _ _ _ (.inl q)⟩
  refine codeAny_call_function rm.depth (XK _ _ lk) rfl S.co S.gen rfl (PySem.W.codeRec_of XK hcd) (bi _ _ _ _ ?_)
  refine wpAny_newFunctionEnv_cells S.kind kd fun en he t1 xc => ?_
  subst he
  refine ⟨NL.keeps xc.toInCall.keep, codeAny_func ?_⟩
  obtain ⟨t, ht, hq⟩ := hb B ou u H vs Q E hg (rm.deeper _) hs
  have J0 : Inv (cxOf CX P w K mg base N qu sc f cdv B ou u H E) [] (start N vs) H t1 := inv_start S rm.hd e0 lv rv xc
  refine wpAny_mono (ht.run [] t1 (start N vs) H _ J0 hq) (fun fl t2 z => ?_) fun _ _ z => z
  have done : ∀ {σ2 : St} {H2 : Hp} {v : V} {y : Value}, Inv (cxOf CX P w K mg base N qu sc f cdv B ou u H E) [] σ2 H2 t2 → RelV v y → Q v H2 → CE ou P w H u Q y t2 := fun {σ2 H2 v y} J rl q => ⟨v, H2, J.os, J.bare, J.base, J.hok, rl, q⟩
  match fl, z with
  | .ret y, ⟨v, σ2, H2, J, rl, q⟩ => exact done J rl q
  | .next, ⟨σ2, H2, J, q⟩ => exact done (v := V.non) (y := Value.none) J rfl q
  | .brk, ⟨_, _, _, q⟩ => exact q.elim
  | .cont, ⟨_, _, _, q⟩ => exact q.elim
theorem Fun.okG {P : Program} {w : World} {K : PySem.W.Frag} {mg : Str → Option Value} {base : Heap} {x qu : Str} {st : Stmt} {f : Addr} {fd : FuncData} {N ps : List Str} {k : Nat} {sp : Sp} (F : Fun K x qu st f fd) (S : FnScope N ps (defScope st)) (ln : ∀ vs H Q E, sp vs H Q E → vs.length = ps.length)
    (hb : ∀ (cdv : Value) (B : Around) (ou : List Env) (u : Shared) (H : Hp) (vs : List V) (Q : VK) (E : XK), (B.deeper (envOfC qu (defScope st) u.heap.objs.size f cdv)).guards = some [] → Room k (B.deeper (envOfC qu (defScope st) u.heap.objs.size f cdv)) → sp vs H Q E →
      ∃ t, PSs (cxOf CX0 P w K mg base N qu (defScope st) f cdv B ou u H E).nox (defBody st) t ∧ t { nx := fun _ G => Q .non G, rt := Q } (start N vs) H) : FnOkG P w K mg base CX0 (k + 1) f fd ps sp := by
  obtain ⟨oc, od, kV, doc, pm, an, cdv, ct, osl, rfl, lk, hc⟩ := F.ex
  refine fnG_of lk hc S ln fun B ou u H vs Q E hg rm hs => ?_
  obtain ⟨t, h, q⟩ := hb cdv B ou u H vs Q E hg rm hs
  exact ⟨t, h.nox, q⟩
section
variable {X : Cx} {CX : CXT} {k : Nat} {f : Addr} {fd : FuncData} {ps : List Str} {sp : Sp} {dvs : List V} {ds : List Value} {E : XK} {x : Str} {p pos : Pos} {e : Expr} {es : List Expr} {t : TA}
theorem runG_fn {pz : List (Addr × Obj)} {τ : St} {H : Hp} {u0 : Shared} {Q : VK} {us : List Value} {vs : List V} (F : FnOkG X.prog X.w X.K X.mg X.base CX k f fd ps sp) (gd : X.A.guards = some []) (hr : Room k X.A) (hb : Binds X.K fd ps ds) (hd : Vals dvs ds) (hx : Passes CX X E)
    (I : Inv X pz τ H u0) (r : Vals vs us) (h : sp (vs ++ dvs) H Q E) : wpAny (model X.prog X.w) X.A (call (.ref f) us) (EP X pz τ Q) X.xe u0 := by
  have ra : Vals (vs ++ dvs) (us ++ ds) := r.append hd
  have la : (us ++ ds).length = ps.length := ra.length.symm.trans (F.lenG _ _ _ _ h)
  refine wpAny_call (codeAny_mono (F.runG X.A X.stack u0 H ⟨us, []⟩ (us ++ ds) (vs ++ dvs) Q E gd hr I.env0 (hb u0 us I.kIn la) ra h) fun r1 t1 z => ?_)
  match r1 with
  | .error er => exact hx pz τ H u0 er t1 I z
  | .ok (.ret y) => exact I.after z
  | .ok .next => exact z.elim
  | .ok .brk => exact z.elim
  | .ok .cont => exact z.elim
theorem pe_callG (F : FnOkG X.prog X.w X.K X.mg X.base CX k f fd ps sp) (gd : X.A.guards = some []) (hr : Room k X.A) (hg : Gl X x) (hm : X.mg x = some (.ref f)) (hk : PySem.W.keepIn X.K (.ref f) = true) (hb : Binds X.K fd ps ds) (hd : Vals dvs ds) (hx : Passes CX X E)
    (ha : PA X (e :: es) t) (hdb : (x == ("__debug__" : Str)) = false := by decide) (he : starEach (e :: es) X.env = (false, eval e X.env) :: starEach es X.env := by rfl) (hpl : (backTo pos (starEach es X.env)).any (·.1) = false := by rfl) :
    PE X (.Call (.Name x p) (e :: es) [] pos) (tCall sp dvs E t) := by
  constructor
  intro pz u0 τ H Q I h
  refine wpAny_Call_Name_kw (ld_glob I hg hm (PySem.W.callWith_K (h₀ := X.base) I.ok.mod.kin hk (thn (ha.run pos pz u0 τ H _ I h) fun us t1 z => ?_) he hpl) hdb)
  obtain ⟨vs, H1, I1, r, q⟩ := z
  exact ⟨I1.kIn, runG_fn F gd hr hb hd hx I1 r q⟩
/-- str of a list or tuple -/
theorem call_strD (gd : X.A.guards = some []) (hu : X.A.units + 100 < cLine) : CallR X (.type "str") (fun xs H Q => ∃ (a : Addr) (d : PyData), xs = [.ref a] ∧ Dp X.K H (.ref a) d ∧ d.showable = true ∧ d.hasDict = false ∧ d.shown.length ≤ sizeLine ∧ d.depth ≤ 60 ∧ Q (.str d.shown) H) := by
  intro pz u0 τ H xs us Q I r h
  obtain ⟨a, d, rfl, hd, h1, h2, h3, h4, q⟩ := h
  obtain ⟨u, rfl, rv⟩ := vals1 r
  obtain ⟨as, rd⟩ := Dp.reads I d (.ref a) u hd rv
  cases (show u = Value.ref a from rv)
  exact str_of_reads rd h1 (fun z => by rw [h2] at z; cases z) gd (by omega) (fun b o e => e) (fun h' y tk k => ⟨.str _, H, I.kept k, ⟨_, rfl⟩, q⟩) h3
end
/-! ### the head for such a law -/
theorem law_callG {P : Program} {w : World} {K : PySem.W.Frag} {mg mb : Str → Option Value} {CX : CXT} {k : Nat} {fa sa : Addr} {fd : FuncData} {x : Str} {sp : Sp} {t1 : Shared} {vs : List Value} {ns : List Int}
    (XK : K.In t1.heap) (hn : t1.heap.Ns mainGlobals mg) (hb : t1.heap.Ns builtinsNs mb) (hbb : ∀ y : Str, y ≠ "__name__" → mb y = bootBuiltins y) (nl : t1.heap.NoLimit) (ge : t1.gens = #[])
    (ha : t1.heap.get? sa = some { cls := .type "list", data := .seq vs.toArray }) (hi : IntsAre vs ns) (hl : ns.length ≤ sizeLine) (rm : Room k callerA)
    (F : ∀ base : Heap, K.In base → base.Ns mainGlobals mg → FnOkG P w K mg base CX k fa fd [x] sp) (bi : ∀ (u : Shared) (v : Value), BindsTo u fd ⟨[v], []⟩ [(x, v)])
    (hsp : ∀ H : Hp, Only H → SqL K H sa (ns.map V.int) → sp [.ref sa] H (fun v _ => v = .bl true) fun _ _ _ => False)
    (hX : ∀ H e t2, CX [] H t1 (fun _ _ _ => False) e t2 → False) :
    codeAny (model P w) callerA (.call (.ref fa) ⟨[.ref sa], []⟩) (fun r t2 => r = .ok (.ret (.bool true)) ∧ OldK t1.heap t2.heap ∧ t2.os = t1.os ∧ AllBare t2.gens) t1 := by
  have rv := vals_ints hi
  have lv := hi.length
  have main : ∀ H : Hp, Only H → SqL K H sa (ns.map V.int) → HOk P w H t1.heap → (∀ b, H b ≠ none → b = sa) → (H sa ≠ none → K.lookup sa = none) → codeAny (model P w) callerA (.call (.ref fa) ⟨[.ref sa], []⟩) (fun r t2 => r = .ok (.ret (.bool true)) ∧ OldK t1.heap t2.heap ∧ t2.os = t1.os ∧ AllBare t2.gens) t1 := by
    intro H hO hS ok only notK
    have there : ∀ {b : Addr} {o : Obj}, t1.heap.get? b = some o → H b = none → (hidT t1.heap H).get? b = some o := fun e n => hidT_get e n
    have dicts : ∀ {b : Addr} {o : Obj} {es : Array DictEntry} {ep : Nat}, t1.heap.get? b = some o → o.data = .dict es ep → H b = none := fun {b o es ep} e d => by
      cases z : H b with
      | none => rfl
      | some y =>
        have eb : b = sa := only b (fun q => by rw [z] at q; cases q)
        rw [eb, ha] at e
        cases e
        exact absurd (show Data.seq vs.toArray _ = Data.dict es ep from d) (fun q => by cases q)
    have nsk : ∀ {b : Addr} {m : Str → Option Value}, t1.heap.Ns b m → (hidT t1.heap H).Ns b m := fun {b m} z => by
      obtain ⟨o, es, ep, e, d, r⟩ := z
      exact ⟨o, es, ep, there e (dicts e d), d, r⟩
    have inK : K.In (hidT t1.heap H) := fun b o e => there (XK b o e) (by
      cases z : H b with
      | none => rfl
      | some y =>
        have ny : H b ≠ none := fun q => by rw [z] at q; cases q
        have eb : b = sa := only b ny
        subst eb
        rw [notK ny] at e
        cases e)
    have md : Mod K mg (hidT t1.heap H) := ⟨inK, nsk hn, ⟨mb, nsk hb, hbb⟩, by obtain ⟨mc, z1, z2⟩ := nl; exact ⟨mc, nsk z1, z2⟩⟩
    have en : Env0 P w K mg (hidT t1.heap H) callerA [] t1 H := ⟨rfl, md, fun b o e => of_hidT e, Nat.le_of_eq (hidT_size _ _), trivial, fun b hb => absurd (show b ∈ ([] : List Addr) from hb) (by simp), ok, .of_eq ge⟩
    refine codeAny_mono ((F _ inK (nsk hn)).runG callerA [] t1 H ⟨[.ref sa], []⟩ [.ref sa] [.ref sa] _ _ rfl rm en (bi t1 (.ref sa)) (.cons rfl .nil) (hsp H hO hS)) fun r t2 z => ?_
    match r, z with
    | .error e, z => exact (hX H e t2 z).elim
    | .ok .next, z => exact z.elim
    | .ok .brk, z => exact z.elim
    | .ok .cont, z => exact z.elim
    | .ok (.ret y), z =>
      obtain ⟨v, H2, os, br, un, ok2, rl, q⟩ := z
      cases (show v = .bl true from q)
      cases (show y = Value.bool true from rl)
      refine ⟨rfl, OldK.of_keep fun b o e => ?_, os, br⟩
      cases z : H b with
      | none => exact un.keep b o e z (fun z => absurd (show b ∈ ([] : List Addr) from z) (by simp)) (by simp)
      | some y =>
        rcases hO b with n | ⟨ob, xs, n⟩
        · rw [z] at n
          cases n
        · obtain ⟨e1, _⟩ := ok b _ n
          obtain ⟨e2, _⟩ := ok2 b _ (un.frzs b ob _ n)
          rw [e] at e1
          cases e1
          exact e2
  cases hk : K.lookup sa with
  | some o =>
    have e := XK sa o hk
    rw [ha] at e
    cases e
    exact main (fun _ => none) (fun _ => .inl rfl) (.inr ⟨_, vs.toArray, _, hk, rfl, rfl, rfl, by rw [List.size_toArray, lv]; exact hl, by simpa using rv⟩) (fun b y z => absurd (show (none : Option HO) = some y from z) (fun q => by cases q)) (fun b z => absurd rfl z) fun z => absurd rfl z
  | none =>
    refine main (fun b => if b = sa then some (.frz { cls := .type "list", data := .seq vs.toArray } (.lst (ns.map V.int))) else none) (fun b => ?_) (.inl (.inr ⟨{ cls := .type "list", data := .seq vs.toArray }, if_pos rfl⟩)) (fun b y z => ?_) (fun b z => ?_) fun _ => hk
    · by_cases c : b = sa
      · exact .inr ⟨_, _, if_pos c⟩
      · exact .inl (if_neg c)
    · by_cases c : b = sa
      · cases ((if_pos c).symm.trans z)
        subst c
        exact ⟨ha, by rw [List.length_map]; exact hl, vs, _, rv, ha⟩
      · cases ((if_neg c).symm.trans z)
    · by_cases c : b = sa
      · exact c
      · exact absurd (if_neg c) z
theorem walkG {l : PySem.W.OpenLaw} {n k : Nat} {q : Program} {lo : List Str} {XP : (Str → Option Value) → Heap → Prop} {YP : World → Heap → Prop} {d : DefRec} {K : Params → PySem.W.Frag} {CX : World → CXT} {sp : World → Sp} {x : Str}
    (hn : l.most = some n) (hs : n ≤ sizeLine) (hdf : d.params.defaults = []) (rm : Room k callerA) (hY : ∀ (w : World) (h : Heap), YP w h → (K w.params).In h)
    (F : ∀ (w : World) (mg : Str → Option Value) (fa : Addr) (h : Heap), (K w.params).In h → h.Ns mainGlobals mg → mg d.name = some (.ref fa) → ∃ fd : FuncData, (∀ (u : Shared) (v : Value), BindsTo u fd ⟨[v], []⟩ [(x, v)]) ∧ ∀ base : Heap, (K w.params).In base → base.Ns mainGlobals mg → FnOkG l.prog w (K w.params) mg base (CX w) k fa fd [x] (sp w))
    (hsp : ∀ (w : World) (H : Hp) (a : Addr) (ns : List Int), ns.length ≤ n → Only H → SqL (K w.params) H a (ns.map V.int) → sp w [.ref a] H (fun v _ => v = .bl true) fun _ _ _ => False)
    (hX : ∀ (w : World) (H : Hp) (u : Shared) (e : Value) (u' : Shared), CX w [] H u (fun _ _ _ => False) e u' → False) : PySem.W.WalkO q lo XP YP l.row.toRowW d [] (fun f vs => PySem.call f vs) := by
  refine Att.attach_call hn hdf fun w t0 t1 mg mb fa o pm cd doc a vs ns G Y ho hd hc hm hobj hi hlen hg => ?_
  obtain ⟨fd, hb, hF⟩ := F w mg fa _ (hY w _ Y) G.T.g hm
  exact law_callG (hY w _ Y) G.T.g G.T.b G.T.builtins G.T.nolimit hg hobj hi (Nat.le_trans hlen hs) rm hF hb (fun H hO hS => hsp w H a ns hlen hO hS) fun H e t2 => hX w H t1 e t2
end L2
namespace L2
open PySem PySem.Spec PyProof.Rows
/-! ### data that can be told as a text: n leaves and lists at most, m deep -/
structure Shw (n m : Nat) (d : PyData) : Prop where
  sh : d.showable = true
  nd : d.hasDict = false
  ls : d.leavesShort 110 = true
  bk : d.bulk ≤ n
  dp : d.depth ≤ m
structure ShwA (n m : Nat) (ds : List PyData) : Prop where
  sh : PyData.showableAll ds = true
  nd : PyData.hasDictAll ds = false
  ls : PyData.leavesShortAll 110 ds = true
  bk : PyData.bulkAll ds ≤ n
  dp : PyData.depthAll ds ≤ m
theorem Shw.mono {n m n' m' : Nat} {d : PyData} (h : Shw n m d) (a : n ≤ n') (b : m ≤ m') : Shw n' m' d := ⟨h.sh, h.nd, h.ls, Nat.le_trans h.bk a, Nat.le_trans h.dp b⟩
theorem ShwA.mono {n m n' m' : Nat} {ds : List PyData} (h : ShwA n m ds) (a : n ≤ n') (b : m ≤ m') : ShwA n' m' ds := ⟨h.sh, h.nd, h.ls, Nat.le_trans h.bk a, Nat.le_trans h.dp b⟩
theorem Shw.non : Shw 0 0 .none := ⟨rfl, rfl, rfl, Nat.le_refl _, Nat.le_refl _⟩
theorem Shw.bl (b : Bool) : Shw 0 0 (.bool b) := ⟨rfl, rfl, rfl, Nat.le_refl _, Nat.le_refl _⟩
theorem Shw.int {i : Int} (h0 : -(2 ^ 100) < i) (h1 : i < 2 ^ 100) : Shw 0 0 (.int i) := by
  have hl : i.natAbs.log2 < 100 := by
    by_cases c : i.natAbs = 0
    · rw [c]
      decide
    · refine (Nat.log2_lt c).mpr ?_
      have : ((2 ^ 100 : Nat) : Int) = 2 ^ 100 := by decide
      omega
  refine ⟨decide_eq_true (by omega), rfl, decide_eq_true ?_, Nat.le_refl _, Nat.le_refl _⟩
  show (Str.ofString (toString i)).length ≤ 110
  rw [PySem.ofString_length]
  have := int_text_length_le (k := 100) (by decide) hl
  omega
theorem Shw.str {x : Str} (h : ∀ c ∈ x.cps.toList, c < 16 ^ 8) : Shw x.length 0 (.str x) := ⟨rfl, rfl, by simpa only [PyData.leavesShort, List.all_eq_true, decide_eq_true_eq] using h, Nat.le_refl _, Nat.le_refl _⟩
theorem ShwA.nil : ShwA 0 0 [] := ⟨rfl, rfl, rfl, Nat.le_refl _, Nat.le_refl _⟩
theorem ShwA.cons {n k m : Nat} {d : PyData} {ds : List PyData} (h : Shw n m d) (r : ShwA k m ds) : ShwA (n + 1 + k) m (d :: ds) :=
  ⟨by unfold PyData.showableAll; rw [h.sh, r.sh]; rfl, by unfold PyData.hasDictAll; rw [h.nd, r.nd]; rfl, by unfold PyData.leavesShortAll; rw [h.ls, r.ls]; rfl, by unfold PyData.bulkAll; have := h.bk; have := r.bk; omega, by unfold PyData.depthAll; exact Nat.max_le.mpr ⟨h.dp, r.dp⟩⟩
theorem Shw.lst {n m : Nat} {ds : List PyData} (h : ShwA n m ds) : Shw n (m + 1) (.list ds) := ⟨by unfold PyData.showable; exact h.sh, by unfold PyData.hasDict; exact h.nd, by unfold PyData.leavesShort; exact h.ls, by unfold PyData.bulk; exact h.bk, by unfold PyData.depth; exact Nat.succ_le_succ h.dp⟩
theorem Shw.tup {n m : Nat} {ds : List PyData} (h : ShwA n m ds) : Shw n (m + 1) (.tuple ds) := ⟨by unfold PyData.showable; exact h.sh, by unfold PyData.hasDict; exact h.nd, by unfold PyData.leavesShort; exact h.ls, by unfold PyData.bulk; exact h.bk, by unfold PyData.depth; exact Nat.succ_le_succ h.dp⟩
theorem ShwA.ints : ∀ ds : List Int, (∀ d ∈ ds, -(2 ^ 100) < d ∧ d < 2 ^ 100) → ShwA ds.length 0 (ds.map PyData.int)
  | [], _ => .nil
  | d :: ds, h => by
    have r := ShwA.ints ds fun e he => h e (List.mem_cons_of_mem _ he)
    have a := h d List.mem_cons_self
    exact (ShwA.cons (Shw.int a.1 a.2) r).mono (by rw [List.length_cons]; omega) (Nat.le_refl _)
theorem Shw.fits {n m : Nat} {d : PyData} (h : Shw n m d) (hn : n ≤ 100000) : d.shown.length ≤ sizeLine := by
  have a := PyData.shown_le_bulk 110 (by decide) d h.ls
  have b := h.bk
  rw [sizeLine_eq]
  omega
theorem roomS {k : Nat} {A : Around} (r : Room k A) : A.units + 100 < cLine := by
  have := r.un
  omega
def rStrL (K : PySem.W.Frag) : List V → Hp → VK → Prop := fun xs H Q => ∃ (a : Addr) (d : PyData) (n m : Nat), xs = [.ref a] ∧ Dp K H (.ref a) d ∧ Shw n m d ∧ n ≤ 100000 ∧ m ≤ 60 ∧ Q (.str d.shown) H
theorem call_strL {X : Cx} (gd : X.A.guards = some []) (hu : X.A.units + 100 < cLine) : CallR X (.type "str") (rStrL X.K) := by
  intro pz u0 τ H xs us Q I r h
  obtain ⟨a, d, n, m, rfl, hd, s, hn, hm, q⟩ := h
  exact call_strD gd hu pz u0 τ H [.ref a] us Q I r ⟨a, d, rfl, hd, s.sh, s.nd, s.fits hn, Nat.le_trans s.dp hm, q⟩
end L2
namespace GZ
open PySem PySem.Spec PyProof.Rows L2
end GZ
namespace PySem
namespace WhX
open PySem.W PySem.Calls PyProof.Rows PySem.HandSPX
/-! ### an own error over any base, whose __init__ keeps its one argument as what -/
def whA (p1 p2 : Pos) : Arguments := { posonlyargs := [], args := [{ arg := "self", annotation := none, pos := p1 }, { arg := "what", annotation := none, pos := p2 }], vararg := none, kwonlyargs := [], kw_defaults := [], kwarg := none, defaults := [] }
def whB (q1 q2 q3 q4 : Pos) : List Stmt := [.Assign [.Attribute (.Name "self" q1) "what" q2] (.Name "what" q3) q4]
def whS : Scope := { kind := .function, names := [(PySem.Str.ofString "self", .local), (PySem.Str.ofString "what", .local)], isGenerator := false, isCoroutine := false, more := [] }
/-- what the written part says of an error's class, at C -/
structure ErrC (K : Frag) (C : Addr) : Prop where
  ga : findIn K (.ref C) "__getattribute__" = some (some (.builtin "BaseException.__getattribute__"))
  gg : findIn K (.ref C) "__getattr__" = some none
  noN : findIn K (.ref C) "what" = some none
  kC : keepIn K (.ref C) = true
  exC : subIn K (.ref C) (.type "BaseException") = some true
  tyC : typeIn K (.ref C) = some (.type "type")
  hdC : hasDictIn K C = true
  cl : findIn K (.ref C) "__class__" = some (some (.builtin "object.__class__"))
  sp : specialIn K (.builtin "object.__class__") "__get__" = some (some (.builtin "getset_descriptor.__get__"))
  tk : takesIn K (.builtin "object.__class__") = some true
  mr : mroIn K C (.type "object") = some true
/-- and of one that is raised, with its __init__ at fI -/
structure ErrR (K : Frag) (C fI : Addr) : Prop extends ErrC K C where
  cls : ∃ (B newId initId : String) (bm : List Value) (nm q : Str) (N : Addr) (bs : List Value) (sn : List Str) (sub : List Value) (ab : Bool) (col : Option Bool) (dd : Option Addr) (k0 k1 k2 k3 k5 : Option Value),
    ExcBaseFacts B newId initId bm ∧ K.lookup C = some (excClassObj nm q C N bs bm true sn sub ab col dd k0 k1 k2 k3 k5 newId) ∧ bm.contains (.type "object") = true ∧ ∀ self : Value, refuseLoop self "__setattr__" bm = pure ()
  sa : findIn K (.ref C) "__setattr__" = some (some (.builtin "object.__setattr__"))
  iC : findIn K (.ref C) "__init__" = some (some (.ref fI))
  tC : typeIn K (.ref fI) = some (.type "function")
  fn : ∃ (qual : Str) (oc : Value) (od : Option Addr) (doc pm : Value) (an : Option Addr) (cdv ct : Value) (osl : Array (Option Value)) (p1 p2 q1 q2 q3 q4 : Pos),
    K.lookup fI = some ⟨oc, od, .func (fnOf "__init__" qual (whA p1 p2) (whB q1 q2 q3 q4) whS .none .none doc pm an cdv ct), osl⟩ ∧ codeIn K cdv qual = true
section
open Builtin Builtin.ObjectAttr
variable {prog : Program} {w : World} {A : Around} {E : Value → Shared → Prop} {R : Result → Shared → Prop} {hp : Heap} {g : Array GenState} {dr : Drawn} {t : Nat} {os : OsState}
/-- the first field that is stored in a new error -/
theorem osaW {K : Frag} {nam : Str} {tk : Tok} {vv : Value} {x C : Addr} {fv : Array Value} {cd : ClassData} (X : K.In hp) (hx : hp.get? x = some { cls := .ref C, data := .fields fv }) (hcd : clsIn K C = some cd) (hob : cd.mro.contains (.type "object") = true) (hne : cd.mro.isEmpty = false)
    (hps : ∀ self : Value, refuseLoop self "__setattr__" cd.mro = pure ()) (hh : cd.hasDict = true) (ha : findIn K (.ref C) nam = some none)
    (hq : ∀ h' tk' dx, (∀ b o, b ≠ x → hp.get? b = some o → h'.get? b = some o) → hp.objs.size ≤ dx → dx ≠ x → h'.get? x = some { cls := .ref C, dict := some dx, data := .fields fv } → h'.Ns1 dx (fun y => if y = nam then some vv else none) → R (.ok (.ret .none)) ⟨h', g, dr, tk', os⟩) :
    codeAny (model prog w) A (.call (.builtin "object.__setattr__") ⟨[.ref x, .str nam tk, vv], []⟩) R ⟨hp, g, dr, t, os⟩ := by
  have IA : InstAt hp x { cls := .ref C, data := .fields fv } C none := ⟨hx, rfl, rfl, trivial⟩
  have nx : x ≠ hp.objs.size := Nat.ne_of_lt (Heap.lt_size hx)
  have isO : Looks (model prog w) hp (isInstance (.ref x) (.type "object")) true := IA.type.andThen (looks_mroIn X (by unfold mroIn; rw [hcd, Option.bind_some, if_neg (by rw [hne]; decide), hob]))
  have lc : Looks (model prog w) hp (classData C) cd := looks_clsIn X hcd
  refine codeAny_call_builtin F.store_object.slot.plain F.store_object.entry (@check_slot (model prog w) _ _ ⟨hp, g, dr, t, os⟩ "object.__setattr__" "object" "__setattr__" (.ref x) [.str nam tk, vv] [] _ F.store_object.kind F.store_object.split isO (F.store_object.args (.ref x) (.str nam tk) vv) ?_)
  have lm : Looks (model prog w) hp (mroOf (.ref C)) cd.mro := lc.andThen .now
  have ln : Looks (model prog w) hp (storeTaker? none) none := .now
  rw [osa_eq, refuse_eq]
  refine wpAny_bind (wpAny_bind (IA.type.at (wpAny_bind (lm.at ?_))))
  rw [hps]
  refine wpAny_pure (wpAny_bind (IA.type.at (wpAny_bind ((looks_findIn X ha).at (wpAny_bind (ln.at ?_))))))
  show wpAny _ _ (storeInOwnDict (.ref x) (.ref C) (.str nam tk) nam vv false) _ _ _
  obtain ⟨c1, c2, c3, c4, c5, c6, c7, c8, c9, c10, c11⟩ := cd
  dsimp only at hh
  subst hh
  unfold storeInOwnDict ownDictForStores
  repeat (first | with_reducible refine store_in_new ?_ ?_ | with_reducible refine wpAny_loadPart_at hx ?_ | with_reducible refine lc.at ?_ | wp_step)
  · refine ⟨_, #[], _, (Heap.get?_update_ne _ _ _ _ nx.symm).trans (Heap.get?_push_at rfl rfl), rfl, ?_, fun _ => rfl⟩
    exact fun e he => absurd he (by simp)
  · intro h' tk' hn' sb
    have hx1 : (hp.push { cls := .type "dict", data := .dict #[] }).get? x = some { cls := .ref C, data := .fields fv } := Heap.get?_push_of_some _ hx
    refine hq h' tk' hp.objs.size (fun b o nb eb => ?_) (Nat.le_refl _) nx.symm ((sb.2 x nx).trans (Heap.get?_update_self _ hx1 rfl)) hn'
    rw [sb.2 b (Nat.ne_of_lt (Heap.lt_size eb)), Heap.get?_update_ne _ _ _ _ nb]
    exact Heap.get?_push_of_some _ eb
end
section
variable {prog : Program} {w : World} {A : Around} {R : Result → Shared → Prop} {s : Shared} {K : Frag} {C fI : Addr}
theorem wone (v : Value) : [v].length ≤ sizeLine := by
  rw [sizeLine_eq]
  exact Nat.le_of_ble_eq_true rfl
theorem wld {M : Model} {u : Shared} {qn : Str} {sc : Scope} {L f : Addr} {cd : Value} {mm : Str → Option Value} {y : Str} {pos : Pos} {vv : Value} {Q : Value → Shared → Prop} {B : Around} {E : Value → Shared → Prop} (hn : u.heap.Ns L mm) (hv : mm y = some vv) (q : Q vv u) (hk : sc.kind = .function := by rfl)
    (hl : (envOfC qn sc L f cd).kindOf y = some .local := by rfl) (hd : (y == ("__debug__" : Str)) = false := by decide) : wpAny M B (eval (.Name y pos) (envOfC qn sc L f cd)) Q E u :=
  wpAny_Name (wpAny_loadName_local hk hl hn hv q) hd
/-- the class is called: a new error at e, its dict at dx holds what -/
theorem whMade (T : ErrR K C fI) {vv : Value} (X : K.In s.heap) (nl : s.heap.NoLimit) (room : A.depth + 1 < recursionLimit)
    (hq : ∀ (h' : Heap) (tk : Nat) (e dx : Addr), (∀ b o, s.heap.get? b = some o → h'.get? b = some o) → s.heap.objs.size ≤ e → s.heap.objs.size ≤ dx → dx ≠ e →
      (∃ t1 : Addr, h'.get? e = some ({ cls := .ref C, dict := some dx, data := .fields #[.ref t1, .none, .none, .none, .bool false, .none] } : Obj)) → h'.Ns1 dx (fun y => if y = "what" then some vv else none) → R (.ok (.ret (.ref e))) { s with heap := h', toks := tk }) :
    codeAny (model prog w) A (.call (.ref C) ⟨[vv], []⟩) R s := by
  obtain ⟨Bn, newId, initId, bm, nm, q, N, bs, sn, sub, ab, col, dd, k0, k1, k2, k3, k5, FB, hC, hob, hps⟩ := T.cls
  obtain ⟨qual, oc, od, doc, pm, an, cdv, ct, osl, p1, p2, q1, q2, q3, q4, ho, hcd⟩ := T.fn
  have hcl : clsIn K C = some { name := nm, bases := bs, mro := .ref C :: bm, ns := N, qualname := q, hasDict := true, slotNames := sn, subclasses := sub, abstract := ab, collection := col, hasDel := false } := by
    unfold clsIn
    rw [hC] <;> rfl
  obtain ⟨hp, g, dr, tk0, os⟩ := s
  have grow : ∀ b o, hp.get? b = some o → ((hp.push (kdv_tup [vv])).push (excO C hp.objs.size)).get? b = some o := fun b o z => Heap.get?_push_of_some _ (Heap.get?_push_of_some _ z)
  have isE : ((hp.push (kdv_tup [vv])).push (excO C hp.objs.size)).get? (hp.objs.size + 1) = some (excO C hp.objs.size) := by heap_get
  refine call_own FB (fun _ => rfl) (X _ _ hC) (looks_findIn X T.iC) (fun self => bind_fn X self T.tC) (wone vv) ?_
  -- __init__ runs
  refine Att.call_fn (binds := [("self", .ref (hp.objs.size + 1)), ("what", vv)]) (X.keeps grow) (nl.keeps grow) ho hcd room (BindsTo.of_eq (by first | rfl | with_unfolding_all rfl)) (by first | rfl | decide | with_unfolding_all rfl) (fun s1 IC => ?_) rfl rfl rfl
  obtain ⟨h1, tk1, rfl⟩ := IC.toInCall.same
  have up1 : ∀ b o, ((hp.push (kdv_tup [vv])).push (excO C hp.objs.size)).get? b = some o → h1.get? b = some o := IC.toInCall.keep
  have ns1 := IC.toInCall.ns
  have X1 : K.In h1 := (X.keeps grow).keeps up1
  have isE1 := up1 _ _ isE
  have big : hp.objs.size + 1 + 1 ≤ h1.objs.size := by
    have z : ((hp.push (kdv_tup [vv])).push (excO C hp.objs.size)).objs.size < h1.objs.size := ns1.lt
    rw [Heap.size_push, Heap.size_push] at z
    exact Nat.le_of_lt z
  show wpAny _ _ (execs _ _) _ _ _
  refine wpAny_execs_cons (plainObj_wpAny_Assign_Attribute ?_)
  refine wld (vv := vv) ns1 (by first | rfl | with_unfolding_all rfl | kernel_rfl) ?_
  refine wld (vv := .ref (hp.objs.size + 1)) ns1 (by first | rfl | with_unfolding_all rfl | kernel_rfl) ?_
  refine set_plain X1 (ox := excO C hp.objs.size) (od := none) ⟨isE1, rfl, rfl, trivial⟩ T.sa ?_
  refine osaW X1 isE1 hcl (by rw [List.contains_cons, hob, Bool.or_true]) rfl (fun self => by rw [refuseLoop_ref]; exact hps self) rfl T.noN fun h3 tk3 dx up3 dbig dne isE3 ns3 => ?_
  show wpAny _ _ (execs _ _) _ _ _
  refine wpAny_execs_nil ⟨rfl, ?_⟩
  refine hq h3 tk3 (hp.objs.size + 1) dx (fun b o z => ?_) (Nat.le_succ _) ?_ dne ⟨_, isE3⟩ ns3
  · exact up3 b o (Nat.ne_of_lt (Nat.lt_succ_of_lt (Heap.lt_size z))) (up1 b o (grow b o z))
  have z : h1.objs.size ≤ dx := dbig
  show hp.objs.size ≤ dx
  omega
end
end WhX
end PySem
namespace L2
open PySem PySem.Spec PyProof.Rows
/-- C(e), C an error's class -/
def tMkW (C : Addr) (ta : TA) : St → Hp → XK → Prop := fun σ H Q => ta σ H fun vs H1 => ∃ v, vs = [v] ∧ ∀ d, H1 d = none → Q (.ref C) (some d) (upd H1 d (.xd [(("what" : Str), v)]))
theorem relW {v : V} {u : Value} (r : RelV v u) (f : Str) : RelO (List.lookup f [(("what" : Str), v)]) (if f = "what" then some u else none) := by
  by_cases c : f = "what"
  · subst c
    rw [if_pos rfl, show List.lookup ("what" : Str) [(("what" : Str), v)] = some v by simp [List.lookup]]
    exact r
  · have c2 : (f == ("what" : Str)) = false := by simpa using c
    rw [if_neg c, show List.lookup f [(("what" : Str), v)] = none by simp [List.lookup, c2]]
    trivial
theorem pmk_what {X : Cx} {C fI : Addr} {x : Str} {a : Expr} {ta : TA} {p pos : Pos} {k : Nat} (T : PySem.WhX.ErrR X.K C fI) (hr : Room k X.A) (hk : 0 < k) (gC : X.mg x = some (.ref C)) (hg : Gl X x) (ha : PA X [a] ta) (hdb : (x == ("__debug__" : Str)) = false := by decide)
    (he : starEach (a :: []) X.env = (false, eval a X.env) :: starEach [] X.env := by rfl) (hpl : (backTo pos (starEach [] X.env)).any (·.1) = false := by rfl) : PMk X (.Call (.Name x p) [a] [] pos) (tMkW C ta) := by
  intro pz u0 τ G0 Q I h
  refine wpAny_Call_Name_kw (ld_glob I hg gC ?_ hdb)
  refine PySem.W.callWith_K (h₀ := X.base) I.ok.mod.kin T.kC (thn (ha.run pos pz u0 τ G0 _ I h) fun us s1 hh => ?_) he hpl
  obtain ⟨vs, H1, I1, r1, v, rfl, q1⟩ := hh
  refine ⟨I1.kIn, ?_⟩
  match us, r1 with
  | [vv], .cons rv .nil =>
    show wpAny _ _ (call (.ref C) [vv]) _ _ _
    have nl := I1.nolimit
    obtain ⟨hp, g, dr, tk, os⟩ := s1
    refine wpAny_call (PySem.WhX.whMade T I1.kIn nl (by have := hr.dp; omega) fun h' tk' e dx old ebig dbig dne ise ns => ?_)
    show MkP X pz τ Q (.ref e) ⟨h', g, dr, tk', os⟩
    obtain ⟨t1, ise⟩ := ise
    obtain ⟨G', g1, g2⟩ := restrict h' fun b => decide (b ≠ e)
    have gk : ∀ b, b ≠ e → G'.get? b = h'.get? b := fun b nb => g1 b (decide_eq_true nb)
    have ge : G'.get? e = none := g2 e (decide_eq_false fun z => z rfl)
    have oldG : ∀ b o, hp.get? b = some o → G'.get? b = some o := fun b o z => by
      rw [gk b (Nat.ne_of_lt (Nat.lt_of_lt_of_le (Heap.lt_size z) ebig))]
      exact old b o z
    have okd : ObjOk X.prog X.w (upd H1 dx (.xd [(("what" : Str), v)])) G' dx (.xd [(("what" : Str), v)]) := ⟨_, ns.at (fun o z => (gk dx dne).trans z), fun f => relW rv f⟩
    have J : Inv X pz τ (upd H1 dx (.xd [(("what" : Str), v)])) ⟨G', g, dr, tk', os⟩ := I1.laid (t' := tk') oldG dbig okd
    refine ⟨e, _, _, ⟨G', g, dr, tk', os⟩, _, .ref C, some dx, rfl, J, fun b o z => ?_, ge, ise, ⟨rfl, rfl⟩, rfl, rfl, ?_, rfl, I1.bare, raises_own T.exC T.tyC, q1 dx (I1.hok.fresh dbig)⟩
    · by_cases nb : b = e
      · have z' : G'.get? b = some o := z
        rw [nb, ge] at z'
        cases z'
      · exact (gk b nb).symm.trans z
    · rw [upd_ne (Ne.symm dne)]
      exact I1.hok.fresh ebig
end L2
namespace L2
open PySem PySem.Spec PyProof.Rows
/-! ### an error that was caught and is kept behind the try -/
/-- at a: an error of the class cls, its dict d -/
def Exk (a : Addr) (cls : Value) (d : Option Addr) : HO := .ext fun h => ∃ (oe : Obj) (vs : Array Value), h.get? a = some oe ∧ Zc cls d oe ∧ oe.data = .fields vs
theorem exk_ok {P : Program} {w : World} {H : Hp} {h : Heap} {a : Addr} {cls : Value} {d : Option Addr} {oe : Obj} {vs : Array Value} (e : h.get? a = some oe) (z : Zc cls d oe) (dd : oe.data = .fields vs) : ObjOk P w H h a (Exk a cls d) :=
  ⟨⟨oe, vs, e, z, dd⟩, ⟨oe, e⟩, fun _ _ ⟨o1, v1, e1, r⟩ k => ⟨o1, v1, k o1 e1, r⟩⟩
/-- a thing that was not there when the def began is told of -/
theorem Inv.track {X : Cx} {pz : List (Addr × Obj)} {τ : St} {H : Hp} {u0 : Shared} {a : Addr} {o : HO} (I : Inv X pz τ H u0) (na : H a = none) (n0 : X.s_0.heap.get? a = none) (nL : a ≠ X.env.locals) (nC : ∀ x c, X.env.cells.lookup x = some c → c ≠ a)
    (nP : ∀ p ∈ X.pn ++ pz, p.1 ≠ a) (new : ObjOk X.prog X.w (upd H a o) u0.heap a o) : Inv X pz τ (upd H a o) u0 where
  ok := I.ok
  os := I.os
  bare := I.bare
  base := {
    keep := I.base.keep
    slot := I.base.slot
    free := fun b ob q n hx => by
      rw [upd_ne (fun z => by rw [z, n0] at q; cases q)]
      exact I.base.free b ob q n hx
    there := I.base.there
    tups := fun b xs q => by
      have q2 := I.base.tups b xs q
      rw [upd_ne (ne_of_none q2 na)]
      exact q2
    frzs := fun b ob v q => by
      have q2 := I.base.frzs b ob v q
      rw [upd_ne (ne_of_none q2 na)]
      exact q2
    tbls := fun b ps q => by
      obtain ⟨more, q2⟩ := I.base.tbls b ps q
      exact ⟨more, by rw [upd_ne (ne_of_none q2 na)]; exact q2⟩ }
  loc := I.loc
  cell := I.cell
  free := by
    rw [upd_ne nL.symm]
    exact I.free
  freeC := fun x c e => by
    rw [upd_ne (nC x c e)]
    exact I.freeC x c e
  pin := fun p hp => by
    obtain ⟨z1, z2, z3⟩ := I.pin p hp
    refine ⟨z1, ?_, z3⟩
    rw [upd_ne (nP p hp)]
    exact z2
  hok := fun b ob e => by
    by_cases nb : b = a
    · subst nb
      rw [upd_same] at e
      cases e
      exact new
    · rw [upd_ne nb] at e
      exact (I.hok b ob e).stay (fun _ _ _ z => z) (fun c z => by rw [upd_ne (ne_of_none z na)]; exact z) (fun c xs z => by rw [upd_ne (ne_of_none z na)]; exact z)
  len := I.len
/-- what is wished of an error of the body: it is caught; the suite runs; the error is told of behind it -/
def wKp (K : PySem.W.Frag) (c : Value) (i : Nat) (ts : Addr → Value → Option Addr → TS) (D : Ends) : WX := fun cls d τ H => PySem.W.exmOne K cls c = some true ∧
  ∀ a, H a = none → ts a cls d { nx := fun τ' H' => D.nx (τ'.set i none) (upd H' a (Exk a cls d)), rt := fun _ _ => False, bk := fun _ _ => False, ct := fun _ _ => False } (τ.set i (some (.ref a))) H
theorem ps_try_keep {X : Cx} {x n : Str} {c : Value} {i : Nat} {body suite : List Stmt} {b0 : Stmt} {np pos pos' : Pos} {tb : WX → TS} {ts : Addr → Value → Option Addr → TS} (hs : X.stack = X.env :: X.outer) (hf : X.env.frame = some X.env.locals) (hex : X.ex = []) (hN : X.N.Nodup) (hi : X.N[i]? = some n)
    (hln : X.env.kindOf n = some .local) (hc : Names X x c)
    (hb : ∀ (W : WX) (pn : List (Addr × Obj)) (xe : Value → Shared → Prop), Takes (X.tr pn xe) W → PassesOwn (model X.prog X.w) X.A X.env xe → PSs (X.tr pn xe) body (tb W))
    (hsu : ∀ (a : Addr) (oe : Obj) (cls : Value) (d : Option Addr) (pn : List (Addr × Obj)), Zc cls d oe → (∃ vs, oe.data = .fields vs) → PSs (X.suite a ((a, oe) :: pn)) (b0 :: suite) (ts a cls d)) :
    PS X (.Try body [.ExceptHandler (some (.Name x np)) (some n) (b0 :: suite) pos'] [] [] pos) (fun D τ H => tb (wKp X.K c i ts D) D τ H) := by
  constructor
  intro pz u0 τ H D I h
  have ok := I.ok
  have frA : X.A.frames = some (X.env :: X.outer) := ok.frames.trans (congrArg some hs)
  refine wpAny_Try_except (wpAny_mono ((hb (wKp X.K c i ts D) (X.pn ++ pz) _ (fun u s1 xx => ?caught) PassesOwn.looking).run [] u0 τ H D (I.toTry _) h) (fun f s1 z => ?fine) (fun _ _ z => z))
  case fine =>
    cases f with
    | next =>
      obtain ⟨τ1, H1, J1, q1⟩ := z
      exact wpAny_execs_nil ⟨τ1, H1, J1.ofTry ok, q1⟩
    | brk =>
      obtain ⟨τ1, H1, J1, q1⟩ := z
      exact ⟨τ1, H1, J1.ofTry ok, q1⟩
    | cont =>
      obtain ⟨τ1, H1, J1, q1⟩ := z
      exact ⟨τ1, H1, J1.ofTry ok, q1⟩
    | ret v1 =>
      obtain ⟨v, τ1, H1, J1, r1, q1⟩ := z
      exact ⟨v, τ1, H1, J1.ofTry ok, r1, q1⟩
  case caught =>
    obtain ⟨a, Bh, sI, pI, τ1, H1, cls, d, rfl, J0, nb, up, sky, na, eos, bare, mt, goes⟩ := xx
    have J : Inv X pz τ1 H1 sI := J0.ofTry ok
    rw [show (X.tr (X.pn ++ pz) _).stack = X.env :: X.outer from hs] at sky
    show wpAny (model X.prog X.w) X.A (noteFrame (.ref a) X.env) _ _ _
    refine Sky.land Zc.steady frA hf sky fun h3 fl3 up3 => ?_
    have J3 : Inv X pz τ1 H1 { s1 with heap := h3 } := J.landed nb fl3.1 (up.trans up3) eos bare
    obtain ⟨oe3, vs3, at3, z3, dt3⟩ := fl3.there
    have noFr : a ∉ frs (X.env :: X.outer) := fun hm => by
      obtain ⟨_, o1, e1, n1⟩ := fl3.2.2.1.mem hm
      rw [at3] at e1
      cases e1
      exact n1 _ dt3
    have nL : a ≠ X.env.locals := fun z => noFr (List.mem_filterMap.mpr ⟨X.env, List.mem_cons_self, by rw [hf, z]⟩)
    have nF : a ∉ X.fs := fun hm => by
      obtain ⟨e1, m1, q1⟩ := List.mem_filterMap.mp hm
      exact noFr (List.mem_filterMap.mpr ⟨e1, List.mem_cons_of_mem _ m1, q1⟩)
    -- it was not there before
    have newA : sI.heap.get? a = none := by
      cases q : sI.heap.get? a with
      | none => rfl
      | some o1 =>
        have z := nb a o1 q (by rw [show frs (X.tr (X.pn ++ pz) _).stack = frs (X.env :: X.outer) from congrArg frs hs]; exact noFr)
        rw [fl3.2.1] at z
        cases z
    have new0 : X.s_0.heap.get? a = none := by
      cases q : X.s_0.heap.get? a with
      | none => rfl
      | some o1 =>
        obtain ⟨o2, z⟩ := J.base.there a o1 q (by rw [hex]; exact fun z => nomatch z)
        rw [newA] at z
        cases z
    have S3 := J3.suite at3 dt3 na nL nF
    refine wpAny_handleBy_cons (codeAny_handlers_test ?_) (by intro q; cases q)
    have isC : PySem.W.Looks (model X.prog X.w) h3 (typeOf (.ref a)) cls := fun A1 Q1 E1 s2 k2 q2 => wpAny_typeOf_ref (k2 _ _ at3) (by rw [z3.1]; exact q2)
    have meets := PySem.W.exm_one (M := model X.prog X.w) J3.kIn isC mt
    have named : ∀ {Q1 : Value → Shared → Prop} {E1 : Value → Shared → Prop}, Q1 c { s1 with heap := h3 } → wpAny (model X.prog X.w) (X.A.mark (some (.ref a))) (eval (.Name x np) X.env) Q1 E1 { s1 with heap := h3 } := fun {Q1 E1} q1 => by
      obtain ⟨g1, g2, g3 | ⟨g3, g4, g5⟩⟩ := hc
      · exact ld_glob (X := X.suite a ((a, oe3) :: (X.pn ++ pz))) S3 g1 g3 q1 g2
      · exact ld_blt (X := X.suite a ((a, oe3) :: (X.pn ++ pz))) S3 g1 g3 g4 q1 g5 g2
    refine named (meets.here (codeAny_handlers_suite_as (HandSPX.lands_againZ fl3 fun h4 fl4 up4 => ?_)))
    have J4 : Inv X pz τ1 H1 { s1 with heap := h4 } := J.landed nb fl4.1 ((up.trans up3).trans up4) eos bare
    obtain ⟨oe4, vs4, at4, z4, dt4⟩ := fl4.there
    refine store_ok (X := X.suite a ((a, oe4) :: (X.pn ++ pz))) (v := .ref a) (J4.suite at4 dt4 na nL nF) hN hi (.inl hln) rfl (fun s5 S5 => ?_) (.inr hln)
    refine wpAny_mono ((hsu a oe4 cls d (X.pn ++ pz) z4 ⟨_, dt4⟩).run [] s5 _ H1 _ S5 (goes a na)) (fun f s6 z => ?_) (fun _ _ z => z.elim)
    cases f with
    | brk => exact (z.choose_spec.choose_spec.2).elim
    | cont => exact (z.choose_spec.choose_spec.2).elim
    | ret v1 => exact (z.choose_spec.choose_spec.choose_spec.2.2).elim
    | next =>
      obtain ⟨τ6, H6, S6, q6⟩ := z
      obtain ⟨at6, na6, _⟩ := S6.pin (a, oe4) (List.mem_append_left _ List.mem_cons_self)
      have J6 : Inv X pz τ6 H6 s6 := S6.unsuite ok
      have K6 : Inv X pz τ6 (upd H6 a (Exk a cls d)) s6 := by
        refine J6.track na6 new0 nL (fun y cc e => ?_) (fun p hp => ?_) (exk_ok at6 z4 dt4)
        · obtain ⟨v, oc, hoc, _⟩ := J.cell y cc e
          exact fun z => by rw [z, newA] at hoc; cases hoc
        · obtain ⟨z1, _⟩ := J.pin p hp
          exact fun z => by rw [z, newA] at z1; cases z1
      exact gone_ok K6 hN hi hln fun s7 J7 => ⟨_, _, J7, q6⟩
end L2
namespace L2
open PySem PySem.Spec PyProof.Rows
/-- at a: a caught error of the class at C that holds what = v -/
def EkAt (H : Hp) (a C : Addr) (v : V) : Prop := ∃ dd, H a = some (Exk a (.ref C) (some dd)) ∧ H dd = some (.xd [(("what" : Str), v)])
theorem ek_inst {X : Cx} {pz : List (Addr × Obj)} {τ : St} {H : Hp} {u0 : Shared} {a C : Addr} {v : V} (I : Inv X pz τ H u0) (e : EkAt H a C v) :
    ∃ (oe od : Obj) (u : Value), PySem.W.InstAt u0.heap a oe C (some od) ∧ RelV v u ∧ PySem.W.lookIn "what" od = some (some u) := by
  obtain ⟨dd, ea, ed⟩ := e
  obtain ⟨⟨oe, vs, hget, hz, hdat⟩, _⟩ := I.hok a _ ea
  obtain ⟨mA, hns, hr⟩ := (show ObjOk X.prog X.w H u0.heap dd (.xd [(("what" : Str), v)]) from I.hok dd _ ed)
  obtain ⟨od, ho, hl⟩ := lookIn_ns hns
  obtain ⟨u, hu, ru⟩ := RelO.some_of (v := v) (o := mA "what") (by rw [← show List.lookup ("what" : Str) [(("what" : Str), v)] = some v by simp [List.lookup]]; exact hr "what")
  refine ⟨oe, od, u, ⟨hget, hz.1, by unfold PySem.W.notCls; rw [hdat] <;> rfl, by rw [hz.2]; exact ho⟩, ru, by rw [hl, hu]⟩
/-- e.what of a caught error -/
def tWhat (K : PySem.W.Frag) (te : TE) : TE := fun σ H Q => te σ H fun x H1 => ∃ (a C : Addr) (v : V), x = .ref a ∧ PySem.WhX.ErrC K C ∧ EkAt H1 a C v ∧ Q v H1
theorem pe_what {X : Cx} {e : Expr} {te : TE} {pos : Pos} (he : PE X e te) (hb : attributeBase e "what" X.env (eval e X.env) = eval e X.env := by rfl) : PE X (.Attribute e "what" pos) (tWhat X.K te) := by
  constructor
  intro pz u0 τ H Q I h
  refine attr_of hb (thn (he.run pz u0 τ H _ I h) fun u s1 hh => ?_)
  obtain ⟨x, H1, I1, rx, a, C, v, rfl, T, ek, q⟩ := hh
  obtain rfl : u = Value.ref a := rx
  obtain ⟨oe, od, u1, J, ru, hl⟩ := ek_inst I1 ek
  exact HandSPX.exc_get I1.kIn J T.ga T.gg T.exC (PySem.W.findObj_own T.hdC T.noN rfl hl) (handed_of ru) ⟨v, H1, I1.tok _, ru, q⟩
/-- isinstance of a caught error: one class; a tuple of classes -/
def rIsW (K : PySem.W.Frag) : List V → Hp → VK → Prop := fun xs H Q => ∃ (a C : Addr) (v c : V) (u : Value) (b : Bool), xs = [.ref a, c] ∧ PySem.WhX.ErrC K C ∧ EkAt H a C v ∧ ClsV c u ∧ PySem.W.kitOne K (.ref C) u = some b ∧ Q (.bl b) H
def rIsWT (K : PySem.W.Frag) : List V → Hp → VK → Prop := fun xs H Q => ∃ (a C tp : Addr) (v : V) (cs : List V) (us : List Value) (b : Bool), xs = [.ref a, .ref tp] ∧ PySem.WhX.ErrC K C ∧ EkAt H a C v ∧ H tp = some (.tup cs) ∧ Paired ClsV cs us ∧ PySem.W.kitAny K (.ref C) us = some b ∧ Q (.bl b) H
theorem has_cls {K : PySem.W.Frag} {C : Addr} (h : PySem.W.hasDictIn K C = true) : (PySem.W.clsIn K C).isSome = true := by
  obtain ⟨cd, hc, _⟩ := PySem.W.any_some h
  rw [hc]
  rfl
section
variable {X : Cx}
theorem call_isW : CallR X (.builtin "isinstance") (rIsW X.K) := by
  intro pz u0 τ H xs us Q I r h
  obtain ⟨a, C, v, c, u, b, rfl, T, ek, k, e, q⟩ := h
  obtain ⟨u1, u2, rfl, r1, r2⟩ := vals2 r
  cases (show u1 = Value.ref a from r1)
  have e2 := k.eq r2
  subst e2
  obtain ⟨oe, od, _, J, _⟩ := ek_inst I ek
  exact PySem.W.kia_one (PySem.W.kitx_exc (has_cls T.hdC) T.ga T.gg T.exC T.cl T.sp T.tk T.mr) I.kIn J e (fun z => nomatch z) fun tk => ⟨.bl b, H, I.tok tk, rfl, q⟩
theorem call_isWT : CallR X (.builtin "isinstance") (rIsWT X.K) := by
  intro pz u0 τ H xs us Q I r h
  obtain ⟨a, C, tp, v, cs, ws, b, rfl, T, ek, hT, k, e, q⟩ := h
  obtain ⟨u1, u2, rfl, r1, r2⟩ := vals2 r
  cases (show u1 = Value.ref a from r1)
  cases (show u2 = Value.ref tp from r2)
  obtain ⟨oe, od, _, J, _⟩ := ek_inst I ek
  obtain ⟨_, its, rv, o, h1, h2, n, h3⟩ := (show ObjOk X.prog X.w H u0.heap tp (.tup cs) from I.hok tp _ hT)
  have e3 := ClsV.all k rv
  subst e3
  obtain ⟨oc, od1, dt, sl⟩ := o
  simp only at h2 h3
  subst h2 h3
  exact PySem.W.kia_tup (PySem.W.kitx_exc (has_cls T.hdC) T.ga T.gg T.exC T.cl T.sp T.tk T.mr) I.kIn J h1 e (fun z => nomatch z) fun tk => ⟨.bl b, H, I.tok tk, rfl, q⟩
end
end L2
namespace L2
open PySem PySem.Spec PyProof.Rows
/-! ### a call with keywords whose errors go to a try; promises side by side -/
def tCallNS (n m : Nat) (sp : Sp) (gV : List V → List V → List V) (E : St → XK) (t tk : TA) : TE := fun σ H Q => t σ H fun vs H1 => tk σ H1 fun zs H2 => vs.length = n ∧ zs.length = m ∧ sp (gV vs zs) H2 Q (E σ)
section
variable {X : Cx} {CX : CXT} {k n : Nat} {f : Addr} {fd : FuncData} {ps ks : List Str} {sp : Sp} {E : St → XK} {x : Str} {p pos : Pos} {e : Expr} {es : List Expr} {kws : List Keyword} {t tk : TA} {g : List Value → List Value → List Value} {gV : List V → List V → List V}
theorem pe_callNS (F : FnOk X.prog X.w X.K X.mg X.base CX k f fd ps sp) (hr : Room k X.A) (hg : Gl X x) (hm : X.mg x = some (.ref f)) (hk : PySem.W.keepIn X.K (.ref f) = true) (hb : KBn X.K fd ps n ks g gV) (hx : ∀ σ, PassesAt CX X σ (E σ)) (ha : PA X (e :: es) t) (hkw : PK X kws tk)
    (hall : (backToKw pos (keywordEach kws X.env)).all (·.1.isSome) = true := by rfl) (hks : (backToKw pos (keywordEach kws X.env)).filterMap (·.1) = ks := by rfl) (hdb : (x == ("__debug__" : Str)) = false := by decide)
    (he : starEach (e :: es) X.env = (false, eval e X.env) :: starEach es X.env := by rfl) (hpl : ((backTo pos (starEach (e :: es) X.env)).any (·.1) || (backToKw pos (keywordEach kws X.env)).any (·.1.isNone)) = false := by rfl) :
    PE X (.Call (.Name x p) (e :: es) kws pos) (tCallNS n ks.length sp gV E t tk) := by
  constructor
  intro pz u0 τ H Q I h
  refine wpAny_Call_Name_kw (ld_glob I hg hm (PySem.W.callWith_KW (h₀ := X.base) I.ok.mod.kin hk hall (thn (ha.run pos pz u0 τ H _ I h) fun us s1 z => ?_) hpl he) hdb)
  obtain ⟨vs, H1, I1, r1, q1⟩ := z
  refine thn (hkw.run pos pz s1 τ H1 _ I1 q1) fun ws s2 z => ?_
  obtain ⟨zs, H2, I2, r2, l1, l2, q2⟩ := z
  refine ⟨I2.kIn, ?_⟩
  rw [hks]
  refine wpAny_call (codeAny_mono (F.run X.A X.stack s2 H2 ⟨us, ks.zip ws⟩ (g us ws) (gV vs zs) Q (E τ) hr I2.env0 (hb.to s2 us ws I2.kIn (r1.length.symm.trans l1) (r2.length.symm.trans l2)) (hb.rel r1 r2) q2) fun r s3 z => ?_)
  match r with
  | .error er => exact hx τ pz H2 s2 er s3 I2 z
  | .ok (.ret v) => exact I2.after z
  | .ok .next => exact z.elim
  | .ok .brk => exact z.elim
  | .ok .cont => exact z.elim
end
section
variable {P : Program} {w : World} {K : PySem.W.Frag} {mg : Str → Option Value} {base : Heap} {k : Nat} {f : Addr} {fd : FuncData} {ps : List Str} {sp sq : Sp}
theorem fn_lift {CX : CXT} (F : FnOk P w K mg base CX0 k f fd ps sp) : FnOk P w K mg base CX k f fd ps sp := ⟨F.len, fun A outer s H args us vs Q E hr e0 hb hv hs => codeAny_mono (F.run A outer s H args us vs Q E hr e0 hb hv hs) fun r s1 z => by
  match r with
  | .error er => exact False.elim z
  | .ok (.ret v) => exact z
  | .ok .next => exact z
  | .ok .brk => exact z
  | .ok .cont => exact z⟩
theorem fn_or {CX : CXT} (F : FnOk P w K mg base CX k f fd ps sp) (G : FnOk P w K mg base CX k f fd ps sq) : FnOk P w K mg base CX k f fd ps (fun vs H Q E => sp vs H Q E ∨ sq vs H Q E) :=
  ⟨fun vs H Q E h => h.elim (F.len vs H Q E) (G.len vs H Q E), fun A outer s H args us vs Q E hr e0 hb hv hs => hs.elim (F.run A outer s H args us vs Q E hr e0 hb hv) (G.run A outer s H args us vs Q E hr e0 hb hv)⟩
end
end L2
namespace GZ
open PySem PySem.Spec PyProof.Rows L2
theorem kit_self {K : PySem.W.Frag} {C : Addr} : PySem.W.kitOne K (.ref C) (.ref C) = some true := by
  unfold PySem.W.kitOne
  rw [if_pos (beq_self_eq_true _)]
theorem kit_own {K : PySem.W.Frag} {C D : Addr} {b : Bool} (n : (Value.ref C == Value.ref D) = false) (hd : PySem.W.hasDictIn K D = true) (ty : PySem.W.typeIn K (.ref D) = some (.type "type")) (su : PySem.W.subIn K (.ref C) (.ref D) = some b) : PySem.W.kitOne K (.ref C) (.ref D) = some b := by
  unfold PySem.W.kitOne PySem.W.kitCls
  rw [if_neg (by rw [n]; decide)]
  dsimp only
  rw [if_pos (by rw [has_cls hd, ty] <;> rfl)]
  exact su
theorem kit_bt {K : PySem.W.Frag} {C : Addr} {T : String} {b : Bool} (su : PySem.W.subIn K (.ref C) (.type T) = some b) (km : PySem.W.kitMeta T = true := by decide +kernel) : PySem.W.kitOne K (.ref C) (.type T) = some b := by
  unfold PySem.W.kitOne PySem.W.kitCls
  rw [if_neg (show ¬ ((Value.ref C == Value.type T) = true) from Bool.false_ne_true)]
  dsimp only
  rw [if_pos km]
  exact su
end GZ
namespace L2
open PySem PySem.Spec PyProof.Rows
/-! ### except (A, B, ..) as n: the error is kept behind the try -/
theorem fly_keeps {B h h' : Heap} {l : List Env} {a : Addr} {Z : Obj → Prop} (f : HandSPX.FlyingZ B l a Z h) (k : ∀ b o, h.get? b = some o → h'.get? b = some o) : HandSPX.FlyingZ B l a Z h' := by
  obtain ⟨f1, f2, f3, oe, vs, T, oT, ts, he, hz, hd, h1, hn, hT, hT2, hd2, h3⟩ := f
  exact ⟨fun b o e => k _ _ (f1 b o e), f2, f3.of_keeps (fun b o e _ => ⟨o, k _ _ e, rfl⟩), oe, vs, T, oT, ts, k _ _ he, hz, hd, h1, hn, hT, k _ _ hT2, hd2, h3⟩
theorem wp_forIn1 {M : Model} {A : Around} {β : Type} {E : Value → Shared → Prop} {s : Shared} {f : Value → β → Sem (ForInStep β)} {i0 : β} : ∀ (cs : List Value) {Q : β → Shared → Prop}, (∀ c ∈ cs, ∀ Q1 : ForInStep β → Shared → Prop, Q1 (.yield i0) s → wpAny M A (f c i0) Q1 E s) → Q i0 s → wpAny M A (forIn cs i0 f) Q E s
  | [], Q, _, q => by
    rw [List.forIn_nil]
    exact wpAny_pure q
  | c :: cs, Q, h, q => by
    rw [List.forIn_cons]
    refine wpAny_bind (h c List.mem_cons_self _ ?_)
    exact wp_forIn1 cs (fun d hd => h d (List.mem_cons_of_mem _ hd)) q
theorem wp_forIn2 {M : Model} {A : Around} {β : Type} {E : Value → Shared → Prop} {s : Shared} {f : Value → β → Sem (ForInStep β)} {i0 d0 : β} {K : PySem.W.Frag} {cls : Value}
    (h : ∀ c b, PySem.W.exmOne K cls c = some b → ∀ Q1 : ForInStep β → Shared → Prop, Q1 (if b = true then .done d0 else .yield i0) s → wpAny M A (f c i0) Q1 E s) :
    ∀ (cs : List Value) (b : Bool) {Q : β → Shared → Prop}, PySem.W.exmAny K cls cs = some b → Q (if b = true then d0 else i0) s → wpAny M A (forIn cs i0 f) Q E s
  | [], b, Q, e, q => by
    cases e
    rw [List.forIn_nil]
    exact wpAny_pure q
  | c :: cs, b, Q, e, q => by
    obtain ⟨b1, d1, e1, e2, rfl⟩ := PySem.W.exmAny_cons e
    rw [List.forIn_cons]
    refine wpAny_bind (h c b1 e1 _ ?_)
    cases b1 with
    | true => exact wpAny_pure q
    | false =>
      rw [Bool.false_or] at q
      exact wp_forIn2 h cs d1 e2 q
theorem exmAny_mem {K : PySem.W.Frag} {cls : Value} : ∀ {cs : List Value} {b : Bool}, PySem.W.exmAny K cls cs = some b → ∀ c ∈ cs, ∃ d, PySem.W.exmOne K cls c = some d
  | [], _, _, _, h => nomatch h
  | c :: cs, b, e, x, h => by
    obtain ⟨b1, d1, e1, e2, _⟩ := PySem.W.exmAny_cons e
    rcases List.mem_cons.mp h with z | z
    · subst z
      exact ⟨_, e1⟩
    · exact exmAny_mem e2 x z
theorem exm_tupL {M : Model} {K : PySem.W.Frag} {cs : List Value} {cls : Value} {tp e : Addr} {b : Bool} {h : Heap} (X : K.In h) (LT : PySem.W.Looks M h (typeOf (.ref e)) cls) (hp : h.get? tp = some { cls := .type "tuple", data := .seq cs.toArray }) (hx : PySem.W.exmAny K cls cs = some b) :
    PySem.W.Looks M h (excMatches (.ref e) (.ref tp)) b := by
  intro A Q E s k₀ q
  obtain ⟨hh, g, d, tk, os⟩ := s
  have k : ∀ b o, h.get? b = some o → hh.get? b = some o := k₀
  have LT0 : PySem.W.Looks M h (isInstance (.ref tp) (.type "tuple")) true := ((PySem.W.Looks.ld hp).andThen .now).andThen (PySem.W.Looks.of_pure isSubtype_tuple_tuple)
  have LT := LT.keeps k
  have LT0 := LT0.keeps k
  have hp' := k _ _ hp
  unfold excMatches
  refine wpAny_bind (LT0.at ?_)
  dsimp only
  rw [if_pos rfl]
  first
    | refine wpAny_bind (wpAny_seqItems hp' rfl ?_)
    | refine wpAny_bind (wpAny_bind (wpAny_seqItems hp' rfl (wpAny_pure ?_)))
  dsimp only [Option.getD_some, Option.getD]
  refine wpAny_bind (wpAny_pure ?_)
  refine wpAny_bind (wp_forIn1 cs (fun c hc Q1 q1 => ?_) ?_)
  · obtain ⟨v, hv⟩ := exmAny_mem hx c hc
    obtain ⟨e1, _⟩ := PySem.W.exm_cls (M := M) X hv
    refine wpAny_bind ((e1.keeps k).at ?_)
    exact wpAny_pure q1
  refine wpAny_bind (LT.at ?_)
  refine wpAny_bind (wp_forIn2 (K := K) (cls := cls) (d0 := ⟨some true, ⟨⟩⟩) (fun c v hv Q1 q1 => ?_) cs b hx ?_)
  · obtain ⟨_, S1⟩ := PySem.W.exm_cls (M := M) X hv
    refine wpAny_bind ((S1.keeps k).at ?_)
    cases v
    · exact wpAny_pure q1
    · exact wpAny_pure q1
  cases b
  · exact wpAny_pure q
  · exact wpAny_pure q
inductive NamesL (X : Cx) : List Expr → List Value → Prop
  | nil : NamesL X [] []
  | cons {x : Str} {c : Value} {np : Pos} {es : List Expr} {cs : List Value} (h : Names X x c) (r : NamesL X es cs) : NamesL X (.Name x np :: es) (c :: cs)
theorem NamesL.len {X : Cx} {es : List Expr} {cs : List Value} (h : NamesL X es cs) : cs.length = es.length := by
  induction h with
  | nil => rfl
  | cons _ _ ih => rw [List.length_cons, List.length_cons, ih]
/-- what is wished of an error of the body: it is one of these; the suite runs; the error is told of behind it -/
def wKpT (K : PySem.W.Frag) (cs : List Value) (i : Nat) (ts : Addr → Value → Option Addr → TS) (D : Ends) : WX := fun cls d τ H => PySem.W.exmAny K cls cs = some true ∧
  ∀ a, H a = none → ts a cls d { nx := fun τ' H' => D.nx (τ'.set i none) (upd H' a (Exk a cls d)), rt := fun _ _ => False, bk := fun _ _ => False, ct := fun _ _ => False } (τ.set i (some (.ref a))) H
theorem ps_try_keepT {X : Cx} {n : Str} {es : List Expr} {cs : List Value} {kk : Nat} {i : Nat} {body suite : List Stmt} {b0 : Stmt} {tpos pos pos' : Pos} {tb : WX → TS} {ts : Addr → Value → Option Addr → TS} (hs : X.stack = X.env :: X.outer) (hf : X.env.frame = some X.env.locals) (hex : X.ex = []) (hN : X.N.Nodup) (hi : X.N[i]? = some n)
    (hln : X.env.kindOf n = some .local) (hc : NamesL X es cs) (hle : cs.length ≤ 100)
    (hb : ∀ (W : WX) (pn : List (Addr × Obj)) (xe : Value → Shared → Prop), Takes (X.tr pn xe) W → PassesOwn (model X.prog X.w) X.A X.env xe → PSs (X.tr pn xe) body (tb W))
    (hsu : ∀ (a : Addr) (oe : Obj) (cls : Value) (d : Option Addr) (pn : List (Addr × Obj)), Zc cls d oe → (∃ vs, oe.data = .fields vs) → PSs (X.suite a ((a, oe) :: pn)) (b0 :: suite) (ts a cls d)) :
    PS X (.Try body [.ExceptHandler (some (.Tuple es kk tpos)) (some n) (b0 :: suite) pos'] [] [] pos) (fun D τ H => tb (wKpT X.K cs i ts D) D τ H) := by
  constructor
  intro pz u0 τ H D I h
  have ok := I.ok
  have frA : X.A.frames = some (X.env :: X.outer) := ok.frames.trans (congrArg some hs)
  refine wpAny_Try_except (wpAny_mono ((hb (wKpT X.K cs i ts D) (X.pn ++ pz) _ (fun u s1 xx => ?caught) PassesOwn.looking).run [] u0 τ H D (I.toTry _) h) (fun f s1 z => ?fine) (fun _ _ z => z))
  case fine =>
    cases f with
    | next =>
      obtain ⟨τ1, H1, J1, q1⟩ := z
      exact wpAny_execs_nil ⟨τ1, H1, J1.ofTry ok, q1⟩
    | brk =>
      obtain ⟨τ1, H1, J1, q1⟩ := z
      exact ⟨τ1, H1, J1.ofTry ok, q1⟩
    | cont =>
      obtain ⟨τ1, H1, J1, q1⟩ := z
      exact ⟨τ1, H1, J1.ofTry ok, q1⟩
    | ret v1 =>
      obtain ⟨v, τ1, H1, J1, r1, q1⟩ := z
      exact ⟨v, τ1, H1, J1.ofTry ok, r1, q1⟩
  case caught =>
    obtain ⟨a, Bh, sI, pI, τ1, H1, cls, d, rfl, J0, nb, up, sky, na, eos, bare, mt, goes⟩ := xx
    have J : Inv X pz τ1 H1 sI := J0.ofTry ok
    rw [show (X.tr (X.pn ++ pz) _).stack = X.env :: X.outer from hs] at sky
    show wpAny (model X.prog X.w) X.A (noteFrame (.ref a) X.env) _ _ _
    refine Sky.land Zc.steady frA hf sky fun h3 fl3 up3 => ?_
    have J3 : Inv X pz τ1 H1 { s1 with heap := h3 } := J.landed nb fl3.1 (up.trans up3) eos bare
    obtain ⟨oe3, vs3, at3, z3, dt3⟩ := fl3.there
    have noFr : a ∉ frs (X.env :: X.outer) := fun hm => by
      obtain ⟨_, o1, e1, n1⟩ := fl3.2.2.1.mem hm
      rw [at3] at e1
      cases e1
      exact n1 _ dt3
    have nL : a ≠ X.env.locals := fun z => noFr (List.mem_filterMap.mpr ⟨X.env, List.mem_cons_self, by rw [hf, z]⟩)
    have nF : a ∉ X.fs := fun hm => by
      obtain ⟨e1, m1, q1⟩ := List.mem_filterMap.mp hm
      exact noFr (List.mem_filterMap.mpr ⟨e1, List.mem_cons_of_mem _ m1, q1⟩)
    -- it was not there before
    have newA : sI.heap.get? a = none := by
      cases q : sI.heap.get? a with
      | none => rfl
      | some o1 =>
        have z := nb a o1 q (by rw [show frs (X.tr (X.pn ++ pz) _).stack = frs (X.env :: X.outer) from congrArg frs hs]; exact noFr)
        rw [fl3.2.1] at z
        cases z
    have new0 : X.s_0.heap.get? a = none := by
      cases q : X.s_0.heap.get? a with
      | none => rfl
      | some o1 =>
        obtain ⟨o2, z⟩ := J.base.there a o1 q (by rw [hex]; exact fun z => nomatch z)
        rw [newA] at z
        cases z
    have S3 := J3.suite at3 dt3 na nL nF
    refine wpAny_handleBy_cons (codeAny_handlers_test ?_) (by intro q; cases q)
    have kp : ∀ q o, h3.get? q = some o → (h3.push { cls := .type "tuple", data := .seq cs.toArray }).get? q = some o := fun _ _ z => Heap.get?_push_of_some _ z
    have isC : PySem.W.Looks (model X.prog X.w) h3 (typeOf (.ref a)) cls := fun A1 Q1 E1 s2 k2 q2 => wpAny_typeOf_ref (k2 _ _ at3) (by rw [z3.1]; exact q2)
    have meets := exm_tupL (M := model X.prog X.w) (J3.kIn.keeps kp) (isC.keeps kp) (Heap.get?_push_size h3 rfl) mt
    have named : ∀ {x : Str} {c : Value} {np : Pos}, Names X x c → ∀ {Q1 : Value → Shared → Prop} {E1 : Value → Shared → Prop}, Q1 c { s1 with heap := h3 } → wpAny (model X.prog X.w) (X.A.mark (some (.ref a))) (eval (.Name x np) X.env) Q1 E1 { s1 with heap := h3 } := fun {x c np} hc {Q1 E1} q1 => by
      obtain ⟨g1, g2, g3 | ⟨g3, g4, g5⟩⟩ := hc
      · exact ld_glob (X := X.suite a ((a, oe3) :: (X.pn ++ pz))) S3 g1 g3 q1 g2
      · exact ld_blt (X := X.suite a ((a, oe3) :: (X.pn ++ pz))) S3 g1 g3 g4 q1 g5 g2
    have items : ∀ {es : List Expr} {cs : List Value}, NamesL X es cs → ∀ {Q1 : List Value → Shared → Prop} {E1 : Value → Shared → Prop}, Q1 cs { s1 with heap := h3 } → wpAny (model X.prog X.w) (X.A.mark (some (.ref a))) (spliced (backTo tpos (starEach es X.env))) Q1 E1 { s1 with heap := h3 } := fun {es cs} hc => by
      induction hc with
      | nil =>
        intro Q1 E1 q1
        exact wpAny_items_nil q1
      | cons hx _ ih =>
        intro Q1 E1 q1
        exact wpAny_items_cons (named hx (ih q1)) (by rfl)
    refine wpAny_Tuple (items hc ⟨?_, ?_⟩)
    · rw [sizeLine_eq]
      omega
    refine meets.here (codeAny_handlers_suite_as (HandSPX.lands_againZ (fly_keeps fl3 kp) fun h4 fl4 up4 => ?_))
    have J4 : Inv X pz τ1 H1 { s1 with heap := h4 } := J.landed nb fl4.1 ((up.trans up3).trans ((Heap.UpToSlots.of_keeps kp).trans up4)) eos bare
    obtain ⟨oe4, vs4, at4, z4, dt4⟩ := fl4.there
    refine store_ok (X := X.suite a ((a, oe4) :: (X.pn ++ pz))) (v := .ref a) (J4.suite at4 dt4 na nL nF) hN hi (.inl hln) rfl (fun s5 S5 => ?_) (.inr hln)
    refine wpAny_mono ((hsu a oe4 cls d (X.pn ++ pz) z4 ⟨_, dt4⟩).run [] s5 _ H1 _ S5 (goes a na)) (fun f s6 z => ?_) (fun _ _ z => z.elim)
    cases f with
    | brk => exact (z.choose_spec.choose_spec.2).elim
    | cont => exact (z.choose_spec.choose_spec.2).elim
    | ret v1 => exact (z.choose_spec.choose_spec.choose_spec.2.2).elim
    | next =>
      obtain ⟨τ6, H6, S6, q6⟩ := z
      obtain ⟨at6, na6, _⟩ := S6.pin (a, oe4) (List.mem_append_left _ List.mem_cons_self)
      have J6 : Inv X pz τ6 H6 s6 := S6.unsuite ok
      have K6 : Inv X pz τ6 (upd H6 a (Exk a cls d)) s6 := by
        refine J6.track na6 new0 nL (fun y cc e => ?_) (fun p hp => ?_) (exk_ok at6 z4 dt4)
        · obtain ⟨v, oc, hoc, _⟩ := J.cell y cc e
          exact fun z => by rw [z, newA] at hoc; cases hoc
        · obtain ⟨z1, _⟩ := J.pin p hp
          exact fun z => by rw [z, newA] at z1; cases z1
      exact gone_ok K6 hN hi hln fun s7 J7 => ⟨_, _, J7, q6⟩
end L2
namespace L2
open PySem PySem.Spec PyProof.Rows
/-- o.m(), its error goes to a try -/
def tMeth0S (C : Addr) (m : Str) (sp : Sp) (E : St → XK) (ta : TE) : TE := fun σ H Q => ta σ H fun x H1 => ∃ a dx fs, x = .ref a ∧ H1 a = some (.ins C dx fs) ∧ fs.lookup m = none ∧ sp [x] H1 Q (E σ)
theorem pe_meth0S {X : Cx} {CX : CXT} {k : Nat} {f C : Addr} {fd : FuncData} {ps : List Str} {sp : Sp} {E : St → XK} {m : Str} {pos apos : Pos} {o : Expr} {ta : TE} {pl : Sem Bool} (he : PE X o ta) (c : Cls X.K C) (hm : Meth X.K C m f) (F : FnOk X.prog X.w X.K X.mg X.base CX k f fd ps sp) (hr : Room k X.A) (hb : Binds X.K fd ps []) (hx : ∀ σ, PassesAt CX X σ (E σ))
    (ht : eval (.Call (.Attribute o m apos) [] [] pos) X.env = (do
      let ov ← eval o X.env
      standAt apos.atName
      let (f, first) ← holding [ov] (getMethod ov m pl)
      callWith pos f first (backTo pos (starEach [] X.env)) (backToKw pos (keywordEach [] X.env))) := by rfl) :
    PE X (.Call (.Attribute o m apos) [] [] pos) (tMeth0S C m sp E ta) := by
  refine ⟨fun pins s σ H Q I h => ?_⟩
  refine PySem.W.methodCall_KW (pl := pl) (thn (he.run pins s σ H _ I h) fun u s1 ⟨x, H1, I1, rx, a, dx, fs, ex, ea, l, q⟩ => ?_) ht
  subst ex
  obtain rfl : u = Value.ref a := rx
  refine getmeth_ok I1 ea c hm l ?_
  exact PySem.W.callWith_K0 (first := [.ref a]) I1.kIn hm.kp (run_fnS (us := [.ref a]) (vs := [.ref a]) F hr hb (hx σ) I1 (.cons rfl .nil) q)
end L2
namespace GZ
open PySem PySem.Spec PyProof.Rows L2
theorem gset_if2 {i : Nat} {v : V} {σ : L2.St} {H : Hp} {c : TT} {t u r : TS} {D : Ends} (h : tIfS c t u { D with nx := r D } (σ.set i (some v)) H) : gName i v σ H ({ D with nx := tSeq (tIfS c t u) r D } : Ends).nx := h
theorem gset_if {σ : L2.St} {H : Hp} {c : TT} {t u r : TS} {D : Ends} (h : tIfS c t u { D with nx := r D } σ H) : tSeq (tIfS c t u) r D σ H := h
theorem ifS_cut {c : TT} {t u : TS} {D : Ends} {σ : L2.St} {H : Hp} (R : L2.St → Hp → Prop) (h : ∀ D' : Ends, (∀ σ' H', R σ' H' → D'.nx σ' H') → tIfS c t u D' σ H) (q : ∀ σ' H', R σ' H' → D.nx σ' H') : tIfS c t u D σ H := h D q
theorem ifS_ev {c : TT} {t u : TS} {D : Ends} {σ : L2.St} {H : Hp} (R : Bool → Hp → Prop) (h : ∀ Q : Bool → Hp → Prop, (∀ z H', R z H' → Q z H') → c σ H Q) (q1 : ∀ H', R true H' → t D σ H') (q2 : ∀ H', R false H' → u D σ H') : tIfS c t u D σ H := h _ fun z H' r => by
  cases z with
  | true => exact q1 H' r
  | false => exact q2 H' r
theorem if_ev {t : TT} {ta tb : TE} {σ : L2.St} {H : Hp} {Q : VK} (R : V → Hp → Prop) (h : ∀ Q : VK, (∀ z H', R z H' → Q z H') → tIf t ta tb σ H Q) (q : ∀ z H', R z H' → Q z H') : tIf t ta tb σ H Q := h Q q
theorem and_ev {ta tb : TE} {σ : L2.St} {H : Hp} {Q : VK} (R : V → Hp → Prop) (h : ∀ Q : VK, (∀ z H', R z H' → Q z H') → tAndV ta tb σ H Q) (q : ∀ z H', R z H' → Q z H') : tAndV ta tb σ H Q := h Q q
theorem or_ev {ta tb : TE} {σ : L2.St} {H : Hp} {Q : VK} (R : V → Hp → Prop) (h : ∀ Q : VK, (∀ z H', R z H' → Q z H') → tOrV ta tb σ H Q) (q : ∀ z H', R z H' → Q z H') : tOrV ta tb σ H Q := h Q q
theorem ifset_ev {c : TT} {e : TE} {k : Nat} {D : Ends} {σ : L2.St} {H : Hp} {old : V} (hσ : σ.set k (some old) = σ) (R : V → Hp → Prop) (h : ∀ Q : VK, (∀ z H', R z H' → Q z H') → c σ H (fun b H1 => if b = true then e σ H1 Q else Q old H1)) (q : ∀ z H', R z H' → D.nx (σ.set k (some z)) H') : tIfS c (tAsg e (gName k)) tNext D σ H := by
  have t := h (fun z H' => D.nx (σ.set k (some z)) H') q
  rw [hσ] at t
  exact t
theorem two_cut {t : TE} {g : TG} {c : TT} {a b r : TS} {D : Ends} {σ : L2.St} {H : Hp} (R : L2.St → Hp → Prop) (h : ∀ D' : Ends, (∀ σ' H', R σ' H' → D'.nx σ' H') → tSeq (tAsg t g) (tIfS c a b) D' σ H) (q : ∀ σ' H', R σ' H' → r D σ' H') : tSeq (tAsg t g) (tSeq (tIfS c a b) r) D σ H := h { D with nx := r D } q
theorem org80 {ta tb : TE} {σ : L2.St} {H : Hp} {Q : VK} {c d : Bool} (ha : ∀ Q : VK, Q (.bl c) H → ta σ H Q) (hb : ∀ Q : VK, Q (.bl d) H → tb σ H Q) (h : Q (.bl (c || d)) H) : tOrV ta tb σ H Q := by
  refine ha _ ⟨c, rfl, ?_⟩
  cases c
  · exact hb _ h
  · exact h
theorem gnext_if18 {σ : L2.St} {H : Hp} {c : TT} {t u : TS} {r : TS} {D : Ends} (h : tIfS c t u { D with nx := r D } σ H) : tNext ({ D with nx := tSeq (tIfS c t u) r D } : Ends) σ H := h
theorem ret_if18 {c : TT} {ta tb : TE} {D : Ends} {σ : L2.St} {H : Hp} (R : Bool → Hp → Prop) (h : ∀ Q : Bool → Hp → Prop, (∀ z H', R z H' → Q z H') → c σ H Q) (q1 : ∀ H', R true H' → ta σ H' D.rt) (q2 : ∀ H', R false H' → tb σ H' D.rt) : tRet (tIf c ta tb) D σ H := h _ fun z H' r => by
  cases z with
  | true => exact q1 H' r
  | false => exact q2 H' r
theorem gset_if3 {i : Nat} {v : V} {σ : L2.St} {H : Hp} {c : TT} {t u r : TS} {D : Ends} (h : tIfS c t u { D with nx := r D } (σ.set i (some v)) H) : gName i v σ H (tSeq (tIfS c t u) r D) := h
theorem asg_ev {t : TE} {i : Nat} {r : TS} {D : Ends} {σ : L2.St} {H : Hp} (R : V → Hp → Prop) (h : ∀ Q : VK, (∀ z H', R z H' → Q z H') → t σ H Q) (q : ∀ z H', R z H' → r D (σ.set i (some z)) H') : tSeq (tAsg t (gName i)) r D σ H := h _ q
section
variable {X : Cx} {pos : Pos}
/-! ### a field as one of several targets; keyword-only parameters that are all written -/
def gFld (K : PySem.W.Frag) (to : TE) (f : Str) : TG := fun y σ H Q => to σ H fun x H2 => ∃ a C dx fs, x = .ref a ∧ H2 a = some (.ins C dx fs) ∧ Cls K C ∧ NoAttr K C f ∧ fs.length < 1000 ∧ Q σ (upd H2 a (.ins C dx (putF f y fs)))
theorem pg_attr {o : Expr} {f : Str} {to : TE} (ho : PE X o to)
    (hd : ∀ y, assign (.Attribute o f pos) X.env y = (do
      let ov ← holding [y] (eval o X.env)
      standAt pos.atName
      holding [y, ov] (setAttr ov f y)
      release [y, ov] []) := by intro _; rfl) : PG X (.Attribute o f pos) (gFld X.K to f) := by
  refine ⟨fun pins s σ H y u Q I ry h => ?_⟩
  rw [hd]
  refine wpAny_bind (wpAny_holding (thn (ho.run pins s σ H _ I h) fun ov s1 hh => ?_))
  obtain ⟨x, H1, I1, rx, a, C, dx, fs, ex, ea, c, n, l, q⟩ := hh
  subst ex
  have eov : ov = Value.ref a := rx
  subst eov
  refine wpAny_bind (wpAny_standAt (wpAny_bind (wpAny_holding (setattr_ok I1 ea c n l ry fun s2 I2 => ?_))))
  exact wpAny_release ⟨σ, _, I2, q⟩
end
theorem kbn_full {K : PySem.W.Frag} {x qual : Str} {st : Stmt} {kV doc pm cdv ct : Value} {an : Option Addr} {ps ks : List Str} {n : Nat}
    (h : ∀ us ws : List Value, us.length = n → ws.length = ks.length → bindArgs (PySem.W.fnOf x qual (defArgs st) (defBody st) (defScope st) .none kV doc pm an cdv ct) ⟨us, ks.zip ws⟩ = pure (ps.zip (us ++ ws))) :
    KBn K (PySem.W.fnOf x qual (defArgs st) (defBody st) (defScope st) .none kV doc pm an cdv ct) ps n ks (fun us ws => us ++ ws) (fun vs zs => vs ++ zs) where
  to := fun s us ws _ l1 l2 => .of_eq (h us ws l1 l2)
  rel := fun r1 r2 => r1.append r2
theorem val0 (t : Tok) : Vals [V.int 0] [Value.int 0 t] := .cons ⟨_, rfl⟩ .nil
/-! ### keyword-only parameters -/
theorem kbn_of {K : PySem.W.Frag} {x qual : Str} {st : Stmt} {D : Addr} {an : Option Addr} {doc pm cdv ct : Value} {ps ks : List Str} {n : Nat} {ml : List (Str × Value)} {g : List Value → List Value → List Value} {gV : List V → List V → List V} (hml : ∀ q ∈ ml, PySem.W.nsIn K D q.1 = some (some q.2))
    (h : ∀ us ws : List Value, us.length = n → ws.length = ks.length → KwChain D ml (bindArgs (PySem.W.fnOf x qual (defArgs st) (defBody st) (defScope st) .none (.ref D) doc pm an cdv ct) ⟨us, ks.zip ws⟩) (ps.zip (g us ws)))
    (rel : ∀ {vs : List V} {us : List Value} {zs : List V} {ws : List Value}, vs.length = n → zs.length = ks.length → Vals vs us → Vals zs ws → Vals (gV vs zs) (g us ws)) :
    ∀ (s : Shared) (us ws : List Value), K.In s.heap → us.length = n → ws.length = ks.length → BindsTo s (PySem.W.fnOf x qual (defArgs st) (defBody st) (defScope st) .none (.ref D) doc pm an cdv ct) ⟨us, ks.zip ws⟩ (ps.zip (g us ws)) :=
  fun s us ws X l1 l2 => BindsTo.of_looks fun M => KwChain.looks X hml (h us ws l1 l2)
theorem bnd_of {K : PySem.W.Frag} {x qual : Str} {st : Stmt} {D : Addr} {an : Option Addr} {doc pm cdv ct : Value} {ps : List Str} {ml : List (Str × Value)} {ds : List Value} (hml : ∀ q ∈ ml, PySem.W.nsIn K D q.1 = some (some q.2))
    (h : ∀ us : List Value, us.length + ds.length = ps.length → KwChain D ml (bindArgs (PySem.W.fnOf x qual (defArgs st) (defBody st) (defScope st) .none (.ref D) doc pm an cdv ct) ⟨us, []⟩) (ps.zip (us ++ ds))) :
    Binds K (PySem.W.fnOf x qual (defArgs st) (defBody st) (defScope st) .none (.ref D) doc pm an cdv ct) ps ds := fun s us X hl => by
  rw [List.length_append] at hl
  exact BindsTo.of_looks fun M => KwChain.looks X hml (h us hl)
/-! ### a def whose defaults aren't asked for -/
structure FunA (K : PySem.W.Frag) (x qual : Str) (st : Stmt) (f : Addr) (fd : FuncData) : Prop where
  ex : ∃ (oc : Value) (od : Option Addr) (dV kV doc pm : Value) (an : Option Addr) (cdv ct : Value) (osl : Array (Option Value)),
    fd = PySem.W.fnOf x qual (defArgs st) (defBody st) (defScope st) dV kV doc pm an cdv ct ∧ K.lookup f = some ⟨oc, od, .func fd, osl⟩ ∧ PySem.W.codeIn K cdv qual = true
  kp : PySem.W.keepIn K (.ref f) = true
theorem FunA.ok {P : Program} {w : World} {K : PySem.W.Frag} {mg : Str → Option Value} {base : Heap} {x qual : Str} {st : Stmt} {f : Addr} {fd : FuncData} {N ps : List Str} {k : Nat} {sp : Sp} (F : FunA K x qual st f fd) (S : FnScope N ps (defScope st)) (len : ∀ vs H Q E, sp vs H Q E → vs.length = ps.length)
    (hbody : ∀ (cdv : Value) (A : Around) (outer : List Env) (s : Shared) (H : Hp) (vs : List V) (Q : VK) (E : XK), Room k (A.deeper (envOfC qual (defScope st) s.heap.objs.size f cdv)) → sp vs H Q E →
      ∃ t, PSs (cxOf CX0 P w K mg base N qual (defScope st) f cdv A outer s H E).nox (defBody st) t ∧ t { nx := fun _ H' => Q .non H', rt := Q } (start N vs) H) : FnOk P w K mg base CX0 (k + 1) f fd ps sp := by
  obtain ⟨oc, od, dV, kV, doc, pm, an, cdv, ct, osl, rfl, lk, hcd⟩ := F.ex
  refine fn_of lk hcd S len fun A outer s H vs Q E hr hsp => ?_
  obtain ⟨t, h, q⟩ := hbody cdv A outer s H vs Q E hr hsp
  exact ⟨t, h.nox, q⟩
theorem bindsA {K : PySem.W.Frag} {x qual : Str} {st : Stmt} {f T : Addr} {oc oT vT : Value} {od an dT : Option Addr} {osl sT : Array (Option Value)} {kV doc pm cdv ct : Value} {nT : Nat} {ps : List Str} (l : K.lookup f = some ⟨oc, od, .func (PySem.W.fnOf x qual (defArgs st) (defBody st) (defScope st) (.ref T) kV doc pm an cdv ct), osl⟩)
    (lT : K.lookup T = some ⟨oT, dT, .seq #[vT] nT, sT⟩)
    (h : ∀ (kV doc pm : Value) (an : Option Addr) (cdv ct : Value) (us : List Value), us.length = ps.length → ∃ k, bindArgs (PySem.W.fnOf x qual (defArgs st) (defBody st) (defScope st) (.ref T) kV doc pm an cdv ct) ⟨us, []⟩ = seqItems? (.ref T) >>= k ∧ k (some #[vT]) = pure (ps.zip us)) : Binds K (PySem.W.fnOf x qual (defArgs st) (defBody st) (defScope st) (.ref T) kV doc pm an cdv ct) ps [] := by
  intro s us X hl
  rw [List.append_nil] at hl ⊢
  obtain ⟨k, e1, e2⟩ := h kV doc pm an cdv ct us hl
  refine BindsTo.of_looks fun M => ?_
  rw [e1]
  exact looks_items X lT rfl (.of_pure e2)
theorem bindsAD {K : PySem.W.Frag} {x qual : Str} {st : Stmt} {f T : Addr} {oc oT vT : Value} {od an dT : Option Addr} {osl sT : Array (Option Value)} {kV doc pm cdv ct : Value} {nT : Nat} {ps : List Str} (l : K.lookup f = some ⟨oc, od, .func (PySem.W.fnOf x qual (defArgs st) (defBody st) (defScope st) (.ref T) kV doc pm an cdv ct), osl⟩)
    (lT : K.lookup T = some ⟨oT, dT, .seq #[vT] nT, sT⟩)
    (h : ∀ (kV doc pm : Value) (an : Option Addr) (cdv ct : Value) (us : List Value), us.length + 1 = ps.length → ∃ k, bindArgs (PySem.W.fnOf x qual (defArgs st) (defBody st) (defScope st) (.ref T) kV doc pm an cdv ct) ⟨us, []⟩ = seqItems? (.ref T) >>= k ∧ k (some #[vT]) = pure (ps.zip (us ++ [vT]))) : Binds K (PySem.W.fnOf x qual (defArgs st) (defBody st) (defScope st) (.ref T) kV doc pm an cdv ct) ps [vT] := by
  intro s us X hl
  rw [List.length_append] at hl
  obtain ⟨k, e1, e2⟩ := h kV doc pm an cdv ct us hl
  refine BindsTo.of_looks fun M => ?_
  rw [e1]
  exact looks_items X lT rfl (.of_pure e2)
theorem kbindsA {x1 : Str} {K : PySem.W.Frag} {x qual : Str} {st : Stmt} {f T : Addr} {oc oT vT : Value} {od an dT : Option Addr} {osl sT : Array (Option Value)} {kV doc pm cdv ct : Value} {nT : Nat} {ps : List Str} (l : K.lookup f = some ⟨oc, od, .func (PySem.W.fnOf x qual (defArgs st) (defBody st) (defScope st) (.ref T) kV doc pm an cdv ct), osl⟩)
    (lT : K.lookup T = some ⟨oT, dT, .seq #[vT] nT, sT⟩)
    (h : ∀ (kV doc pm : Value) (an : Option Addr) (cdv ct u w : Value), ∃ k, bindArgs (PySem.W.fnOf x qual (defArgs st) (defBody st) (defScope st) (.ref T) kV doc pm an cdv ct) ⟨[u], [(x1, w)]⟩ = seqItems? (.ref T) >>= k ∧ k (some #[vT]) = pure (ps.zip [u, w])) : KBn K (PySem.W.fnOf x qual (defArgs st) (defBody st) (defScope st) (.ref T) kV doc pm an cdv ct) ps 1 [x1] (fun us ws => us ++ ws) (fun us ws => us ++ ws) := by
  refine ⟨fun s us ws X l1 l2 => ?_, fun r1 r2 => r1.append r2⟩
  match us, ws, l1, l2 with
  | [u], [w], _, _ =>
    obtain ⟨k, e1, e2⟩ := h kV doc pm an cdv ct u w
    refine BindsTo.of_looks fun M => ?_
    show PySem.W.Looks M s.heap (bindArgs (PySem.W.fnOf x qual (defArgs st) (defBody st) (defScope st) (.ref T) kV doc pm an cdv ct) ⟨[u], [(x1, w)]⟩) (ps.zip [u, w])
    rw [e1]
    exact looks_items X lT rfl (.of_pure e2)
theorem funA_mk {K : PySem.W.Frag} {x qual : Str} {st : Stmt} {f : Addr} {oc : Value} {od an : Option Addr} {osl : Array (Option Value)} {dV kV doc pm cdv ct : Value} (l : K.lookup f = some ⟨oc, od, .func (PySem.W.fnOf x qual (defArgs st) (defBody st) (defScope st) dV kV doc pm an cdv ct), osl⟩)
    (c : PySem.W.codeIn K cdv qual = true) (k : PySem.W.keepIn K (.ref f) = true) : FunA K x qual st f (PySem.W.fnOf x qual (defArgs st) (defBody st) (defScope st) dV kV doc pm an cdv ct) := ⟨⟨oc, od, dV, kV, doc, pm, an, cdv, ct, osl, rfl, l, c⟩, k⟩
section
variable {P : Program} {w : World} {K : PySem.W.Frag} {mg : Str → Option Value} {base : Heap}
theorem cutG {Cd A : Int → Int → Hp → Prop} {B : Prop} (h1 : ∀ n p H, Cd n p H → A n p H) (h2 : (∀ n p H, Cd n p H → A n p H) → B) : B := h2 h1
theorem cutA {Cd A : Addr → Hp → Prop} {B : Prop} (h1 : ∀ a H, Cd a H → A a H) (h2 : (∀ a H, Cd a H → A a H) → B) : B := h2 h1
theorem cutH {H : Hp} {A : Hp → Prop} {B : Prop} (h1 : ∀ H', Same H H' → A H') (h2 : (∀ H', Same H H' → A H') → B) : B := h2 h1
theorem cutP {A B : Prop} (h1 : A) (h2 : A → B) : B := h2 h1
theorem gB {i : Nat} {v u : Bool} {σ : L2.St} {H : Hp} {D : L2.St → Hp → Prop} (e : v = u) (h : gName i (V.bl u) σ H D) : gName i (V.bl v) σ H D := e ▸ h
theorem gI {i : Nat} {v u : Int} {σ : L2.St} {H : Hp} {D : L2.St → Hp → Prop} (e : v = u) (h : gName i (V.int u) σ H D) : gName i (V.int v) σ H D := e ▸ h
theorem dvi (a b : Int) : decide (V.int a = V.int b) = decide (a = b) := by
  by_cases c : a = b
  · rw [decide_eq_true c, decide_eq_true (congrArg V.int c)]
  · rw [decide_eq_false c, decide_eq_false (fun z => c (V.int.inj z))]
theorem dvs (a b : Str) : decide (V.str a = V.str b) = decide (a = b) := by
  by_cases c : a = b
  · rw [decide_eq_true c, decide_eq_true (congrArg V.str c)]
  · rw [decide_eq_false c, decide_eq_false (fun z => c (V.str.inj z))]
theorem bx1 {c : Int} {H : Hp} {b : Addr} (h : BoxAt (c + 2 ^ (1 - 1)) H b) : BoxAt (c + 1) H b := h
theorem Keep.none {b p : Addr} {H H' : Hp} (k : Keep b H H') (n : p ≠ b) (h : H' p = none) : H p = none := by
  cases q : H p with
  | none => rfl
  | some o =>
    rw [k p o q n] at h
    cases h
theorem dp_ints {H : Hp} : ∀ ds : List Int, DpAll K H (ds.map V.int) (ds.map PyData.int)
  | [] => .nil
  | d :: ds => .cons (.int d) (dp_ints ds)
theorem lv_ints {n : Nat} (ds : List Int) (h : ds.length ≤ 1000) : Lv (n + 1) (.list (ds.map PyData.int)) := by
  refine ⟨by rw [List.length_map]; omega, fun d hd => ?_⟩
  obtain ⟨x, _, rfl⟩ := List.mem_map.mp hd
  cases n <;> trivial
theorem eqv_ints (ds : List Int) : PyData.eqv (.list (ds.map PyData.int)) (.list (ds.map PyData.int)) = true := PySem.SeqAt.eqv_refl _ (PySem.SeqAt.canLay_of_shaped (PySem.W.shaped_ints ds))
/-! ### a form -/
/-- at x stands a Form of these two -/
def FAt (C : Addr) (H : Hp) (x : Addr) (sc tl : Nat) : Prop := ∃ dx, H x = some (.ins C dx [("scale", .int (sc : Int)), ("tail", .int (tl : Int))]) ∧ 2 ≤ sc ∧ sc ≤ 8 ∧ 1 ≤ tl ∧ tl ≤ 24
theorem FAt.keep {C : Addr} {b : Addr} {H H' : Hp} {x : Addr} {sc tl : Nat} (h : FAt C H x sc tl) (k : Keep b H H') (n : x ≠ b) : FAt C H' x sc tl := by
  obtain ⟨dx, e, r⟩ := h
  exact ⟨dx, k _ _ e n, r⟩
theorem FAt.same {C : Addr} {H H' : Hp} {x : Addr} {sc tl : Nat} (h : FAt C H x sc tl) (s : Same H H') : FAt C H' x sc tl := by
  obtain ⟨dx, e, r⟩ := h
  exact ⟨dx, s _ _ e, r⟩
structure FT (K : PySem.W.Frag) (mg : Str → Option Value) (C : Addr) : Prop where
  cl : Cls K C
  ns : NoAttr K C "scale"
  nt : NoAttr K C "tail"
  mgC : mg "Form" = some (.ref C)
theorem fl_s (a b : V) : List.lookup ("scale" : Str) ([("scale", a), ("tail", b)] : List (Str × V)) = some a := rfl
theorem fl_t (a b : V) : List.lookup ("tail" : Str) ([("scale", a), ("tail", b)] : List (Str × V)) = some b := rfl
/-- Form(scale, tail) makes one -/
theorem made {C : Addr} {H : Hp} {x dx : Addr} (nx : H x = none) (nd : H dx = none) (ne : dx ≠ x) {H' : Hp} (k : ∀ p o, (upd (upd H dx (.own x)) x (.ins C dx [])) p = some o → p ≠ x → H' p = some o) : Same H H' := fun p o e =>
  k p o (by rw [upd_ne (ne_of_none e nx), upd_ne (ne_of_none e nd)]; exact e) (ne_of_none e nx)
structure CT2 (K : PySem.W.Frag) (mg : Str → Option Value) (CD : Addr) : Prop where
  cl : Cls K CD
  n_form : NoAttr K CD "form"
  n_one : NoAttr K CD "one"
  n_two : NoAttr K CD "two"
  n_way : NoAttr K CD "way"
  n_signed : NoAttr K CD "signed"
  n_told : NoAttr K CD "told"
  n_due : NoAttr K CD "due"
  n_over : NoAttr K CD "over"
  n_by : NoAttr K CD "by"
  n_power : NoAttr K CD "power"
  mgC : mg "Divider" = some (.ref CD)
structure LL (K : PySem.W.Frag) (mg : Str → Option Value) (C : Addr) (CD : Addr) (a1 a2 a3 a4 a5 a6 a7 a8 a9 a10 a11 a12 a13 a14 a15 a16 a17 a18 a19 a20 a21 a22 a23 a24 a25 a26 a27 a28 a29 a30 a31 a32 a33 a34 a35 a36 a37 a38 a39 a40 a41 a42 a43 a44 a45 a46 a47 a48 a49 a50 a51 a52 a53 a54 : Addr) (l1 l2 l3 l4 l5 l6 l7 l8 l9 l10 l11 l12 l13 l14 l15 l16 l17 l18 l19 l20 l21 l22 l23 l24 l25 l26 l27 l28 l29 l30 l31 l32 l33 l34 l35 l36 l37 l38 l39 l40 l41 l42 l43 l44 l45 l46 l47 l48 l49 l50 l51 l52 l53 l54 : FuncData) (t39 t40 t41 tg_NEAR tg_CUT tg_UP : Tok) (E_NoStep I_NoStep E_Undone I_Undone E_Busy : Addr) : Prop where
  F_worth_of : Fun K "worth_of" "worth_of" s_worth_of a1 l1
  m_worth_of : mg "worth_of" = some (.ref a1)
  b_worth_of : Binds K l1 ["digits"] []
  F_is_number : Fun K "is_number" "is_number" s_is_number a2 l2
  m_is_number : mg "is_number" = some (.ref a2)
  b_is_number : Binds K l2 ["thing"] []
  F_is_number_in : Fun K "is_number_in" "is_number_in" s_is_number_in a3 l3
  m_is_number_in : mg "is_number_in" = some (.ref a3)
  b_is_number_in : Binds K l3 ["least", "greatest", "thing"] []
  F_cut_off : Fun K "cut_off" "cut_off" s_cut_off a4 l4
  m_cut_off : mg "cut_off" = some (.ref a4)
  b_cut_off : Binds K l4 ["number", "by"] []
  F_last_power : Fun K "last_power" "last_power" s_last_power a5 l5
  m_last_power : mg "last_power" = some (.ref a5)
  b_last_power : Binds K l5 ["form", "number", "power"] []
  F_least_power : Fun K "least_power" "least_power" s_least_power a6 l6
  m_least_power : mg "least_power" = some (.ref a6)
  b_least_power : Binds K l6 ["form"] []
  F_rounded : Fun K "rounded" "rounded" s_rounded a7 l7
  m_rounded : mg "rounded" = some (.ref a7)
  kb_rounded_way : ∃ g, KBn K l7 ["form", "sign", "number", "power", "way", "more"] 4 ["way"] g (fun vs zs => vs ++ (zs ++ [.bl false]))
  kb_rounded_way_more : ∃ g, KBn K l7 ["form", "sign", "number", "power", "way", "more"] 4 ["way", "more"] g (fun vs zs => vs ++ zs)
  F_parted : Fun K "parted" "parted" s_parted a8 l8
  m_parted : mg "parted" = some (.ref a8)
  b_parted : Binds K l8 ["number", "by", "more"] []
  F_goes_up : Fun K "goes_up" "goes_up" s_goes_up a9 l9
  m_goes_up : mg "goes_up" = some (.ref a9)
  b_goes_up : Binds K l9 ["way", "sign", "many", "rest"] []
  F_goes_away : Fun K "goes_away" "goes_away" s_goes_away a10 l10
  m_goes_away : mg "goes_away" = some (.ref a10)
  b_goes_away : Binds K l10 ["way", "sign"] []
  F_word_beyond : Fun K "word_beyond" "word_beyond" s_word_beyond a11 l11
  m_word_beyond : mg "word_beyond" = some (.ref a11)
  b_word_beyond : Binds K l11 ["form", "sign", "way"] []
  F_flags_of_rest : Fun K "flags_of_rest" "flags_of_rest" s_flags_of_rest a12 l12
  m_flags_of_rest : mg "flags_of_rest" = some (.ref a12)
  b_flags_of_rest : Binds K l12 ["form", "number", "power", "rest"] []
  F_divided : Fun K "divided" "divided" s_divided a13 l13
  m_divided : mg "divided" = some (.ref a13)
  kb_divided_way : ∃ g, KBn K l13 ["form", "a", "b", "way"] 3 ["way"] g (fun vs zs => vs ++ zs)
  F_has_none : Fun K "has_none" "has_none" s_has_none a14 l14
  m_has_none : mg "has_none" = some (.ref a14)
  b_has_none : Binds K l14 ["form", "words"] []
  F_bad : Fun K "bad" "bad" s_bad a15 l15
  m_bad : mg "bad" = some (.ref a15)
  b_bad : Binds K l15 ["form"] []
  F_sign_of : Fun K "sign_of" "sign_of" s_sign_of a16 l16
  m_sign_of : mg "sign_of" = some (.ref a16)
  b_sign_of : Binds K l16 ["form", "word"] []
  F_unlike_sign : Fun K "unlike_sign" "unlike_sign" s_unlike_sign a17 l17
  m_unlike_sign : mg "unlike_sign" = some (.ref a17)
  b_unlike_sign : Binds K l17 ["form", "a", "b"] []
  F_quotient_rounded : Fun K "quotient_rounded" "quotient_rounded" s_quotient_rounded a18 l18
  m_quotient_rounded : mg "quotient_rounded" = some (.ref a18)
  b_quotient_rounded : Binds K l18 ["form", "sign", "one", "other", "way"] []
  F_have_heads : Fun K "have_heads" "have_heads" s_have_heads a19 l19
  m_have_heads : mg "have_heads" = some (.ref a19)
  b_have_heads : Binds K l19 ["form", "words"] []
  F_head_of : Fun K "head_of" "head_of" s_head_of a20 l20
  m_head_of : mg "head_of" = some (.ref a20)
  b_head_of : Binds K l20 ["form", "word"] []
  F_full_head : Fun K "full_head" "full_head" s_full_head a21 l21
  m_full_head : mg "full_head" = some (.ref a21)
  b_full_head : Binds K l21 ["form", "word"] []
  F__law_box : Fun K "_law_box" "_law_box" sBox a22 l22
  m__law_box : mg "_law_box" = some (.ref a22)
  b__law_box : Binds K l22 ["_law_script", "_law_k"] []
  F__law_take : Fun K "_law_take" "_law_take" sTake a23 l23
  m__law_take : mg "_law_take" = some (.ref a23)
  b__law_take : Binds K l23 ["_law_box_here", "_law_size"] []
  F__law_folded : Fun K "_law_folded" "_law_folded" sFolded a24 l24
  m__law_folded : mg "_law_folded" = some (.ref a24)
  b__law_folded : Binds K l24 ["_law_script", "_law_size"] []
  F__law_same : Fun K "_law_same" "_law_same" sSame a25 l25
  m__law_same : mg "_law_same" = some (.ref a25)
  b__law_same : Binds K l25 ["_law_found", "_law_due"] []
  F__law_form : Fun K "_law_form" "_law_form" s__law_form a26 l26
  m__law_form : mg "_law_form" = some (.ref a26)
  b__law_form : Binds K l26 ["_law_box_here"] []
  F__law_word : Fun K "_law_word" "_law_word" s__law_word a27 l27
  m__law_word : mg "_law_word" = some (.ref a27)
  b__law_word : Binds K l27 ["_law_box_here", "_law_scale", "_law_tail"] []
  F__law_begun : Fun K "_law_begun" "_law_begun" s__law_begun a28 l28
  m__law_begun : mg "_law_begun" = some (.ref a28)
  b__law_begun : Binds K l28 ["_law_form_here", "_law_a", "_law_b", "_law_mode", "_law_by_signs", "_law_how"] []
  F__law_refused : Fun K "_law_refused" "_law_refused" s__law_refused a29 l29
  m__law_refused : mg "_law_refused" = some (.ref a29)
  b__law_refused : Binds K l29 ["_law_divider", "_law_which"] []
  F__law_state : Fun K "_law_state" "_law_state" s__law_state a30 l30
  m__law_state : mg "_law_state" = some (.ref a30)
  b__law_state : Binds K l30 ["_law_divider"] []
  F__law_go : Fun K "_law_go" "_law_go" s__law_go a31 l31
  m__law_go : mg "_law_go" = some (.ref a31)
  b__law_go : Binds K l31 ["_law_box_here", "_law_divider"] []
  F__law_right : Fun K "_law_right" "_law_right" s__law_right a32 l32
  m__law_right : mg "_law_right" = some (.ref a32)
  b__law_right : Binds K l32 ["_law_box_here"] []
  T : FT K mg C
  M : Mk K C a33
  F_Form___init__ : Fun K "__init__" "Form.__init__" s_Form___init__ a33 l33
  b_Form___init__ : Binds K l33 ["self", "scale", "tail"] []
  F_Form_bias : Fun K "bias" "Form.bias" s_Form_bias a34 l34
  b_Form_bias : Binds K l34 ["self"] []
  M_Form_bias : Meth K C "bias" a34
  F_Form_top : Fun K "top" "Form.top" s_Form_top a35 l35
  b_Form_top : Binds K l35 ["self"] []
  M_Form_top : Meth K C "top" a35
  F_Form_parts : Fun K "parts" "Form.parts" s_Form_parts a36 l36
  b_Form_parts : Binds K l36 ["self", "word"] []
  M_Form_parts : Meth K C "parts" a36
  F_Form_word_of : Fun K "word_of" "Form.word_of" s_Form_word_of a37 l37
  b_Form_word_of : Binds K l37 ["self", "sign", "scale", "tail"] []
  M_Form_word_of : Meth K C "word_of" a37
  F_Form_sort_of : Fun K "sort_of" "Form.sort_of" s_Form_sort_of a38 l38
  b_Form_sort_of : Binds K l38 ["self", "word"] []
  M_Form_sort_of : Meth K C "sort_of" a38
  F_Form_nought : FunA K "nought" "Form.nought" s_Form_nought a39 l39
  b_Form_nought : Binds K l39 ["self", "sign"] []
  M_Form_nought : Meth K C "nought" a39
  d_Form_nought : Binds K l39 ["self", "sign"] [.int 0 t39]
  F_Form_endless : FunA K "endless" "Form.endless" s_Form_endless a40 l40
  b_Form_endless : Binds K l40 ["self", "sign"] []
  M_Form_endless : Meth K C "endless" a40
  d_Form_endless : Binds K l40 ["self", "sign"] [.int 0 t40]
  F_Form_greatest : FunA K "greatest" "Form.greatest" s_Form_greatest a41 l41
  b_Form_greatest : Binds K l41 ["self", "sign"] []
  M_Form_greatest : Meth K C "greatest" a41
  d_Form_greatest : Binds K l41 ["self", "sign"] [.int 0 t41]
  F_Form_none_word : Fun K "none_word" "Form.none_word" s_Form_none_word a42 l42
  b_Form_none_word : Binds K l42 ["self"] []
  M_Form_none_word : Meth K C "none_word" a42
  F_Form_worth : Fun K "worth" "Form.worth" s_Form_worth a43 l43
  b_Form_worth : Binds K l43 ["self", "word"] []
  M_Form_worth : Meth K C "worth" a43
  T2 : CT2 K mg CD
  M2 : Mk K CD a44
  F_Divider___init__ : Fun K "__init__" "Divider.__init__" s_Divider___init__ a44 l44
  kb_Divider___init___signed : ∃ g, KBn K l44 ["self", "form", "a", "b", "way", "signed"] 4 ["signed"] g (fun vs zs => vs ++ (.str "near" :: zs))
  kb_Divider___init__ : ∃ ds, Vals [.str "near", .bl false] ds ∧ Binds K l44 ["self", "form", "a", "b", "way", "signed"] ds
  kb_Divider___init___way : ∃ g, KBn K l44 ["self", "form", "a", "b", "way", "signed"] 4 ["way"] g (fun vs zs => vs ++ (zs ++ [.bl false]))
  kb_Divider___init___signed_way : ∃ g, KBn K l44 ["self", "form", "a", "b", "way", "signed"] 4 ["signed", "way"] g (fun vs zs => vs ++ zs.reverse)
  kb_Divider___init___way_signed : ∃ g, KBn K l44 ["self", "form", "a", "b", "way", "signed"] 4 ["way", "signed"] g (fun vs zs => vs ++ zs)
  F_Divider_begin : Fun K "begin" "Divider.begin" s_Divider_begin a45 l45
  b_Divider_begin : Binds K l45 ["self"] []
  M_Divider_begin : Meth K CD "begin" a45
  F_Divider_step : Fun K "step" "Divider.step" s_Divider_step a46 l46
  b_Divider_step : Binds K l46 ["self"] []
  M_Divider_step : Meth K CD "step" a46
  F_Divider_digit_by : Fun K "digit_by" "Divider.digit_by" s_Divider_digit_by a47 l47
  b_Divider_digit_by : Binds K l47 ["self", "rest"] []
  M_Divider_digit_by : Meth K CD "digit_by" a47
  F_Divider_digits : Fun K "digits" "Divider.digits" s_Divider_digits a48 l48
  b_Divider_digits : Binds K l48 ["self"] []
  M_Divider_digits : Meth K CD "digits" a48
  F_Divider_quotient : Fun K "quotient" "Divider.quotient" s_Divider_quotient a49 l49
  b_Divider_quotient : Binds K l49 ["self"] []
  M_Divider_quotient : Meth K CD "quotient" a49
  F_Divider_rest : Fun K "rest" "Divider.rest" s_Divider_rest a50 l50
  b_Divider_rest : Binds K l50 ["self"] []
  M_Divider_rest : Meth K CD "rest" a50
  F_Divider_divisor : Fun K "divisor" "Divider.divisor" s_Divider_divisor a51 l51
  b_Divider_divisor : Binds K l51 ["self"] []
  M_Divider_divisor : Meth K CD "divisor" a51
  F_Divider_left : Fun K "left" "Divider.left" s_Divider_left a52 l52
  b_Divider_left : Binds K l52 ["self"] []
  M_Divider_left : Meth K CD "left" a52
  F_Divider_outcome : Fun K "outcome" "Divider.outcome" s_Divider_outcome a53 l53
  b_Divider_outcome : Binds K l53 ["self"] []
  M_Divider_outcome : Meth K CD "outcome" a53
  F_Divider_like : Fun K "like" "Divider.like" s_Divider_like a54 l54
  b_Divider_like : Binds K l54 ["self"] []
  M_Divider_like : Meth K CD "like" a54
  g_NEAR : mg "NEAR" = some (.str "near" tg_NEAR)
  g_CUT : mg "CUT" = some (.str "cut" tg_CUT)
  g_UP : mg "UP" = some (.str "up" tg_UP)
  g_NoStep : mg "NoStep" = some (.ref E_NoStep)
  R_NoStep : PySem.WhX.ErrR K E_NoStep I_NoStep
  x_NoStep : PySem.W.exmOne K (.ref E_NoStep) (.ref E_NoStep) = some true
  g_Undone : mg "Undone" = some (.ref E_Undone)
  R_Undone : PySem.WhX.ErrR K E_Undone I_Undone
  x_Undone : PySem.W.exmOne K (.ref E_Undone) (.ref E_Undone) = some true
  g_Busy : mg "Busy" = some (.ref E_Busy)
  z_RuntimeError : mg "RuntimeError" = none
  q_NoStep_RuntimeError : PySem.W.kitOne K (.ref E_NoStep) (.type "RuntimeError") = some true
  q_Undone_RuntimeError : PySem.W.kitOne K (.ref E_Undone) (.type "RuntimeError") = some true
  q_NoStep_Busy : PySem.W.kitOne K (.ref E_NoStep) (.ref E_Busy) = some false
  q_Undone_Busy : PySem.W.kitOne K (.ref E_Undone) (.ref E_Busy) = some false
  q_NoStep_NoStep : PySem.W.kitOne K (.ref E_NoStep) (.ref E_NoStep) = some true
  q_Undone_NoStep : PySem.W.kitOne K (.ref E_Undone) (.ref E_NoStep) = some false
  y_NoStep_Undone : PySem.W.exmOne K (.ref E_NoStep) (.ref E_Undone) = some false
  y_NoStep_Busy : PySem.W.exmOne K (.ref E_NoStep) (.ref E_Busy) = some false
  y_Undone_NoStep : PySem.W.exmOne K (.ref E_Undone) (.ref E_NoStep) = some false
  y_Undone_Busy : PySem.W.exmOne K (.ref E_Undone) (.ref E_Busy) = some false
variable {C : Addr} {CD : Addr} {a1 a2 a3 a4 a5 a6 a7 a8 a9 a10 a11 a12 a13 a14 a15 a16 a17 a18 a19 a20 a21 a22 a23 a24 a25 a26 a27 a28 a29 a30 a31 a32 a33 a34 a35 a36 a37 a38 a39 a40 a41 a42 a43 a44 a45 a46 a47 a48 a49 a50 a51 a52 a53 a54 : Addr} {l1 l2 l3 l4 l5 l6 l7 l8 l9 l10 l11 l12 l13 l14 l15 l16 l17 l18 l19 l20 l21 l22 l23 l24 l25 l26 l27 l28 l29 l30 l31 l32 l33 l34 l35 l36 l37 l38 l39 l40 l41 l42 l43 l44 l45 l46 l47 l48 l49 l50 l51 l52 l53 l54 : FuncData} {t39 t40 t41 tg_NEAR tg_CUT tg_UP : Tok} {E_NoStep I_NoStep E_Undone I_Undone E_Busy : Addr}

/-! ### is_number, is_number_in -/
inductive Th (K : PySem.W.Frag) (H : Hp) : V → Prop
  | non : Th K H .non
  | bl (b : Bool) : Th K H (.bl b)
  | int (i : Int) : Th K H (.int i)
  | str (x : Str) : Th K H (.str x)
def isI : V → Bool
  | .int _ => true
  | _ => false
def numIn (a b : Int) : V → Bool
  | .int z => decide (a ≤ z) && decide (z ≤ b)
  | _ => false
def spNum (K : PySem.W.Frag) : Sp := fun vs H Q _ => ∃ x : V, vs = [x] ∧ Th K H x ∧ Q (.bl (isI x)) H
theorem ok_is_number (B : Bl mg) (L : LL K mg C CD a1 a2 a3 a4 a5 a6 a7 a8 a9 a10 a11 a12 a13 a14 a15 a16 a17 a18 a19 a20 a21 a22 a23 a24 a25 a26 a27 a28 a29 a30 a31 a32 a33 a34 a35 a36 a37 a38 a39 a40 a41 a42 a43 a44 a45 a46 a47 a48 a49 a50 a51 a52 a53 a54 l1 l2 l3 l4 l5 l6 l7 l8 l9 l10 l11 l12 l13 l14 l15 l16 l17 l18 l19 l20 l21 l22 l23 l24 l25 l26 l27 l28 l29 l30 l31 l32 l33 l34 l35 l36 l37 l38 l39 l40 l41 l42 l43 l44 l45 l46 l47 l48 l49 l50 l51 l52 l53 l54 t39 t40 t41 tg_NEAR tg_CUT tg_UP E_NoStep I_NoStep E_Undone I_Undone E_Busy) : FnOk P w K mg base CX0 1 a2 l2 ["thing"] (spNum K) := by
  refine L.F_is_number.ok sc_is_number (fun vs H Q E h => ?_) (fun cdv A outer s H vs Q E hr h => ?_)
  · obtain ⟨x, rfl, _⟩ := h
    rfl
  obtain ⟨x, rfl, hx, q⟩ := h
  refine ⟨_, (pss_one (ps_ret (pe_and (pe_callB call_isi (by rfl) B.isinstance boot_isinstance (pa_cons (pv 0) (pa_cons (pe_bltn (v := .ty "int") (by rfl) B.int PyProof.Rows.boot_int rfl) pa_nil))) (pe_one (pe_not (pe_callB call_isi (by rfl) B.isinstance boot_isinstance (pa_cons (pv 0) (pa_cons (pe_bltn (v := .ty "bool") (by rfl) B.bool PyProof.Rows.boot_bool rfl) pa_nil)))))))), ?_⟩
  cases hx with
  | non => exact ⟨_, rfl, _, _, _, _, _, rfl, .ty _, .base .non, kit_ty (by decide +kernel : kitB "NoneType" "int" = some false), _, rfl, iteF q⟩
  | bl b =>
    refine ⟨_, rfl, _, _, _, _, _, rfl, .ty _, .base (.bl _), kit_ty (by decide +kernel : kitB "bool" "int" = some true), _, rfl, iteT ?_⟩
    exact ⟨_, rfl, _, _, _, _, _, rfl, .ty _, .base (.bl _), kit_ty (by decide +kernel : kitB "bool" "bool" = some true), _, rfl, q⟩
  | int i =>
    refine ⟨_, rfl, _, _, _, _, _, rfl, .ty _, .base (.int _), kit_ty (by decide +kernel : kitB "int" "int" = some true), _, rfl, iteT ?_⟩
    exact ⟨_, rfl, _, _, _, _, _, rfl, .ty _, .base (.int _), kit_ty (by decide +kernel : kitB "int" "bool" = some false), _, rfl, q⟩
  | str z => exact ⟨_, rfl, _, _, _, _, _, rfl, .ty _, .base (.str _), kit_ty (by decide +kernel : kitB "str" "int" = some false), _, rfl, iteF q⟩
def spNumIn (K : PySem.W.Frag) : Sp := fun vs H Q _ => ∃ (a b : Int) (x : V), vs = [.int a, .int b, x] ∧ Th K H x ∧ Q (.bl (numIn a b x)) H
theorem ok_is_number_in (B : Bl mg) (L : LL K mg C CD a1 a2 a3 a4 a5 a6 a7 a8 a9 a10 a11 a12 a13 a14 a15 a16 a17 a18 a19 a20 a21 a22 a23 a24 a25 a26 a27 a28 a29 a30 a31 a32 a33 a34 a35 a36 a37 a38 a39 a40 a41 a42 a43 a44 a45 a46 a47 a48 a49 a50 a51 a52 a53 a54 l1 l2 l3 l4 l5 l6 l7 l8 l9 l10 l11 l12 l13 l14 l15 l16 l17 l18 l19 l20 l21 l22 l23 l24 l25 l26 l27 l28 l29 l30 l31 l32 l33 l34 l35 l36 l37 l38 l39 l40 l41 l42 l43 l44 l45 l46 l47 l48 l49 l50 l51 l52 l53 l54 t39 t40 t41 tg_NEAR tg_CUT tg_UP E_NoStep I_NoStep E_Undone I_Undone E_Busy) : FnOk P w K mg base CX0 2 a3 l3 ["least", "greatest", "thing"] (spNumIn K) := by
  have G_is_number : FnOk P w K mg base CX0 1 a2 l2 ["thing"] (spNum K) := (ok_is_number B L).mono (by decide)
  refine L.F_is_number_in.ok sc_is_number_in (fun vs H Q E h => ?_) (fun cdv A outer s H vs Q E hr h => ?_)
  · obtain ⟨a, b, x, rfl, _⟩ := h
    rfl
  obtain ⟨a, b, x, rfl, hx, q⟩ := h
  refine ⟨_, (pss_one (ps_ret (pe_and (pe_call G_is_number hr (by rfl) L.m_is_number L.F_is_number.kp L.b_is_number .nil pass0 (pa_cons (pv 2) pa_nil)) (pe_one (pe_chain op_le op_le (pv 0) (pv 2) (pv 1)))))), ?_⟩
  refine ⟨_, rfl, _, rfl, hx, _, rfl, ?_⟩
  cases hx with
  | non => exact iteF q
  | bl b => exact iteF q
  | str z => exact iteF q
  | int z =>
    refine iteT ?_
    refine ⟨_, rfl, _, rfl, _, _, rfl, rfl, _, rfl, ite2 (fun c => ?_) (fun c => ?_)⟩
    · refine ⟨_, rfl, _, _, rfl, rfl, ?_⟩
      rw [show numIn a b (.int z) = decide (z ≤ b) by show (decide (a ≤ z) && decide (z ≤ b)) = _; rw [c]; rfl] at q
      exact q
    · rw [show numIn a b (.int z) = false by show (decide (a ≤ z) && decide (z ≤ b)) = _; rw [Bool.eq_false_iff.mpr c]; rfl] at q
      exact q
/-! ### Form(scale, tail) and its words -/
def spInit (C : Addr) : Sp := fun vs H Q _ => ∃ (x dx : Addr) (sc tl : Nat), vs = [.ref x, .int (sc : Int), .int (tl : Int)] ∧ H x = some (.ins C dx []) ∧ 2 ≤ sc ∧ sc ≤ 8 ∧ 1 ≤ tl ∧ tl ≤ 24 ∧
  ∀ H', FAt C H' x sc tl → (∀ p o, H p = some o → p ≠ x → H' p = some o) → Q .non H'
theorem numIn_t {a b z : Int} (h1 : a ≤ z) (h2 : z ≤ b) : numIn a b (.int z) = true := by
  show (decide (a ≤ z) && decide (z ≤ b)) = true
  rw [decide_eq_true h1, decide_eq_true h2]
  rfl
theorem ok_Form___init__ (B : Bl mg) (L : LL K mg C CD a1 a2 a3 a4 a5 a6 a7 a8 a9 a10 a11 a12 a13 a14 a15 a16 a17 a18 a19 a20 a21 a22 a23 a24 a25 a26 a27 a28 a29 a30 a31 a32 a33 a34 a35 a36 a37 a38 a39 a40 a41 a42 a43 a44 a45 a46 a47 a48 a49 a50 a51 a52 a53 a54 l1 l2 l3 l4 l5 l6 l7 l8 l9 l10 l11 l12 l13 l14 l15 l16 l17 l18 l19 l20 l21 l22 l23 l24 l25 l26 l27 l28 l29 l30 l31 l32 l33 l34 l35 l36 l37 l38 l39 l40 l41 l42 l43 l44 l45 l46 l47 l48 l49 l50 l51 l52 l53 l54 t39 t40 t41 tg_NEAR tg_CUT tg_UP E_NoStep I_NoStep E_Undone I_Undone E_Busy) : FnOk P w K mg base CX0 3 a33 l33 ["self", "scale", "tail"] (spInit C) := by
  have G_is_number_in : FnOk P w K mg base CX0 2 a3 l3 ["least", "greatest", "thing"] (spNumIn K) := (ok_is_number_in B L).mono (by decide)
  refine L.F_Form___init__.ok sc_Form___init__ (fun vs H Q E h => ?_) (fun cdv A outer s H vs Q E hr h => ?_)
  · obtain ⟨x, dx, sc, tl, rfl, _⟩ := h
    rfl
  obtain ⟨x, dx, sc, tl, rfl, hx, h1, h2, h3, h4, q⟩ := h
  refine ⟨_, (pss_cons (ps_if (pt_not (pt_val (pe_call G_is_number_in hr (by rfl) L.m_is_number_in L.F_is_number_in.kp L.b_is_number_in .nil pass0 (pa_cons pe_int (pa_cons pe_int (pa_cons (pv 1) pa_nil)))))) (pss_one ps_never) pss_nil)
    (pss_cons (ps_if (pt_not (pt_val (pe_call G_is_number_in hr (by rfl) L.m_is_number_in L.F_is_number_in.kp L.b_is_number_in .nil pass0 (pa_cons pe_int (pa_cons pe_int (pa_cons (pv 2) pa_nil)))))) (pss_one ps_never) pss_nil)
    (pss_cons (ps_fld (pv 0) (pv 1) rfl)
    (pss_one (ps_fld (pv 0) (pv 2) rfl))))), ?_⟩
  refine ⟨_, rfl, _, _, _, rfl, .int _, ?_⟩
  rw [numIn_t (by omega) (by omega)]
  refine ⟨_, rfl, iteF ?_⟩
  refine ⟨_, rfl, _, _, _, rfl, .int _, ?_⟩
  rw [numIn_t (by omega) (by omega)]
  refine ⟨_, rfl, iteF ?_⟩
  refine ⟨_, rfl, _, rfl, x, C, dx, _, rfl, hx, L.T.cl, L.T.ns, (by decide), ?_⟩
  refine ⟨_, rfl, _, rfl, x, C, dx, _, rfl, upd_same, L.T.cl, L.T.nt, (by show 1 < 1000; decide), ?_⟩
  refine q _ ⟨dx, upd_same, h1, h2, h3, h4⟩ fun p o e n => ?_
  rw [upd_ne n, upd_ne n]
  exact e
def spBias (C : Addr) : Sp := fun vs H Q _ => ∃ (x : Addr) (sc tl : Nat), vs = [.ref x] ∧ FAt C H x sc tl ∧ Q (.int (2 ^ (sc - 1) - 1)) H
theorem ok_Form_bias (B : Bl mg) (L : LL K mg C CD a1 a2 a3 a4 a5 a6 a7 a8 a9 a10 a11 a12 a13 a14 a15 a16 a17 a18 a19 a20 a21 a22 a23 a24 a25 a26 a27 a28 a29 a30 a31 a32 a33 a34 a35 a36 a37 a38 a39 a40 a41 a42 a43 a44 a45 a46 a47 a48 a49 a50 a51 a52 a53 a54 l1 l2 l3 l4 l5 l6 l7 l8 l9 l10 l11 l12 l13 l14 l15 l16 l17 l18 l19 l20 l21 l22 l23 l24 l25 l26 l27 l28 l29 l30 l31 l32 l33 l34 l35 l36 l37 l38 l39 l40 l41 l42 l43 l44 l45 l46 l47 l48 l49 l50 l51 l52 l53 l54 t39 t40 t41 tg_NEAR tg_CUT tg_UP E_NoStep I_NoStep E_Undone I_Undone E_Busy) : FnOk P w K mg base CX0 1 a34 l34 ["self"] (spBias C) := by
  refine L.F_Form_bias.ok sc_Form_bias (fun vs H Q E h => ?_) (fun cdv A outer s H vs Q E hr h => ?_)
  · obtain ⟨x, sc, tl, rfl, _⟩ := h
    rfl
  obtain ⟨x, sc, tl, rfl, ⟨dx, hx, h1, h2, h3, h4⟩, q⟩ := h
  refine ⟨_, (pss_one (ps_ret (pe_op op_sub (pe_op op_oneShl pe_int (pe_op op_sub (pe_fld (pv 0) rfl) pe_int)) pe_int))), ?_⟩
  exact ⟨_, rfl, x, C, dx, _, _, rfl, hx, L.T.cl, L.T.ns, fl_s _ _, _, _, rfl, rfl, sc - 1, rfl, congrArg V.int (by omega), by omega, _, _, rfl, rfl, q⟩
def spTop (C : Addr) : Sp := fun vs H Q _ => ∃ (x : Addr) (sc tl : Nat), vs = [.ref x] ∧ FAt C H x sc tl ∧ Q (.int (2 ^ sc - 1)) H
theorem ok_Form_top (B : Bl mg) (L : LL K mg C CD a1 a2 a3 a4 a5 a6 a7 a8 a9 a10 a11 a12 a13 a14 a15 a16 a17 a18 a19 a20 a21 a22 a23 a24 a25 a26 a27 a28 a29 a30 a31 a32 a33 a34 a35 a36 a37 a38 a39 a40 a41 a42 a43 a44 a45 a46 a47 a48 a49 a50 a51 a52 a53 a54 l1 l2 l3 l4 l5 l6 l7 l8 l9 l10 l11 l12 l13 l14 l15 l16 l17 l18 l19 l20 l21 l22 l23 l24 l25 l26 l27 l28 l29 l30 l31 l32 l33 l34 l35 l36 l37 l38 l39 l40 l41 l42 l43 l44 l45 l46 l47 l48 l49 l50 l51 l52 l53 l54 t39 t40 t41 tg_NEAR tg_CUT tg_UP E_NoStep I_NoStep E_Undone I_Undone E_Busy) : FnOk P w K mg base CX0 1 a35 l35 ["self"] (spTop C) := by
  refine L.F_Form_top.ok sc_Form_top (fun vs H Q E h => ?_) (fun cdv A outer s H vs Q E hr h => ?_)
  · obtain ⟨x, sc, tl, rfl, _⟩ := h
    rfl
  obtain ⟨x, sc, tl, rfl, ⟨dx, hx, h1, h2, h3, h4⟩, q⟩ := h
  refine ⟨_, (pss_one (ps_ret (pe_op op_sub (pe_op op_oneShl pe_int (pe_fld (pv 0) rfl)) pe_int))), ?_⟩
  exact ⟨_, rfl, x, C, dx, _, _, rfl, hx, L.T.cl, L.T.ns, fl_s _ _, sc, rfl, rfl, by omega, _, _, rfl, rfl, q⟩
def spWordOf (C : Addr) : Sp := fun vs H Q _ => ∃ (x : Addr) (sc tl : Nat) (s m t : Int), vs = [.ref x, .int s, .int m, .int t] ∧ FAt C H x sc tl ∧ (s = 0 ∨ s = 1) ∧ 0 ≤ m ∧ m < 2 ^ sc ∧ 0 ≤ t ∧ t < 2 ^ tl ∧ Q (.int (s * 2 ^ (sc + tl) + (m * 2 ^ tl + t))) H
theorem ok_Form_word_of (B : Bl mg) (L : LL K mg C CD a1 a2 a3 a4 a5 a6 a7 a8 a9 a10 a11 a12 a13 a14 a15 a16 a17 a18 a19 a20 a21 a22 a23 a24 a25 a26 a27 a28 a29 a30 a31 a32 a33 a34 a35 a36 a37 a38 a39 a40 a41 a42 a43 a44 a45 a46 a47 a48 a49 a50 a51 a52 a53 a54 l1 l2 l3 l4 l5 l6 l7 l8 l9 l10 l11 l12 l13 l14 l15 l16 l17 l18 l19 l20 l21 l22 l23 l24 l25 l26 l27 l28 l29 l30 l31 l32 l33 l34 l35 l36 l37 l38 l39 l40 l41 l42 l43 l44 l45 l46 l47 l48 l49 l50 l51 l52 l53 l54 t39 t40 t41 tg_NEAR tg_CUT tg_UP E_NoStep I_NoStep E_Undone I_Undone E_Busy) : FnOk P w K mg base CX0 1 a37 l37 ["self", "sign", "scale", "tail"] (spWordOf C) := by
  refine L.F_Form_word_of.ok sc_Form_word_of (fun vs H Q E h => ?_) (fun cdv A outer s H vs Q E hr h => ?_)
  · obtain ⟨x, sc, tl, s, m, t, rfl, _⟩ := h
    rfl
  obtain ⟨x, sc, tl, s, m, t, rfl, ⟨dx, hx, h1, h2, h3, h4⟩, hs, m0, m1, t0, t1, q⟩ := h
  refine ⟨_, (pss_one (ps_ret (pe_op op_orL (pe_op op_orL (pe_op op_shlN (pv 1) (pe_op op_add (pe_fld (pv 0) rfl) (pe_fld (pv 0) rfl))) (pe_op op_shlN (pv 2) (pe_fld (pv 0) rfl))) (pv 3)))), ?_⟩
  have p8 : (2 : Int) ^ sc ≤ 2 ^ 8 := GM.pow_le' h2
  have hp := GM.pow_pos' tl
  have hms : m * 2 ^ tl < 2 ^ (sc + tl) := by
    rw [GM.pow_add']
    exact Int.mul_lt_mul_of_pos_right m1 hp
  refine ⟨_, rfl, _, rfl, x, C, dx, _, _, rfl, hx, L.T.cl, L.T.ns, fl_s _ _, _, rfl, x, C, dx, _, _, rfl, hx, L.T.cl, L.T.nt, fl_t _ _, _, _, rfl, rfl, _, sc + tl, rfl, rfl, shl_ok (n := 1) (by omega) (by omega), ?_⟩
  refine ⟨_, rfl, _, rfl, x, C, dx, _, _, rfl, hx, L.T.cl, L.T.nt, fl_t _ _, _, tl, rfl, rfl, shl_ok (n := 9) (by omega) (by omega), ?_⟩
  refine ⟨s, _, sc + tl, rfl, rfl, ⟨by omega, Int.mul_nonneg m0 (by omega), hms⟩, ?_⟩
  have e : s * 2 ^ (sc + tl) + m * 2 ^ tl = (s * 2 ^ sc + m) * 2 ^ tl := by
    rw [GM.pow_add', Int.add_mul, Int.mul_assoc]
  refine ⟨_, rfl, s * 2 ^ sc + m, t, tl, congrArg V.int e, rfl, ⟨?_, t0, t1⟩, ?_⟩
  · have := GM.pow_pos' sc
    rcases hs with z | z <;> subst z <;> omega
  rw [← e, Int.add_assoc]
  exact q
/-- a named word: its sign, scale and tail -/
def spNm (C : Addr) (m t : Nat → Nat → Int) : Sp := fun vs H Q _ => ∃ (x : Addr) (sc tl : Nat) (g : Int), vs = [.ref x, .int g] ∧ FAt C H x sc tl ∧ (g = 0 ∨ g = 1) ∧ Q (.int (g * 2 ^ (sc + tl) + (m sc tl * 2 ^ tl + t sc tl))) H
def mNo : Nat → Nat → Int := fun _ _ => 0
def mEn : Nat → Nat → Int := fun sc _ => 2 ^ sc - 1
def mGr : Nat → Nat → Int := fun sc _ => 2 ^ sc - 1 - 1
def tGr : Nat → Nat → Int := fun _ tl => 2 ^ tl - 1
theorem ok_Form_nought (B : Bl mg) (L : LL K mg C CD a1 a2 a3 a4 a5 a6 a7 a8 a9 a10 a11 a12 a13 a14 a15 a16 a17 a18 a19 a20 a21 a22 a23 a24 a25 a26 a27 a28 a29 a30 a31 a32 a33 a34 a35 a36 a37 a38 a39 a40 a41 a42 a43 a44 a45 a46 a47 a48 a49 a50 a51 a52 a53 a54 l1 l2 l3 l4 l5 l6 l7 l8 l9 l10 l11 l12 l13 l14 l15 l16 l17 l18 l19 l20 l21 l22 l23 l24 l25 l26 l27 l28 l29 l30 l31 l32 l33 l34 l35 l36 l37 l38 l39 l40 l41 l42 l43 l44 l45 l46 l47 l48 l49 l50 l51 l52 l53 l54 t39 t40 t41 tg_NEAR tg_CUT tg_UP E_NoStep I_NoStep E_Undone I_Undone E_Busy) : FnOk P w K mg base CX0 2 a39 l39 ["self", "sign"] (spNm C mNo mNo) := by
  have G_Form_word_of : FnOk P w K mg base CX0 1 a37 l37 ["self", "sign", "scale", "tail"] (spWordOf C) := (ok_Form_word_of B L).mono (by decide)
  refine L.F_Form_nought.ok sc_Form_nought (fun vs H Q E h => ?_) (fun cdv A outer s H vs Q E hr h => ?_)
  · obtain ⟨x, sc, tl, v, rfl, _⟩ := h
    rfl
  obtain ⟨x, sc, tl, g, rfl, hF, hg, q⟩ := h
  obtain ⟨dx, hx, h1, h2, h3, h4⟩ := id hF
  have pS := GM.pow_pos' sc
  have pT := GM.pow_pos' tl
  refine ⟨_, (pss_one (ps_ret (pe_meth (pv 0) L.T.cl L.M_Form_word_of G_Form_word_of hr L.b_Form_word_of .nil pass0 (pa_cons (pv 1) (pa_cons pe_int (pa_cons pe_int pa_nil)))))), ?_⟩
  exact ⟨_, rfl, x, dx, _, rfl, hx, rfl, _, rfl, x, sc, tl, _, _, _, rfl, hF, hg, by decide, pS, by decide, pT, q⟩
theorem ok_Form_endless (B : Bl mg) (L : LL K mg C CD a1 a2 a3 a4 a5 a6 a7 a8 a9 a10 a11 a12 a13 a14 a15 a16 a17 a18 a19 a20 a21 a22 a23 a24 a25 a26 a27 a28 a29 a30 a31 a32 a33 a34 a35 a36 a37 a38 a39 a40 a41 a42 a43 a44 a45 a46 a47 a48 a49 a50 a51 a52 a53 a54 l1 l2 l3 l4 l5 l6 l7 l8 l9 l10 l11 l12 l13 l14 l15 l16 l17 l18 l19 l20 l21 l22 l23 l24 l25 l26 l27 l28 l29 l30 l31 l32 l33 l34 l35 l36 l37 l38 l39 l40 l41 l42 l43 l44 l45 l46 l47 l48 l49 l50 l51 l52 l53 l54 t39 t40 t41 tg_NEAR tg_CUT tg_UP E_NoStep I_NoStep E_Undone I_Undone E_Busy) : FnOk P w K mg base CX0 2 a40 l40 ["self", "sign"] (spNm C mEn mNo) := by
  have G_Form_word_of : FnOk P w K mg base CX0 1 a37 l37 ["self", "sign", "scale", "tail"] (spWordOf C) := (ok_Form_word_of B L).mono (by decide)
  have G_Form_top : FnOk P w K mg base CX0 1 a35 l35 ["self"] (spTop C) := (ok_Form_top B L).mono (by decide)
  refine L.F_Form_endless.ok sc_Form_endless (fun vs H Q E h => ?_) (fun cdv A outer s H vs Q E hr h => ?_)
  · obtain ⟨x, sc, tl, v, rfl, _⟩ := h
    rfl
  obtain ⟨x, sc, tl, g, rfl, hF, hg, q⟩ := h
  obtain ⟨dx, hx, h1, h2, h3, h4⟩ := id hF
  have pS := GM.pow_pos' sc
  have pT := GM.pow_pos' tl
  refine ⟨_, (pss_one (ps_ret (pe_meth (pv 0) L.T.cl L.M_Form_word_of G_Form_word_of hr L.b_Form_word_of .nil pass0 (pa_cons (pv 1) (pa_cons (pe_meth0 (pv 0) L.T.cl L.M_Form_top G_Form_top hr L.b_Form_top .nil pass0) (pa_cons pe_int pa_nil)))))), ?_⟩
  exact ⟨_, rfl, x, dx, _, rfl, hx, rfl, _, rfl, _, rfl, x, dx, _, rfl, hx, rfl, x, sc, tl, rfl, hF, x, sc, tl, _, _, _, rfl, hF, hg, by omega, by omega, by decide, pT, q⟩
theorem ok_Form_greatest (B : Bl mg) (L : LL K mg C CD a1 a2 a3 a4 a5 a6 a7 a8 a9 a10 a11 a12 a13 a14 a15 a16 a17 a18 a19 a20 a21 a22 a23 a24 a25 a26 a27 a28 a29 a30 a31 a32 a33 a34 a35 a36 a37 a38 a39 a40 a41 a42 a43 a44 a45 a46 a47 a48 a49 a50 a51 a52 a53 a54 l1 l2 l3 l4 l5 l6 l7 l8 l9 l10 l11 l12 l13 l14 l15 l16 l17 l18 l19 l20 l21 l22 l23 l24 l25 l26 l27 l28 l29 l30 l31 l32 l33 l34 l35 l36 l37 l38 l39 l40 l41 l42 l43 l44 l45 l46 l47 l48 l49 l50 l51 l52 l53 l54 t39 t40 t41 tg_NEAR tg_CUT tg_UP E_NoStep I_NoStep E_Undone I_Undone E_Busy) : FnOk P w K mg base CX0 2 a41 l41 ["self", "sign"] (spNm C mGr tGr) := by
  have G_Form_word_of : FnOk P w K mg base CX0 1 a37 l37 ["self", "sign", "scale", "tail"] (spWordOf C) := (ok_Form_word_of B L).mono (by decide)
  have G_Form_top : FnOk P w K mg base CX0 1 a35 l35 ["self"] (spTop C) := (ok_Form_top B L).mono (by decide)
  refine L.F_Form_greatest.ok sc_Form_greatest (fun vs H Q E h => ?_) (fun cdv A outer s H vs Q E hr h => ?_)
  · obtain ⟨x, sc, tl, v, rfl, _⟩ := h
    rfl
  obtain ⟨x, sc, tl, g, rfl, hF, hg, q⟩ := h
  obtain ⟨dx, hx, h1, h2, h3, h4⟩ := id hF
  have pS : (2 : Int) ^ 2 ≤ 2 ^ sc := GM.pow_le' h1
  have pT := GM.pow_pos' tl
  refine ⟨_, (pss_one (ps_ret (pe_meth (pv 0) L.T.cl L.M_Form_word_of G_Form_word_of hr L.b_Form_word_of .nil pass0 (pa_cons (pv 1) (pa_cons (pe_op op_sub (pe_meth0 (pv 0) L.T.cl L.M_Form_top G_Form_top hr L.b_Form_top .nil pass0) pe_int) (pa_cons (pe_op op_sub (pe_op op_oneShl pe_int (pe_fld (pv 0) rfl)) pe_int) pa_nil)))))), ?_⟩
  refine ⟨_, rfl, x, dx, _, rfl, hx, rfl, _, rfl, _, rfl, x, dx, _, rfl, hx, rfl, x, sc, tl, rfl, hF, _, _, rfl, rfl, ?_⟩
  exact ⟨_, rfl, x, C, dx, _, _, rfl, hx, L.T.cl, L.T.nt, fl_t _ _, tl, rfl, rfl, by omega, _, _, rfl, rfl, x, sc, tl, _, _, _, rfl, hF, hg, by omega, by omega, by omega, by omega, q⟩
end
section
variable {P : Program} {w : World} {K : PySem.W.Frag} {mg : Str → Option Value} {base : Heap}
variable {C : Addr} {CD : Addr} {a1 a2 a3 a4 a5 a6 a7 a8 a9 a10 a11 a12 a13 a14 a15 a16 a17 a18 a19 a20 a21 a22 a23 a24 a25 a26 a27 a28 a29 a30 a31 a32 a33 a34 a35 a36 a37 a38 a39 a40 a41 a42 a43 a44 a45 a46 a47 a48 a49 a50 a51 a52 a53 a54 : Addr} {l1 l2 l3 l4 l5 l6 l7 l8 l9 l10 l11 l12 l13 l14 l15 l16 l17 l18 l19 l20 l21 l22 l23 l24 l25 l26 l27 l28 l29 l30 l31 l32 l33 l34 l35 l36 l37 l38 l39 l40 l41 l42 l43 l44 l45 l46 l47 l48 l49 l50 l51 l52 l53 l54 : FuncData} {t39 t40 t41 tg_NEAR tg_CUT tg_UP : Tok} {E_NoStep I_NoStep E_Undone I_Undone E_Busy : Addr}
/-! ### numbers of no more than 4000 bits -/
def Fit (n : Int) : Prop := 0 ≤ n ∧ Builtin.Int.intBits n ≤ 4000
theorem fit_shl {n : Int} {j : Nat} (h : Fit n) (hj : j ≤ 100000) : CShl n (j : Int) := by
  refine shl_ok (n := 4000) ?_ (by omega)
  exact Nat.lt_of_lt_of_le (PyProof.Rows.natAbs_lt_pow_bits n) (Nat.pow_le_pow_right (by decide) h.2)
theorem fit_div {n : Int} {j : Nat} (h : Fit n) : Fit (n / 2 ^ j) := by
  have hp := GM.pow_pos' j
  have h0 : 0 ≤ n / 2 ^ j := Int.ediv_nonneg h.1 (by omega)
  have h1 : n / 2 ^ j ≤ n := Int.ediv_le_self _ h.1
  refine ⟨h0, ?_⟩
  refine Nat.le_trans (PyProof.Rows.intBits_le (k := Builtin.Int.intBits n) ?_) h.2
  have := PyProof.Rows.natAbs_lt_pow_bits n
  exact Nat.lt_of_le_of_lt (by omega) this
/-! ### cut_off -/
def spCut : Sp := fun vs H Q _ => ∃ n b : Int, vs = [.int n, .int b] ∧ Fit n ∧ -10000 ≤ b ∧ b ≤ 10000 ∧
  ∀ p, H p = none → Q (.ref p) (upd H p (.tup [.int (GR.cutQ n b), .bl (GR.cutR n b)]))
theorem ok_cut_off (B : Bl mg) (L : LL K mg C CD a1 a2 a3 a4 a5 a6 a7 a8 a9 a10 a11 a12 a13 a14 a15 a16 a17 a18 a19 a20 a21 a22 a23 a24 a25 a26 a27 a28 a29 a30 a31 a32 a33 a34 a35 a36 a37 a38 a39 a40 a41 a42 a43 a44 a45 a46 a47 a48 a49 a50 a51 a52 a53 a54 l1 l2 l3 l4 l5 l6 l7 l8 l9 l10 l11 l12 l13 l14 l15 l16 l17 l18 l19 l20 l21 l22 l23 l24 l25 l26 l27 l28 l29 l30 l31 l32 l33 l34 l35 l36 l37 l38 l39 l40 l41 l42 l43 l44 l45 l46 l47 l48 l49 l50 l51 l52 l53 l54 t39 t40 t41 tg_NEAR tg_CUT tg_UP E_NoStep I_NoStep E_Undone I_Undone E_Busy) : FnOk P w K mg base CX0 1 a4 l4 ["number", "by"] spCut := by
  refine L.F_cut_off.ok sc_cut_off (fun vs H Q E h => ?_) (fun cdv A outer s H vs Q E hr h => ?_)
  · obtain ⟨n, b, rfl, _⟩ := h
    rfl
  obtain ⟨n, b, rfl, hf, h1, h2, q⟩ := h
  refine ⟨_, (pss_cons (ps_if (pt_cmpR op_lt (pv 1) pe_int (nomark _)) (pss_one (ps_ret (pe_tup (pa_cons (pe_op op_shlN (pv 0) (pe_un un_neg (pv 1))) (pa_cons pe_bl pa_nil))))) pss_nil)
    (pss_cons (ps_set (i := 2) sc_cut_off.nd rfl (.inl rfl) (pe_op op_shrN (pv 0) (pv 1)))
    (pss_one (ps_ret (pe_tup (pa_cons (pv 2) (pa_cons (pe_cmpR op_ne (pe_op op_shlN (pv 2) (pv 1)) (pv 0) (nomark _)) pa_nil))))))), ?_⟩
  refine ⟨_, rfl, _, _, rfl, rfl, _, rfl, ite2 (fun c => ?_) (fun c => ?_)⟩
  · have c1 : b < 0 := of_decide_eq_true c
    unfold GR.cutQ GR.cutR at q
    rw [if_pos c1, if_pos c1] at q
    refine ⟨_, rfl, _, rfl, _, rfl, _, (-b).toNat, rfl, congrArg V.int (by omega), fit_shl hf (by omega), (by show 2 ≤ sizeLine; decide), fun p np => ?_⟩
    exact q p np
  · have c1 : ¬ b < 0 := of_decide_eq_false (Bool.eq_false_iff.mpr c)
    unfold GR.cutQ GR.cutR at q
    rw [if_neg c1, if_neg c1] at q
    refine ⟨_, rfl, _, rfl, _, b.toNat, rfl, congrArg V.int (by omega), ?_⟩
    refine ⟨_, rfl, _, rfl, _, rfl, _, b.toNat, rfl, congrArg V.int (by omega), fit_shl (fit_div hf) (by omega), _, rfl, rfl, (by show 2 ≤ sizeLine; decide), fun p np => ?_⟩
    rw [dvi]
    exact q p np
/-! ### least_power, last_power -/
def spLea (C : Addr) : Sp := fun vs H Q _ => ∃ (x : Addr) (sc tl : Nat), vs = [.ref x] ∧ FAt C H x sc tl ∧ Q (.int (GR.lea sc tl)) H
theorem ok_least_power (B : Bl mg) (L : LL K mg C CD a1 a2 a3 a4 a5 a6 a7 a8 a9 a10 a11 a12 a13 a14 a15 a16 a17 a18 a19 a20 a21 a22 a23 a24 a25 a26 a27 a28 a29 a30 a31 a32 a33 a34 a35 a36 a37 a38 a39 a40 a41 a42 a43 a44 a45 a46 a47 a48 a49 a50 a51 a52 a53 a54 l1 l2 l3 l4 l5 l6 l7 l8 l9 l10 l11 l12 l13 l14 l15 l16 l17 l18 l19 l20 l21 l22 l23 l24 l25 l26 l27 l28 l29 l30 l31 l32 l33 l34 l35 l36 l37 l38 l39 l40 l41 l42 l43 l44 l45 l46 l47 l48 l49 l50 l51 l52 l53 l54 t39 t40 t41 tg_NEAR tg_CUT tg_UP E_NoStep I_NoStep E_Undone I_Undone E_Busy) : FnOk P w K mg base CX0 2 a6 l6 ["form"] (spLea C) := by
  have G_Form_bias : FnOk P w K mg base CX0 1 a34 l34 ["self"] (spBias C) := (ok_Form_bias B L).mono (by decide)
  refine L.F_least_power.ok sc_least_power (fun vs H Q E h => ?_) (fun cdv A outer s H vs Q E hr h => ?_)
  · obtain ⟨x, sc, tl, rfl, _⟩ := h
    rfl
  obtain ⟨x, sc, tl, rfl, hF, q⟩ := h
  obtain ⟨dx, hx, h1, h2, h3, h4⟩ := id hF
  refine ⟨_, (pss_one (ps_ret (pe_op op_sub (pe_op op_sub pe_int (pe_meth0 (pv 0) L.T.cl L.M_Form_bias G_Form_bias hr L.b_Form_bias .nil pass0)) (pe_fld (pv 0) rfl)))), ?_⟩
  exact ⟨_, rfl, x, dx, _, rfl, hx, rfl, x, sc, tl, rfl, hF, _, _, rfl, rfl, _, rfl, x, C, dx, _, _, rfl, hx, L.T.cl, L.T.nt, fl_t _ _, _, _, rfl, rfl, q⟩
def spLap (C : Addr) : Sp := fun vs H Q _ => ∃ (x : Addr) (sc tl : Nat) (n p : Int), vs = [.ref x, .int n, .int p] ∧ FAt C H x sc tl ∧ Q (.int (GR.lap sc tl n p)) H
theorem ok_last_power (B : Bl mg) (L : LL K mg C CD a1 a2 a3 a4 a5 a6 a7 a8 a9 a10 a11 a12 a13 a14 a15 a16 a17 a18 a19 a20 a21 a22 a23 a24 a25 a26 a27 a28 a29 a30 a31 a32 a33 a34 a35 a36 a37 a38 a39 a40 a41 a42 a43 a44 a45 a46 a47 a48 a49 a50 a51 a52 a53 a54 l1 l2 l3 l4 l5 l6 l7 l8 l9 l10 l11 l12 l13 l14 l15 l16 l17 l18 l19 l20 l21 l22 l23 l24 l25 l26 l27 l28 l29 l30 l31 l32 l33 l34 l35 l36 l37 l38 l39 l40 l41 l42 l43 l44 l45 l46 l47 l48 l49 l50 l51 l52 l53 l54 t39 t40 t41 tg_NEAR tg_CUT tg_UP E_NoStep I_NoStep E_Undone I_Undone E_Busy) : FnOk P w K mg base CX0 3 a5 l5 ["form", "number", "power"] (spLap C) := by
  have G_least_power : FnOk P w K mg base CX0 2 a6 l6 ["form"] (spLea C) := (ok_least_power B L).mono (by decide)
  refine L.F_last_power.ok sc_last_power (fun vs H Q E h => ?_) (fun cdv A outer s H vs Q E hr h => ?_)
  · obtain ⟨x, sc, tl, n, p, rfl, _⟩ := h
    rfl
  obtain ⟨x, sc, tl, n, p, rfl, hF, q⟩ := h
  obtain ⟨dx, hx, h1, h2, h3, h4⟩ := id hF
  refine ⟨_, (pss_one (ps_ret (pe_callB (call_max2 rfl) (by rfl) B.max boot_max (pa_cons (pe_op op_sub (pe_op op_sub (pe_op op_add (pe_bits (pv 1)) (pv 2)) pe_int) (pe_fld (pv 0) rfl)) (pa_cons (pe_call G_least_power hr (by rfl) L.m_least_power L.F_least_power.kp L.b_least_power .nil pass0 (pa_cons (pv 0) pa_nil)) pa_nil))))), ?_⟩
  exact ⟨_, rfl, _, rfl, _, rfl, _, _, rfl, rfl, _, _, rfl, rfl, _, rfl, x, C, dx, _, _, rfl, hx, L.T.cl, L.T.nt, fl_t _ _, _, _, rfl, rfl, _, rfl, x, sc, tl, rfl, hF, _, _, rfl, q⟩
/-! ### parted -/
def spPart : Sp := fun vs H Q _ => ∃ (n b : Int) (m : Bool), vs = [.int n, .int b, .bl m] ∧ Fit n ∧ -9999 ≤ b ∧ b ≤ 9999 ∧
  ∀ p H', H p = none → Same H H' → H' p = some (.tup [.int (GR.prQ n b), .int (GR.prR n b m)]) → Q (.ref p) H'
theorem ok_parted (B : Bl mg) (L : LL K mg C CD a1 a2 a3 a4 a5 a6 a7 a8 a9 a10 a11 a12 a13 a14 a15 a16 a17 a18 a19 a20 a21 a22 a23 a24 a25 a26 a27 a28 a29 a30 a31 a32 a33 a34 a35 a36 a37 a38 a39 a40 a41 a42 a43 a44 a45 a46 a47 a48 a49 a50 a51 a52 a53 a54 l1 l2 l3 l4 l5 l6 l7 l8 l9 l10 l11 l12 l13 l14 l15 l16 l17 l18 l19 l20 l21 l22 l23 l24 l25 l26 l27 l28 l29 l30 l31 l32 l33 l34 l35 l36 l37 l38 l39 l40 l41 l42 l43 l44 l45 l46 l47 l48 l49 l50 l51 l52 l53 l54 t39 t40 t41 tg_NEAR tg_CUT tg_UP E_NoStep I_NoStep E_Undone I_Undone E_Busy) : FnOk P w K mg base CX0 2 a8 l8 ["number", "by", "more"] spPart := by
  have G_cut_off : FnOk P w K mg base CX0 1 a4 l4 ["number", "by"] spCut := (ok_cut_off B L).mono (by decide)
  refine L.F_parted.ok sc_parted (fun vs H Q E h => ?_) (fun cdv A outer s H vs Q E hr h => ?_)
  · obtain ⟨n, b, m, rfl, _⟩ := h
    rfl
  obtain ⟨n, b, m, rfl, hf, h1, h2, q⟩ := h
  refine ⟨_, (pss_cons (ps_asg (pe_call G_cut_off hr (by rfl) L.m_cut_off L.F_cut_off.kp L.b_cut_off .nil pass0 (pa_cons (pv 0) (pa_cons (pe_op op_sub (pv 1) pe_int) pa_nil))) (pg_tup (by rfl) (pgs_cons (pg_name (i := 3) sc_parted.nd rfl (.inl rfl)) (pgs_cons (pg_name (i := 4) sc_parted.nd rfl (.inl rfl)) pgs_nil))))
    (pss_one (ps_ret (pe_tup (pa_cons (pe_op op_shrN (pv 3) pe_int) (pa_cons (pe_op op_add (pe_op op_mul pe_int (pe_op op_andM (pv 3) pe_int)) (pe_ifExp (PW.pt (pw_or (pt_val (pv 4)) (pw_or1 (pt_val (pv 2))))) pe_int pe_int)) pa_nil)))))), ?_⟩
  refine ⟨_, rfl, _, rfl, _, _, rfl, rfl, n, b - 1, rfl, hf, by omega, by omega, fun t nt => ?_⟩
  have st := same_upd (o := .tup [.int (GR.cutQ n (b - 1)), .bl (GR.cutR n (b - 1))]) nt
  refine ⟨t, _, rfl, .inl (.inl upd_same), rfl, _, _, rfl, _, _, rfl, rfl, ?_⟩
  refine ⟨_, rfl, _, 1, rfl, rfl, _, rfl, _, 1, rfl, rfl, _, _, rfl, rfl, .inl ⟨by decide, by decide⟩, ?_⟩
  have fin : ∀ v : Int, (if (GR.cutR n (b - 1) || m) = true then (1 : Int) else 0) = v → ∀ p, (upd H t (.tup [.int (GR.cutQ n (b - 1)), .bl (GR.cutR n (b - 1))])) p = none →
      Q (.ref p) (upd (upd H t (.tup [.int (GR.cutQ n (b - 1)), .bl (GR.cutR n (b - 1))])) p (.tup [.int (GR.cutQ n (b - 1) / 2 ^ 1), .int (2 * (GR.cutQ n (b - 1) % 2 ^ 1) + v)])) := fun v hv p np => by
    refine q p _ (st.free np) (st.trans (same_upd np)) ?_
    rw [upd_same, ← hv]
    rfl
  refine ⟨_, rfl, _, rfl, ite2 (fun c => ?_) (fun c => ?_)⟩
  · refine ⟨_, _, rfl, rfl, (by show 2 ≤ sizeLine; decide), fun p np => fin 1 ?_ p np⟩
    rw [c]
    rfl
  · have c1 : GR.cutR n (b - 1) = false := Bool.eq_false_iff.mpr c
    refine ⟨_, rfl, _, rfl, ite2 (fun d => ?_) (fun d => ?_)⟩
    · refine ⟨_, _, rfl, rfl, (by show 2 ≤ sizeLine; decide), fun p np => fin 1 ?_ p np⟩
      rw [c1, d]
      rfl
    · refine ⟨_, _, rfl, rfl, (by show 2 ≤ sizeLine; decide), fun p np => fin 0 ?_ p np⟩
      rw [c1, Bool.eq_false_iff.mpr d]
      rfl
/-! ### goes_away, goes_up -/
def spAway : Sp := fun vs H Q _ => ∃ (w : Str) (s : Int), vs = [.str w, .int s] ∧ Q (.bl (GR.away w s)) H
theorem ok_goes_away (B : Bl mg) (L : LL K mg C CD a1 a2 a3 a4 a5 a6 a7 a8 a9 a10 a11 a12 a13 a14 a15 a16 a17 a18 a19 a20 a21 a22 a23 a24 a25 a26 a27 a28 a29 a30 a31 a32 a33 a34 a35 a36 a37 a38 a39 a40 a41 a42 a43 a44 a45 a46 a47 a48 a49 a50 a51 a52 a53 a54 l1 l2 l3 l4 l5 l6 l7 l8 l9 l10 l11 l12 l13 l14 l15 l16 l17 l18 l19 l20 l21 l22 l23 l24 l25 l26 l27 l28 l29 l30 l31 l32 l33 l34 l35 l36 l37 l38 l39 l40 l41 l42 l43 l44 l45 l46 l47 l48 l49 l50 l51 l52 l53 l54 t39 t40 t41 tg_NEAR tg_CUT tg_UP E_NoStep I_NoStep E_Undone I_Undone E_Busy) : FnOk P w K mg base CX0 1 a10 l10 ["way", "sign"] spAway := by
  refine L.F_goes_away.ok sc_goes_away (fun vs H Q E h => ?_) (fun cdv A outer s H vs Q E hr h => ?_)
  · obtain ⟨w, s, rfl, _⟩ := h
    rfl
  obtain ⟨w, s, rfl, q⟩ := h
  refine ⟨_, (pss_cons (ps_if (pt_cmpR op_eq (pv 0) (pe_glob (v := .str "cut") rfl L.g_CUT ⟨_, rfl⟩) (nomark _)) (pss_one (ps_ret pe_bl)) pss_nil)
    (pss_one (ps_ret (pe_cmpR op_eq (pv 1) (pe_ifExp (pt_cmpR op_eq (pv 0) (pe_glob (v := .str "up") rfl L.g_UP ⟨_, rfl⟩) (nomark _)) pe_int pe_int) (nomark _))))), ?_⟩
  unfold GR.away at q
  refine ⟨_, rfl, rfl, _, rfl, ite2 (fun c => ?_) (fun c => ?_)⟩
  · have c1 : w = "cut" := V.str.inj (of_decide_eq_true c)
    rw [if_pos c1] at q
    exact q
  · have c1 : ¬ w = "cut" := fun z => c (decide_eq_true (by rw [z]))
    rw [if_neg c1] at q
    refine ⟨_, rfl, _, rfl, rfl, _, rfl, ite2 (fun d => ?_) (fun d => ?_)⟩
    · have d1 : w = "up" := V.str.inj (of_decide_eq_true d)
      rw [if_pos d1, ← dvi] at q
      exact ⟨rfl, q⟩
    · have d1 : ¬ w = "up" := fun z => d (decide_eq_true (by rw [z]))
      rw [if_neg d1, ← dvi] at q
      exact ⟨rfl, q⟩
def spUp : Sp := fun vs H Q _ => ∃ (w : Str) (s m r : Int), vs = [.str w, .int s, .int m, .int r] ∧ Q (.bl (GR.gup w s m r)) H
theorem ok_goes_up (B : Bl mg) (L : LL K mg C CD a1 a2 a3 a4 a5 a6 a7 a8 a9 a10 a11 a12 a13 a14 a15 a16 a17 a18 a19 a20 a21 a22 a23 a24 a25 a26 a27 a28 a29 a30 a31 a32 a33 a34 a35 a36 a37 a38 a39 a40 a41 a42 a43 a44 a45 a46 a47 a48 a49 a50 a51 a52 a53 a54 l1 l2 l3 l4 l5 l6 l7 l8 l9 l10 l11 l12 l13 l14 l15 l16 l17 l18 l19 l20 l21 l22 l23 l24 l25 l26 l27 l28 l29 l30 l31 l32 l33 l34 l35 l36 l37 l38 l39 l40 l41 l42 l43 l44 l45 l46 l47 l48 l49 l50 l51 l52 l53 l54 t39 t40 t41 tg_NEAR tg_CUT tg_UP E_NoStep I_NoStep E_Undone I_Undone E_Busy) : FnOk P w K mg base CX0 2 a9 l9 ["way", "sign", "many", "rest"] spUp := by
  have G_goes_away : FnOk P w K mg base CX0 1 a10 l10 ["way", "sign"] spAway := (ok_goes_away B L).mono (by decide)
  refine L.F_goes_up.ok sc_goes_up (fun vs H Q E h => ?_) (fun cdv A outer s H vs Q E hr h => ?_)
  · obtain ⟨w, s, m, r, rfl, _⟩ := h
    rfl
  obtain ⟨w, s, m, r, rfl, q⟩ := h
  refine ⟨_, (pss_cons (ps_if (pt_cmpR op_eq (pv 0) (pe_glob (v := .str "near") rfl L.g_NEAR ⟨_, rfl⟩) (nomark _)) (pss_one (ps_ret (pe_or (pe_cmpR op_eq (pv 3) pe_int (nomark _)) (pe_one (pe_and (pe_cmpR op_eq (pv 3) pe_int (nomark _)) (pe_one (pe_cmpR op_eq (pe_op op_mod (pv 2) pe_int) pe_int (nomark _)))))))) pss_nil)
    (pss_one (ps_ret (pe_and (pe_cmpR op_ne (pv 3) pe_int (nomark _)) (pe_one (pe_call G_goes_away hr (by rfl) L.m_goes_away L.F_goes_away.kp L.b_goes_away .nil pass0 (pa_cons (pv 0) (pa_cons (pv 1) pa_nil)))))))), ?_⟩
  unfold GR.gup at q
  refine ⟨_, rfl, rfl, _, rfl, ite2 (fun c => ?_) (fun c => ?_)⟩
  · have c1 : w = "near" := V.str.inj (of_decide_eq_true c)
    rw [if_pos c1] at q
    refine ⟨_, rfl, rfl, _, rfl, ?_⟩
    by_cases d : r = 3
    · rw [decide_eq_true d, Bool.true_or] at q
      rw [dvi, decide_eq_true d]
      exact iteT q
    · rw [decide_eq_false d, Bool.false_or] at q
      rw [dvi, decide_eq_false d]
      refine iteF ?_
      refine ⟨_, rfl, rfl, _, rfl, ?_⟩
      by_cases e : r = 2
      · rw [decide_eq_true e, Bool.true_and, ← dvi] at q
        rw [dvi, decide_eq_true e]
        exact iteT ⟨_, rfl, _, _, rfl, rfl, (by show (0 : Int) < 2; decide), rfl, q⟩
      · rw [decide_eq_false e, Bool.false_and] at q
        rw [dvi, decide_eq_false e]
        exact iteF q
  · have c1 : ¬ w = "near" := fun z => c (decide_eq_true (by rw [z]))
    rw [if_neg c1] at q
    refine ⟨_, rfl, rfl, _, rfl, ?_⟩
    by_cases d : r = 0
    · rw [decide_eq_true d] at q
      rw [dvi, decide_eq_true d]
      exact iteF q
    · rw [decide_eq_false d] at q
      rw [dvi, decide_eq_false d]
      exact iteT ⟨_, rfl, _, rfl, _, _, rfl, q⟩
/-! ### word_beyond, flags_of_rest -/
def spBey (C : Addr) : Sp := fun vs H Q _ => ∃ (x : Addr) (sc tl : Nat) (s : Int) (w : Str), vs = [.ref x, .int s, .str w] ∧ FAt C H x sc tl ∧ (s = 0 ∨ s = 1) ∧ Q (.int (GR.bey sc tl s w)) H
theorem ok_word_beyond (B : Bl mg) (L : LL K mg C CD a1 a2 a3 a4 a5 a6 a7 a8 a9 a10 a11 a12 a13 a14 a15 a16 a17 a18 a19 a20 a21 a22 a23 a24 a25 a26 a27 a28 a29 a30 a31 a32 a33 a34 a35 a36 a37 a38 a39 a40 a41 a42 a43 a44 a45 a46 a47 a48 a49 a50 a51 a52 a53 a54 l1 l2 l3 l4 l5 l6 l7 l8 l9 l10 l11 l12 l13 l14 l15 l16 l17 l18 l19 l20 l21 l22 l23 l24 l25 l26 l27 l28 l29 l30 l31 l32 l33 l34 l35 l36 l37 l38 l39 l40 l41 l42 l43 l44 l45 l46 l47 l48 l49 l50 l51 l52 l53 l54 t39 t40 t41 tg_NEAR tg_CUT tg_UP E_NoStep I_NoStep E_Undone I_Undone E_Busy) : FnOk P w K mg base CX0 3 a11 l11 ["form", "sign", "way"] (spBey C) := by
  have G_goes_away : FnOk P w K mg base CX0 2 a10 l10 ["way", "sign"] spAway := (ok_goes_away B L).mono (by decide)
  have G_Form_endless : FnOk P w K mg base CX0 2 a40 l40 ["self", "sign"] (spNm C mEn mNo) := (ok_Form_endless B L).mono (by decide)
  have G_Form_greatest : FnOk P w K mg base CX0 2 a41 l41 ["self", "sign"] (spNm C mGr tGr) := (ok_Form_greatest B L).mono (by decide)
  refine L.F_word_beyond.ok sc_word_beyond (fun vs H Q E h => ?_) (fun cdv A outer s H vs Q E hr h => ?_)
  · obtain ⟨x, sc, tl, s, w, rfl, _⟩ := h
    rfl
  obtain ⟨x, sc, tl, s, w, rfl, hF, hs, q⟩ := h
  obtain ⟨dx, hx, h1, h2, h3, h4⟩ := id hF
  refine ⟨_, (pss_cons (ps_if (PW.pt (pw_or (pt_cmpR op_eq (pv 2) (pe_glob (v := .str "near") rfl L.g_NEAR ⟨_, rfl⟩) (nomark _)) (pw_or1 (pt_val (pe_call G_goes_away hr (by rfl) L.m_goes_away L.F_goes_away.kp L.b_goes_away .nil pass0 (pa_cons (pv 2) (pa_cons (pv 1) pa_nil))))))) (pss_one (ps_ret (pe_meth (pv 0) L.T.cl L.M_Form_endless G_Form_endless hr L.b_Form_endless .nil pass0 (pa_cons (pv 1) pa_nil)))) pss_nil)
    (pss_one (ps_ret (pe_meth (pv 0) L.T.cl L.M_Form_greatest G_Form_greatest hr L.b_Form_greatest .nil pass0 (pa_cons (pv 1) pa_nil))))), ?_⟩
  unfold GR.bey at q
  have e1 : (decide (w = "near") || GR.away w s) = true → Q (.int (GR.wrd sc tl s (2 ^ sc - 1) 0)) H := fun z => by
    rw [if_pos z] at q
    exact q
  have e2 : ¬ (decide (w = "near") || GR.away w s) = true → Q (.int (GR.wrd sc tl s (2 ^ sc - 1 - 1) (2 ^ tl - 1))) H := fun z => by
    rw [if_neg z] at q
    exact q
  refine ⟨_, rfl, rfl, _, rfl, ite2 (fun c => ?_) (fun c => ?_)⟩
  · rw [dvs] at c
    exact ⟨_, rfl, x, dx, _, rfl, hx, rfl, _, rfl, x, sc, tl, s, rfl, hF, hs, e1 (by rw [c]; rfl)⟩
  · rw [dvs] at c
    refine ⟨_, rfl, _, rfl, _, _, rfl, _, rfl, ite2 (fun d => ?_) (fun d => ?_)⟩
    · exact ⟨_, rfl, x, dx, _, rfl, hx, rfl, _, rfl, x, sc, tl, s, rfl, hF, hs, e1 (by rw [d, Bool.or_true])⟩
    · exact ⟨_, rfl, x, dx, _, rfl, hx, rfl, _, rfl, x, sc, tl, s, rfl, hF, hs, e2 (by rw [Bool.eq_false_iff.mpr c, Bool.eq_false_iff.mpr d]; decide)⟩
def spFlg (C : Addr) : Sp := fun vs H Q _ => ∃ (x : Addr) (sc tl : Nat) (n p r : Int), vs = [.ref x, .int n, .int p, .int r] ∧ FAt C H x sc tl ∧
  ∀ t H', H t = none → Same H H' → H' t = some (.tup ((GR.flg sc n p r).map V.str)) → Q (.ref t) H'
theorem ok_flags_of_rest (B : Bl mg) (L : LL K mg C CD a1 a2 a3 a4 a5 a6 a7 a8 a9 a10 a11 a12 a13 a14 a15 a16 a17 a18 a19 a20 a21 a22 a23 a24 a25 a26 a27 a28 a29 a30 a31 a32 a33 a34 a35 a36 a37 a38 a39 a40 a41 a42 a43 a44 a45 a46 a47 a48 a49 a50 a51 a52 a53 a54 l1 l2 l3 l4 l5 l6 l7 l8 l9 l10 l11 l12 l13 l14 l15 l16 l17 l18 l19 l20 l21 l22 l23 l24 l25 l26 l27 l28 l29 l30 l31 l32 l33 l34 l35 l36 l37 l38 l39 l40 l41 l42 l43 l44 l45 l46 l47 l48 l49 l50 l51 l52 l53 l54 t39 t40 t41 tg_NEAR tg_CUT tg_UP E_NoStep I_NoStep E_Undone I_Undone E_Busy) : FnOk P w K mg base CX0 2 a12 l12 ["form", "number", "power", "rest"] (spFlg C) := by
  have G_Form_bias : FnOk P w K mg base CX0 1 a34 l34 ["self"] (spBias C) := (ok_Form_bias B L).mono (by decide)
  refine L.F_flags_of_rest.ok sc_flags_of_rest (fun vs H Q E h => ?_) (fun cdv A outer s H vs Q E hr h => ?_)
  · obtain ⟨x, sc, tl, n, p, r, rfl, _⟩ := h
    rfl
  obtain ⟨x, sc, tl, n, p, r, rfl, hF, q⟩ := h
  obtain ⟨dx, hx, h1, h2, h3, h4⟩ := id hF
  refine ⟨_, (pss_cons (ps_if (pt_cmpR op_eq (pv 3) pe_int (nomark _)) (pss_one (ps_ret (pe_tup pa_nil))) pss_nil)
    (pss_cons (ps_if (pt_cmpR op_le (pe_op op_add (pe_bits (pv 1)) (pv 2)) (pe_op op_sub pe_int (pe_meth0 (pv 0) L.T.cl L.M_Form_bias G_Form_bias hr L.b_Form_bias .nil pass0)) (nomark _)) (pss_one (ps_ret (pe_tup (pa_cons pe_str (pa_cons pe_str pa_nil))))) pss_nil)
    (pss_one (ps_ret (pe_tup (pa_cons pe_str pa_nil)))))), ?_⟩
  unfold GR.flg at q
  refine ⟨_, rfl, rfl, _, rfl, ite2 (fun c => ?_) (fun c => ?_)⟩
  · rw [dvi] at c
    rw [if_pos (of_decide_eq_true c)] at q
    exact ⟨Nat.zero_le _, fun t nt => q t _ nt (same_upd nt) upd_same⟩
  · rw [dvi] at c
    rw [if_neg (of_decide_eq_false (Bool.eq_false_iff.mpr c))] at q
    refine ⟨_, rfl, _, rfl, _, rfl, _, _, rfl, rfl, _, rfl, x, dx, _, rfl, hx, rfl, x, sc, tl, rfl, hF, _, _, rfl, rfl, _, _, rfl, rfl, _, rfl, ite2 (fun d => ?_) (fun d => ?_)⟩
    · have d1 := of_decide_eq_true d
      unfold GR.bl at q
      rw [if_pos d1] at q
      exact ⟨(by show 2 ≤ sizeLine; decide), fun t nt => q t _ nt (same_upd nt) upd_same⟩
    · have d1 := of_decide_eq_false (Bool.eq_false_iff.mpr d)
      unfold GR.bl at q
      rw [if_neg d1] at q
      exact ⟨(by show 1 ≤ sizeLine; decide), fun t nt => q t _ nt (same_upd nt) upd_same⟩
/-! ### rounded -/
/-- at p stands a pair of a word and its flags -/
def PairAt (H : Hp) (p : Addr) (r : Int × List Str) : Prop := ∃ f, H p = some (.tup [.int r.1, .ref f]) ∧ H f = some (.tup (r.2.map V.str))
def spRnd (C : Addr) : Sp := fun vs H Q _ => ∃ (x : Addr) (sc tl : Nat) (s n p : Int) (w : Str) (m : Bool), vs = [.ref x, .int s, .int n, .int p, .str w, .bl m] ∧ FAt C H x sc tl ∧ (s = 0 ∨ s = 1) ∧ Fit n ∧ -4000 ≤ p ∧ p ≤ 4000 ∧ (m = true → n ≠ 0 ∧ p < GR.lap sc tl n p) ∧
  ∀ t H', H t = none → Same H H' → PairAt H' t (GR.rnd sc tl s n p w m) → Q (.ref t) H'
theorem lap_in {sc tl : Nat} {n p : Int} (hf : Fit n) (h1 : -4000 ≤ p) (h2 : p ≤ 4000) (hs : sc ≤ 8) (ht : tl ≤ 24) : -300 ≤ GR.lap sc tl n p ∧ GR.lap sc tl n p ≤ 8000 ∧ GR.lap sc tl n p - p ≤ 5000 ∧ -300 ≤ GR.lea sc tl ∧ GR.lea sc tl ≤ 2 ∧ GR.lea sc tl ≤ GR.lap sc tl n p := by
  have p8 : (2 : Int) ^ (sc - 1) ≤ 2 ^ 7 := GM.pow_le' (by omega)
  have p0 := GM.pow_pos' (sc - 1)
  have hb : GR.bl n ≤ 4000 := by
    have := hf.2
    unfold GR.bl
    omega
  have hb0 : 0 ≤ GR.bl n := by
    unfold GR.bl
    omega
  unfold GR.lap GR.lea
  split <;> omega
theorem cutQ_nn {n b : Int} (h : 0 ≤ n) : 0 ≤ GR.cutQ n b := by
  unfold GR.cutQ
  split
  · exact Int.mul_nonneg h (by have := GM.pow_pos' (-b).toNat; omega)
  · exact Int.ediv_nonneg h (by have := GM.pow_pos' b.toNat; omega)
theorem ok_rounded (B : Bl mg) (L : LL K mg C CD a1 a2 a3 a4 a5 a6 a7 a8 a9 a10 a11 a12 a13 a14 a15 a16 a17 a18 a19 a20 a21 a22 a23 a24 a25 a26 a27 a28 a29 a30 a31 a32 a33 a34 a35 a36 a37 a38 a39 a40 a41 a42 a43 a44 a45 a46 a47 a48 a49 a50 a51 a52 a53 a54 l1 l2 l3 l4 l5 l6 l7 l8 l9 l10 l11 l12 l13 l14 l15 l16 l17 l18 l19 l20 l21 l22 l23 l24 l25 l26 l27 l28 l29 l30 l31 l32 l33 l34 l35 l36 l37 l38 l39 l40 l41 l42 l43 l44 l45 l46 l47 l48 l49 l50 l51 l52 l53 l54 t39 t40 t41 tg_NEAR tg_CUT tg_UP E_NoStep I_NoStep E_Undone I_Undone E_Busy) : FnOk P w K mg base CX0 4 a7 l7 ["form", "sign", "number", "power", "way", "more"] (spRnd C) := by
  have G_last_power : FnOk P w K mg base CX0 3 a5 l5 ["form", "number", "power"] (spLap C) := (ok_last_power B L).mono (by decide)
  have G_Form_nought : FnOk P w K mg base CX0 3 a39 l39 ["self", "sign"] (spNm C mNo mNo) := (ok_Form_nought B L).mono (by decide)
  have G_parted : FnOk P w K mg base CX0 3 a8 l8 ["number", "by", "more"] spPart := (ok_parted B L).mono (by decide)
  have G_goes_up : FnOk P w K mg base CX0 3 a9 l9 ["way", "sign", "many", "rest"] spUp := (ok_goes_up B L).mono (by decide)
  have G_least_power : FnOk P w K mg base CX0 3 a6 l6 ["form"] (spLea C) := (ok_least_power B L).mono (by decide)
  have G_Form_greatest : FnOk P w K mg base CX0 3 a41 l41 ["self", "sign"] (spNm C mGr tGr) := (ok_Form_greatest B L).mono (by decide)
  have G_word_beyond : FnOk P w K mg base CX0 3 a11 l11 ["form", "sign", "way"] (spBey C) := (ok_word_beyond B L).mono (by decide)
  have G_flags_of_rest : FnOk P w K mg base CX0 3 a12 l12 ["form", "number", "power", "rest"] (spFlg C) := (ok_flags_of_rest B L).mono (by decide)
  refine L.F_rounded.ok sc_rounded (fun vs H Q E h => ?_) (fun cdv A outer s H vs Q E hr h => ?_)
  · obtain ⟨x, sc, tl, s, n, p, w, m, rfl, _⟩ := h
    rfl
  obtain ⟨x, sc, tl, s, n, p, w, m, rfl, hF, hs, hf, hp1, hp2, hm, q⟩ := h
  obtain ⟨dx, hx, h1, h2, h3, h4⟩ := id hF
  refine ⟨_, (pss_cons (ps_if (PW.pt (pw_and (pt_val (pv 5)) (pw_and1 (PW.pt (pw_or (pt_cmpR op_eq (pv 2) pe_int (nomark _)) (pw_or1 (pt_cmpR op_ge (pv 3) (pe_call G_last_power hr (by rfl) L.m_last_power L.F_last_power.kp L.b_last_power .nil pass0 (pa_cons (pv 0) (pa_cons (pv 2) (pa_cons (pv 3) pa_nil)))) (nomark _)))))))) (pss_one ps_never) pss_nil)
    (pss_cons (ps_if (pt_cmpR op_eq (pv 2) pe_int (nomark _)) (pss_one (ps_ret (pe_tup (pa_cons (pe_meth (pv 0) L.T.cl L.M_Form_nought G_Form_nought hr L.b_Form_nought .nil pass0 (pa_cons (pv 1) pa_nil)) (pa_cons (pe_tup pa_nil) pa_nil))))) pss_nil)
    (pss_cons (ps_set (i := 6) sc_rounded.nd rfl (.inl rfl) (pe_call G_last_power hr (by rfl) L.m_last_power L.F_last_power.kp L.b_last_power .nil pass0 (pa_cons (pv 0) (pa_cons (pv 2) (pa_cons (pv 3) pa_nil)))))
    (pss_cons (ps_asg (pe_call G_parted hr (by rfl) L.m_parted L.F_parted.kp L.b_parted .nil pass0 (pa_cons (pv 2) (pa_cons (pe_op op_sub (pv 6) (pv 3)) (pa_cons (pv 5) pa_nil)))) (pg_tup (by rfl) (pgs_cons (pg_name (i := 7) sc_rounded.nd rfl (.inl rfl)) (pgs_cons (pg_name (i := 8) sc_rounded.nd rfl (.inl rfl)) pgs_nil))))
    (pss_cons (ps_if (pt_val (pe_call G_goes_up hr (by rfl) L.m_goes_up L.F_goes_up.kp L.b_goes_up .nil pass0 (pa_cons (pv 4) (pa_cons (pv 1) (pa_cons (pv 7) (pa_cons (pv 8) pa_nil)))))) (pss_one (ps_aug (i := 7) sc_rounded.nd rfl (.inl rfl) pe_int iop_add)) pss_nil)
    (pss_cons (ps_set (i := 9) sc_rounded.nd rfl (.inl rfl) (pe_op op_add (pe_op op_shlN (pe_op op_sub (pv 6) (pe_call G_least_power hr (by rfl) L.m_least_power L.F_least_power.kp L.b_least_power .nil pass0 (pa_cons (pv 0) pa_nil))) (pe_fld (pv 0) rfl)) (pv 7)))
    (pss_cons (ps_if (pt_cmpR op_gt (pv 9) (pe_meth0 (pv 0) L.T.cl L.M_Form_greatest G_Form_greatest hr L.d_Form_greatest (val0 _) pass0) (nomark _)) (pss_one (ps_ret (pe_tup (pa_cons (pe_call G_word_beyond hr (by rfl) L.m_word_beyond L.F_word_beyond.kp L.b_word_beyond .nil pass0 (pa_cons (pv 0) (pa_cons (pv 1) (pa_cons (pv 4) pa_nil)))) (pa_cons (pe_tup (pa_cons pe_str (pa_cons pe_str pa_nil))) pa_nil))))) pss_nil)
    (pss_one (ps_ret (pe_tup (pa_cons (pe_op op_add (pe_meth (pv 0) L.T.cl L.M_Form_nought G_Form_nought hr L.b_Form_nought .nil pass0 (pa_cons (pv 1) pa_nil)) (pv 9)) (pa_cons (pe_call G_flags_of_rest hr (by rfl) L.m_flags_of_rest L.F_flags_of_rest.kp L.b_flags_of_rest .nil pass0 (pa_cons (pv 0) (pa_cons (pv 2) (pa_cons (pv 3) (pa_cons (pv 8) pa_nil))))) pa_nil)))))))))))), ?_⟩
  obtain ⟨i1, i2, i3, i4, i5, i6⟩ := lap_in (sc := sc) (tl := tl) hf hp1 hp2 h2 h4
  -- no refusal
  apply cutP
  case h2 =>
    intro rest
    refine ⟨_, rfl, _, rfl, ite2 (fun c => ?_) (fun c => rest)⟩
    obtain ⟨m1, m2⟩ := hm c
    refine ⟨_, rfl, rfl, _, rfl, ?_⟩
    rw [dvi, decide_eq_false m1]
    refine iteF ?_
    refine ⟨_, rfl, _, rfl, _, rfl, _, rfl, x, sc, tl, n, p, rfl, hF, _, _, rfl, rfl, _, rfl, ?_⟩
    rw [decide_eq_false (by omega)]
    exact iteF rest
  unfold GR.rnd at q
  refine ⟨_, rfl, rfl, _, rfl, ite2 (fun c => ?_) (fun c => ?_)⟩
  · rw [dvi] at c
    rw [if_pos (of_decide_eq_true c)] at q
    refine ⟨_, rfl, x, dx, _, rfl, hx, rfl, _, rfl, x, sc, tl, s, rfl, hF, hs, Nat.zero_le _, fun e ne => ?_⟩
    refine ⟨(by show 2 ≤ sizeLine; decide), fun t nt => ?_⟩
    have se := same_upd (o := .tup []) ne
    have st := same_upd (o := .tup [.int (GR.wrd sc tl s 0 0), .ref e]) nt
    exact q t _ (se.free nt) (se.trans st) ⟨e, upd_same, st _ _ upd_same⟩
  rw [dvi] at c
  rw [if_neg (of_decide_eq_false (Bool.eq_false_iff.mpr c))] at q
  refine ⟨_, rfl, _, rfl, _, rfl, x, sc, tl, n, p, rfl, hF, ?_⟩
  refine ⟨_, rfl, _, rfl, _, rfl, _, _, rfl, rfl, _, rfl, n, _, m, rfl, hf, by omega, by omega, fun pr H1 npr s1 epr => ?_⟩
  refine ⟨pr, _, rfl, .inl (.inl epr), rfl, _, _, rfl, _, _, rfl, rfl, ?_⟩
  have hF1 := hF.same s1
  have hx1 := s1 _ _ hx
  -- behind the step up
  apply cutP
  case h2 =>
    intro rest
    refine ⟨_, rfl, _, rfl, _, rfl, _, rfl, w, s, _, _, rfl, _, rfl, ite2 (fun c2 => ?_) (fun c2 => ?_)⟩
    · refine ⟨_, rfl, _, _, rfl, rfl, ?_⟩
      have e : GR.prQ n (GR.lap sc tl n p - p) + 1 = GR.mny sc tl s n p w m := by
        unfold GR.mny
        rw [if_pos c2]
      dsimp only
      rw [e]
      exact rest
    · have e : GR.prQ n (GR.lap sc tl n p - p) = GR.mny sc tl s n p w m := by
        unfold GR.mny
        rw [if_neg c2]
      dsimp only
      rw [e]
      exact rest
  refine ⟨_, rfl, _, rfl, x, sc, tl, rfl, hF1, _, _, rfl, rfl, _, rfl, x, C, dx, _, _, rfl, hx1, L.T.cl, L.T.nt, fl_t _ _, _, tl, rfl, rfl, shl_ok (n := 14) (by omega) (by omega), _, rfl, _, _, rfl, rfl, ?_⟩
  refine ⟨_, rfl, _, rfl, x, dx, _, rfl, hx1, rfl, x, sc, tl, 0, rfl, hF1, .inl rfl, _, _, rfl, rfl, _, rfl, ite2 (fun c3 => ?_) (fun c3 => ?_)⟩
  · have c4 : GR.siz sc tl s n p w m > GR.wrd sc tl 0 (2 ^ sc - 1 - 1) (2 ^ tl - 1) := of_decide_eq_true c3
    rw [if_pos c4] at q
    refine ⟨_, rfl, _, rfl, _, rfl, x, sc, tl, s, w, rfl, hF1, hs, (by show 2 ≤ sizeLine; decide), fun e ne => ?_⟩
    refine ⟨(by show 2 ≤ sizeLine; decide), fun t nt => ?_⟩
    have se := same_upd (o := .tup [.str "over", .str "rounded"]) ne
    have st := same_upd (o := .tup [.int (GR.bey sc tl s w), .ref e]) nt
    exact q t _ (s1.free (se.free nt)) (s1.trans (se.trans st)) ⟨e, upd_same, st _ _ upd_same⟩
  · have c4 : ¬ GR.siz sc tl s n p w m > GR.wrd sc tl 0 (2 ^ sc - 1 - 1) (2 ^ tl - 1) := of_decide_eq_false (Bool.eq_false_iff.mpr c3)
    rw [if_neg c4] at q
    refine ⟨_, rfl, x, dx, _, rfl, hx1, rfl, _, rfl, x, sc, tl, s, rfl, hF1, hs, _, rfl, _, _, rfl, rfl, ?_⟩
    refine ⟨_, rfl, _, rfl, _, rfl, _, rfl, x, sc, tl, n, p, _, rfl, hF1, fun e H2 ne s2 ee => ?_⟩
    refine ⟨(by show 2 ≤ sizeLine; decide), fun t nt => ?_⟩
    have st := same_upd (o := .tup [.int (GR.wrd sc tl s 0 0 + GR.siz sc tl s n p w m), .ref e]) nt
    exact q t _ (s1.free (s2.free nt)) (s1.trans (s2.trans st)) ⟨e, upd_same, st _ _ ee⟩
end
section
variable {P : Program} {w : World} {K : PySem.W.Frag} {mg : Str → Option Value} {base : Heap}
variable {C : Addr} {CD : Addr} {a1 a2 a3 a4 a5 a6 a7 a8 a9 a10 a11 a12 a13 a14 a15 a16 a17 a18 a19 a20 a21 a22 a23 a24 a25 a26 a27 a28 a29 a30 a31 a32 a33 a34 a35 a36 a37 a38 a39 a40 a41 a42 a43 a44 a45 a46 a47 a48 a49 a50 a51 a52 a53 a54 : Addr} {l1 l2 l3 l4 l5 l6 l7 l8 l9 l10 l11 l12 l13 l14 l15 l16 l17 l18 l19 l20 l21 l22 l23 l24 l25 l26 l27 l28 l29 l30 l31 l32 l33 l34 l35 l36 l37 l38 l39 l40 l41 l42 l43 l44 l45 l46 l47 l48 l49 l50 l51 l52 l53 l54 : FuncData} {t39 t40 t41 tg_NEAR tg_CUT tg_UP : Tok} {E_NoStep I_NoStep E_Undone I_Undone E_Busy : Addr}
/-! ### parts, sorts and worths of words -/
def spParts (C : Addr) : Sp := fun vs H Q _ => ∃ (x : Addr) (sc tl : Nat) (v : Int), vs = [.ref x, .int v] ∧ FAt C H x sc tl ∧
  ∀ p, H p = none → Q (.ref p) (upd H p (.tup [.int (GM.sgn sc tl v), .int (GM.scl sc tl v), .int (GM.tlp tl v)]))
theorem ok_Form_parts (B : Bl mg) (L : LL K mg C CD a1 a2 a3 a4 a5 a6 a7 a8 a9 a10 a11 a12 a13 a14 a15 a16 a17 a18 a19 a20 a21 a22 a23 a24 a25 a26 a27 a28 a29 a30 a31 a32 a33 a34 a35 a36 a37 a38 a39 a40 a41 a42 a43 a44 a45 a46 a47 a48 a49 a50 a51 a52 a53 a54 l1 l2 l3 l4 l5 l6 l7 l8 l9 l10 l11 l12 l13 l14 l15 l16 l17 l18 l19 l20 l21 l22 l23 l24 l25 l26 l27 l28 l29 l30 l31 l32 l33 l34 l35 l36 l37 l38 l39 l40 l41 l42 l43 l44 l45 l46 l47 l48 l49 l50 l51 l52 l53 l54 t39 t40 t41 tg_NEAR tg_CUT tg_UP E_NoStep I_NoStep E_Undone I_Undone E_Busy) : FnOk P w K mg base CX0 2 a36 l36 ["self", "word"] (spParts C) := by
  have G_Form_top : FnOk P w K mg base CX0 1 a35 l35 ["self"] (spTop C) := (ok_Form_top B L).mono (by decide)
  refine L.F_Form_parts.ok sc_Form_parts (fun vs H Q E h => ?_) (fun cdv A outer s H vs Q E hr h => ?_)
  · obtain ⟨x, sc, tl, v, rfl, _⟩ := h
    rfl
  obtain ⟨x, sc, tl, v, rfl, hF, q⟩ := h
  obtain ⟨dx, hx, h1, h2, h3, h4⟩ := id hF
  refine ⟨_, (pss_cons (ps_set (i := 2) sc_Form_parts.nd rfl (.inl rfl) (pe_op op_andM (pe_op op_shrN (pv 1) (pe_op op_add (pe_fld (pv 0) rfl) (pe_fld (pv 0) rfl))) pe_int))
    (pss_cons (ps_set (i := 3) sc_Form_parts.nd rfl (.inl rfl) (pe_op op_andM (pe_op op_shrN (pv 1) (pe_fld (pv 0) rfl)) (pe_meth0 (pv 0) L.T.cl L.M_Form_top G_Form_top hr L.b_Form_top .nil pass0)))
    (pss_cons (ps_set (i := 4) sc_Form_parts.nd rfl (.inl rfl) (pe_op op_andM (pv 1) (pe_op op_sub (pe_op op_oneShl pe_int (pe_fld (pv 0) rfl)) pe_int)))
    (pss_one (ps_ret (pe_tup (pa_cons (pv 2) (pa_cons (pv 3) (pa_cons (pv 4) pa_nil))))))))), ?_⟩
  refine ⟨_, rfl, _, rfl, x, C, dx, _, _, rfl, hx, L.T.cl, L.T.ns, fl_s _ _, _, rfl, x, C, dx, _, _, rfl, hx, L.T.cl, L.T.nt, fl_t _ _, _, _, rfl, rfl, _, sc + tl, rfl, rfl, _, 1, rfl, rfl, ?_⟩
  refine ⟨_, rfl, _, rfl, x, C, dx, _, _, rfl, hx, L.T.cl, L.T.nt, fl_t _ _, _, tl, rfl, rfl, _, rfl, x, dx, _, rfl, hx, rfl, x, sc, tl, rfl, hF, _, sc, rfl, rfl, ?_⟩
  refine ⟨_, rfl, _, rfl, x, C, dx, _, _, rfl, hx, L.T.cl, L.T.nt, fl_t _ _, tl, rfl, rfl, by omega, _, _, rfl, rfl, _, tl, rfl, rfl, ?_⟩
  refine ⟨_, rfl, _, rfl, _, rfl, (by show 3 ≤ sizeLine; decide), fun p np => ?_⟩
  exact q p np
def srt (m t : Nat) (s : Int) : Str := if GM.topS m t ≤ s then (if s = GM.topS m t then "endless" else "none") else if s = 0 then "nought" else if s / 2 ^ t = 0 then "small" else "plain"
theorem str_ne {a b : Str} (h : decide (a = b) = false) : a ≠ b := of_decide_eq_false h
theorem srt_none (m t : Nat) (s : Int) : srt m t s = "none" ↔ GM.topS m t < s := by
  unfold srt
  constructor
  · intro h
    by_cases c : GM.topS m t ≤ s
    · rw [if_pos c] at h
      by_cases e : s = GM.topS m t
      · rw [if_pos e] at h
        exact absurd h (by decide +kernel)
      · omega
    · rw [if_neg c] at h
      by_cases e : s = 0
      · rw [if_pos e] at h
        exact absurd h (by decide +kernel)
      · rw [if_neg e] at h
        by_cases e2 : s / 2 ^ t = 0
        · rw [if_pos e2] at h
          exact absurd h (by decide +kernel)
        · rw [if_neg e2] at h
          exact absurd h (by decide +kernel)
  · intro h
    rw [if_pos (by omega), if_neg (by omega)]
theorem srt_endless {m t : Nat} {s : Int} (h : ¬ GM.topS m t < s) : srt m t s = "endless" ↔ s = GM.topS m t := by
  unfold srt
  constructor
  · intro q
    by_cases c : GM.topS m t ≤ s
    · omega
    · rw [if_neg c] at q
      by_cases e : s = 0
      · rw [if_pos e] at q
        exact absurd q (by decide +kernel)
      · rw [if_neg e] at q
        by_cases e2 : s / 2 ^ t = 0
        · rw [if_pos e2] at q
          exact absurd q (by decide +kernel)
        · rw [if_neg e2] at q
          exact absurd q (by decide +kernel)
  · intro q
    rw [if_pos (by omega), if_pos q]
theorem srt_parts {m t : Nat} (hm : 1 ≤ m) {q r : Int} (q0 : 0 ≤ q) (q1 : q < 2 ^ m) (r0 : 0 ≤ r) (r1 : r < 2 ^ t) :
    srt m t (q * 2 ^ t + r) = if q = 0 then (if r = 0 then ("nought" : Str) else ("small" : Str)) else if q = 2 ^ m - 1 then (if r = 0 then ("endless" : Str) else ("none" : Str)) else ("plain" : Str) := by
  have hp := GM.pow_pos' t
  have hm2 : (2 : Int) ^ 1 ≤ 2 ^ m := GM.pow_le' hm
  have hd : (q * 2 ^ t + r) / 2 ^ t = q := by
    rw [Int.add_comm, Int.add_mul_ediv_right _ _ (by omega), Int.ediv_eq_zero_of_lt r0 r1, Int.zero_add]
  have hT : GM.topS m t = 2 ^ m * 2 ^ t - 2 ^ t := by
    unfold GM.topS
    rw [Int.sub_mul, Int.one_mul]
  have hqt : q = 2 ^ m - 1 ∨ (q + 1) * 2 ^ t ≤ (2 ^ m - 1) * 2 ^ t := by
    by_cases e : q = 2 ^ m - 1
    · exact .inl e
    · exact .inr (Int.mul_le_mul_of_nonneg_right (by omega) (by omega))
  unfold srt
  rw [hd]
  by_cases e : q = 2 ^ m - 1
  · have et : q * 2 ^ t = GM.topS m t := by rw [e]; rfl
    rw [if_pos (show GM.topS m t ≤ q * 2 ^ t + r by omega), if_neg (show ¬ q = 0 by omega), if_pos e]
    by_cases z : r = 0
    · rw [if_pos z, if_pos (by omega)]
    · rw [if_neg z, if_neg (by omega)]
  · have hlt : (q + 1) * 2 ^ t ≤ GM.topS m t := by
      rcases hqt with z | z
      · exact absurd z e
      · exact z
    rw [Int.add_mul, Int.one_mul] at hlt
    rw [if_neg (show ¬ GM.topS m t ≤ q * 2 ^ t + r by omega)]
    by_cases z : q = 0
    · rw [if_pos z, if_pos z]
      subst z
      rw [Int.zero_mul, Int.zero_add]
    · have : 1 * 2 ^ t ≤ q * 2 ^ t := Int.mul_le_mul_of_nonneg_right (by omega) (by omega)
      rw [if_neg (show ¬ q * 2 ^ t + r = 0 by omega), if_neg z, if_neg z, if_neg e]
def sz (m t : Nat) (v : Int) : Int := v % 2 ^ (m + t)
def spSort (C : Addr) : Sp := fun vs H Q _ => ∃ (x : Addr) (sc tl : Nat) (v : Int), vs = [.ref x, .int v] ∧ FAt C H x sc tl ∧ ∀ H', Same H H' → Q (.str (srt sc tl (sz sc tl v))) H'
theorem ok_Form_sort_of (B : Bl mg) (L : LL K mg C CD a1 a2 a3 a4 a5 a6 a7 a8 a9 a10 a11 a12 a13 a14 a15 a16 a17 a18 a19 a20 a21 a22 a23 a24 a25 a26 a27 a28 a29 a30 a31 a32 a33 a34 a35 a36 a37 a38 a39 a40 a41 a42 a43 a44 a45 a46 a47 a48 a49 a50 a51 a52 a53 a54 l1 l2 l3 l4 l5 l6 l7 l8 l9 l10 l11 l12 l13 l14 l15 l16 l17 l18 l19 l20 l21 l22 l23 l24 l25 l26 l27 l28 l29 l30 l31 l32 l33 l34 l35 l36 l37 l38 l39 l40 l41 l42 l43 l44 l45 l46 l47 l48 l49 l50 l51 l52 l53 l54 t39 t40 t41 tg_NEAR tg_CUT tg_UP E_NoStep I_NoStep E_Undone I_Undone E_Busy) : FnOk P w K mg base CX0 3 a38 l38 ["self", "word"] (spSort C) := by
  have G_Form_parts : FnOk P w K mg base CX0 2 a36 l36 ["self", "word"] (spParts C) := (ok_Form_parts B L).mono (by decide)
  have G_Form_top : FnOk P w K mg base CX0 2 a35 l35 ["self"] (spTop C) := (ok_Form_top B L).mono (by decide)
  refine L.F_Form_sort_of.ok sc_Form_sort_of (fun vs H Q E h => ?_) (fun cdv A outer s H vs Q E hr h => ?_)
  · obtain ⟨x, sc, tl, v, rfl, _⟩ := h
    rfl
  obtain ⟨x, sc, tl, v, rfl, hF, q⟩ := h
  obtain ⟨dx, hx, h1, h2, h3, h4⟩ := id hF
  refine ⟨_, (pss_cons (ps_asg (pe_meth (pv 0) L.T.cl L.M_Form_parts G_Form_parts hr L.b_Form_parts .nil pass0 (pa_cons (pv 1) pa_nil)) (pg_tup (by rfl) (pgs_cons (pg_name (i := 2) sc_Form_sort_of.nd rfl (.inl rfl)) (pgs_cons (pg_name (i := 3) sc_Form_sort_of.nd rfl (.inl rfl)) (pgs_cons (pg_name (i := 4) sc_Form_sort_of.nd rfl (.inl rfl)) pgs_nil)))))
    (pss_cons (ps_if (pt_cmpR op_eq (pv 3) pe_int (nomark _)) (pss_one (ps_ret (pe_ifExp (pt_cmpR op_eq (pv 4) pe_int (nomark _)) pe_str pe_str))) pss_nil)
    (pss_cons (ps_if (pt_cmpR op_eq (pv 3) (pe_meth0 (pv 0) L.T.cl L.M_Form_top G_Form_top hr L.b_Form_top .nil pass0) (nomark _)) (pss_one (ps_ret (pe_ifExp (pt_cmpR op_eq (pv 4) pe_int (nomark _)) pe_str pe_str))) pss_nil)
    (pss_one (ps_ret pe_str))))), ?_⟩
  refine ⟨_, rfl, x, dx, _, rfl, hx, rfl, _, rfl, x, sc, tl, v, rfl, hF, fun p np => ?_⟩
  have sp := same_upd (o := .tup [.int (GM.sgn sc tl v), .int (GM.scl sc tl v), .int (GM.tlp tl v)]) np
  refine ⟨p, _, rfl, .inl (.inl upd_same), rfl, _, _, rfl, _, _, rfl, _, _, rfl, rfl, ?_⟩
  have hs := GM.scl_nn sc tl v
  have ht := GM.tlp_nn tl v
  have q' := q _ sp
  rw [show sz sc tl v = GM.scl sc tl v * 2 ^ tl + GM.tlp tl v from (GM.scl_tlp sc tl v).symm, srt_parts (by omega) hs.1 hs.2 ht.1 ht.2] at q'
  refine ⟨_, rfl, rfl, _, rfl, ite2 (fun c => ?_) (fun c => ?_)⟩
  · have c1 : GM.scl sc tl v = 0 := V.int.inj (of_decide_eq_true c)
    rw [if_pos c1] at q'
    refine ⟨_, rfl, rfl, _, rfl, ite2 (fun d => ?_) (fun d => ?_)⟩
    · have d1 : GM.tlp tl v = 0 := V.int.inj (of_decide_eq_true d)
      rw [if_pos d1] at q'
      exact q'
    · have d1 : ¬ GM.tlp tl v = 0 := fun z => d (decide_eq_true (by rw [z]))
      rw [if_neg d1] at q'
      exact q'
  have c1 : ¬ GM.scl sc tl v = 0 := fun z => c (decide_eq_true (by rw [z]))
  rw [if_neg c1] at q'
  refine ⟨_, rfl, _, rfl, x, dx, _, rfl, sp _ _ hx, rfl, x, sc, tl, rfl, hF.same sp, rfl, _, rfl, ite2 (fun c2 => ?_) (fun c2 => ?_)⟩
  · have c3 : GM.scl sc tl v = 2 ^ sc - 1 := V.int.inj (of_decide_eq_true c2)
    rw [if_pos c3] at q'
    refine ⟨_, rfl, rfl, _, rfl, ite2 (fun d => ?_) (fun d => ?_)⟩
    · have d1 : GM.tlp tl v = 0 := V.int.inj (of_decide_eq_true d)
      rw [if_pos d1] at q'
      exact q'
    · have d1 : ¬ GM.tlp tl v = 0 := fun z => d (decide_eq_true (by rw [z]))
      rw [if_neg d1] at q'
      exact q'
  · have c3 : ¬ GM.scl sc tl v = 2 ^ sc - 1 := fun z => c2 (decide_eq_true (by rw [z]))
    rw [if_neg c3] at q'
    exact q'
theorem in_two (x a b : Str) : inV (.str x) [.str a, .str b] = decide (a = x ∨ b = x) := by
  show ((a == x) || ((b == x) || false)) = _
  rw [Bool.or_false, Bool.eq_iff_iff, Bool.or_eq_true, beq_iff_eq, beq_iff_eq, decide_eq_true_iff]
/-! ### sizes by their parts -/
theorem sz_div (m t : Nat) (v : Int) : sz m t v / 2 ^ t = GM.scl m t v := by
  have ht := GM.tlp_nn t v
  have hp := GM.pow_pos' t
  unfold sz
  rw [← GM.scl_tlp, Int.add_comm, Int.add_mul_ediv_right _ _ (by omega), Int.ediv_eq_zero_of_lt ht.1 ht.2, Int.zero_add]
theorem sz_mod (m t : Nat) (v : Int) : sz m t v % 2 ^ t = GM.tlp t v := by
  have ht := GM.tlp_nn t v
  unfold sz
  rw [← GM.scl_tlp, Int.add_comm, Int.add_mul_emod_self_right, Int.emod_eq_of_lt ht.1 ht.2]
theorem top_iff (m t : Nat) (v : Int) : GM.topS m t ≤ sz m t v ↔ GM.scl m t v = 2 ^ m - 1 := by
  have hs := GM.scl_nn m t v
  have ht := GM.tlp_nn t v
  have hp := GM.pow_pos' t
  have e : sz m t v = GM.scl m t v * 2 ^ t + GM.tlp t v := (GM.scl_tlp m t v).symm
  rw [e]
  unfold GM.topS
  constructor
  · intro h
    by_cases c : GM.scl m t v = 2 ^ m - 1
    · exact c
    · have : (GM.scl m t v + 1) * 2 ^ t ≤ (2 ^ m - 1) * 2 ^ t := Int.mul_le_mul_of_nonneg_right (by omega) (by omega)
      rw [Int.add_mul, Int.one_mul] at this
      omega
  · intro h
    rw [h]
    omega
theorem srt_top (m t : Nat) (s : Int) : (srt m t s = "endless" ∨ srt m t s = "none") ↔ GM.topS m t ≤ s := by
  constructor
  · intro h
    by_cases c : GM.topS m t < s
    · omega
    · rcases h with h | h
      · have := (srt_endless c).mp h
        omega
      · have := (srt_none m t s).mp h
        omega
  · intro h
    by_cases c : GM.topS m t < s
    · exact .inr ((srt_none m t s).mpr c)
    · exact .inl ((srt_endless c).mpr (by omega))
def P0 (sc tl : Nat) : Int := 1 - (2 ^ (sc - 1) - 1) - tl
def wn (sc tl : Nat) (v : Int) : Int := if GM.sgn sc tl v = 1 then -(GM.num tl (sz sc tl v)) else GM.num tl (sz sc tl v)
def wp (sc tl : Nat) (v : Int) : Int := P0 sc tl + (GM.ex tl (sz sc tl v) : Nat)
def spNamed0 (C : Addr) : Sp := fun vs H Q _ => ∃ (x : Addr) (sc tl : Nat), vs = [.ref x] ∧ FAt C H x sc tl ∧ Q (.int (0 * 2 ^ (sc + tl) + ((2 ^ sc - 1) * 2 ^ tl + 2 ^ (tl - 1)))) H
theorem ok_Form_none_word (B : Bl mg) (L : LL K mg C CD a1 a2 a3 a4 a5 a6 a7 a8 a9 a10 a11 a12 a13 a14 a15 a16 a17 a18 a19 a20 a21 a22 a23 a24 a25 a26 a27 a28 a29 a30 a31 a32 a33 a34 a35 a36 a37 a38 a39 a40 a41 a42 a43 a44 a45 a46 a47 a48 a49 a50 a51 a52 a53 a54 l1 l2 l3 l4 l5 l6 l7 l8 l9 l10 l11 l12 l13 l14 l15 l16 l17 l18 l19 l20 l21 l22 l23 l24 l25 l26 l27 l28 l29 l30 l31 l32 l33 l34 l35 l36 l37 l38 l39 l40 l41 l42 l43 l44 l45 l46 l47 l48 l49 l50 l51 l52 l53 l54 t39 t40 t41 tg_NEAR tg_CUT tg_UP E_NoStep I_NoStep E_Undone I_Undone E_Busy) : FnOk P w K mg base CX0 2 a42 l42 ["self"] (spNamed0 C) := by
  have G_Form_word_of : FnOk P w K mg base CX0 1 a37 l37 ["self", "sign", "scale", "tail"] (spWordOf C) := (ok_Form_word_of B L).mono (by decide)
  have G_Form_top : FnOk P w K mg base CX0 1 a35 l35 ["self"] (spTop C) := (ok_Form_top B L).mono (by decide)
  refine L.F_Form_none_word.ok sc_Form_none_word (fun vs H Q E h => ?_) (fun cdv A outer s H vs Q E hr h => ?_)
  · obtain ⟨x, sc, tl, rfl, _⟩ := h
    rfl
  obtain ⟨x, sc, tl, rfl, hF, q⟩ := h
  obtain ⟨dx, hx, h1, h2, h3, h4⟩ := id hF
  have pS := GM.pow_pos' sc
  have pT := GM.pow_pos' tl
  have pT1 := GM.pow_pos' (tl - 1)
  have pTT : (2 : Int) ^ tl = 2 ^ (tl - 1) * 2 := by rw [← GM.pow_s]; congr 1; omega
  refine ⟨_, (pss_one (ps_ret (pe_meth (pv 0) L.T.cl L.M_Form_word_of G_Form_word_of hr L.b_Form_word_of .nil pass0 (pa_cons pe_int (pa_cons (pe_meth0 (pv 0) L.T.cl L.M_Form_top G_Form_top hr L.b_Form_top .nil pass0) (pa_cons (pe_op op_oneShl pe_int (pe_op op_sub (pe_fld (pv 0) rfl) pe_int)) pa_nil)))))), ?_⟩
  exact ⟨_, rfl, x, dx, _, rfl, hx, rfl, _, rfl, x, dx, _, rfl, hx, rfl, x, sc, tl, rfl, hF, _, rfl, x, C, dx, _, _, rfl, hx, L.T.cl, L.T.nt, fl_t _ _, _, _, rfl, rfl, tl - 1, rfl, congrArg V.int (by omega), by omega, x, sc, tl, _, _, _, rfl, hF, .inl rfl, by omega, by omega, by omega, by omega, q⟩

/-! ### worth -/
def WorthQ (H : Hp) (Q : VK) (sc tl : Nat) (v : Int) : Prop := (∀ H', Same H H' → GM.topS sc tl ≤ sz sc tl v → Q .non H') ∧ ∀ H' p, Same H H' → ¬ GM.topS sc tl ≤ sz sc tl v → H' p = some (.tup [.int (wn sc tl v), .int (wp sc tl v)]) → Q (.ref p) H'
def spWorth (C : Addr) : Sp := fun vs H Q _ => ∃ (x : Addr) (sc tl : Nat) (v : Int), vs = [.ref x, .int v] ∧ FAt C H x sc tl ∧ WorthQ H Q sc tl v
theorem ok_Form_worth (B : Bl mg) (L : LL K mg C CD a1 a2 a3 a4 a5 a6 a7 a8 a9 a10 a11 a12 a13 a14 a15 a16 a17 a18 a19 a20 a21 a22 a23 a24 a25 a26 a27 a28 a29 a30 a31 a32 a33 a34 a35 a36 a37 a38 a39 a40 a41 a42 a43 a44 a45 a46 a47 a48 a49 a50 a51 a52 a53 a54 l1 l2 l3 l4 l5 l6 l7 l8 l9 l10 l11 l12 l13 l14 l15 l16 l17 l18 l19 l20 l21 l22 l23 l24 l25 l26 l27 l28 l29 l30 l31 l32 l33 l34 l35 l36 l37 l38 l39 l40 l41 l42 l43 l44 l45 l46 l47 l48 l49 l50 l51 l52 l53 l54 t39 t40 t41 tg_NEAR tg_CUT tg_UP E_NoStep I_NoStep E_Undone I_Undone E_Busy) : FnOk P w K mg base CX0 3 a43 l43 ["self", "word"] (spWorth C) := by
  have G_Form_parts : FnOk P w K mg base CX0 2 a36 l36 ["self", "word"] (spParts C) := (ok_Form_parts B L).mono (by decide)
  have G_Form_top : FnOk P w K mg base CX0 2 a35 l35 ["self"] (spTop C) := (ok_Form_top B L).mono (by decide)
  have G_Form_bias : FnOk P w K mg base CX0 2 a34 l34 ["self"] (spBias C) := (ok_Form_bias B L).mono (by decide)
  refine L.F_Form_worth.ok sc_Form_worth (fun vs H Q E h => ?_) (fun cdv A outer s H vs Q E hr h => ?_)
  · obtain ⟨x, sc, tl, v, rfl, _⟩ := h
    rfl
  obtain ⟨x, sc, tl, v, rfl, hF, qn, qt⟩ := h
  obtain ⟨dx, hx, h1, h2, h3, h4⟩ := id hF
  refine ⟨_, (pss_cons (ps_asg (pe_meth (pv 0) L.T.cl L.M_Form_parts G_Form_parts hr L.b_Form_parts .nil pass0 (pa_cons (pv 1) pa_nil)) (pg_tup (by rfl) (pgs_cons (pg_name (i := 2) sc_Form_worth.nd rfl (.inl rfl)) (pgs_cons (pg_name (i := 3) sc_Form_worth.nd rfl (.inl rfl)) (pgs_cons (pg_name (i := 4) sc_Form_worth.nd rfl (.inl rfl)) pgs_nil)))))
    (pss_cons (ps_if (pt_cmpR op_eq (pv 3) (pe_meth0 (pv 0) L.T.cl L.M_Form_top G_Form_top hr L.b_Form_top .nil pass0) (nomark _)) (pss_one (ps_ret pe_non)) pss_nil)
    (pss_cons (ps_set (i := 5) sc_Form_worth.nd rfl (.inl rfl) (pe_ifExp (pt_cmpR op_eq (pv 3) pe_int (nomark _)) (pv 4) (pe_op op_add (pe_op op_oneShl pe_int (pe_fld (pv 0) rfl)) (pv 4))))
    (pss_cons (ps_set (i := 6) sc_Form_worth.nd rfl (.inl rfl) (pe_op op_sub (pe_op op_sub (pe_callB (call_max2 rfl) (by rfl) B.max boot_max (pa_cons (pv 3) (pa_cons pe_int pa_nil))) (pe_meth0 (pv 0) L.T.cl L.M_Form_bias G_Form_bias hr L.b_Form_bias .nil pass0)) (pe_fld (pv 0) rfl)))
    (pss_one (ps_ret (pe_tup (pa_cons (pe_ifExp (pt_cmpR op_eq (pv 2) pe_int (nomark _)) (pe_un un_neg (pv 5)) (pv 5)) (pa_cons (pv 6) pa_nil))))))))), ?_⟩
  refine ⟨_, rfl, x, dx, _, rfl, hx, rfl, _, rfl, x, sc, tl, v, rfl, hF, fun p np => ?_⟩
  have sp := same_upd (o := .tup [.int (GM.sgn sc tl v), .int (GM.scl sc tl v), .int (GM.tlp tl v)]) np
  refine ⟨p, _, rfl, .inl (.inl upd_same), rfl, _, _, rfl, _, _, rfl, _, _, rfl, rfl, ?_⟩
  have hs := GM.scl_nn sc tl v
  refine ⟨_, rfl, _, rfl, x, dx, _, rfl, sp _ _ hx, rfl, x, sc, tl, rfl, hF.same sp, rfl, _, rfl, ite2 (fun c => ?_) (fun c => ?_)⟩
  · have c1 : GM.scl sc tl v = 2 ^ sc - 1 := V.int.inj (of_decide_eq_true c)
    exact qn _ sp ((top_iff sc tl v).mpr c1)
  have c1 : ¬ GM.scl sc tl v = 2 ^ sc - 1 := fun z => c (decide_eq_true (by rw [z]))
  have c2 : ¬ GM.topS sc tl ≤ sz sc tl v := fun z => c1 ((top_iff sc tl v).mp z)
  try dsimp only [tNext, tSeq, tAsg]
  refine if_ev (fun z H' => z = .int (GM.num tl (sz sc tl v)) ∧ H' = upd H p (.tup [.int (GM.sgn sc tl v), .int (GM.scl sc tl v), .int (GM.tlp tl v)])) (fun Q' q' => ?_) ?_
  · refine ⟨_, rfl, rfl, _, rfl, ite2 (fun d => ?_) (fun d => ?_)⟩
    · have d1 : GM.scl sc tl v = 0 := V.int.inj (of_decide_eq_true d)
      refine ⟨_, rfl, q' _ _ ⟨congrArg V.int ?_, rfl⟩⟩
      unfold GM.num
      rw [sz_div, sz_mod, if_pos d1]
    · have d1 : ¬ GM.scl sc tl v = 0 := fun z => d (decide_eq_true (by rw [z]))
      refine ⟨_, rfl, x, C, dx, _, _, rfl, sp _ _ hx, L.T.cl, L.T.nt, fl_t _ _, tl, rfl, rfl, by omega, _, rfl, _, _, rfl, rfl, q' _ _ ⟨congrArg V.int ?_, rfl⟩⟩
      unfold GM.num
      rw [sz_div, sz_mod, if_neg d1]
  rintro z H' ⟨rfl, rfl⟩
  refine ⟨_, rfl, _, _, rfl, _, rfl, x, dx, _, rfl, sp _ _ hx, rfl, x, sc, tl, rfl, hF.same sp, _, _, rfl, rfl, _, rfl, x, C, dx, _, _, rfl, sp _ _ hx, L.T.cl, L.T.nt, fl_t _ _, _, _, rfl, rfl, ?_⟩
  have ep : (if (1 : Int) > GM.scl sc tl v then 1 else GM.scl sc tl v) - (2 ^ (sc - 1) - 1) - (tl : Int) = wp sc tl v := by
    unfold wp P0 GM.ex
    rw [sz_div]
    split <;> omega
  dsimp only
  rw [ep]
  try dsimp only [gName, tRet, tTup, tCons]
  refine if_ev (fun z H' => z = .int (wn sc tl v) ∧ H' = upd H p (.tup [.int (GM.sgn sc tl v), .int (GM.scl sc tl v), .int (GM.tlp tl v)])) (fun Q' q' => ?_) ?_
  · refine ⟨_, rfl, rfl, _, rfl, ite2 (fun d => ?_) (fun d => ?_)⟩
    · have d1 : GM.sgn sc tl v = 1 := V.int.inj (of_decide_eq_true d)
      refine ⟨_, rfl, _, rfl, q' _ _ ⟨congrArg V.int ?_, rfl⟩⟩
      unfold wn
      rw [if_pos d1]
    · have d1 : ¬ GM.sgn sc tl v = 1 := fun z => d (decide_eq_true (by rw [z]))
      refine ⟨_, rfl, q' _ _ ⟨congrArg V.int ?_, rfl⟩⟩
      unfold wn
      rw [if_neg d1]
  rintro z H' ⟨rfl, rfl⟩
  refine ⟨_, rfl, (by show 2 ≤ sizeLine; decide), fun t nt => ?_⟩
  exact qt _ t (sp.trans (same_upd nt)) c2 upd_same
end
section
variable {P : Program} {w : World} {K : PySem.W.Frag} {mg : Str → Option Value} {base : Heap}
variable {C : Addr} {CD : Addr} {a1 a2 a3 a4 a5 a6 a7 a8 a9 a10 a11 a12 a13 a14 a15 a16 a17 a18 a19 a20 a21 a22 a23 a24 a25 a26 a27 a28 a29 a30 a31 a32 a33 a34 a35 a36 a37 a38 a39 a40 a41 a42 a43 a44 a45 a46 a47 a48 a49 a50 a51 a52 a53 a54 : Addr} {l1 l2 l3 l4 l5 l6 l7 l8 l9 l10 l11 l12 l13 l14 l15 l16 l17 l18 l19 l20 l21 l22 l23 l24 l25 l26 l27 l28 l29 l30 l31 l32 l33 l34 l35 l36 l37 l38 l39 l40 l41 l42 l43 l44 l45 l46 l47 l48 l49 l50 l51 l52 l53 l54 : FuncData} {t39 t40 t41 tg_NEAR tg_CUT tg_UP : Tok} {E_NoStep I_NoStep E_Undone I_Undone E_Busy : Addr}
/-! ### signs and products -/
def sx (sc tl : Nat) (a b : Int) : Int := if GM.sgn sc tl a = GM.sgn sc tl b then 0 else 1
def spSgn (C : Addr) : Sp := fun vs H Q _ => ∃ (x : Addr) (sc tl : Nat) (v : Int), vs = [.ref x, .int v] ∧ FAt C H x sc tl ∧ ∀ H', Same H H' → Q (.int (GM.sgn sc tl v)) H'
theorem ok_sign_of (B : Bl mg) (L : LL K mg C CD a1 a2 a3 a4 a5 a6 a7 a8 a9 a10 a11 a12 a13 a14 a15 a16 a17 a18 a19 a20 a21 a22 a23 a24 a25 a26 a27 a28 a29 a30 a31 a32 a33 a34 a35 a36 a37 a38 a39 a40 a41 a42 a43 a44 a45 a46 a47 a48 a49 a50 a51 a52 a53 a54 l1 l2 l3 l4 l5 l6 l7 l8 l9 l10 l11 l12 l13 l14 l15 l16 l17 l18 l19 l20 l21 l22 l23 l24 l25 l26 l27 l28 l29 l30 l31 l32 l33 l34 l35 l36 l37 l38 l39 l40 l41 l42 l43 l44 l45 l46 l47 l48 l49 l50 l51 l52 l53 l54 t39 t40 t41 tg_NEAR tg_CUT tg_UP E_NoStep I_NoStep E_Undone I_Undone E_Busy) : FnOk P w K mg base CX0 3 a16 l16 ["form", "word"] (spSgn C) := by
  have G_Form_parts : FnOk P w K mg base CX0 2 a36 l36 ["self", "word"] (spParts C) := (ok_Form_parts B L).mono (by decide)
  refine L.F_sign_of.ok sc_sign_of (fun vs H Q E h => ?_) (fun cdv A outer s H vs Q E hr h => ?_)
  · obtain ⟨x, sc, tl, v, rfl, _⟩ := h
    rfl
  obtain ⟨x, sc, tl, v, rfl, hF, q⟩ := h
  obtain ⟨dx, hx, h1, h2, h3, h4⟩ := id hF
  refine ⟨_, (pss_one (ps_ret (pe_ix ix_tup (pe_meth (pv 0) L.T.cl L.M_Form_parts G_Form_parts hr L.b_Form_parts .nil pass0 (pa_cons (pv 1) pa_nil)) pe_int (fun _ _ => rfl)))), ?_⟩
  refine ⟨_, rfl, x, dx, _, rfl, hx, rfl, _, rfl, x, sc, tl, v, rfl, hF, fun p np => ?_⟩
  refine ⟨p, _, _, _, rfl, rfl, .inl (.inl upd_same), rfl, ?_⟩
  exact q _ (same_upd np)
def spUnl (C : Addr) : Sp := fun vs H Q _ => ∃ (x : Addr) (sc tl : Nat) (a b : Int), vs = [.ref x, .int a, .int b] ∧ FAt C H x sc tl ∧ ∀ H', Same H H' → Q (.int (sx sc tl a b)) H'
theorem sx_xor (sc tl : Nat) (a b : Int) : Builtin.bitXor (GM.sgn sc tl a) (GM.sgn sc tl b) = sx sc tl a b := by
  have ha := GM.sgn_01 (m := sc) (t := tl) (w := a)
  have hb := GM.sgn_01 (m := sc) (t := tl) (w := b)
  unfold sx
  rcases ha with ha | ha <;> rcases hb with hb | hb <;> rw [ha, hb] <;> decide
theorem ok_unlike_sign (B : Bl mg) (L : LL K mg C CD a1 a2 a3 a4 a5 a6 a7 a8 a9 a10 a11 a12 a13 a14 a15 a16 a17 a18 a19 a20 a21 a22 a23 a24 a25 a26 a27 a28 a29 a30 a31 a32 a33 a34 a35 a36 a37 a38 a39 a40 a41 a42 a43 a44 a45 a46 a47 a48 a49 a50 a51 a52 a53 a54 l1 l2 l3 l4 l5 l6 l7 l8 l9 l10 l11 l12 l13 l14 l15 l16 l17 l18 l19 l20 l21 l22 l23 l24 l25 l26 l27 l28 l29 l30 l31 l32 l33 l34 l35 l36 l37 l38 l39 l40 l41 l42 l43 l44 l45 l46 l47 l48 l49 l50 l51 l52 l53 l54 t39 t40 t41 tg_NEAR tg_CUT tg_UP E_NoStep I_NoStep E_Undone I_Undone E_Busy) : FnOk P w K mg base CX0 4 a17 l17 ["form", "a", "b"] (spUnl C) := by
  have G_sign_of : FnOk P w K mg base CX0 3 a16 l16 ["form", "word"] (spSgn C) := (ok_sign_of B L).mono (by decide)
  refine L.F_unlike_sign.ok sc_unlike_sign (fun vs H Q E h => ?_) (fun cdv A outer s H vs Q E hr h => ?_)
  · obtain ⟨x, sc, tl, a, b, rfl, _⟩ := h
    rfl
  obtain ⟨x, sc, tl, a, b, rfl, hF, q⟩ := h
  refine ⟨_, (pss_one (ps_ret (pe_op op_xor (pe_call G_sign_of hr (by rfl) L.m_sign_of L.F_sign_of.kp L.b_sign_of .nil pass0 (pa_cons (pv 0) (pa_cons (pv 1) pa_nil))) (pe_call G_sign_of hr (by rfl) L.m_sign_of L.F_sign_of.kp L.b_sign_of .nil pass0 (pa_cons (pv 0) (pa_cons (pv 2) pa_nil)))))), ?_⟩
  refine ⟨_, rfl, _, rfl, x, sc, tl, a, rfl, hF, fun H1 s1 => ?_⟩
  refine ⟨_, rfl, _, rfl, x, sc, tl, b, rfl, hF.same s1, fun H2 s2 => ?_⟩
  have q' := q _ (s1.trans s2)
  rw [← sx_xor] at q'
  exact ⟨_, _, rfl, rfl, q'⟩
def noneW (sc tl : Nat) : Int := (2 ^ sc - 1) * 2 ^ tl + 2 ^ (tl - 1)
def spBad (C : Addr) : Sp := fun vs H Q _ => ∃ (x : Addr) (sc tl : Nat), vs = [.ref x] ∧ FAt C H x sc tl ∧ ∀ t H', H t = none → Same H H' → PairAt H' t (noneW sc tl, ["bad"]) → Q (.ref t) H'
theorem ok_bad (B : Bl mg) (L : LL K mg C CD a1 a2 a3 a4 a5 a6 a7 a8 a9 a10 a11 a12 a13 a14 a15 a16 a17 a18 a19 a20 a21 a22 a23 a24 a25 a26 a27 a28 a29 a30 a31 a32 a33 a34 a35 a36 a37 a38 a39 a40 a41 a42 a43 a44 a45 a46 a47 a48 a49 a50 a51 a52 a53 a54 l1 l2 l3 l4 l5 l6 l7 l8 l9 l10 l11 l12 l13 l14 l15 l16 l17 l18 l19 l20 l21 l22 l23 l24 l25 l26 l27 l28 l29 l30 l31 l32 l33 l34 l35 l36 l37 l38 l39 l40 l41 l42 l43 l44 l45 l46 l47 l48 l49 l50 l51 l52 l53 l54 t39 t40 t41 tg_NEAR tg_CUT tg_UP E_NoStep I_NoStep E_Undone I_Undone E_Busy) : FnOk P w K mg base CX0 3 a15 l15 ["form"] (spBad C) := by
  have G_Form_none_word : FnOk P w K mg base CX0 2 a42 l42 ["self"] (spNamed0 C) := (ok_Form_none_word B L).mono (by decide)
  refine L.F_bad.ok sc_bad (fun vs H Q E h => ?_) (fun cdv A outer s H vs Q E hr h => ?_)
  · obtain ⟨x, sc, tl, rfl, _⟩ := h
    rfl
  obtain ⟨x, sc, tl, rfl, hF, q⟩ := h
  obtain ⟨dx, hx, h1, h2, h3, h4⟩ := id hF
  refine ⟨_, (pss_one (ps_ret (pe_tup (pa_cons (pe_meth0 (pv 0) L.T.cl L.M_Form_none_word G_Form_none_word hr L.b_Form_none_word .nil pass0) (pa_cons (pe_tup (pa_cons pe_str pa_nil)) pa_nil))))), ?_⟩
  refine ⟨_, rfl, x, dx, _, rfl, hx, rfl, x, sc, tl, rfl, hF, ?_⟩
  refine ⟨(by show 1 ≤ sizeLine; decide), fun e ne => ⟨(by show 2 ≤ sizeLine; decide), fun t nt => ?_⟩⟩
  have se := same_upd (o := .tup [.str "bad"]) ne
  rw [show (0 * 2 ^ (sc + tl) + ((2 ^ sc - 1) * 2 ^ tl + 2 ^ (tl - 1)) : Int) = noneW sc tl by unfold noneW; omega]
  exact q t _ (se.free nt) (se.trans (same_upd nt)) ⟨e, upd_same, same_upd nt _ _ upd_same⟩
theorem wn_25 (sc : Nat) {tl : Nat} (v : Int) (h : tl ≤ 24) : -(2 ^ 25) < wn sc tl v ∧ wn sc tl v < 2 ^ 25 := by
  have hp := GM.pow_pos' tl
  have h24 : (2 : Int) ^ tl ≤ 2 ^ 24 := GM.pow_le' h
  have l := Int.emod_lt_of_pos (sz sc tl v) hp
  have n := Int.emod_nonneg (sz sc tl v) (show (2 : Int) ^ tl ≠ 0 by omega)
  unfold wn GM.num
  constructor <;> split <;> split <;> omega
theorem wn_64 (sc : Nat) {tl : Nat} (v : Int) (h : tl ≤ 24) : -(2 ^ 64) < wn sc tl v ∧ wn sc tl v < 2 ^ 64 := by
  have := wn_25 sc v h
  omega
theorem snoc_take {α β : Type} (xs : List α) (f : α → β) {i : Nat} {a : α} (h : xs[i]? = some a) : (xs.take (i + 1)).map f = (xs.take i).map f ++ [f a] := by
  rw [List.take_add_one, h, List.map_append]
  rfl
theorem len_take {α β : Type} (xs : List α) (f : α → β) (i : Nat) (h : xs.length ≤ 900) : ((xs.take i).map f).length < sizeLine := by
  rw [List.length_map, List.length_take]
  exact small1000 (by omega)
theorem at_int' {xs : List Int} {i : Nat} {x : V} (h : (xs.map V.int)[i]? = some x) : ∃ v, xs[i]? = some v ∧ x = .int v := by
  rw [List.getElem?_map] at h
  cases e : xs[i]? with
  | none => rw [e] at h; cases h
  | some z => rw [e] at h; exact ⟨z, rfl, (Option.some.inj h).symm⟩
def spHN (K : PySem.W.Frag) (C : Addr) : Sp := fun vs H Q _ => ∃ (x t : Addr) (sc tl : Nat) (xs : List Int), vs = [.ref x, .ref t] ∧ FAt C H x sc tl ∧ SqT K H t (xs.map V.int) ∧ xs.length ≤ 900 ∧ ∀ (r : Bool) H', Same H H' → (r = true ↔ ∃ v ∈ xs, srt sc tl (sz sc tl v) = "none") → Q (.bl r) H'
theorem in_strs (x : Str) (ys : List Str) : inV (.str x) (ys.map V.str) = true ↔ x ∈ ys := by
  induction ys with
  | nil => exact ⟨fun z => Bool.noConfusion z, fun z => nomatch z⟩
  | cons y ys ih =>
    show ((y == x) || inV (.str x) (ys.map V.str)) = true ↔ _
    rw [Bool.or_eq_true, beq_iff_eq, ih, List.mem_cons]
    exact ⟨fun z => z.imp Eq.symm id, fun z => z.imp Eq.symm id⟩
theorem flat_strs (ys : List Str) : (ys.map V.str).all flatV = true := by
  induction ys with
  | nil => rfl
  | cons y ys ih => exact ih
theorem ok_has_none (B : Bl mg) (L : LL K mg C CD a1 a2 a3 a4 a5 a6 a7 a8 a9 a10 a11 a12 a13 a14 a15 a16 a17 a18 a19 a20 a21 a22 a23 a24 a25 a26 a27 a28 a29 a30 a31 a32 a33 a34 a35 a36 a37 a38 a39 a40 a41 a42 a43 a44 a45 a46 a47 a48 a49 a50 a51 a52 a53 a54 l1 l2 l3 l4 l5 l6 l7 l8 l9 l10 l11 l12 l13 l14 l15 l16 l17 l18 l19 l20 l21 l22 l23 l24 l25 l26 l27 l28 l29 l30 l31 l32 l33 l34 l35 l36 l37 l38 l39 l40 l41 l42 l43 l44 l45 l46 l47 l48 l49 l50 l51 l52 l53 l54 t39 t40 t41 tg_NEAR tg_CUT tg_UP E_NoStep I_NoStep E_Undone I_Undone E_Busy) : FnOk P w K mg base CX0 4 a14 l14 ["form", "words"] (spHN K C) := by
  have G_Form_sort_of : FnOk P w K mg base CX0 3 a38 l38 ["self", "word"] (spSort C) := (ok_Form_sort_of B L).mono (by decide)
  refine L.F_has_none.ok sc_has_none (fun vs H Q E h => ?_) (fun cdv A outer s H vs Q E hr h => ?_)
  · obtain ⟨x, t, sc, tl, xs, rfl, _⟩ := h
    rfl
  obtain ⟨x, t, sc, tl, xs, rfl, hF, hT, hl, q⟩ := h
  obtain ⟨dx, hx, h1, h2, h3, h4⟩ := id hF
  refine ⟨_, (pss_one (ps_ret (pe_cmpR op_in_seq pe_str (pe_lc (own := [("word", 2)]) (by rfl) sc_has_none.nd (pi_tup (pv 1)) (blkOk_by (own := [("word", 2)]) (N := ["form", "words", "word"]) (sc := defScope s_has_none) (by decide +kernel)) (fun _ _ _ _ _ => pg_name (i := 2) sc_has_none.nd rfl (Or.inl rfl)) (fun _ _ _ _ _ => pts_nil) (fun _ _ _ _ _ => (pe_meth (pv 0) L.T.cl L.M_Form_sort_of G_Form_sort_of hr L.b_Form_sort_of .nil pass0 (pa_cons (pv 2) pa_nil)))) (by rfl)))), ?_⟩
  refine ⟨_, rfl, t, rfl, ⟨_, hT⟩, fun D nD => ?_⟩
  refine lc_it (walk_tup (K := K) (a := t) (xs := xs.map V.int)) (fun i H9 => Same H H9 ∧ H9 D = some (.lst ((xs.take i).map fun v => V.str (srt sc tl (sz sc tl v))))) ⟨same_upd nD, upd_same⟩ (fun i H9 _ ⟨s9, _⟩ => Same.seqT s9 hT) ?_ ?_
  · rintro j z H9 H10 hj ⟨s9, eD3⟩ ⟨rfl, hz⟩
    obtain ⟨v, hv, rfl⟩ := at_int' hz
    refine ⟨rfl, yesT ?_⟩
    refine ⟨_, rfl, x, dx, _, rfl, s9 _ _ hx, rfl, _, rfl, x, sc, tl, v, rfl, hF.same s9, fun H11 s11 => ?_⟩
    refine ⟨_, s11 _ _ eD3, len_take _ _ _ hl, fun y u e => ?_, ?_⟩
    · rw [upd_ne (ne_of_none e nD)]
      exact s11 _ _ (s9 _ _ e)
    · rw [upd_same, snoc_take _ _ hv]
  rintro H9 ⟨s9, eD⟩
  rw [List.length_map, List.take_length] at eD
  have eD' : H9 D = some (.lst ((xs.map fun v => srt sc tl (sz sc tl v)).map V.str)) := by
    rw [eD, List.map_map]
    rfl
  refine ⟨D, _, rfl, .inl (SqL.of eD'), rfl, flat_strs _, ?_⟩
  refine q _ _ s9 ?_
  show inV (.str "none") _ = true ↔ _
  rw [in_strs, List.mem_map]
end
section
variable {P : Program} {w : World} {K : PySem.W.Frag} {mg : Str → Option Value} {base : Heap}
variable {C : Addr} {CD : Addr} {a1 a2 a3 a4 a5 a6 a7 a8 a9 a10 a11 a12 a13 a14 a15 a16 a17 a18 a19 a20 a21 a22 a23 a24 a25 a26 a27 a28 a29 a30 a31 a32 a33 a34 a35 a36 a37 a38 a39 a40 a41 a42 a43 a44 a45 a46 a47 a48 a49 a50 a51 a52 a53 a54 : Addr} {l1 l2 l3 l4 l5 l6 l7 l8 l9 l10 l11 l12 l13 l14 l15 l16 l17 l18 l19 l20 l21 l22 l23 l24 l25 l26 l27 l28 l29 l30 l31 l32 l33 l34 l35 l36 l37 l38 l39 l40 l41 l42 l43 l44 l45 l46 l47 l48 l49 l50 l51 l52 l53 l54 : FuncData} {t39 t40 t41 tg_NEAR tg_CUT tg_UP : Tok} {E_NoStep I_NoStep E_Undone I_Undone E_Busy : Addr}
def spForm : Sp := fun vs H Q _ => ∃ (b : Addr) (c : Int), vs = [.ref b] ∧ BoxAt c H b ∧ c ≤ 900000000 ∧
  ∀ (p : Addr) (sc tl : Nat) (H' : Hp), H' p = some (.tup [.int (sc : Int), .int (tl : Int)]) → 2 ≤ sc → sc ≤ 8 → 1 ≤ tl → tl ≤ 24 → BoxAt (c + 5) H' b → Keep b H H' → Q (.ref p) H'
theorem ok__law_form (B : Bl mg) (L : LL K mg C CD a1 a2 a3 a4 a5 a6 a7 a8 a9 a10 a11 a12 a13 a14 a15 a16 a17 a18 a19 a20 a21 a22 a23 a24 a25 a26 a27 a28 a29 a30 a31 a32 a33 a34 a35 a36 a37 a38 a39 a40 a41 a42 a43 a44 a45 a46 a47 a48 a49 a50 a51 a52 a53 a54 l1 l2 l3 l4 l5 l6 l7 l8 l9 l10 l11 l12 l13 l14 l15 l16 l17 l18 l19 l20 l21 l22 l23 l24 l25 l26 l27 l28 l29 l30 l31 l32 l33 l34 l35 l36 l37 l38 l39 l40 l41 l42 l43 l44 l45 l46 l47 l48 l49 l50 l51 l52 l53 l54 t39 t40 t41 tg_NEAR tg_CUT tg_UP E_NoStep I_NoStep E_Undone I_Undone E_Busy) : FnOk P w K mg base CX0 2 a26 l26 ["_law_box_here"] spForm := by
  have G__law_take : FnOk P w K mg base CX0 1 a23 l23 ["_law_box_here", "_law_size"] (spTake 1) := (ok_take L.F__law_take L.b__law_take L.m__law_take B 1).mono (by decide)
  refine L.F__law_form.ok sc__law_form (fun vs H Q E h => ?_) (fun cdv A outer s H vs Q E hr h => ?_)
  · obtain ⟨b, c, rfl, _⟩ := h
    rfl
  obtain ⟨b, c, rfl, hB, hc, q⟩ := h
  refine ⟨_, (pss_cons (ps_set (i := 1) sc__law_form.nd rfl (.inl rfl) (pe_lst (pa_cons (pe_tup (pa_cons (pe_op op_add pe_int (pe_call G__law_take hr (by rfl) L.m__law_take L.F__law_take.kp L.b__law_take .nil pass0 (pa_cons (pv 0) (pa_cons pe_int pa_nil)))) (pa_cons (pe_op op_add pe_int (pe_call G__law_take hr (by rfl) L.m__law_take L.F__law_take.kp L.b__law_take .nil pass0 (pa_cons (pv 0) (pa_cons pe_int pa_nil)))) pa_nil))) (pa_cons (pe_tup (pa_cons (pe_op op_add pe_int (pe_call G__law_take hr (by rfl) L.m__law_take L.F__law_take.kp L.b__law_take .nil pass0 (pa_cons (pv 0) (pa_cons pe_int pa_nil)))) (pa_cons (pe_op op_add pe_int (pe_call G__law_take hr (by rfl) L.m__law_take L.F__law_take.kp L.b__law_take .nil pass0 (pa_cons (pv 0) (pa_cons pe_int pa_nil)))) pa_nil))) (pa_cons (pe_tup (pa_cons pe_int (pa_cons pe_int pa_nil))) pa_nil)))))
    (pss_one (ps_ret (pe_ix ix_list (pv 1) (pe_ix ix_list (pe_lst (pa_cons pe_int (pa_cons pe_int (pa_cons pe_int (pa_cons pe_int (pa_cons pe_int (pa_cons pe_int pa_nil))))))) (pe_call G__law_take hr (by rfl) L.m__law_take L.F__law_take.kp L.b__law_take .nil pass0 (pa_cons (pv 0) (pa_cons pe_int pa_nil))) (fun _ _ => rfl)) (fun _ _ => rfl))))), ?_⟩
  refine ⟨_, rfl, b, _, _, rfl, hB, (by decide), (by decide), (by decide), (by omega), (by decide), fun r1 H1 a1 a1' B1 k1 => ?_⟩
  replace B1 := bx1 B1
  refine ⟨_, _, rfl, rfl, _, rfl, b, _, _, rfl, B1, (by decide), (by decide), (by decide), (by omega), (by decide), fun r2 H2 a2 a2' B2 k2 => ?_⟩
  replace B2 := bx1 B2
  refine ⟨_, _, rfl, rfl, (by show 2 ≤ sizeLine; decide), fun t1 n1 => ?_⟩
  have n1b : t1 ≠ b := (B2.ne n1).symm
  refine ⟨_, rfl, b, _, _, rfl, B2.same (same_upd n1), (by decide), (by decide), (by decide), (by omega), (by decide), fun r3 H3 a3 a3' B3 k3 => ?_⟩
  replace B3 := bx1 B3
  have e1 := k3 _ _ upd_same n1b
  refine ⟨_, _, rfl, rfl, _, rfl, b, _, _, rfl, B3, (by decide), (by decide), (by decide), (by omega), (by decide), fun r4 H4 a4 a4' B4 k4 => ?_⟩
  replace B4 := bx1 B4
  have e1' := k4 _ _ e1 n1b
  refine ⟨_, _, rfl, rfl, (by show 2 ≤ sizeLine; decide), fun t2 n2 => ?_⟩
  refine ⟨(by show 2 ≤ sizeLine; decide), fun t3 n3 => ?_⟩
  refine ⟨(by show 3 ≤ sizeLine; decide), fun so nso => ?_⟩
  refine ⟨_, rfl, (by show 6 ≤ sizeLine; decide), fun ix nix => ?_⟩
  have s1 := same_upd (o := .tup [.int (2 + r3), .int (1 + r4)]) n2
  have s2 := same_upd (o := .tup [.int 8, .int 23]) n3
  have s3 := same_upd (o := .lst [.ref t1, .ref t2, .ref t3]) nso
  have s4 := same_upd (o := .lst [.int 0, .int 0, .int 1, .int 1, .int 1, .int 2]) nix
  have B5 := (((B4.same s1).same s2).same s3).same s4
  have n2b : t2 ≠ b := (B4.ne n2).symm
  have n3b : t3 ≠ b := ((B4.same s1).ne n3).symm
  have nsb : so ≠ b := (((B4.same s1).same s2).ne nso).symm
  have nxb : ix ≠ b := ((((B4.same s1).same s2).same s3).ne nix).symm
  refine ⟨_, rfl, b, _, _, rfl, B5, (by decide), (by decide), (by decide), (by omega), (by decide), fun r5 H5 a5 a5' B6 k5 => ?_⟩
  replace B6 := bx1 B6
  have ex := k5 _ _ upd_same nxb
  have es := k5 _ _ (s4 _ _ upd_same) nsb
  have f1 := k5 _ _ (s4 _ _ (s3 _ _ (s2 _ _ (s1 _ _ e1')))) n1b
  have f2 := k5 _ _ (s4 _ _ (s3 _ _ (s2 _ _ upd_same))) n2b
  have f3 := k5 _ _ (s4 _ _ (s3 _ _ upd_same)) n3b
  have kk : Keep b H H5 := (((k1.trans k2).trans ((Keep.new n1).trans k3)).trans k4).trans ((Keep.ofSame (s1.trans (s2.trans (s3.trans s4)))).trans k5)
  obtain ⟨j, hj, hj3⟩ : ∃ j : Nat, atI ([.int 0, .int 0, .int 1, .int 1, .int 1, .int 2] : List V) r5 = some (.int (j : Int)) ∧ j < 3 := by
    have c3 : r5 = 0 ∨ r5 = 1 ∨ r5 = 2 ∨ r5 = 3 ∨ r5 = 4 ∨ r5 = 5 := by omega
    rcases c3 with z | z | z | z | z | z <;> subst z
    · exact ⟨0, rfl, by decide⟩
    · exact ⟨0, rfl, by decide⟩
    · exact ⟨1, rfl, by decide⟩
    · exact ⟨1, rfl, by decide⟩
    · exact ⟨1, rfl, by decide⟩
    · exact ⟨2, rfl, by decide⟩
  obtain ⟨p, sc, tl, hp, ep, b1, b2, b3, b4⟩ : ∃ (p : Addr) (sc tl : Nat), atI ([.ref t1, .ref t2, .ref t3] : List V) (j : Int) = some (.ref p) ∧ H5 p = some (.tup [.int (sc : Int), .int (tl : Int)]) ∧ 2 ≤ sc ∧ sc ≤ 8 ∧ 1 ≤ tl ∧ tl ≤ 24 := by
    match j, hj3 with
    | 0, _ => exact ⟨t1, (2 + r1).toNat, (1 + r2).toNat, rfl, by rw [Int.toNat_of_nonneg (by omega), Int.toNat_of_nonneg (by omega)]; exact f1, by omega, by omega, by omega, by omega⟩
    | 1, _ => exact ⟨t2, (2 + r3).toNat, (1 + r4).toNat, rfl, by rw [Int.toNat_of_nonneg (by omega), Int.toNat_of_nonneg (by omega)]; exact f2, by omega, by omega, by omega, by omega⟩
    | 2, _ => exact ⟨t3, 8, 23, rfl, f3, by omega, by omega, by omega, by omega⟩
  refine ⟨ix, _, _, _, rfl, rfl, SqL.of ex, hj, ?_⟩
  refine ⟨so, _, _, _, rfl, rfl, SqL.of es, hp, ?_⟩
  exact q p sc tl H5 ep b1 b2 b3 b4 (B6.mono (by omega)) kk
theorem bx2 {c : Int} {H : Hp} {b : Addr} (h : BoxAt (c + 2 ^ (2 - 1)) H b) : BoxAt (c + 2) H b := h
def spWord : Sp := fun vs H Q _ => ∃ (b : Addr) (sc tl : Nat) (c : Int), vs = [.ref b, .int (sc : Int), .int (tl : Int)] ∧ 2 ≤ sc ∧ sc ≤ 8 ∧ 1 ≤ tl ∧ tl ≤ 24 ∧ BoxAt c H b ∧ c ≤ 900000000 ∧
  ∀ (r : Int) (H' : Hp), 0 ≤ r → r < 2 ^ (1 + sc + tl) → BoxAt (c + 20) H' b → Keep b H H' → Q (.int r) H'
theorem all8 {a0 a1 a2 a3 a4 a5 a6 a7 M : Int} {j : Nat} (hj : j < 8) (h0 : a0 < M) (h1 : a1 < M) (h2 : a2 < M) (h3 : a3 < M) (h4 : a4 < M) (h5 : a5 < M) (h6 : a6 < M) (h7 : a7 < M) :
    ∃ v : Int, atI ([.int a0, .int a1, .int a2, .int a3, .int a4, .int a5, .int a6, .int a7] : List V) (j : Int) = some (.int v) ∧ v < M := by
  match j, hj with
  | 0, _ => exact ⟨a0, rfl, h0⟩
  | 1, _ => exact ⟨a1, rfl, h1⟩
  | 2, _ => exact ⟨a2, rfl, h2⟩
  | 3, _ => exact ⟨a3, rfl, h3⟩
  | 4, _ => exact ⟨a4, rfl, h4⟩
  | 5, _ => exact ⟨a5, rfl, h5⟩
  | 6, _ => exact ⟨a6, rfl, h6⟩
  | 7, _ => exact ⟨a7, rfl, h7⟩
theorem at12 {r : Int} (h0 : 0 ≤ r) (h1 : r < 12) : ∃ j : Nat, atI ([.int 0, .int 0, .int 0, .int 0, .int 1, .int 2, .int 3, .int 4, .int 5, .int 6, .int 6, .int 7] : List V) r = some (.int (j : Int)) ∧ j < 8 := by
  obtain ⟨n, rfl⟩ : ∃ n : Nat, r = (n : Int) := ⟨r.toNat, by omega⟩
  have hn : n < 12 := by omega
  match n, hn with
  | 0, _ => exact ⟨0, rfl, by decide⟩
  | 1, _ => exact ⟨0, rfl, by decide⟩
  | 2, _ => exact ⟨0, rfl, by decide⟩
  | 3, _ => exact ⟨0, rfl, by decide⟩
  | 4, _ => exact ⟨1, rfl, by decide⟩
  | 5, _ => exact ⟨2, rfl, by decide⟩
  | 6, _ => exact ⟨3, rfl, by decide⟩
  | 7, _ => exact ⟨4, rfl, by decide⟩
  | 8, _ => exact ⟨5, rfl, by decide⟩
  | 9, _ => exact ⟨6, rfl, by decide⟩
  | 10, _ => exact ⟨6, rfl, by decide⟩
  | 11, _ => exact ⟨7, rfl, by decide⟩
theorem ok__law_word (B : Bl mg) (L : LL K mg C CD a1 a2 a3 a4 a5 a6 a7 a8 a9 a10 a11 a12 a13 a14 a15 a16 a17 a18 a19 a20 a21 a22 a23 a24 a25 a26 a27 a28 a29 a30 a31 a32 a33 a34 a35 a36 a37 a38 a39 a40 a41 a42 a43 a44 a45 a46 a47 a48 a49 a50 a51 a52 a53 a54 l1 l2 l3 l4 l5 l6 l7 l8 l9 l10 l11 l12 l13 l14 l15 l16 l17 l18 l19 l20 l21 l22 l23 l24 l25 l26 l27 l28 l29 l30 l31 l32 l33 l34 l35 l36 l37 l38 l39 l40 l41 l42 l43 l44 l45 l46 l47 l48 l49 l50 l51 l52 l53 l54 t39 t40 t41 tg_NEAR tg_CUT tg_UP E_NoStep I_NoStep E_Undone I_Undone E_Busy) : FnOk P w K mg base CX0 3 a27 l27 ["_law_box_here", "_law_scale", "_law_tail"] spWord := by
  have G__law_take : FnOk P w K mg base CX0 2 a23 l23 ["_law_box_here", "_law_size"] (spTake 2) := (ok_take L.F__law_take L.b__law_take L.m__law_take B 2).mono (by decide)
  refine L.F__law_word.ok sc__law_word (fun vs H Q E h => ?_) (fun cdv A outer s H vs Q E hr h => ?_)
  · obtain ⟨b, sc, tl, c, rfl, _⟩ := h
    rfl
  obtain ⟨b, sc, tl, c, rfl, h1, h2, h3, h4, hB, hc, q⟩ := h
  refine ⟨_, (pss_cons (ps_set (i := 3) sc__law_word.nd rfl (.inl rfl) (pe_op op_add (pe_op op_mul pe_int pe_int) (pe_op op_shlN (pe_op op_sub (pe_op op_oneShl pe_int (pv 1)) pe_int) (pv 2))))
    (pss_cons (ps_set (i := 4) sc__law_word.nd rfl (.inl rfl) (pe_lst (pa_cons (pe_call G__law_take hr (by rfl) L.m__law_take L.F__law_take.kp L.b__law_take .nil pass0 (pa_cons (pv 0) (pa_cons (pv 3) pa_nil))) (pa_cons (pe_call G__law_take hr (by rfl) L.m__law_take L.F__law_take.kp L.b__law_take .nil pass0 (pa_cons (pv 0) (pa_cons pe_int pa_nil))) (pa_cons (pe_op op_add (pe_op op_sub (pe_op op_oneShl pe_int (pv 2)) pe_int) (pe_call G__law_take hr (by rfl) L.m__law_take L.F__law_take.kp L.b__law_take .nil pass0 (pa_cons (pv 0) (pa_cons pe_int pa_nil)))) (pa_cons (pe_op op_sub (pe_op op_sub (pv 3) pe_int) (pe_call G__law_take hr (by rfl) L.m__law_take L.F__law_take.kp L.b__law_take .nil pass0 (pa_cons (pv 0) (pa_cons pe_int pa_nil)))) pa_nil))))))
    (pss_cons (ps_set (i := 4) sc__law_word.nd rfl (.inl rfl) (pe_op op_cat (pv 4) (pe_lst (pa_cons (pv 3) (pa_cons (pe_op op_add (pe_op op_add (pv 3) pe_int) (pe_call G__law_take hr (by rfl) L.m__law_take L.F__law_take.kp L.b__law_take .nil pass0 (pa_cons (pv 0) (pa_cons (pe_orT (pe_op op_sub (pe_op op_oneShl pe_int (pv 2)) pe_int) (pe_one pe_int)) pa_nil)))) (pa_cons (pe_op op_shlN (pe_call G__law_take hr (by rfl) L.m__law_take L.F__law_take.kp L.b__law_take .nil pass0 (pa_cons (pv 0) (pa_cons (pe_op op_oneShl pe_int (pv 1)) pa_nil))) (pv 2)) (pa_cons pe_int pa_nil)))))))
    (pss_cons (ps_set (i := 5) sc__law_word.nd rfl (.inl rfl) (pe_ix ix_list (pe_lst (pa_cons pe_int (pa_cons pe_int (pa_cons pe_int (pa_cons pe_int (pa_cons pe_int (pa_cons pe_int (pa_cons pe_int (pa_cons pe_int (pa_cons pe_int (pa_cons pe_int (pa_cons pe_int (pa_cons pe_int pa_nil))))))))))))) (pe_call G__law_take hr (by rfl) L.m__law_take L.F__law_take.kp L.b__law_take .nil pass0 (pa_cons (pv 0) (pa_cons pe_int pa_nil))) (fun _ _ => rfl)))
    (pss_cons (ps_set (i := 6) sc__law_word.nd rfl (.inl rfl) (pe_ix ix_list (pv 4) (pv 5) (fun _ _ => rfl)))
    (pss_cons (ps_if (PW.pt (pw_and (pt_cmpR op_eq (pv 5) pe_int (nomark _)) (pw_and1 (pt_cmpR op_eq (pe_call G__law_take hr (by rfl) L.m__law_take L.F__law_take.kp L.b__law_take .nil pass0 (pa_cons (pv 0) (pa_cons pe_int pa_nil))) pe_int (nomark _))))) (pss_one (ps_set (i := 6) sc__law_word.nd rfl (.inl rfl) (pe_op op_orL (pe_op op_shlN (pe_op op_mod (pe_op op_add (pe_op op_sub (pe_op op_oneShl pe_int (pe_op op_sub (pv 1) pe_int)) pe_int) (pe_call G__law_take hr (by rfl) L.m__law_take L.F__law_take.kp L.b__law_take .nil pass0 (pa_cons (pv 0) (pa_cons pe_int pa_nil)))) (pe_op op_sub (pe_op op_oneShl pe_int (pv 1)) pe_int)) (pv 2)) (pe_op op_andM (pv 6) (pe_op op_sub (pe_op op_oneShl pe_int (pv 2)) pe_int))))) pss_nil)
    (pss_one (ps_ret (pe_op op_add (pe_op op_shlN (pe_call G__law_take hr (by rfl) L.m__law_take L.F__law_take.kp L.b__law_take .nil pass0 (pa_cons (pv 0) (pa_cons pe_int pa_nil))) (pe_op op_add (pv 1) (pv 2))) (pe_callB (call_max2 rfl) (by rfl) B.max boot_max (pa_cons pe_int (pa_cons (pv 6) pa_nil)))))))))))), ?_⟩
  have pS := GM.pow_pos' sc
  have pT := GM.pow_pos' tl
  have pS4 : (2 : Int) ^ 2 ≤ 2 ^ sc := GM.pow_le' h1
  have pS8 : (2 : Int) ^ sc ≤ 2 ^ 8 := GM.pow_le' h2
  have pT2 : (2 : Int) ^ 1 ≤ 2 ^ tl := GM.pow_le' h3
  have pT24 : (2 : Int) ^ tl ≤ 2 ^ 24 := GM.pow_le' h4
  have pST : (2 : Int) ^ (sc + tl) = 2 ^ sc * 2 ^ tl := GM.pow_add' sc tl
  have p1 : (2 : Int) ^ (1 + sc + tl) = 2 ^ (sc + tl) * 2 := by rw [← GM.pow_s]; congr 1; omega
  have p4T : 4 * 2 ^ tl ≤ (2 : Int) ^ (sc + tl) := by
    rw [pST]
    exact Int.mul_le_mul_of_nonneg_right pS4 (by omega)
  have p8T : (2 : Int) ^ (sc + tl) ≤ 256 * 2 ^ tl := by
    rw [pST]
    exact Int.mul_le_mul_of_nonneg_right pS8 (by omega)
  refine ⟨_, _, rfl, rfl, .inl ⟨by decide, by decide⟩, _, rfl, sc, rfl, rfl, by omega, _, _, rfl, rfl, _, rfl, _, tl, rfl, rfl, shl_ok (n := 9) (by omega) (by omega), _, _, rfl, rfl, ?_⟩
  refine gI (show (2 * 0 + (2 ^ sc - 1) * 2 ^ tl : Int) = (2 ^ sc - 1) * 2 ^ tl from by rw [Int.mul_zero, Int.zero_add]) ?_
  obtain ⟨TP, eT, hT⟩ : ∃ TP : Int, ((2 ^ sc - 1) * 2 ^ tl : Int) = TP ∧ TP = 2 ^ (sc + tl) - 2 ^ tl := by
    refine ⟨_, rfl, ?_⟩
    rw [pST, Int.sub_mul]
    omega
  dsimp only
  rw [eT]
  have e14 : (10000000 : Int) ^ 2 = 100000000000000 := by decide
  refine ⟨_, rfl, _, rfl, b, _, _, rfl, hB, (by omega), (by rw [e14]; omega), (by omega), (by omega), (by decide), fun r1 H1 u1 v1 B1 k1 => ?_⟩
  replace B1 := bx2 B1
  refine ⟨_, rfl, b, _, _, rfl, B1, (by decide), (by decide), (by decide), (by omega), (by decide), fun r2 H2 u2 v2 B2 k2 => ?_⟩
  replace B2 := bx2 B2
  refine ⟨_, rfl, tl, rfl, rfl, by omega, _, _, rfl, rfl, _, rfl, b, _, _, rfl, B2, (by decide), (by decide), (by decide), (by omega), (by decide), fun r3 H3 u3 v3 B3 k3 => ?_⟩
  replace B3 := bx2 B3
  refine ⟨_, _, rfl, rfl, _, rfl, _, _, rfl, rfl, _, rfl, b, _, _, rfl, B3, (by decide), (by decide), (by decide), (by omega), (by decide), fun r4 H4 u4 v4 B4 k4 => ?_⟩
  replace B4 := bx2 B4
  refine ⟨_, _, rfl, rfl, (by show 4 ≤ sizeLine; decide), fun s1 n1 => ?_⟩
  have n1b : s1 ≠ b := (B4.ne n1).symm
  have B4' := B4.same (same_upd (o := .lst [.int r1, .int r2, .int (2 ^ tl - 2 + r3), .int (TP - 1 - r4)]) n1)
  refine ⟨_, rfl, _, rfl, _, rfl, _, _, rfl, rfl, _, rfl, _, rfl, tl, rfl, rfl, by omega, _, _, rfl, rfl, true, ?_, iteT ?_⟩
  · show true = ((2 ^ tl - 1 : Int) != 0)
    rw [eq_comm, bne_iff_ne]
    omega
  refine ⟨b, _, _, rfl, B4', (by omega), (by rw [e14]; omega), (by omega), (by omega), (by decide), fun r5 H5 u5 v5 B5 k5 => ?_⟩
  replace B5 := bx2 B5
  have es5 := k5 _ _ upd_same n1b
  refine ⟨_, _, rfl, rfl, _, rfl, _, rfl, sc, rfl, rfl, by omega, b, _, _, rfl, B5, (by omega), (by rw [e14]; omega), (by omega), (by omega), (by decide), fun r6 H6 u6 v6 B6 k6 => ?_⟩
  replace B6 := bx2 B6
  have es6 := k6 _ _ es5 n1b
  refine ⟨_, rfl, _, tl, rfl, rfl, shl_ok (n := 9) (by omega) (by omega), (by show 4 ≤ sizeLine; decide), fun s2 n2 => ?_⟩
  have sm2 := same_upd (o := .lst [.int TP, .int (TP + 1 + r5), .int (r6 * 2 ^ tl), .int 0]) n2
  refine ⟨s1, s2, _, _, rfl, rfl, sm2 _ _ es6, upd_same, (by show 4 + 4 ≤ sizeLine; decide), fun s3 n3 => ?_⟩
  have sm3 := same_upd (o := .lst [.int r1, .int r2, .int (2 ^ tl - 2 + r3), .int (TP - 1 - r4), .int TP, .int (TP + 1 + r5), .int (r6 * 2 ^ tl), .int 0]) n3
  have B7 := (B6.same sm2).same sm3
  have n3b : s3 ≠ b := ((B6.same sm2).ne n3).symm
  -- way
  refine ⟨(by show 12 ≤ sizeLine; decide), fun s4 n4 => ?_⟩
  have sm4 := same_upd (o := .lst [.int 0, .int 0, .int 0, .int 0, .int 1, .int 2, .int 3, .int 4, .int 5, .int 6, .int 6, .int 7]) n4
  have n4b : s4 ≠ b := (B7.ne n4).symm
  refine ⟨_, rfl, b, _, _, rfl, B7.same sm4, (by decide), (by decide), (by decide), (by omega), (by decide), fun r7 H8 u7 v7 B8 k8 => ?_⟩
  replace B8 := bx2 B8
  obtain ⟨j, hj, hj8⟩ := at12 u7 v7
  refine ⟨s4, _, _, _, rfl, rfl, SqL.of (k8 _ _ upd_same n4b), hj, ?_⟩
  have es3 := k8 _ _ (sm4 _ _ upd_same) n3b
  have h6 : r6 * 2 ^ tl < 2 ^ (sc + tl) := by
    rw [pST]
    exact Int.mul_lt_mul_of_pos_right v6 pT
  obtain ⟨wd, hw, hwl⟩ := all8 (a0 := r1) (a1 := r2) (a2 := 2 ^ tl - 2 + r3) (a3 := TP - 1 - r4) (a4 := TP) (a5 := TP + 1 + r5) (a6 := r6 * 2 ^ tl) (a7 := 0) (M := 2 ^ (sc + tl)) hj8 (by omega) (by omega) (by omega) (by omega) (by omega) (by omega) h6 (by omega)
  refine ⟨_, rfl, _, rfl, s3, _, _, _, rfl, rfl, SqL.of es3, hw, ?_⟩
  have kk : Keep b H H8 := (((((((k1.trans k2).trans k3).trans k4).trans (Keep.new n1)).trans k5).trans k6).trans (Keep.ofSame (sm2.trans (sm3.trans sm4)))).trans k8
  have wrap : ∀ (v r : Int), v < 2 ^ (sc + tl) → 0 ≤ r → r < 2 → 0 ≤ r * 2 ^ (sc + tl) + (if v > 0 then v else 0) ∧ r * 2 ^ (sc + tl) + (if v > 0 then v else 0) < 2 ^ (1 + sc + tl) := fun v r hv r0 r1 => by
    have : r = 0 ∨ r = 1 := by omega
    rw [p1]
    rcases this with z | z <;> subst z <;> split <;> omega
  refine ⟨_, rfl, rfl, _, rfl, ite2 (fun cw => ?_) (fun cw => ?_)⟩
  · refine ⟨_, rfl, b, _, _, rfl, B8, (by decide), (by decide), (by decide), (by omega), (by decide), fun r8 H9 u8 v8 B9 k9 => ?_⟩
    replace B9 := bx2 B9
    refine ⟨rfl, _, rfl, ite2 (fun cz => ?_) (fun cz => ?_)⟩
    · -- another scale
      refine ⟨_, rfl, _, _, rfl, rfl, sc - 1, rfl, congrArg V.int (by omega), by omega, _, _, rfl, rfl, _, rfl, b, _, _, rfl, B9, (by decide), (by decide), (by decide), (by omega), (by decide), fun r9 H10 u9 v9 B10 k10 => ?_⟩
      replace B10 := bx2 B10
      refine ⟨_, _, rfl, rfl, _, rfl, sc, rfl, rfl, by omega, _, _, rfl, rfl, _, _, rfl, rfl, (by show (0 : Int) < 2 ^ sc - 1; omega), ?_⟩
      dsimp only
      obtain ⟨z, ez, z0, z1⟩ : ∃ z : Int, (2 ^ (sc - 1) - 3 + r9) % (2 ^ sc - 1) = z ∧ 0 ≤ z ∧ z < 2 ^ sc - 1 := ⟨_, rfl, Int.emod_nonneg _ (by omega), Int.emod_lt_of_pos _ (by omega)⟩
      rw [ez]
      have m0 := Int.emod_nonneg wd (show (2 : Int) ^ tl ≠ 0 by omega)
      have m1 := Int.emod_lt_of_pos wd pT
      refine ⟨_, rfl, _, tl, rfl, rfl, shl_ok (n := 9) (by omega) (by omega), _, rfl, _, rfl, tl, rfl, rfl, by omega, _, _, rfl, rfl, _, tl, rfl, rfl, z, _, tl, rfl, rfl, ⟨z0, m0, m1⟩, ?_⟩
      have hz : z * 2 ^ tl + wd % 2 ^ tl < 2 ^ (sc + tl) := by
        have : z * 2 ^ tl ≤ (2 ^ sc - 2) * 2 ^ tl := Int.mul_le_mul_of_nonneg_right (by omega) (by omega)
        rw [Int.sub_mul, ← pST] at this
        omega
      refine ⟨_, rfl, b, _, _, rfl, B10, (by decide), (by decide), (by decide), (by omega), (by decide), fun r H11 u10 v10 B11 k11 => ?_⟩
      replace B11 := bx2 B11
      refine ⟨_, rfl, _, rfl, _, _, rfl, rfl, _, sc + tl, rfl, rfl, shl_ok (n := 2) (by omega) (by omega), _, rfl, _, _, rfl, _, _, rfl, rfl, ?_⟩
      have wr := wrap _ r hz u10 v10
      exact q _ _ wr.1 wr.2 (B11.mono (by omega)) (((kk.trans k9).trans k10).trans k11)
    · refine ⟨_, rfl, b, _, _, rfl, B9, (by decide), (by decide), (by decide), (by omega), (by decide), fun r H11 u10 v10 B11 k11 => ?_⟩
      replace B11 := bx2 B11
      refine ⟨_, rfl, _, rfl, _, _, rfl, rfl, _, sc + tl, rfl, rfl, shl_ok (n := 2) (by omega) (by omega), _, rfl, _, _, rfl, _, _, rfl, rfl, ?_⟩
      have wr := wrap _ r hwl u10 v10
      exact q _ _ wr.1 wr.2 (B11.mono (by omega)) ((kk.trans k9).trans k11)
  · refine iteF ?_
    refine ⟨_, rfl, b, _, _, rfl, B8, (by decide), (by decide), (by decide), (by omega), (by decide), fun r H11 u10 v10 B11 k11 => ?_⟩
    replace B11 := bx2 B11
    refine ⟨_, rfl, _, rfl, _, _, rfl, rfl, _, sc + tl, rfl, rfl, shl_ok (n := 2) (by omega) (by omega), _, rfl, _, _, rfl, _, _, rfl, rfl, ?_⟩
    have wr := wrap _ r hwl u10 v10
    exact q _ _ wr.1 wr.2 (B11.mono (by omega)) (kk.trans k11)
end
def WL : List Str := ["near", "cut", "up", "down"]
section
variable {P : Program} {w : World} {K : PySem.W.Frag} {mg : Str → Option Value} {base : Heap}
variable {C : Addr} {CD : Addr} {a1 a2 a3 a4 a5 a6 a7 a8 a9 a10 a11 a12 a13 a14 a15 a16 a17 a18 a19 a20 a21 a22 a23 a24 a25 a26 a27 a28 a29 a30 a31 a32 a33 a34 a35 a36 a37 a38 a39 a40 a41 a42 a43 a44 a45 a46 a47 a48 a49 a50 a51 a52 a53 a54 : Addr} {l1 l2 l3 l4 l5 l6 l7 l8 l9 l10 l11 l12 l13 l14 l15 l16 l17 l18 l19 l20 l21 l22 l23 l24 l25 l26 l27 l28 l29 l30 l31 l32 l33 l34 l35 l36 l37 l38 l39 l40 l41 l42 l43 l44 l45 l46 l47 l48 l49 l50 l51 l52 l53 l54 : FuncData} {t39 t40 t41 tg_NEAR tg_CUT tg_UP : Tok} {E_NoStep I_NoStep E_Undone I_Undone E_Busy : Addr}
def UU (sc tl : Nat) : Int := (2 ^ sc - 1) * 2 ^ tl
theorem gup_zero (how : Str) (s m : Int) : GR.gup how s m 0 = false := by
  unfold GR.gup
  split
  · show (false || (false && decide (m % 2 = 1))) = false
    rfl
  · rfl
theorem wrd_U (sc tl : Nat) (s : Int) : GR.wrd sc tl s (2 ^ sc - 1) 0 = s * 2 ^ (sc + tl) + UU sc tl ∧ GR.wrd sc tl s (2 ^ sc - 1 - 1) (2 ^ tl - 1) = s * 2 ^ (sc + tl) + (UU sc tl - 1) ∧ GR.wrd sc tl s 0 0 = s * 2 ^ (sc + tl) := by
  unfold GR.wrd UU
  refine ⟨by omega, ?_, by omega⟩
  rw [Int.sub_mul (2 ^ sc - 1) 1, Int.one_mul]
  omega
end
section
variable {P : Program} {w : World} {K : PySem.W.Frag} {mg : Str → Option Value} {base : Heap}
variable {C : Addr} {CD : Addr} {a1 a2 a3 a4 a5 a6 a7 a8 a9 a10 a11 a12 a13 a14 a15 a16 a17 a18 a19 a20 a21 a22 a23 a24 a25 a26 a27 a28 a29 a30 a31 a32 a33 a34 a35 a36 a37 a38 a39 a40 a41 a42 a43 a44 a45 a46 a47 a48 a49 a50 a51 a52 a53 a54 : Addr} {l1 l2 l3 l4 l5 l6 l7 l8 l9 l10 l11 l12 l13 l14 l15 l16 l17 l18 l19 l20 l21 l22 l23 l24 l25 l26 l27 l28 l29 l30 l31 l32 l33 l34 l35 l36 l37 l38 l39 l40 l41 l42 l43 l44 l45 l46 l47 l48 l49 l50 l51 l52 l53 l54 : FuncData} {t39 t40 t41 tg_NEAR tg_CUT tg_UP : Tok} {E_NoStep I_NoStep E_Undone I_Undone E_Busy : Addr}
theorem fit_lt {x : Int} {k : Nat} (h0 : 0 ≤ x) (h : x < 2 ^ k) (hk : k ≤ 4000) : Fit x := by
  have c : ((2 ^ k : Nat) : Int) = (2 : Int) ^ k := PySem.W.kbt_cast _
  exact ⟨h0, Nat.le_trans (PyProof.Rows.intBits_le (k := k) (by omega)) hk⟩
theorem num_in {tl : Nat} {u : Int} (h : 0 ≤ u) (ht : tl ≤ 24) : 0 ≤ GM.num tl u ∧ GM.num tl u < 2 ^ 25 := by
  have hp := GM.pow_pos' tl
  have h24 : (2 : Int) ^ tl ≤ 2 ^ 24 := GM.pow_le' ht
  have l := Int.emod_lt_of_pos u hp
  have n := Int.emod_nonneg u (show (2 : Int) ^ tl ≠ 0 by omega)
  unfold GM.num
  split <;> omega
theorem ex_in {sc tl : Nat} {u : Int} (hs : sc ≤ 8) (h : u ≤ UU sc tl) : GM.ex tl u ≤ 256 := by
  have hp := GM.pow_pos' tl
  have h8 : (2 : Int) ^ sc ≤ 2 ^ 8 := GM.pow_le' hs
  have : u / 2 ^ tl ≤ 2 ^ sc - 1 := by
    have := Int.ediv_le_ediv hp h
    unfold UU at this
    rw [Int.mul_ediv_cancel _ (by omega)] at this
    exact this
  unfold GM.ex
  omega
theorem UU_pos {sc tl : Nat} (h : 2 ≤ sc) : 0 < UU sc tl ∧ 2 ^ tl ≤ UU sc tl := by
  have hp := GM.pow_pos' tl
  have h4 : (2 : Int) ^ 2 ≤ 2 ^ sc := GM.pow_le' h
  have : 1 * 2 ^ tl ≤ UU sc tl := Int.mul_le_mul_of_nonneg_right (by omega) (by omega)
  omega
end
section
variable {P : Program} {w : World} {K : PySem.W.Frag} {mg : Str → Option Value} {base : Heap}
variable {C : Addr} {CD : Addr} {a1 a2 a3 a4 a5 a6 a7 a8 a9 a10 a11 a12 a13 a14 a15 a16 a17 a18 a19 a20 a21 a22 a23 a24 a25 a26 a27 a28 a29 a30 a31 a32 a33 a34 a35 a36 a37 a38 a39 a40 a41 a42 a43 a44 a45 a46 a47 a48 a49 a50 a51 a52 a53 a54 : Addr} {l1 l2 l3 l4 l5 l6 l7 l8 l9 l10 l11 l12 l13 l14 l15 l16 l17 l18 l19 l20 l21 l22 l23 l24 l25 l26 l27 l28 l29 l30 l31 l32 l33 l34 l35 l36 l37 l38 l39 l40 l41 l42 l43 l44 l45 l46 l47 l48 l49 l50 l51 l52 l53 l54 : FuncData} {t39 t40 t41 tg_NEAR tg_CUT tg_UP : Tok} {E_NoStep I_NoStep E_Undone I_Undone E_Busy : Addr}
/-! ### quotients -/
def ab (z : Int) : Int := if z < 0 then -z else z
theorem ab_nn (n : Int) : 0 ≤ ab n := by
  unfold ab
  split <;> omega
theorem sx_01 (sc tl : Nat) (a b : Int) : sx sc tl a b = 0 ∨ sx sc tl a b = 1 := by
  unfold sx
  split <;> simp
theorem wp_in {sc tl : Nat} {v : Int} (h1 : 2 ≤ sc) (h2 : sc ≤ 8) (h4 : tl ≤ 24) (h : ¬ GM.topS sc tl ≤ sz sc tl v) : -400 ≤ wp sc tl v ∧ wp sc tl v ≤ 400 := by
  have e : GM.ex tl (sz sc tl v) ≤ 256 := ex_in (sc := sc) h2 (by show _ ≤ GM.topS sc tl; omega)
  have p8 : (2 : Int) ^ (sc - 1) ≤ 2 ^ 7 := GM.pow_le' (by omega)
  have p0 := GM.pow_pos' (sc - 1)
  unfold wp P0
  omega
def endW (sc tl : Nat) (s : Int) : Int := s * 2 ^ (sc + tl) + ((2 ^ sc - 1) * 2 ^ tl + 0)
theorem quo_ok {sc tl k : Nat} {x y p : Int} (hx : 0 < x) (hy : 0 < y) (hy2 : y < 2 ^ (tl + 1)) (hk : 2 * tl + 2 ≤ k) : 0 < x * 2 ^ k / y ∧ p < GR.lap sc tl (x * 2 ^ k / y) p := by
  have pk := GM.pow_pos' k
  have p1 := GM.pow_pos' (tl + 1)
  have l1 : (2 : Int) ^ (tl + 1) * 2 ^ (tl + 1) ≤ x * 2 ^ k := by
    rw [← GM.pow_add']
    have a : (2 : Int) ^ (tl + 1 + (tl + 1)) ≤ 2 ^ k := GM.pow_le' (by omega)
    have b : 1 * 2 ^ k ≤ x * 2 ^ k := Int.mul_le_mul_of_nonneg_right (by omega) (by omega)
    omega
  have hq : (2 : Int) ^ (tl + 1) ≤ x * 2 ^ k / y := by
    refine (Int.le_ediv_iff_mul_le hy).mpr ?_
    have : (2 : Int) ^ (tl + 1) * y ≤ 2 ^ (tl + 1) * 2 ^ (tl + 1) := Int.mul_le_mul_of_nonneg_left (by omega) (by omega)
    omega
  have h0 : 0 < x * 2 ^ k / y := by omega
  refine ⟨h0, ?_⟩
  generalize x * 2 ^ k / y = q at *
  obtain ⟨m, hm, g1, g2⟩ := GR.bl_in h0
  have hm1 : tl + 1 ≤ m := by
    rcases Nat.lt_or_ge m (tl + 1) with c | c
    · have := GM.pow_le' (show m + 1 ≤ tl + 1 by omega)
      omega
    · exact c
  unfold GR.lap
  split <;> omega
def quoR (sc tl k : Nat) (s x p y e : Int) (w : Str) : Int × List Str := GR.rnd sc tl s (x * 2 ^ k / y) (p - e - k) w (!decide (x * 2 ^ k % y = 0))
theorem quo_eq {sc tl : Nat} {s x p y e : Int} {w : Str} (j : Nat) (hx : 0 < x) (hy : 0 < y) (hy2 : y < 2 ^ (tl + 1)) : quoR sc tl (2 * tl + 2 + j) s x p y e w = quoR sc tl (2 * tl + 2) s x p y e w := by
  have pj := GM.pow_pos' j
  have pk := GM.pow_pos' (2 * tl + 2)
  have ek : (2 : Int) ^ (2 * tl + 2 + j) = 2 ^ (2 * tl + 2) * 2 ^ j := GM.pow_add' _ _
  have eq : x * 2 ^ (2 * tl + 2 + j) / y / 2 ^ j = x * 2 ^ (2 * tl + 2) / y := by
    rw [Int.ediv_ediv_of_nonneg (Int.le_of_lt hy), ek, ← Int.mul_assoc, Int.mul_ediv_mul_of_pos_left _ _ pj]
  have ok := quo_ok (sc := sc) (p := p - e - ((2 * tl + 2 : Nat) : Int)) hx hy hy2 (Nat.le_refl (2 * tl + 2))
  have ep : p - e - ((2 * tl + 2 + j : Nat) : Int) + j = p - e - ((2 * tl + 2 : Nat) : Int) := by omega
  unfold quoR
  rw [GR.rnd_cut j (by rw [eq]; exact ok.1) (by rw [eq, ep]; exact ok.2), eq, ep]
  congr 1
  rw [Bool.eq_iff_iff, Bool.or_eq_true, Bool.not_eq_true', Bool.not_eq_true', Bool.not_eq_true', decide_eq_false_iff_not, decide_eq_false_iff_not, decide_eq_false_iff_not]
  have dm1 := Int.emod_add_mul_ediv (x * 2 ^ (2 * tl + 2 + j)) y
  have key : (x * 2 ^ (2 * tl + 2 + j) / y % 2 ^ j = 0 ∧ x * 2 ^ (2 * tl + 2 + j) % y = 0) ↔ x * 2 ^ (2 * tl + 2) % y = 0 := by
    constructor
    · rintro ⟨a, b⟩
      rw [b, Int.zero_add] at dm1
      have dm2 := Int.emod_add_mul_ediv (x * 2 ^ (2 * tl + 2 + j) / y) (2 ^ j)
      rw [a, Int.zero_add, eq] at dm2
      have e3 : (y * (x * 2 ^ (2 * tl + 2) / y)) * 2 ^ j = (x * 2 ^ (2 * tl + 2)) * 2 ^ j := by
        rw [Int.mul_assoc y, Int.mul_comm _ (2 ^ j), dm2, dm1, ek, Int.mul_assoc]
      have := Int.eq_of_mul_eq_mul_right (by omega) e3
      rw [← this, Int.mul_emod_right]
    · intro a
      have dm2 := Int.emod_add_mul_ediv (x * 2 ^ (2 * tl + 2)) y
      rw [a, Int.zero_add] at dm2
      have e2 : x * 2 ^ (2 * tl + 2 + j) = y * (x * 2 ^ (2 * tl + 2) / y * 2 ^ j) := by
        rw [ek, ← Int.mul_assoc, ← Int.mul_assoc, dm2]
      refine ⟨?_, ?_⟩
      · rw [e2, Int.mul_ediv_cancel_left _ (by omega), Int.mul_emod_left]
      · rw [e2, Int.mul_emod_right]
  constructor
  · intro h z
    have := key.mpr z
    exact h.elim (fun y => y this.1) (fun y => y this.2)
  · intro h
    by_cases z : x * 2 ^ (2 * tl + 2 + j) / y % 2 ^ j = 0
    · exact .inr (fun y => h (key.mp ⟨z, y⟩))
    · exact .inl z
def divR (sc tl : Nat) (a b : Int) (way : Str) : Int × List Str :=
  if srt sc tl (sz sc tl a) = "none" ∨ srt sc tl (sz sc tl b) = "none" then (noneW sc tl, [])
  else if (srt sc tl (sz sc tl a) = "nought" ∧ srt sc tl (sz sc tl b) = "nought") ∨ (srt sc tl (sz sc tl a) = "endless" ∧ srt sc tl (sz sc tl b) = "endless") then (noneW sc tl, ["bad"])
  else if srt sc tl (sz sc tl a) = "endless" then (endW sc tl (sx sc tl a b), [])
  else if srt sc tl (sz sc tl b) = "endless" ∨ srt sc tl (sz sc tl a) = "nought" then (sx sc tl a b * 2 ^ (sc + tl), [])
  else if srt sc tl (sz sc tl b) = "nought" then (endW sc tl (sx sc tl a b), ["bynought"])
  else quoR sc tl (2 * tl + 2) (sx sc tl a b) (ab (wn sc tl a)) (wp sc tl a) (ab (wn sc tl b)) (wp sc tl b) way
theorem sz_nn (sc tl : Nat) (v : Int) : 0 ≤ sz sc tl v := Int.emod_nonneg _ (by have := GM.pow_pos' (sc + tl); omega)
theorem srt_nought (m t : Nat) (s : Int) : srt m t s = "nought" ↔ (¬ GM.topS m t ≤ s ∧ s = 0) := by
  unfold srt
  constructor
  · intro h
    by_cases c : GM.topS m t ≤ s
    · rw [if_pos c] at h
      by_cases e : s = GM.topS m t
      · rw [if_pos e] at h
        exact absurd h (by decide +kernel)
      · rw [if_neg e] at h
        exact absurd h (by decide +kernel)
    · rw [if_neg c] at h
      by_cases e : s = 0
      · exact ⟨c, e⟩
      · rw [if_neg e] at h
        by_cases e2 : s / 2 ^ t = 0
        · rw [if_pos e2] at h
          exact absurd h (by decide +kernel)
        · rw [if_neg e2] at h
          exact absurd h (by decide +kernel)
  · intro h
    rw [if_neg h.1, if_pos h.2]
theorem num_zero {tl : Nat} {u : Int} (h0 : 0 ≤ u) : 0 ≤ GM.num tl u ∧ (GM.num tl u = 0 ↔ u = 0) := by
  have hp := GM.pow_pos' tl
  have n := Int.emod_nonneg u (show (2 : Int) ^ tl ≠ 0 by omega)
  have d := Int.emod_add_mul_ediv u (2 ^ tl)
  unfold GM.num
  by_cases c : u / 2 ^ tl = 0
  · rw [if_pos c]
    rw [c, Int.mul_zero, Int.add_zero] at d
    omega
  · rw [if_neg c]
    refine ⟨by omega, fun z => by omega, fun z => ?_⟩
    rw [z] at c
    exact absurd (Int.zero_ediv _) c
theorem num_in2 {tl : Nat} {u : Int} (h0 : 0 ≤ u) : GM.num tl u < 2 ^ (tl + 1) := by
  have hp := GM.pow_pos' tl
  have p1 : (2 : Int) ^ (tl + 1) = 2 ^ tl * 2 := GM.pow_s _
  have l := Int.emod_lt_of_pos u hp
  unfold GM.num
  split <;> omega
theorem ab_wn {sc tl : Nat} {v : Int} (hn : ¬ srt sc tl (sz sc tl v) = "nought") (ht : ¬ GM.topS sc tl ≤ sz sc tl v) : 0 < ab (wn sc tl v) ∧ ab (wn sc tl v) < 2 ^ (tl + 1) := by
  have h := num_zero (tl := tl) (sz_nn sc tl v)
  have l := num_in2 (tl := tl) (sz_nn sc tl v)
  have nz : ¬ GM.num tl (sz sc tl v) = 0 := fun z => hn ((srt_nought _ _ _).mpr ⟨ht, h.2.mp z⟩)
  unfold wn ab
  split <;> split <;> omega
theorem quo_fit {x y : Int} {k : Nat} (hx : 0 < x) (hx2 : x < 2 ^ 25) (hy : 0 < y) (hk : k ≤ 100) : Fit (x * 2 ^ k / y) := by
  have pk := GM.pow_pos' k
  have a : 0 ≤ x * 2 ^ k := Int.mul_nonneg (by omega) (by omega)
  have b : x * 2 ^ k / y ≤ x * 2 ^ k := Int.ediv_le_self _ a
  have c : x * 2 ^ k < 2 ^ 25 * 2 ^ k := Int.mul_lt_mul_of_pos_right hx2 pk
  have d : (2 : Int) ^ 25 * 2 ^ k ≤ 2 ^ 125 := by
    rw [← GM.pow_add']
    exact GM.pow_le' (by omega)
  exact fit_lt (k := 125) (Int.ediv_nonneg a (by omega)) (by omega) (by decide)
def spQR (K : PySem.W.Frag) (C : Addr) : Sp := fun vs H Q _ => ∃ (x oa ob : Addr) (sc tl : Nat) (s n p m e : Int) (way : Str), vs = [.ref x, .int s, .ref oa, .ref ob, .str way] ∧ FAt C H x sc tl ∧ (s = 0 ∨ s = 1) ∧ SqT K H oa [.int n, .int p] ∧ SqT K H ob [.int m, .int e] ∧ 0 < ab n ∧ ab n < 2 ^ (tl + 1) ∧ 0 < ab m ∧ ab m < 2 ^ (tl + 1) ∧ -400 ≤ p ∧ p ≤ 400 ∧ -400 ≤ e ∧ e ≤ 400 ∧
  ∀ t H', Same H H' → PairAt H' t (quoR sc tl (2 * tl + 2) s (ab n) p (ab m) e way) → Q (.ref t) H'
theorem ok_quotient_rounded (B : Bl mg) (L : LL K mg C CD a1 a2 a3 a4 a5 a6 a7 a8 a9 a10 a11 a12 a13 a14 a15 a16 a17 a18 a19 a20 a21 a22 a23 a24 a25 a26 a27 a28 a29 a30 a31 a32 a33 a34 a35 a36 a37 a38 a39 a40 a41 a42 a43 a44 a45 a46 a47 a48 a49 a50 a51 a52 a53 a54 l1 l2 l3 l4 l5 l6 l7 l8 l9 l10 l11 l12 l13 l14 l15 l16 l17 l18 l19 l20 l21 l22 l23 l24 l25 l26 l27 l28 l29 l30 l31 l32 l33 l34 l35 l36 l37 l38 l39 l40 l41 l42 l43 l44 l45 l46 l47 l48 l49 l50 l51 l52 l53 l54 t39 t40 t41 tg_NEAR tg_CUT tg_UP E_NoStep I_NoStep E_Undone I_Undone E_Busy) : FnOk P w K mg base CX0 6 a18 l18 ["form", "sign", "one", "other", "way"] (spQR K C) := by
  have G_rounded : FnOk P w K mg base CX0 5 a7 l7 ["form", "sign", "number", "power", "way", "more"] (spRnd C) := (ok_rounded B L).mono (by decide)
  refine L.F_quotient_rounded.ok sc_quotient_rounded (fun vs H Q E h => ?_) (fun cdv A outer s H vs Q E hr h => ?_)
  · obtain ⟨x, oa, ob, sc, tl, s, n, p, m, e, way, rfl, _⟩ := h
    rfl
  obtain ⟨x, oa, ob, sc, tl, s, n, p, m, e, way, rfl, hF, hs, hA, hB, n0, n1, m0, m1, p1, p2, e1, e2, q⟩ := h
  obtain ⟨dx, hx, h1, h2, h3, h4⟩ := id hF
  refine ⟨_, (pss_cons (ps_asg (pv 2) (pg_tup (by rfl) (pgs_cons (pg_name (i := 5) sc_quotient_rounded.nd rfl (.inl rfl)) (pgs_cons (pg_name (i := 6) sc_quotient_rounded.nd rfl (.inl rfl)) pgs_nil))))
    (pss_cons (ps_asg (pv 3) (pg_tup (by rfl) (pgs_cons (pg_name (i := 7) sc_quotient_rounded.nd rfl (.inl rfl)) (pgs_cons (pg_name (i := 8) sc_quotient_rounded.nd rfl (.inl rfl)) pgs_nil))))
    (pss_cons (ps_set (i := 9) sc_quotient_rounded.nd rfl (.inl rfl) (pe_op op_add (pe_op op_mul pe_int (pe_fld (pv 0) rfl)) pe_int))
    (pss_cons (ps_asg (pe_callB call_divmodW (by rfl) B.divmod boot_divmod (pa_cons (pe_op op_shlN (pe_callB call_abs (by rfl) B.abs boot_abs (pa_cons (pv 5) pa_nil)) (pv 9)) (pa_cons (pe_callB call_abs (by rfl) B.abs boot_abs (pa_cons (pv 7) pa_nil)) pa_nil))) (pg_tup (by rfl) (pgs_cons (pg_name (i := 10) sc_quotient_rounded.nd rfl (.inl rfl)) (pgs_cons (pg_name (i := 11) sc_quotient_rounded.nd rfl (.inl rfl)) pgs_nil))))
    (pss_one (ps_ret (pe_callN G_rounded hr (by rfl) L.m_rounded L.F_rounded.kp (L.kb_rounded_way_more).choose_spec pass0 (pa_cons (pv 0) (pa_cons (pv 1) (pa_cons (pv 10) (pa_cons (pe_op op_sub (pe_op op_sub (pv 6) (pv 8)) (pv 9)) pa_nil)))) (pk_cons (pv 4) (pk_cons (pe_cmpR op_ne (pv 11) pe_int (nomark _)) pk_nil))))))))), ?_⟩
  have p25 : (2 : Int) ^ (tl + 1) ≤ 2 ^ 25 := GM.pow_le' (by omega)
  refine ⟨_, rfl, oa, _, rfl, hA, rfl, _, _, rfl, _, _, rfl, rfl, ?_⟩
  refine ⟨_, rfl, ob, _, rfl, hB, rfl, _, _, rfl, _, _, rfl, rfl, ?_⟩
  refine ⟨_, rfl, x, C, dx, _, _, rfl, hx, L.T.cl, L.T.nt, fl_t _ _, _, _, rfl, rfl, .inl ⟨by decide, by decide⟩, _, _, rfl, rfl, ?_⟩
  have pk := GM.pow_pos' (2 * tl + 2)
  have pb : ab n * 2 ^ (2 * tl + 2) < 2 ^ 25 * 2 ^ (2 * tl + 2) := Int.mul_lt_mul_of_pos_right (by omega) pk
  refine ⟨_, rfl, n, rfl, _, rfl, _, 2 * tl + 2, rfl, congrArg V.int (by omega), shl_ok (n := 25) (by show (ab n).natAbs < _; omega) (by omega), _, rfl, m, rfl, _, _, rfl, divp_small m0 (by show ab m < 2 ^ 250; omega), fun P np => ?_⟩
  have sP := same_upd (o := .tup [.int (ab n * 2 ^ (2 * tl + 2) / ab m), .int (ab n * 2 ^ (2 * tl + 2) % ab m)]) np
  refine ⟨P, _, rfl, .inl (.inl upd_same), rfl, _, _, rfl, _, _, rfl, rfl, ?_⟩
  have F1 := hF.same sP
  refine ⟨_, rfl, _, rfl, _, rfl, _, rfl, _, rfl, _, _, rfl, rfl, _, rfl, _, _, rfl, rfl, _, rfl, _, rfl, rfl, rfl, rfl, ?_⟩
  have ok := quo_ok (sc := sc) (p := p - e - (2 * (tl : Int) + 2)) n0 m0 m1 (Nat.le_refl (2 * tl + 2))
  refine ⟨x, sc, tl, s, _, _, way, _, rfl, F1, hs, quo_fit (x := ab n) (y := ab m) n0 (by omega) m0 (by omega), by omega, by omega, fun _ => ⟨by have := ok.1; show ¬ ab n * 2 ^ (2 * tl + 2) / ab m = 0; omega, ok.2⟩, fun t3 H4 nt3 s4 P3 => ?_⟩
  refine q t3 _ (sP.trans s4) ?_
  unfold quoR
  rw [dvi] at P3
  rw [show p - e - ((2 * tl + 2 : Nat) : Int) = p - e - (2 * (tl : Int) + 2) by omega]
  exact P3
def spDiv (C : Addr) : Sp := fun vs H Q _ => ∃ (x : Addr) (sc tl : Nat) (a b : Int) (way : Str), vs = [.ref x, .int a, .int b, .str way] ∧ FAt C H x sc tl ∧
  ∀ t H', Same H H' → PairAt H' t (divR sc tl a b way) → Q (.ref t) H'
theorem srt_dif (sc tl : Nat) (s : Int) : ¬ (srt sc tl s = "endless" ∧ srt sc tl s = "nought") := fun h => by
  rw [h.1] at h
  exact absurd h.2 (by decide +kernel)
theorem ok_divided (B : Bl mg) (L : LL K mg C CD a1 a2 a3 a4 a5 a6 a7 a8 a9 a10 a11 a12 a13 a14 a15 a16 a17 a18 a19 a20 a21 a22 a23 a24 a25 a26 a27 a28 a29 a30 a31 a32 a33 a34 a35 a36 a37 a38 a39 a40 a41 a42 a43 a44 a45 a46 a47 a48 a49 a50 a51 a52 a53 a54 l1 l2 l3 l4 l5 l6 l7 l8 l9 l10 l11 l12 l13 l14 l15 l16 l17 l18 l19 l20 l21 l22 l23 l24 l25 l26 l27 l28 l29 l30 l31 l32 l33 l34 l35 l36 l37 l38 l39 l40 l41 l42 l43 l44 l45 l46 l47 l48 l49 l50 l51 l52 l53 l54 t39 t40 t41 tg_NEAR tg_CUT tg_UP E_NoStep I_NoStep E_Undone I_Undone E_Busy) : FnOk P w K mg base CX0 7 a13 l13 ["form", "a", "b", "way"] (spDiv C) := by
  have G_has_none : FnOk P w K mg base CX0 6 a14 l14 ["form", "words"] (spHN K C) := (ok_has_none B L).mono (by decide)
  have G_Form_none_word : FnOk P w K mg base CX0 6 a42 l42 ["self"] (spNamed0 C) := (ok_Form_none_word B L).mono (by decide)
  have G_Form_sort_of : FnOk P w K mg base CX0 6 a38 l38 ["self", "word"] (spSort C) := (ok_Form_sort_of B L).mono (by decide)
  have G_unlike_sign : FnOk P w K mg base CX0 6 a17 l17 ["form", "a", "b"] (spUnl C) := (ok_unlike_sign B L).mono (by decide)
  have G_bad : FnOk P w K mg base CX0 6 a15 l15 ["form"] (spBad C) := (ok_bad B L).mono (by decide)
  have G_Form_endless : FnOk P w K mg base CX0 6 a40 l40 ["self", "sign"] (spNm C mEn mNo) := (ok_Form_endless B L).mono (by decide)
  have G_Form_nought : FnOk P w K mg base CX0 6 a39 l39 ["self", "sign"] (spNm C mNo mNo) := (ok_Form_nought B L).mono (by decide)
  have G_Form_worth : FnOk P w K mg base CX0 6 a43 l43 ["self", "word"] (spWorth C) := (ok_Form_worth B L).mono (by decide)
  have G_quotient_rounded : FnOk P w K mg base CX0 6 a18 l18 ["form", "sign", "one", "other", "way"] (spQR K C) := (ok_quotient_rounded B L).mono (by decide)
  refine L.F_divided.ok sc_divided (fun vs H Q E h => ?_) (fun cdv A outer s H vs Q E hr h => ?_)
  · obtain ⟨x, sc, tl, a, b, way, rfl, _⟩ := h
    rfl
  obtain ⟨x, sc, tl, a, b, way, rfl, hF, q⟩ := h
  obtain ⟨dx, hx, h1, h2, h3, h4⟩ := id hF
  refine ⟨_, (pss_cons (ps_if (pt_val (pe_call G_has_none hr (by rfl) L.m_has_none L.F_has_none.kp L.b_has_none .nil pass0 (pa_cons (pv 0) (pa_cons (pe_tup (pa_cons (pv 1) (pa_cons (pv 2) pa_nil))) pa_nil)))) (pss_one (ps_ret (pe_tup (pa_cons (pe_meth0 (pv 0) L.T.cl L.M_Form_none_word G_Form_none_word hr L.b_Form_none_word .nil pass0) (pa_cons (pe_tup pa_nil) pa_nil))))) pss_nil)
    (pss_cons (ps_set (i := 4) sc_divided.nd rfl (.inl rfl) (pe_meth (pv 0) L.T.cl L.M_Form_sort_of G_Form_sort_of hr L.b_Form_sort_of .nil pass0 (pa_cons (pv 1) pa_nil)))
    (pss_cons (ps_set (i := 5) sc_divided.nd rfl (.inl rfl) (pe_meth (pv 0) L.T.cl L.M_Form_sort_of G_Form_sort_of hr L.b_Form_sort_of .nil pass0 (pa_cons (pv 2) pa_nil)))
    (pss_cons (ps_set (i := 6) sc_divided.nd rfl (.inl rfl) (pe_call G_unlike_sign hr (by rfl) L.m_unlike_sign L.F_unlike_sign.kp L.b_unlike_sign .nil pass0 (pa_cons (pv 0) (pa_cons (pv 1) (pa_cons (pv 2) pa_nil)))))
    (pss_cons (ps_if (PW.pt (pw_and (pt_cmpR op_eq (pv 4) (pv 5) (nomark _)) (pw_and1 (pt_cmpR op_in_seq (pv 4) (pe_tup (pa_cons pe_str (pa_cons pe_str pa_nil))) (by rfl))))) (pss_one (ps_ret (pe_call G_bad hr (by rfl) L.m_bad L.F_bad.kp L.b_bad .nil pass0 (pa_cons (pv 0) pa_nil)))) pss_nil)
    (pss_cons (ps_if (pt_cmpR op_eq (pv 4) pe_str (nomark _)) (pss_one (ps_ret (pe_tup (pa_cons (pe_meth (pv 0) L.T.cl L.M_Form_endless G_Form_endless hr L.b_Form_endless .nil pass0 (pa_cons (pv 6) pa_nil)) (pa_cons (pe_tup pa_nil) pa_nil))))) pss_nil)
    (pss_cons (ps_if (PW.pt (pw_or (pt_cmpR op_eq (pv 5) pe_str (nomark _)) (pw_or1 (pt_cmpR op_eq (pv 4) pe_str (nomark _))))) (pss_one (ps_ret (pe_tup (pa_cons (pe_meth (pv 0) L.T.cl L.M_Form_nought G_Form_nought hr L.b_Form_nought .nil pass0 (pa_cons (pv 6) pa_nil)) (pa_cons (pe_tup pa_nil) pa_nil))))) pss_nil)
    (pss_cons (ps_if (pt_cmpR op_eq (pv 5) pe_str (nomark _)) (pss_one (ps_ret (pe_tup (pa_cons (pe_meth (pv 0) L.T.cl L.M_Form_endless G_Form_endless hr L.b_Form_endless .nil pass0 (pa_cons (pv 6) pa_nil)) (pa_cons (pe_tup (pa_cons pe_str pa_nil)) pa_nil))))) pss_nil)
    (pss_one (ps_ret (pe_call G_quotient_rounded hr (by rfl) L.m_quotient_rounded L.F_quotient_rounded.kp L.b_quotient_rounded .nil pass0 (pa_cons (pv 0) (pa_cons (pv 6) (pa_cons (pe_meth (pv 0) L.T.cl L.M_Form_worth G_Form_worth hr L.b_Form_worth .nil pass0 (pa_cons (pv 1) pa_nil)) (pa_cons (pe_meth (pv 0) L.T.cl L.M_Form_worth G_Form_worth hr L.b_Form_worth .nil pass0 (pa_cons (pv 2) pa_nil)) (pa_cons (pv 3) pa_nil)))))))))))))))), ?_⟩
  refine ⟨_, rfl, _, rfl, _, rfl, (by show 2 ≤ sizeLine; decide), fun t nt => ?_⟩
  have st := same_upd (o := .tup [.int a, .int b]) nt
  refine ⟨x, t, sc, tl, [a, b], rfl, hF.same st, .inl (.inl upd_same), Nat.le_of_ble_eq_true rfl, fun r H1 s1 hr1 => ?_⟩
  have w1 := st.trans s1
  have e1 : r = true ↔ (srt sc tl (sz sc tl a) = "none" ∨ srt sc tl (sz sc tl b) = "none") := by
    rw [hr1]
    simp
  unfold divR at q
  refine ⟨_, rfl, ite2 (fun c => ?_) (fun c => ?_)⟩
  · refine ⟨_, rfl, x, dx, _, rfl, w1 _ _ hx, rfl, x, sc, tl, rfl, hF.same w1, Nat.zero_le _, fun e ne => ⟨(by show 2 ≤ sizeLine; decide), fun u nu => ?_⟩⟩
    have se := same_upd (o := .tup []) ne
    rw [show (0 * 2 ^ (sc + tl) + ((2 ^ sc - 1) * 2 ^ tl + 2 ^ (tl - 1)) : Int) = noneW sc tl by unfold noneW; omega]
    rw [if_pos (e1.mp c)] at q
    exact q u _ ((w1.trans se).trans (same_upd nu)) ⟨e, upd_same, same_upd nu _ _ upd_same⟩
  have n1 := fun z => c (e1.mpr z)
  rw [if_neg n1] at q
  refine ⟨_, rfl, x, dx, _, rfl, w1 _ _ hx, rfl, _, rfl, x, sc, tl, a, rfl, hF.same w1, fun H2 s2 => ?_⟩
  have w2 := w1.trans s2
  refine ⟨_, rfl, x, dx, _, rfl, w2 _ _ hx, rfl, _, rfl, x, sc, tl, b, rfl, hF.same w2, fun H3 s3 => ?_⟩
  have w3 := w2.trans s3
  refine ⟨_, rfl, _, rfl, _, rfl, x, sc, tl, a, b, rfl, hF.same w3, fun H4 s4 => ?_⟩
  have w4 := w3.trans s4
  have tpa := srt_top sc tl (sz sc tl a)
  have tpb := srt_top sc tl (sz sc tl b)
  have wnA := fun hn ht => ab_wn (sc := sc) (tl := tl) (v := a) hn ht
  have wnB := fun hn ht => ab_wn (sc := sc) (tl := tl) (v := b) hn ht
  have s01 := sx_01 sc tl a b
  have sd := srt_dif sc tl (sz sc tl a)
  try dsimp only [tNext, tSeq, gName]
  refine ifS_ev (fun r H' => (r = true ↔ ((srt sc tl (sz sc tl a) = "nought" ∧ srt sc tl (sz sc tl b) = "nought") ∨ (srt sc tl (sz sc tl a) = "endless" ∧ srt sc tl (sz sc tl b) = "endless"))) ∧ Same H4 H') (fun Q' q' => ?_) (fun HX hX => ?_) (fun HX hX => ?_)
  · refine ⟨_, rfl, _, rfl, rfl, _, rfl, ite2 (fun ca => ?_) (fun ca => ?_)⟩
    · have ca1 : srt sc tl (sz sc tl a) = srt sc tl (sz sc tl b) := V.str.inj (of_decide_eq_true ca)
      refine ⟨_, rfl, (by show 2 ≤ sizeLine; decide), fun U nU => ?_⟩
      refine ⟨U, _, rfl, .inr (.inl (.inl upd_same)), rfl, rfl, _, rfl, q' _ _ ⟨?_, same_upd nU⟩⟩
      show inV (.str (srt sc tl (sz sc tl a))) [.str "nought", .str "endless"] = true ↔ _
      rw [in_two, decide_eq_true_iff, ← ca1]
      exact ⟨fun z => z.imp (fun y => ⟨y.symm, y.symm⟩) (fun y => ⟨y.symm, y.symm⟩), fun z => z.imp (fun y => y.1.symm) (fun y => y.1.symm)⟩
    · have ca1 : ¬ srt sc tl (sz sc tl a) = srt sc tl (sz sc tl b) := fun z => ca (decide_eq_true (congrArg V.str z))
      exact q' _ _ ⟨⟨fun z => Bool.noConfusion z, fun z => absurd (z.elim (fun y => y.1.trans y.2.symm) (fun y => y.1.trans y.2.symm)) ca1⟩, Same.refl _⟩
  · have w5 := w4.trans hX.2
    refine ⟨_, rfl, x, sc, tl, rfl, hF.same w5, fun u H6 nu s6 pu => ?_⟩
    rw [if_pos (hX.1.mp rfl)] at q
    exact q u _ (w5.trans s6) pu
  have w5 := w4.trans hX.2
  rw [if_neg (mt hX.1.mpr (by decide))] at q
  have F5 := hF.same w5
  refine ⟨_, rfl, rfl, _, rfl, ite2 (fun ca => ?_) (fun ca => ?_)⟩
  · rw [if_pos (V.str.inj (of_decide_eq_true ca))] at q
    refine ⟨_, rfl, x, dx, _, rfl, w5 _ _ hx, rfl, _, rfl, x, sc, tl, _, rfl, F5, s01, Nat.zero_le _, fun e ne => ⟨(by show 2 ≤ sizeLine; decide), fun u nu => ?_⟩⟩
    exact q u _ ((w5.trans (same_upd ne)).trans (same_upd nu)) ⟨e, upd_same, same_upd nu _ _ upd_same⟩
  have ca1 : ¬ srt sc tl (sz sc tl a) = "endless" := fun z => ca (decide_eq_true (congrArg V.str z))
  rw [if_neg ca1] at q
  have noughtGo : (srt sc tl (sz sc tl b) = "endless" ∨ srt sc tl (sz sc tl a) = "nought") → ∀ e, HX e = none → ∀ u, (upd HX e (.tup [])) u = none → Q (.ref u) (upd (upd HX e (.tup [])) u (.tup [.int (sx sc tl a b * 2 ^ (sc + tl) + (0 * 2 ^ tl + 0)), .ref e])) := fun hc e ne u nu => by
    rw [if_pos hc] at q
    refine q u _ ((w5.trans (same_upd ne)).trans (same_upd nu)) ⟨e, ?_, same_upd nu _ _ upd_same⟩
    rw [upd_same, Int.zero_mul, Int.add_zero, Int.add_zero]
  refine ⟨_, rfl, rfl, _, rfl, ite2 (fun cb => ?_) (fun cb => ?_)⟩
  · have cb1 := V.str.inj (of_decide_eq_true cb)
    refine iteT ?_
    refine ⟨_, rfl, x, dx, _, rfl, w5 _ _ hx, rfl, _, rfl, x, sc, tl, _, rfl, F5, s01, Nat.zero_le _, fun e ne => ⟨(by show 2 ≤ sizeLine; decide), fun u nu => ?_⟩⟩
    exact noughtGo (.inl cb1) e ne u nu
  have cb1 : ¬ srt sc tl (sz sc tl b) = "endless" := fun z => cb (decide_eq_true (congrArg V.str z))
  refine ⟨_, rfl, rfl, _, rfl, ite2 (fun cc => ?_) (fun cc => ?_)⟩
  · have cc1 := V.str.inj (of_decide_eq_true cc)
    refine ⟨_, rfl, x, dx, _, rfl, w5 _ _ hx, rfl, _, rfl, x, sc, tl, _, rfl, F5, s01, Nat.zero_le _, fun e ne => ⟨(by show 2 ≤ sizeLine; decide), fun u nu => ?_⟩⟩
    exact noughtGo (.inr cc1) e ne u nu
  have cc1 : ¬ srt sc tl (sz sc tl a) = "nought" := fun z => cc (decide_eq_true (congrArg V.str z))
  rw [if_neg (fun z => z.elim cb1 cc1)] at q
  refine ⟨_, rfl, rfl, _, rfl, ite2 (fun cd => ?_) (fun cd => ?_)⟩
  · rw [if_pos (V.str.inj (of_decide_eq_true cd))] at q
    refine ⟨_, rfl, x, dx, _, rfl, w5 _ _ hx, rfl, _, rfl, x, sc, tl, _, rfl, F5, s01, (by show 1 ≤ sizeLine; decide), fun e ne => ⟨(by show 2 ≤ sizeLine; decide), fun u nu => ?_⟩⟩
    exact q u _ ((w5.trans (same_upd ne)).trans (same_upd nu)) ⟨e, upd_same, same_upd nu _ _ upd_same⟩
  have cd1 : ¬ srt sc tl (sz sc tl b) = "nought" := fun z => cd (decide_eq_true (congrArg V.str z))
  rw [if_neg cd1] at q
  have na : ¬ GM.topS sc tl ≤ sz sc tl a := fun z => (tpa.mpr z).elim ca1 (fun z => n1 (.inl z))
  have nb : ¬ GM.topS sc tl ≤ sz sc tl b := fun z => (tpb.mpr z).elim cb1 (fun z => n1 (.inr z))
  have ia := wp_in h1 h2 h4 na
  have ib := wp_in h1 h2 h4 nb
  refine ⟨_, rfl, _, rfl, _, rfl, x, dx, _, rfl, w5 _ _ hx, rfl, _, rfl, x, sc, tl, a, rfl, F5, fun H6 s6 z => absurd z na, fun H6 pa s6 _ ea => ?_⟩
  have w6 := w5.trans s6
  refine ⟨_, rfl, x, dx, _, rfl, w6 _ _ hx, rfl, _, rfl, x, sc, tl, b, rfl, hF.same w6, fun H7 s7 z => absurd z nb, fun H7 pb s7 _ eb => ?_⟩
  have w7 := w6.trans s7
  refine ⟨_, rfl, x, pa, pb, sc, tl, _, _, _, _, _, way, rfl, hF.same w7, s01, .inl (.inl (s7 _ _ ea)), .inl (.inl eb), (wnA cc1 na).1, (wnA cc1 na).2, (wnB cd1 nb).1, (wnB cd1 nb).2, ia.1, ia.2, ib.1, ib.2, fun t3 H8 s8 P3 => ?_⟩
  exact q t3 _ (w7.trans s8) P3
end
section
variable {P : Program} {w : World} {K : PySem.W.Frag} {mg : Str → Option Value} {base : Heap}
variable {C : Addr} {CD : Addr} {a1 a2 a3 a4 a5 a6 a7 a8 a9 a10 a11 a12 a13 a14 a15 a16 a17 a18 a19 a20 a21 a22 a23 a24 a25 a26 a27 a28 a29 a30 a31 a32 a33 a34 a35 a36 a37 a38 a39 a40 a41 a42 a43 a44 a45 a46 a47 a48 a49 a50 a51 a52 a53 a54 : Addr} {l1 l2 l3 l4 l5 l6 l7 l8 l9 l10 l11 l12 l13 l14 l15 l16 l17 l18 l19 l20 l21 l22 l23 l24 l25 l26 l27 l28 l29 l30 l31 l32 l33 l34 l35 l36 l37 l38 l39 l40 l41 l42 l43 l44 l45 l46 l47 l48 l49 l50 l51 l52 l53 l54 : FuncData} {t39 t40 t41 tg_NEAR tg_CUT tg_UP : Tok} {E_NoStep I_NoStep E_Undone I_Undone E_Busy : Addr}
theorem dp_pair {H : Hp} {p : Addr} {r : Int × List Str} (h : PairAt H p r) : Dp K H (.ref p) (.tuple [.int r.1, .tuple (r.2.map PyData.str)]) := by
  obtain ⟨f, e1, e2⟩ := h
  refine .tup (.inl (.inl e1)) (.cons (.int _) (.cons (.tup (.inl (.inl e2)) ?_) .nil))
  generalize r.2 = l
  induction l with
  | nil => exact .nil
  | cons x l ih => exact .cons (.str x) ih
theorem lv_pair (r : Int × List Str) (h : r.2.length ≤ 1000) : Lv 2 (.tuple [.int r.1, .tuple (r.2.map PyData.str)]) := by
  refine ⟨by show 2 ≤ 1000000; decide, fun d hd => ?_⟩
  rcases List.mem_cons.mp hd with e | hd
  · rw [e]
    trivial
  · rcases List.mem_cons.mp hd with e | hd
    · rw [e]
      refine ⟨by rw [List.length_map]; omega, fun d hd => ?_⟩
      obtain ⟨x, _, rfl⟩ := List.mem_map.mp hd
      trivial
    · exact nomatch hd
theorem lv_pair3 (r : Int × List Str) (h : r.2.length ≤ 1000) : Lv 3 (.tuple [.int r.1, .tuple (r.2.map PyData.str)]) := by
  refine ⟨by show 2 ≤ 1000000; decide, fun d hd => ?_⟩
  rcases List.mem_cons.mp hd with e | hd
  · rw [e]
    trivial
  · rcases List.mem_cons.mp hd with e | hd
    · rw [e]
      refine ⟨by rw [List.length_map]; omega, fun d hd => ?_⟩
      obtain ⟨x, _, rfl⟩ := List.mem_map.mp hd
      trivial
    · exact nomatch hd
theorem ab_num (sc tl : Nat) (v : Int) : ab (wn sc tl v) = GM.num tl (sz sc tl v) := by
  have h := (num_zero (tl := tl) (sz_nn sc tl v)).1
  unfold wn ab
  split <;> split <;> omega
/-! ### steps of odd words -/
def hdv (sc tl : Nat) (v : Int) : Bool := decide (("small" : Str) = srt sc tl (sz sc tl v) ∨ ("plain" : Str) = srt sc tl (sz sc tl v))
def spHH (K : PySem.W.Frag) (C : Addr) : Sp := fun vs H Q _ => ∃ (x t : Addr) (sc tl : Nat) (xs : List Int), vs = [.ref x, .ref t] ∧ FAt C H x sc tl ∧ SqT K H t (xs.map V.int) ∧ xs.length ≤ 900 ∧ ∀ H', Same H H' → Q (.bl (xs.all (hdv sc tl))) H'
theorem ok_have_heads (B : Bl mg) (L : LL K mg C CD a1 a2 a3 a4 a5 a6 a7 a8 a9 a10 a11 a12 a13 a14 a15 a16 a17 a18 a19 a20 a21 a22 a23 a24 a25 a26 a27 a28 a29 a30 a31 a32 a33 a34 a35 a36 a37 a38 a39 a40 a41 a42 a43 a44 a45 a46 a47 a48 a49 a50 a51 a52 a53 a54 l1 l2 l3 l4 l5 l6 l7 l8 l9 l10 l11 l12 l13 l14 l15 l16 l17 l18 l19 l20 l21 l22 l23 l24 l25 l26 l27 l28 l29 l30 l31 l32 l33 l34 l35 l36 l37 l38 l39 l40 l41 l42 l43 l44 l45 l46 l47 l48 l49 l50 l51 l52 l53 l54 t39 t40 t41 tg_NEAR tg_CUT tg_UP E_NoStep I_NoStep E_Undone I_Undone E_Busy) : FnOk P w K mg base CX0 4 a19 l19 ["form", "words"] (spHH K C) := by
  have G_Form_sort_of : FnOk P w K mg base CX0 3 a38 l38 ["self", "word"] (spSort C) := (ok_Form_sort_of B L).mono (by decide)
  refine L.F_have_heads.ok sc_have_heads (fun vs H Q E h => ?_) (fun cdv A outer s H vs Q E hr h => ?_)
  · obtain ⟨x, t, sc, tl, xs, rfl, _⟩ := h
    rfl
  obtain ⟨x, t, sc, tl, xs, rfl, hF, hT, hl, q⟩ := h
  obtain ⟨dx, hx, h1, h2, h3, h4⟩ := id hF
  refine ⟨_, (pss_one (ps_ret (pe_callB (cr_all rfl) (by rfl) B.all boot_all (pa_cons (pe_lc (own := [("word", 2)]) (by rfl) sc_have_heads.nd (pi_tup (pv 1)) (blkOk_by (own := [("word", 2)]) (N := ["form", "words", "word"]) (sc := defScope s_have_heads) (by decide +kernel)) (fun _ _ _ _ _ => pg_name (i := 2) sc_have_heads.nd rfl (Or.inl rfl)) (fun _ _ _ _ _ => pts_nil) (fun _ _ _ _ _ => (pe_cmpR (op_in_seqK (K := K)) (pe_meth (pv 0) L.T.cl L.M_Form_sort_of G_Form_sort_of hr L.b_Form_sort_of .nil pass0 (pa_cons (pv 2) pa_nil)) (pe_tup (pa_cons pe_str (pa_cons pe_str pa_nil))) (by rfl)))) pa_nil)))), ?_⟩
  refine ⟨_, rfl, t, rfl, ⟨_, hT⟩, fun D nD => ?_⟩
  refine lc_it (walk_tup (K := K) (a := t) (xs := xs.map V.int)) (fun i H9 => Same H H9 ∧ H9 D = some (.lst ((xs.take i).map fun v => V.bl (hdv sc tl v)))) ⟨same_upd nD, upd_same⟩ (fun i H9 _ ⟨s9, _⟩ => Same.seqT s9 hT) ?_ ?_
  · rintro j z H9 H10 hj ⟨s9, eD3⟩ ⟨rfl, hz⟩
    obtain ⟨v, hv, rfl⟩ := at_int' hz
    refine ⟨rfl, yesT ?_⟩
    refine ⟨_, rfl, x, dx, _, rfl, s9 _ _ hx, rfl, _, rfl, x, sc, tl, v, rfl, hF.same s9, fun H11 s11 => ?_⟩
    refine ⟨(by show 2 ≤ sizeLine; decide), fun U nU => ?_⟩
    have sU := same_upd (o := .tup [.str "small", .str "plain"]) nU
    have eD11 := sU _ _ (s11 _ _ eD3)
    refine ⟨U, _, rfl, .inr (.inl (.inl upd_same)), rfl, rfl, ?_⟩
    refine ⟨_, eD11, len_take _ _ _ hl, fun y u e => ?_, ?_⟩
    · rw [upd_ne (ne_of_none e nD)]
      exact sU _ _ (s11 _ _ (s9 _ _ e))
    · rw [upd_same, snoc_take _ _ hv]
      have : inV (.str (srt sc tl (sz sc tl v))) [.str "small", .str "plain"] = hdv sc tl v := in_two _ _ _
      show some (HO.lst (_ ++ [V.bl (inV (.str (srt sc tl (sz sc tl v))) [.str "small", .str "plain"])])) = _
      rw [this]
  rintro H9 ⟨s9, eD⟩
  rw [List.length_map, List.take_length] at eD
  have eD' : H9 D = some (.lst ((xs.map (hdv sc tl)).map V.bl)) := by
    rw [eD, List.map_map]
    rfl
  refine ⟨D, _, rfl, .inl (.inl eD'), ?_⟩
  have q' := q _ s9
  rw [show xs.all (hdv sc tl) = (xs.map (hdv sc tl)).all id by rw [List.all_map]; rfl] at q'
  exact q'
theorem hdv_real {sc tl : Nat} {v : Int} (h : hdv sc tl v = true) : ¬ GM.topS sc tl ≤ sz sc tl v ∧ ¬ sz sc tl v = 0 := by
  unfold hdv at h
  have h := of_decide_eq_true h
  refine ⟨fun z => ?_, fun z => ?_⟩
  · rcases (srt_top sc tl (sz sc tl v)).mpr z with y | y <;> rw [y] at h <;> exact absurd h (by decide +kernel)
  · by_cases c : GM.topS sc tl ≤ sz sc tl v
    · rcases (srt_top sc tl (sz sc tl v)).mpr c with y | y <;> rw [y] at h <;> exact absurd h (by decide +kernel)
    · rw [(srt_nought sc tl _).mpr ⟨c, z⟩] at h
      exact absurd h (by decide +kernel)
def spHO (C : Addr) : Sp := fun vs H Q _ => ∃ (x : Addr) (sc tl : Nat) (v : Int), vs = [.ref x, .int v] ∧ FAt C H x sc tl ∧ ¬ GM.topS sc tl ≤ sz sc tl v ∧
  ∀ t H', H t = none → Same H H' → H' t = some (.tup [.int (GM.num tl (sz sc tl v)), .int (wp sc tl v)]) → Q (.ref t) H'
theorem ok_head_of (B : Bl mg) (L : LL K mg C CD a1 a2 a3 a4 a5 a6 a7 a8 a9 a10 a11 a12 a13 a14 a15 a16 a17 a18 a19 a20 a21 a22 a23 a24 a25 a26 a27 a28 a29 a30 a31 a32 a33 a34 a35 a36 a37 a38 a39 a40 a41 a42 a43 a44 a45 a46 a47 a48 a49 a50 a51 a52 a53 a54 l1 l2 l3 l4 l5 l6 l7 l8 l9 l10 l11 l12 l13 l14 l15 l16 l17 l18 l19 l20 l21 l22 l23 l24 l25 l26 l27 l28 l29 l30 l31 l32 l33 l34 l35 l36 l37 l38 l39 l40 l41 l42 l43 l44 l45 l46 l47 l48 l49 l50 l51 l52 l53 l54 t39 t40 t41 tg_NEAR tg_CUT tg_UP E_NoStep I_NoStep E_Undone I_Undone E_Busy) : FnOk P w K mg base CX0 4 a20 l20 ["form", "word"] (spHO C) := by
  have G_Form_worth : FnOk P w K mg base CX0 3 a43 l43 ["self", "word"] (spWorth C) := (ok_Form_worth B L).mono (by decide)
  refine L.F_head_of.ok sc_head_of (fun vs H Q E h => ?_) (fun cdv A outer s H vs Q E hr h => ?_)
  · obtain ⟨x, sc, tl, v, rfl, _⟩ := h
    rfl
  obtain ⟨x, sc, tl, v, rfl, hF, nt, q⟩ := h
  obtain ⟨dx, hx, h1, h2, h3, h4⟩ := id hF
  refine ⟨_, (pss_cons (ps_asg (pe_meth (pv 0) L.T.cl L.M_Form_worth G_Form_worth hr L.b_Form_worth .nil pass0 (pa_cons (pv 1) pa_nil)) (pg_tup (by rfl) (pgs_cons (pg_name (i := 2) sc_head_of.nd rfl (.inl rfl)) (pgs_cons (pg_name (i := 3) sc_head_of.nd rfl (.inl rfl)) pgs_nil))))
    (pss_one (ps_ret (pe_tup (pa_cons (pe_callB call_abs (by rfl) B.abs boot_abs (pa_cons (pv 2) pa_nil)) (pa_cons (pv 3) pa_nil)))))), ?_⟩
  refine ⟨_, rfl, x, dx, _, rfl, hx, rfl, _, rfl, x, sc, tl, v, rfl, hF, fun H1 s1 ca => absurd ca nt, fun H1 p s1 ca ep => ?_⟩
  refine ⟨p, _, rfl, .inl (.inl ep), rfl, _, _, rfl, _, _, rfl, rfl, ?_⟩
  refine ⟨_, rfl, _, rfl, _, rfl, (by show 2 ≤ sizeLine; decide), fun t nt => ?_⟩
  refine q t _ (s1.free nt) (s1.trans (same_upd nt)) ?_
  rw [upd_same, ← ab_num]
  rfl
end
section
variable {P : Program} {w : World} {K : PySem.W.Frag} {mg : Str → Option Value} {base : Heap}
variable {C : Addr} {CD : Addr} {a1 a2 a3 a4 a5 a6 a7 a8 a9 a10 a11 a12 a13 a14 a15 a16 a17 a18 a19 a20 a21 a22 a23 a24 a25 a26 a27 a28 a29 a30 a31 a32 a33 a34 a35 a36 a37 a38 a39 a40 a41 a42 a43 a44 a45 a46 a47 a48 a49 a50 a51 a52 a53 a54 : Addr} {l1 l2 l3 l4 l5 l6 l7 l8 l9 l10 l11 l12 l13 l14 l15 l16 l17 l18 l19 l20 l21 l22 l23 l24 l25 l26 l27 l28 l29 l30 l31 l32 l33 l34 l35 l36 l37 l38 l39 l40 l41 l42 l43 l44 l45 l46 l47 l48 l49 l50 l51 l52 l53 l54 : FuncData} {t39 t40 t41 tg_NEAR tg_CUT tg_UP : Tok} {E_NoStep I_NoStep E_Undone I_Undone E_Busy : Addr}
/-! ### full heads -/
def hk (tl : Nat) (n : Int) : Nat := tl + 1 - Builtin.Int.intBits n
def fhN (sc tl : Nat) (v : Int) : Int := GM.num tl (sz sc tl v) * 2 ^ hk tl (GM.num tl (sz sc tl v))
def fhP (sc tl : Nat) (v : Int) : Int := wp sc tl v - (hk tl (GM.num tl (sz sc tl v)) : Nat)
theorem num_lt42 {tl : Nat} {u : Int} (h : 0 ≤ u) : GM.num tl u < 2 * 2 ^ tl := by
  have hp := GM.pow_pos' tl
  have l := Int.emod_lt_of_pos u hp
  unfold GM.num
  split <;> omega
theorem bits_in42 {sc tl : Nat} (v : Int) : Builtin.Int.intBits (GM.num tl (sz sc tl v)) ≤ tl + 1 := by
  have h0 := (num_zero (tl := tl) (sz_nn sc tl v)).1
  have h1 := num_lt42 (tl := tl) (sz_nn sc tl v)
  refine PyProof.Rows.intBits_le ?_
  have e : ((2 ^ (tl + 1) : Nat) : Int) = (2 : Int) ^ (tl + 1) := PySem.W.kbt_cast _
  have e2 : (2 : Int) ^ (tl + 1) = 2 ^ tl * 2 := GM.pow_s tl
  omega
def spFH (C : Addr) : Sp := fun vs H Q _ => ∃ (x : Addr) (sc tl : Nat) (v : Int), vs = [.ref x, .int v] ∧ FAt C H x sc tl ∧ ¬ GM.topS sc tl ≤ sz sc tl v ∧
  ∀ t H', Same H H' → H' t = some (.tup [.int (fhN sc tl v), .int (fhP sc tl v)]) → Q (.ref t) H'
theorem ok_full_head (B : Bl mg) (L : LL K mg C CD a1 a2 a3 a4 a5 a6 a7 a8 a9 a10 a11 a12 a13 a14 a15 a16 a17 a18 a19 a20 a21 a22 a23 a24 a25 a26 a27 a28 a29 a30 a31 a32 a33 a34 a35 a36 a37 a38 a39 a40 a41 a42 a43 a44 a45 a46 a47 a48 a49 a50 a51 a52 a53 a54 l1 l2 l3 l4 l5 l6 l7 l8 l9 l10 l11 l12 l13 l14 l15 l16 l17 l18 l19 l20 l21 l22 l23 l24 l25 l26 l27 l28 l29 l30 l31 l32 l33 l34 l35 l36 l37 l38 l39 l40 l41 l42 l43 l44 l45 l46 l47 l48 l49 l50 l51 l52 l53 l54 t39 t40 t41 tg_NEAR tg_CUT tg_UP E_NoStep I_NoStep E_Undone I_Undone E_Busy) : FnOk P w K mg base CX0 5 a21 l21 ["form", "word"] (spFH C) := by
  have G_head_of : FnOk P w K mg base CX0 4 a20 l20 ["form", "word"] (spHO C) := (ok_head_of B L).mono (by decide)
  refine L.F_full_head.ok sc_full_head (fun vs H Q E h => ?_) (fun cdv A outer s H vs Q E hr h => ?_)
  · obtain ⟨x, sc, tl, v, rfl, _⟩ := h
    rfl
  obtain ⟨x, sc, tl, v, rfl, hF, nt, q⟩ := h
  refine ⟨_, (pss_cons (ps_asg (pe_call G_head_of hr (by rfl) L.m_head_of L.F_head_of.kp L.b_head_of .nil pass0 (pa_cons (pv 0) (pa_cons (pv 1) pa_nil))) (pg_tup (by rfl) (pgs_cons (pg_name (i := 2) sc_full_head.nd rfl (.inl rfl)) (pgs_cons (pg_name (i := 3) sc_full_head.nd rfl (.inl rfl)) pgs_nil))))
    (pss_cons (ps_set (i := 4) sc_full_head.nd rfl (.inl rfl) (pe_op op_sub (pe_op op_add (pe_fld (pv 0) rfl) pe_int) (pe_bits (pv 2))))
    (pss_one (ps_ret (pe_tup (pa_cons (pe_op op_shlN (pv 2) (pv 4)) (pa_cons (pe_op op_sub (pv 3) (pv 4)) pa_nil))))))), ?_⟩
  refine ⟨_, rfl, _, rfl, x, sc, tl, v, rfl, hF, nt, fun t H1 n1 s1 e1 => ?_⟩
  refine ⟨t, _, rfl, .inl (.inl e1), rfl, _, _, rfl, _, _, rfl, rfl, ?_⟩
  obtain ⟨dx, hx, h1, h2, h3, h4⟩ := id (hF.same s1)
  have hb := bits_in42 (sc := sc) (tl := tl) v
  have h0 := (num_zero (tl := tl) (sz_nn sc tl v)).1
  have h5 := num_lt42 (tl := tl) (sz_nn sc tl v)
  have p24 : (2 : Int) ^ tl ≤ 2 ^ 24 := GM.pow_le' h4
  try simp only [L2.start, List.map_cons, List.map_nil, List.length_cons, List.length_nil, List.replicate_succ, List.replicate_zero, List.cons_append, List.nil_append, List.set_cons_succ, List.set_cons_zero, Nat.reduceAdd, Nat.reduceSub, Nat.zero_add]
  refine ⟨_, rfl, x, C, dx, _, _, rfl, hx, L.T.cl, L.T.nt, fl_t _ _, _, _, rfl, rfl, _, rfl, GM.num tl (sz sc tl v), rfl, _, _, rfl, rfl, ?_⟩
  refine gI (show _ = ((hk tl (GM.num tl (sz sc tl v)) : Nat) : Int) from ?_) ?_
  · unfold hk
    omega
  try simp only [L2.start, List.map_cons, List.map_nil, List.length_cons, List.length_nil, List.replicate_succ, List.replicate_zero, List.cons_append, List.nil_append, List.set_cons_succ, List.set_cons_zero, Nat.reduceAdd, Nat.reduceSub, Nat.zero_add]
  refine ⟨_, rfl, _, rfl, _, hk tl (GM.num tl (sz sc tl v)), rfl, rfl, shl_ok (n := 26) (by omega) (by unfold hk; omega), _, rfl, _, rfl, _, _, rfl, rfl, (by show 2 ≤ sizeLine; decide), fun t2 nt2 => ?_⟩
  exact q t2 _ (s1.trans (same_upd nt2)) upd_same
/-! ### worth_of -/
def wof (ds : List Int) : Int := ds.foldl (fun w d => 2 * w + d) 0
def spWof (K : PySem.W.Frag) : Sp := fun vs H Q _ => ∃ (a : Addr) (ds : List Int), vs = [.ref a] ∧ SqL K H a (ds.map V.int) ∧ Q (.int (wof ds)) H
theorem wof_snoc {ds : List Int} {i : Nat} {d : Int} (h : ds[i]? = some d) : wof (ds.take (i + 1)) = 2 * wof (ds.take i) + d := by
  unfold wof
  rw [List.take_add_one, h, List.foldl_append]
  rfl
theorem ok_worth_of (B : Bl mg) (L : LL K mg C CD a1 a2 a3 a4 a5 a6 a7 a8 a9 a10 a11 a12 a13 a14 a15 a16 a17 a18 a19 a20 a21 a22 a23 a24 a25 a26 a27 a28 a29 a30 a31 a32 a33 a34 a35 a36 a37 a38 a39 a40 a41 a42 a43 a44 a45 a46 a47 a48 a49 a50 a51 a52 a53 a54 l1 l2 l3 l4 l5 l6 l7 l8 l9 l10 l11 l12 l13 l14 l15 l16 l17 l18 l19 l20 l21 l22 l23 l24 l25 l26 l27 l28 l29 l30 l31 l32 l33 l34 l35 l36 l37 l38 l39 l40 l41 l42 l43 l44 l45 l46 l47 l48 l49 l50 l51 l52 l53 l54 t39 t40 t41 tg_NEAR tg_CUT tg_UP E_NoStep I_NoStep E_Undone I_Undone E_Busy) : FnOk P w K mg base CX0 1 a1 l1 ["digits"] (spWof K) := by
  refine L.F_worth_of.ok sc_worth_of (fun vs H Q E h => ?_) (fun cdv A outer s H vs Q E hr h => ?_)
  · obtain ⟨a, ds, rfl, _⟩ := h
    rfl
  obtain ⟨a, ds, rfl, hS, q⟩ := h
  refine ⟨_, (pss_cons (ps_set (i := 1) sc_worth_of.nd rfl (.inl rfl) pe_int)
    (pss_cons (ps_for PassesOwn.never rfl (pi_list (pv 0)) (pg_name (i := 2) sc_worth_of.nd rfl (.inl rfl)) (pss_one (ps_set (i := 1) sc_worth_of.nd rfl (.inl rfl) (pe_op op_add (pe_op op_mul pe_int (pv 1)) (pv 2)))))
    (pss_one (ps_ret (pv 1))))), ?_⟩
  refine ⟨_, rfl, a, rfl, ⟨_, hS⟩, for_list (K := K) (a := a) (xs := ds.map V.int) (fun i σ H3 => ∃ y2 : Option V, σ = [some (.ref a), some (.int (wof (ds.take i))), y2] ∧ H3 = H) ⟨none, rfl, rfl⟩ (fun i σ H3 _ ⟨_, _, e⟩ => by rw [e]; exact hS) ?_ ?_⟩
  · rintro i x σ H3 hx ⟨y2, rfl, rfl⟩
    obtain ⟨z, ez, rfl⟩ := at_int' hx
    refine ⟨_, rfl, _, _, rfl, rfl, .inl ⟨by decide, by decide⟩, _, rfl, _, _, rfl, rfl, some (.int z), ?_, rfl⟩
    rw [wof_snoc ez]
    rfl
  · rintro σ H3 ⟨y2, rfl, rfl⟩
    rw [List.length_map, List.take_length]
    exact ⟨_, rfl, q⟩
/-! ### a division under way -/
def DvF (f : Addr) (a b : Int) (way : Str) (sg : Bool) (l : Addr) (due : Int) (ov bb : V) (pw : Int) : List (Str × V) := [("form", .ref f), ("one", .int a), ("two", .int b), ("way", .str way), ("signed", .bl sg), ("told", .ref l), ("due", .int due), ("over", ov), ("by", bb), ("power", .int pw)]
structure DvAt (C CD : Addr) (H : Hp) (x f l : Addr) (sc tl : Nat) (a b : Int) (way : Str) (sg : Bool) (ds : List Int) (due : Int) (ov bb : V) (pw : Int) : Prop where
  row : ∃ dx, H x = some (.ins CD dx (DvF f a b way sg l due ov bb pw))
  fa : FAt C H f sc tl
  el : H l = some (.lst (ds.map V.int))
def dgt (sg : Bool) (tl : Nat) (y rest : Int) : Int := if sg = true then (if 2 ^ tl ≤ rest then 1 else if rest < -(2 ^ tl) then -1 else 0) else (if y ≤ rest then 1 else 0)
def spDig (C CD : Addr) : Sp := fun vs H Q _ => ∃ (x f l : Addr) (sc tl : Nat) (a b : Int) (way : Str) (sg : Bool) (ds : List Int) (due : Int) (ov : V) (y pw r : Int), vs = [.ref x, .int r] ∧ DvAt C CD H x f l sc tl a b way sg ds due ov (.int y) pw ∧ Q (.int (dgt sg tl y r)) H
theorem ok_Divider_digit_by (B : Bl mg) (L : LL K mg C CD a1 a2 a3 a4 a5 a6 a7 a8 a9 a10 a11 a12 a13 a14 a15 a16 a17 a18 a19 a20 a21 a22 a23 a24 a25 a26 a27 a28 a29 a30 a31 a32 a33 a34 a35 a36 a37 a38 a39 a40 a41 a42 a43 a44 a45 a46 a47 a48 a49 a50 a51 a52 a53 a54 l1 l2 l3 l4 l5 l6 l7 l8 l9 l10 l11 l12 l13 l14 l15 l16 l17 l18 l19 l20 l21 l22 l23 l24 l25 l26 l27 l28 l29 l30 l31 l32 l33 l34 l35 l36 l37 l38 l39 l40 l41 l42 l43 l44 l45 l46 l47 l48 l49 l50 l51 l52 l53 l54 t39 t40 t41 tg_NEAR tg_CUT tg_UP E_NoStep I_NoStep E_Undone I_Undone E_Busy) : FnOk P w K mg base CX0 1 a47 l47 ["self", "rest"] (spDig C CD) := by
  refine L.F_Divider_digit_by.ok sc_Divider_digit_by (fun vs H Q E h => ?_) (fun cdv A outer s H vs Q E hr h => ?_)
  · obtain ⟨x, f, l, sc, tl, a, b, way, sg, ds, due, ov, y, pw, r, rfl, _⟩ := h
    rfl
  obtain ⟨x, f, l, sc, tl, a, b, way, sg, ds, due, ov, y, pw, r, rfl, ⟨⟨dx, hx⟩, ⟨df, hf, h1, h2, h3, h4⟩, el⟩, q⟩ := h
  refine ⟨_, (pss_cons (ps_if (pt_not (pt_val (pe_fld (pv 0) rfl))) (pss_one (ps_ret (pe_ifExp (pt_cmpR op_ge (pv 1) (pe_fld (pv 0) rfl) (nomark _)) pe_int pe_int))) pss_nil)
    (pss_cons (ps_set (i := 2) sc_Divider_digit_by.nd rfl (.inl rfl) (pe_op op_oneShl pe_int (pe_fld (pe_fld (pv 0) rfl) rfl)))
    (pss_cons (ps_if (pt_cmpR op_ge (pv 1) (pv 2) (nomark _)) (pss_one (ps_ret pe_int)) pss_nil)
    (pss_one (ps_ret (pe_ifExp (pt_cmpR op_lt (pv 1) (pe_un un_neg (pv 2)) (nomark _)) (pe_un un_neg pe_int) pe_int)))))), ?_⟩
  unfold dgt at q
  refine ⟨_, rfl, x, CD, dx, _, _, rfl, hx, L.T2.cl, L.T2.n_signed, rfl, ?_⟩
  cases sg with
  | false =>
    refine ⟨_, rfl, iteT ?_⟩
    rw [if_neg (by decide)] at q
    refine ⟨_, rfl, _, rfl, x, CD, dx, _, _, rfl, hx, L.T2.cl, L.T2.n_by, rfl, _, _, rfl, rfl, _, rfl, ite2 (fun c => ?_) (fun c => ?_)⟩
    · rw [if_pos (of_decide_eq_true c)] at q
      exact q
    · rw [if_neg (of_decide_eq_false (Bool.eq_false_iff.mpr c))] at q
      exact q
  | true =>
    refine ⟨_, rfl, iteF ?_⟩
    rw [if_pos rfl] at q
    refine ⟨_, rfl, x, CD, dx, _, _, rfl, hx, L.T2.cl, L.T2.n_form, rfl, f, C, df, _, _, rfl, hf, L.T.cl, L.T.nt, fl_t _ _, tl, rfl, rfl, by omega, ?_⟩
    try simp only [L2.start, List.map_cons, List.map_nil, List.length_cons, List.length_nil, List.replicate_succ, List.replicate_zero, List.cons_append, List.nil_append, List.set_cons_succ, List.set_cons_zero, Nat.reduceAdd, Nat.reduceSub, Nat.zero_add]
    refine ⟨_, rfl, _, rfl, _, _, rfl, rfl, _, rfl, ite2 (fun c => ?_) (fun c => ?_)⟩
    · rw [if_pos (of_decide_eq_true c)] at q
      exact q
    rw [if_neg (of_decide_eq_false (Bool.eq_false_iff.mpr c))] at q
    refine ⟨_, rfl, _, rfl, _, rfl, _, _, rfl, rfl, _, rfl, ite2 (fun c => ?_) (fun c => ?_)⟩
    · rw [if_pos (of_decide_eq_true c)] at q
      exact ⟨_, rfl, q⟩
    · rw [if_neg (of_decide_eq_false (Bool.eq_false_iff.mpr c))] at q
      exact q
/-! ### what is told of it -/
def spLeft (C CD : Addr) : Sp := fun vs H Q _ => ∃ (x f l : Addr) (sc tl : Nat) (a b : Int) (way : Str) (sg : Bool) (ds : List Int) (due : Int) (ov bb : V) (pw : Int), vs = [.ref x] ∧ DvAt C CD H x f l sc tl a b way sg ds due ov bb pw ∧ Q (.int (due - (ds.length : Nat))) H
theorem ok_Divider_left (B : Bl mg) (L : LL K mg C CD a1 a2 a3 a4 a5 a6 a7 a8 a9 a10 a11 a12 a13 a14 a15 a16 a17 a18 a19 a20 a21 a22 a23 a24 a25 a26 a27 a28 a29 a30 a31 a32 a33 a34 a35 a36 a37 a38 a39 a40 a41 a42 a43 a44 a45 a46 a47 a48 a49 a50 a51 a52 a53 a54 l1 l2 l3 l4 l5 l6 l7 l8 l9 l10 l11 l12 l13 l14 l15 l16 l17 l18 l19 l20 l21 l22 l23 l24 l25 l26 l27 l28 l29 l30 l31 l32 l33 l34 l35 l36 l37 l38 l39 l40 l41 l42 l43 l44 l45 l46 l47 l48 l49 l50 l51 l52 l53 l54 t39 t40 t41 tg_NEAR tg_CUT tg_UP E_NoStep I_NoStep E_Undone I_Undone E_Busy) : FnOk P w K mg base CX0 1 a52 l52 ["self"] (spLeft C CD) := by
  refine L.F_Divider_left.ok sc_Divider_left (fun vs H Q E h => ?_) (fun cdv A outer s H vs Q E hr h => ?_)
  · obtain ⟨x, f, l, sc, tl, a, b, way, sg, ds, due, ov, bb, pw, rfl, _⟩ := h
    rfl
  obtain ⟨x, f, l, sc, tl, a, b, way, sg, ds, due, ov, bb, pw, rfl, ⟨⟨dx, hx⟩, hF, el⟩, q⟩ := h
  refine ⟨_, (pss_one (ps_ret (pe_op op_sub (pe_fld (pv 0) rfl) (pe_callB call_len_seq (by rfl) B.len PySem.boot_len (pa_cons (pe_fld (pv 0) rfl) pa_nil))))), ?_⟩
  refine ⟨_, rfl, x, CD, dx, _, _, rfl, hx, L.T2.cl, L.T2.n_due, rfl, _, rfl, x, CD, dx, _, _, rfl, hx, L.T2.cl, L.T2.n_told, rfl, l, _, rfl, .inl (SqL.of el), _, _, rfl, rfl, ?_⟩
  rw [List.length_map]
  exact q
def spDigs (C CD : Addr) : Sp := fun vs H Q _ => ∃ (x f l : Addr) (sc tl : Nat) (a b : Int) (way : Str) (sg : Bool) (ds : List Int) (due : Int) (ov bb : V) (pw : Int), vs = [.ref x] ∧ DvAt C CD H x f l sc tl a b way sg ds due ov bb pw ∧ ds.length ≤ 900 ∧ ∀ p H', H p = none → Same H H' → H' p = some (.lst (ds.map V.int)) → Q (.ref p) H'
theorem ok_Divider_digits (B : Bl mg) (L : LL K mg C CD a1 a2 a3 a4 a5 a6 a7 a8 a9 a10 a11 a12 a13 a14 a15 a16 a17 a18 a19 a20 a21 a22 a23 a24 a25 a26 a27 a28 a29 a30 a31 a32 a33 a34 a35 a36 a37 a38 a39 a40 a41 a42 a43 a44 a45 a46 a47 a48 a49 a50 a51 a52 a53 a54 l1 l2 l3 l4 l5 l6 l7 l8 l9 l10 l11 l12 l13 l14 l15 l16 l17 l18 l19 l20 l21 l22 l23 l24 l25 l26 l27 l28 l29 l30 l31 l32 l33 l34 l35 l36 l37 l38 l39 l40 l41 l42 l43 l44 l45 l46 l47 l48 l49 l50 l51 l52 l53 l54 t39 t40 t41 tg_NEAR tg_CUT tg_UP E_NoStep I_NoStep E_Undone I_Undone E_Busy) : FnOk P w K mg base CX0 1 a48 l48 ["self"] (spDigs C CD) := by
  refine L.F_Divider_digits.ok sc_Divider_digits (fun vs H Q E h => ?_) (fun cdv A outer s H vs Q E hr h => ?_)
  · obtain ⟨x, f, l, sc, tl, a, b, way, sg, ds, due, ov, bb, pw, rfl, _⟩ := h
    rfl
  obtain ⟨x, f, l, sc, tl, a, b, way, sg, ds, due, ov, bb, pw, rfl, ⟨⟨dx, hx⟩, hF, el⟩, hl, q⟩ := h
  refine ⟨_, (pss_one (ps_ret (pe_callTy call_list_of (by rfl) B.list PyProof.Rows.boot_list (pa_cons (pe_fld (pv 0) rfl) pa_nil)))), ?_⟩
  refine ⟨_, rfl, x, CD, dx, _, _, rfl, hx, L.T2.cl, L.T2.n_told, rfl, l, _, rfl, .inl (SqL.of el), fun p np => q p _ np (same_upd np) upd_same⟩
def spQuot (C CD : Addr) : Sp := fun vs H Q _ => ∃ (x f l : Addr) (sc tl : Nat) (a b : Int) (way : Str) (sg : Bool) (ds : List Int) (due : Int) (ov bb : V) (pw : Int), vs = [.ref x] ∧ DvAt C CD H x f l sc tl a b way sg ds due ov bb pw ∧ Q (.int (wof ds)) H
theorem ok_Divider_quotient (B : Bl mg) (L : LL K mg C CD a1 a2 a3 a4 a5 a6 a7 a8 a9 a10 a11 a12 a13 a14 a15 a16 a17 a18 a19 a20 a21 a22 a23 a24 a25 a26 a27 a28 a29 a30 a31 a32 a33 a34 a35 a36 a37 a38 a39 a40 a41 a42 a43 a44 a45 a46 a47 a48 a49 a50 a51 a52 a53 a54 l1 l2 l3 l4 l5 l6 l7 l8 l9 l10 l11 l12 l13 l14 l15 l16 l17 l18 l19 l20 l21 l22 l23 l24 l25 l26 l27 l28 l29 l30 l31 l32 l33 l34 l35 l36 l37 l38 l39 l40 l41 l42 l43 l44 l45 l46 l47 l48 l49 l50 l51 l52 l53 l54 t39 t40 t41 tg_NEAR tg_CUT tg_UP E_NoStep I_NoStep E_Undone I_Undone E_Busy) : FnOk P w K mg base CX0 2 a49 l49 ["self"] (spQuot C CD) := by
  have G_worth_of : FnOk P w K mg base CX0 1 a1 l1 ["digits"] (spWof K) := (ok_worth_of B L).mono (by decide)
  refine L.F_Divider_quotient.ok sc_Divider_quotient (fun vs H Q E h => ?_) (fun cdv A outer s H vs Q E hr h => ?_)
  · obtain ⟨x, f, l, sc, tl, a, b, way, sg, ds, due, ov, bb, pw, rfl, _⟩ := h
    rfl
  obtain ⟨x, f, l, sc, tl, a, b, way, sg, ds, due, ov, bb, pw, rfl, ⟨⟨dx, hx⟩, hF, el⟩, q⟩ := h
  refine ⟨_, (pss_one (ps_ret (pe_call G_worth_of hr (by rfl) L.m_worth_of L.F_worth_of.kp L.b_worth_of .nil pass0 (pa_cons (pe_fld (pv 0) rfl) pa_nil)))), ?_⟩
  exact ⟨_, rfl, x, CD, dx, _, _, rfl, hx, L.T2.cl, L.T2.n_told, rfl, l, ds, rfl, SqL.of el, q⟩
def spRest (C CD : Addr) : Sp := fun vs H Q _ => ∃ (x f l : Addr) (sc tl : Nat) (a b : Int) (way : Str) (sg : Bool) (ds : List Int) (due : Int) (ov bb : V) (pw : Int), vs = [.ref x] ∧ DvAt C CD H x f l sc tl a b way sg ds due ov bb pw ∧ Q ov H
theorem ok_Divider_rest (B : Bl mg) (L : LL K mg C CD a1 a2 a3 a4 a5 a6 a7 a8 a9 a10 a11 a12 a13 a14 a15 a16 a17 a18 a19 a20 a21 a22 a23 a24 a25 a26 a27 a28 a29 a30 a31 a32 a33 a34 a35 a36 a37 a38 a39 a40 a41 a42 a43 a44 a45 a46 a47 a48 a49 a50 a51 a52 a53 a54 l1 l2 l3 l4 l5 l6 l7 l8 l9 l10 l11 l12 l13 l14 l15 l16 l17 l18 l19 l20 l21 l22 l23 l24 l25 l26 l27 l28 l29 l30 l31 l32 l33 l34 l35 l36 l37 l38 l39 l40 l41 l42 l43 l44 l45 l46 l47 l48 l49 l50 l51 l52 l53 l54 t39 t40 t41 tg_NEAR tg_CUT tg_UP E_NoStep I_NoStep E_Undone I_Undone E_Busy) : FnOk P w K mg base CX0 1 a50 l50 ["self"] (spRest C CD) := by
  refine L.F_Divider_rest.ok sc_Divider_rest (fun vs H Q E h => ?_) (fun cdv A outer s H vs Q E hr h => ?_)
  · obtain ⟨x, f, l, sc, tl, a, b, way, sg, ds, due, ov, bb, pw, rfl, _⟩ := h
    rfl
  obtain ⟨x, f, l, sc, tl, a, b, way, sg, ds, due, ov, bb, pw, rfl, ⟨⟨dx, hx⟩, hF, el⟩, q⟩ := h
  refine ⟨_, (pss_one (ps_ret (pe_fld (pv 0) rfl))), ?_⟩
  exact ⟨_, rfl, x, CD, dx, _, _, rfl, hx, L.T2.cl, L.T2.n_over, rfl, q⟩
/-! ### one step -/
def Kx (x l : Addr) (H H' : Hp) : Prop := ∀ p u, H p = some u → p ≠ x → p ≠ l → H' p = some u
def rst (ds : List Int) (o : Int) : Int := if ds = [] then o else 2 * o
theorem DvAt.nfx {C CD : Addr} {H : Hp} {x f l : Addr} {sc tl : Nat} {a b : Int} {way : Str} {sg : Bool} {ds : List Int} {due : Int} {ov bb : V} {pw : Int} (h : DvAt C CD H x f l sc tl a b way sg ds due ov bb pw) : f ≠ x ∧ f ≠ l ∧ l ≠ x := by
  obtain ⟨⟨dx, hx⟩, ⟨df, hf, _⟩, el⟩ := h
  refine ⟨fun z => ?_, fun z => ?_, fun z => ?_⟩
  · rw [z, hx] at hf
    cases hf
  · rw [z, el] at hf
    cases hf
  · rw [z, hx] at el
    cases el
theorem dp_ints42 {H : Hp} : ∀ ds : List Int, DpAll K H (ds.map V.int) (ds.map PyData.int)
  | [] => .nil
  | d :: ds => .cons (.int d) (dp_ints42 ds)
theorem lay_ints42 : ∀ ds : List Int, PyData.canLayAll0 (ds.map PyData.int) = true ∧ PyData.depthAll (ds.map PyData.int) ≤ 1
  | [] => by
    refine ⟨rfl, ?_⟩
    show PyData.depthAll [] ≤ 1
    simp [PyData.depthAll]
  | d :: ds => by
    have ih := lay_ints42 ds
    constructor
    · simp [PyData.canLayAll0, PyData.canLay0, ih.1]
    · have := ih.2
      simp only [List.map_cons, PyData.depthAll, PyData.depth]
      omega
theorem shp_ints42 (ds : List Int) : PySem.SeqAt.shaped (.list (ds.map PyData.int)) = true := by
  have c := lay_ints42 ds
  have d : PyData.depth (.list (ds.map PyData.int)) ≤ 64 := by
    have := c.2
    simp only [PyData.depth]
    omega
  show (PyData.canLay0 (.list (ds.map PyData.int)) && decide (PyData.depth (.list (ds.map PyData.int)) ≤ 64)) = true
  rw [Bool.and_eq_true]
  exact ⟨by simp only [PyData.canLay0]; exact c.1, decide_eq_true d⟩
theorem eqv_nil42 (ds : List Int) : PyData.eqv (.list (ds.map PyData.int)) (.list []) = decide (ds = []) := by
  cases ds with
  | nil => decide +kernel
  | cons d ds => simp [PyData.eqv, PyData.eqvAll]
theorem gnext_asg42 {σ : L2.St} {H : Hp} {t : TE} {g : TG} {r : TS} {D : Ends} (h : t σ H (fun x H1 => g x σ H1 ({ D with nx := r D } : Ends).nx)) : tNext ({ D with nx := tSeq (tAsg t g) r D } : Ends) σ H := h
theorem DvAt.same {C CD : Addr} {H H' : Hp} {x f l : Addr} {sc tl : Nat} {a b : Int} {way : Str} {sg : Bool} {ds : List Int} {due : Int} {ov bb : V} {pw : Int} (h : DvAt C CD H x f l sc tl a b way sg ds due ov bb pw) (s : Same H H') : DvAt C CD H' x f l sc tl a b way sg ds due ov bb pw := by
  obtain ⟨⟨dx, hx⟩, hF, el⟩ := h
  exact ⟨⟨dx, s _ _ hx⟩, hF.same s, s _ _ el⟩
theorem dgt_in (sg : Bool) (tl : Nat) (y r : Int) : -1 ≤ dgt sg tl y r ∧ dgt sg tl y r ≤ 1 := by
  unfold dgt
  repeat' split
  all_goals omega
def spStep (C CD : Addr) : Sp := fun vs H Q _ => ∃ (x f l : Addr) (sc tl : Nat) (a b : Int) (way : Str) (sg : Bool) (ds : List Int) (due o y pw : Int), vs = [.ref x] ∧ DvAt C CD H x f l sc tl a b way sg ds due (.int o) (.int y) pw ∧ ¬ due - (ds.length : Nat) = 0 ∧ ds.length ≤ 900 ∧ -(2 ^ 40) ≤ o ∧ o ≤ 2 ^ 40 ∧ 0 ≤ y ∧ y ≤ 2 ^ 40 ∧
  ∀ H', DvAt C CD H' x f l sc tl a b way sg (ds ++ [dgt sg tl y (rst ds o)]) due (.int (rst ds o - dgt sg tl y (rst ds o) * y)) (.int y) pw → Kx x l H H' → Q (.int (dgt sg tl y (rst ds o))) H'
theorem ok_Divider_step (B : Bl mg) (L : LL K mg C CD a1 a2 a3 a4 a5 a6 a7 a8 a9 a10 a11 a12 a13 a14 a15 a16 a17 a18 a19 a20 a21 a22 a23 a24 a25 a26 a27 a28 a29 a30 a31 a32 a33 a34 a35 a36 a37 a38 a39 a40 a41 a42 a43 a44 a45 a46 a47 a48 a49 a50 a51 a52 a53 a54 l1 l2 l3 l4 l5 l6 l7 l8 l9 l10 l11 l12 l13 l14 l15 l16 l17 l18 l19 l20 l21 l22 l23 l24 l25 l26 l27 l28 l29 l30 l31 l32 l33 l34 l35 l36 l37 l38 l39 l40 l41 l42 l43 l44 l45 l46 l47 l48 l49 l50 l51 l52 l53 l54 t39 t40 t41 tg_NEAR tg_CUT tg_UP E_NoStep I_NoStep E_Undone I_Undone E_Busy) : FnOk P w K mg base CX0 3 a46 l46 ["self"] (spStep C CD) := by
  have G_Divider_left : FnOk P w K mg base CX0 2 a52 l52 ["self"] (spLeft C CD) := (ok_Divider_left B L).mono (by decide)
  have G_Divider_digit_by : FnOk P w K mg base CX0 2 a47 l47 ["self", "rest"] (spDig C CD) := (ok_Divider_digit_by B L).mono (by decide)
  refine L.F_Divider_step.ok sc_Divider_step (fun vs H Q E h => ?_) (fun cdv A outer s H vs Q E hr h => ?_)
  · obtain ⟨x, f, l, sc, tl, a, b, way, sg, ds, due, o, y, pw, rfl, _⟩ := h
    rfl
  obtain ⟨x, f, l, sc, tl, a, b, way, sg, ds, due, o, y, pw, rfl, D, hd, hl, o0, o1, y0, y1, q⟩ := h
  refine ⟨_, (pss_cons (ps_if (pt_cmpR op_eq (pe_meth0 (pv 0) L.T2.cl L.M_Divider_left G_Divider_left hr L.b_Divider_left .nil pass0) pe_int (nomark _)) (pss_one ps_never) pss_nil)
    (pss_cons (ps_set (i := 1) sc_Divider_step.nd rfl (.inl rfl) (pe_ifExp (pt_cmpR (op_eqD hr.units) (pe_fld (pv 0) rfl) (pe_lst pa_nil) (nomark _)) (pe_fld (pv 0) rfl) (pe_op op_mul pe_int (pe_fld (pv 0) rfl))))
    (pss_cons (ps_set (i := 2) sc_Divider_step.nd rfl (.inl rfl) (pe_meth (pv 0) L.T2.cl L.M_Divider_digit_by G_Divider_digit_by hr L.b_Divider_digit_by .nil pass0 (pa_cons (pv 1) pa_nil)))
    (pss_cons (ps_fld (pv 0) (pe_op op_sub (pv 1) (pe_op op_mul (pv 2) (pe_fld (pv 0) rfl))) rfl)
    (pss_cons (ps_expr (pe_bm PySem.F.plainAttrs_list PySem.F.slot_list_append PySem.F.type_list_append mt_append (pe_fld (pv 0) rfl) (pa_cons (pv 2) pa_nil)))
    (pss_one (ps_ret (pv 2)))))))), ?_⟩
  obtain ⟨⟨dx, hx⟩, hF, el⟩ := id D
  refine ⟨_, rfl, x, dx, _, rfl, hx, rfl, x, f, l, sc, tl, a, b, way, sg, ds, due, .int o, .int y, pw, rfl, D, rfl, _, rfl, ite2 (fun c => absurd (V.int.inj (of_decide_eq_true c)) hd) (fun _ => ?_)⟩
  refine gnext_asg42 ?_
  refine if_ev (fun z H' => z = .int (rst ds o) ∧ Same H H') (fun Q' q' => ?_) ?_
  · refine ⟨_, rfl, x, CD, dx, _, _, rfl, hx, L.T2.cl, L.T2.n_told, rfl, Nat.zero_le _, fun e ne => ?_⟩
    have se := same_upd (o := .lst []) ne
    refine ⟨.list (ds.map PyData.int), .list [], .lst (SqL.of (se _ _ el)) (dp_ints42 ds), .lst (SqL.of upd_same) .nil, shp_ints42 ds, by decide +kernel, ?_⟩
    rw [eqv_nil42]
    refine ⟨_, rfl, ite2 (fun c => ?_) (fun c => ?_)⟩
    · refine ⟨_, rfl, x, CD, dx, _, _, rfl, se _ _ hx, L.T2.cl, L.T2.n_over, rfl, q' _ _ ⟨?_, se⟩⟩
      unfold rst
      rw [if_pos (of_decide_eq_true c)]
    · refine ⟨_, rfl, x, CD, dx, _, _, rfl, se _ _ hx, L.T2.cl, L.T2.n_over, rfl, _, _, rfl, rfl, .inl ⟨by decide, by omega⟩, q' _ _ ⟨?_, se⟩⟩
      unfold rst
      rw [if_neg (of_decide_eq_false (Bool.eq_false_iff.mpr c))]
  rintro _ H1 ⟨rfl, s1⟩
  try simp only [L2.start, List.map_cons, List.map_nil, List.length_cons, List.length_nil, List.replicate_succ, List.replicate_zero, List.cons_append, List.nil_append, List.set_cons_succ, List.set_cons_zero, Nat.reduceAdd, Nat.reduceSub, Nat.zero_add]
  have D1 := D.same s1
  obtain ⟨nfx, nfl, nlx⟩ := D1.nfx
  have dg := dgt_in sg tl y (rst ds o)
  refine ⟨_, rfl, x, dx, _, rfl, s1 _ _ hx, rfl, _, rfl, x, f, l, sc, tl, a, b, way, sg, ds, due, .int o, y, pw, rst ds o, rfl, D1, ?_⟩
  generalize dgt sg tl y (rst ds o) = d at *
  try simp only [L2.start, List.map_cons, List.map_nil, List.length_cons, List.length_nil, List.replicate_succ, List.replicate_zero, List.cons_append, List.nil_append, List.set_cons_succ, List.set_cons_zero, Nat.reduceAdd, Nat.reduceSub, Nat.zero_add]
  refine ⟨_, rfl, _, rfl, _, rfl, x, CD, dx, _, _, rfl, s1 _ _ hx, L.T2.cl, L.T2.n_by, rfl, _, _, rfl, rfl, .inl ⟨by omega, by omega⟩, _, _, rfl, rfl, _, rfl, x, CD, dx, _, rfl, s1 _ _ hx, L.T2.cl, L.T2.n_over, (by show 10 < 1000; decide), ?_⟩
  have elx : (upd H1 x (.ins CD dx (DvF f a b way sg l due (.int (rst ds o - d * y)) (.int y) pw))) l = some (.lst (ds.map V.int)) := by
    rw [upd_ne nlx]
    exact s1 _ _ el
  refine ⟨_, rfl, x, CD, dx, _, _, rfl, upd_same, L.T2.cl, L.T2.n_told, rfl, .inl ⟨rfl, _, SqL.of elx⟩, _, rfl, l, _, _, rfl, rfl, elx, (by rw [List.length_map]; exact small1000 (by omega)), ?_⟩
  refine ⟨_, rfl, q _ ⟨⟨dx, ?_⟩, ?_, ?_⟩ ?_⟩
  · rw [upd_ne nlx.symm, upd_same]
    rfl
  · obtain ⟨df, hf, hr4⟩ := D1.fa
    exact ⟨df, by rw [upd_ne nfl, upd_ne nfx]; exact hf, hr4⟩
  · rw [upd_same, List.map_append]
    rfl
  · intro p u e n m
    rw [upd_ne m, upd_ne n]
    exact s1 _ _ e
theorem DvAt.put {C CD : Addr} {H : Hp} {x f l : Addr} {sc tl : Nat} {a b : Int} {way : Str} {sg : Bool} {ds : List Int} {due : Int} {ov bb : V} {pw : Int} (h : DvAt C CD H x f l sc tl a b way sg ds due ov bb pw) (dx : Addr) (due' : Int) (ov' bb' : V) (pw' : Int) : DvAt C CD (upd H x (.ins CD dx (DvF f a b way sg l due' ov' bb' pw'))) x f l sc tl a b way sg ds due' ov' bb' pw' := by
  obtain ⟨nfx, nfl, nlx⟩ := h.nfx
  obtain ⟨_, ⟨df, hf, hr4⟩, el⟩ := h
  exact ⟨⟨dx, upd_same⟩, ⟨df, by rw [upd_ne nfx]; exact hf, hr4⟩, by rw [upd_ne nlx]; exact el⟩
/-! ### begun -/
def spBegin (C CD : Addr) : Sp := fun vs H Q _ => ∃ (x f l : Addr) (sc tl : Nat) (a b : Int) (way : Str) (sg : Bool) (due : Int) (ov bb : V) (pw : Int), vs = [.ref x] ∧ DvAt C CD H x f l sc tl a b way sg [] due ov bb pw ∧ ¬ GM.topS sc tl ≤ sz sc tl a ∧ ¬ GM.topS sc tl ≤ sz sc tl b ∧
  ∀ H', DvAt C CD H' x f l sc tl a b way sg [] ((tl : Int) + 3) (.int (fhN sc tl a)) (.int (fhN sc tl b)) (fhP sc tl a - fhP sc tl b - tl - 2) → (∀ p u, H p = some u → p ≠ x → H' p = some u) → Q .non H'
theorem ok_Divider_begin (B : Bl mg) (L : LL K mg C CD a1 a2 a3 a4 a5 a6 a7 a8 a9 a10 a11 a12 a13 a14 a15 a16 a17 a18 a19 a20 a21 a22 a23 a24 a25 a26 a27 a28 a29 a30 a31 a32 a33 a34 a35 a36 a37 a38 a39 a40 a41 a42 a43 a44 a45 a46 a47 a48 a49 a50 a51 a52 a53 a54 l1 l2 l3 l4 l5 l6 l7 l8 l9 l10 l11 l12 l13 l14 l15 l16 l17 l18 l19 l20 l21 l22 l23 l24 l25 l26 l27 l28 l29 l30 l31 l32 l33 l34 l35 l36 l37 l38 l39 l40 l41 l42 l43 l44 l45 l46 l47 l48 l49 l50 l51 l52 l53 l54 t39 t40 t41 tg_NEAR tg_CUT tg_UP E_NoStep I_NoStep E_Undone I_Undone E_Busy) : FnOk P w K mg base CX0 6 a45 l45 ["self"] (spBegin C CD) := by
  have G_full_head : FnOk P w K mg base CX0 5 a21 l21 ["form", "word"] (spFH C) := (ok_full_head B L).mono (by decide)
  refine L.F_Divider_begin.ok sc_Divider_begin (fun vs H Q E h => ?_) (fun cdv A outer s H vs Q E hr h => ?_)
  · obtain ⟨x, f, l, sc, tl, a, b, way, sg, due, ov, bb, pw, rfl, _⟩ := h
    rfl
  obtain ⟨x, f, l, sc, tl, a, b, way, sg, due, ov, bb, pw, rfl, D, na, nb, q⟩ := h
  refine ⟨_, (pss_cons (ps_asg (pe_call G_full_head hr (by rfl) L.m_full_head L.F_full_head.kp L.b_full_head .nil pass0 (pa_cons (pe_fld (pv 0) rfl) (pa_cons (pe_fld (pv 0) rfl) pa_nil))) (pg_tup (by rfl) (pgs_cons (pg_attr (pv 0)) (pgs_cons (pg_name (i := 1) sc_Divider_begin.nd rfl (.inl rfl)) pgs_nil))))
    (pss_cons (ps_asg (pe_call G_full_head hr (by rfl) L.m_full_head L.F_full_head.kp L.b_full_head .nil pass0 (pa_cons (pe_fld (pv 0) rfl) (pa_cons (pe_fld (pv 0) rfl) pa_nil))) (pg_tup (by rfl) (pgs_cons (pg_attr (pv 0)) (pgs_cons (pg_name (i := 2) sc_Divider_begin.nd rfl (.inl rfl)) pgs_nil))))
    (pss_cons (ps_fld (pv 0) (pe_op op_add (pe_fld (pe_fld (pv 0) rfl) rfl) pe_int) rfl)
    (pss_one (ps_fld (pv 0) (pe_op op_sub (pe_op op_sub (pe_op op_sub (pv 1) (pv 2)) (pe_fld (pe_fld (pv 0) rfl) rfl)) pe_int) rfl))))), ?_⟩
  obtain ⟨⟨dx, hx⟩, hF, el⟩ := id D
  obtain ⟨nfx, nfl, nlx⟩ := D.nfx
  refine ⟨_, rfl, x, CD, dx, _, _, rfl, hx, L.T2.cl, L.T2.n_form, rfl, _, rfl, x, CD, dx, _, _, rfl, hx, L.T2.cl, L.T2.n_one, rfl, f, sc, tl, a, rfl, hF, na, fun t1 H1 s1 e1 => ?_⟩
  refine ⟨t1, _, rfl, .inl (.inl e1), rfl, _, _, rfl, ?_⟩
  refine ⟨_, rfl, x, CD, dx, _, rfl, s1 _ _ hx, L.T2.cl, L.T2.n_over, (by show 10 < 1000; decide), ?_⟩
  refine ⟨_, _, rfl, rfl, ?_⟩
  have D2 := (D.same s1).put dx due (.int (fhN sc tl a)) bb pw
  obtain ⟨H2, hH2⟩ : ∃ H2, H2 = upd H1 x (.ins CD dx (DvF f a b way sg l due (.int (fhN sc tl a)) bb pw)) := ⟨_, rfl⟩
  have k2 : ∀ p u, H p = some u → p ≠ x → H2 p = some u := fun p u e n => by
    rw [hH2, upd_ne n]
    exact s1 _ _ e
  have hx2 : H2 x = some (.ins CD dx (DvF f a b way sg l due (.int (fhN sc tl a)) bb pw)) := by
    rw [hH2]
    exact upd_same
  rw [← hH2] at D2
  show tSeq _ _ _ _ (upd H1 x (.ins CD dx (DvF f a b way sg l due (.int (fhN sc tl a)) bb pw)))
  rw [← hH2]
  try simp only [L2.start, List.map_cons, List.map_nil, List.length_cons, List.length_nil, List.replicate_succ, List.replicate_zero, List.cons_append, List.nil_append, List.set_cons_succ, List.set_cons_zero, Nat.reduceAdd, Nat.reduceSub, Nat.zero_add]
  refine ⟨_, rfl, x, CD, dx, _, _, rfl, hx2, L.T2.cl, L.T2.n_form, rfl, _, rfl, x, CD, dx, _, _, rfl, hx2, L.T2.cl, L.T2.n_two, rfl, f, sc, tl, b, rfl, D2.fa, nb, fun t2 H3 s3 e3 => ?_⟩
  refine ⟨t2, _, rfl, .inl (.inl e3), rfl, _, _, rfl, ?_⟩
  refine ⟨_, rfl, x, CD, dx, _, rfl, s3 _ _ hx2, L.T2.cl, L.T2.n_by, (by show 10 < 1000; decide), ?_⟩
  refine ⟨_, _, rfl, rfl, ?_⟩
  have D4 := (D2.same s3).put dx due (.int (fhN sc tl a)) (.int (fhN sc tl b)) pw
  obtain ⟨H4, hH4⟩ : ∃ H4, H4 = upd H3 x (.ins CD dx (DvF f a b way sg l due (.int (fhN sc tl a)) (.int (fhN sc tl b)) pw)) := ⟨_, rfl⟩
  have k4 : ∀ p u, H p = some u → p ≠ x → H4 p = some u := fun p u e n => by
    rw [hH4, upd_ne n]
    exact s3 _ _ (k2 _ _ e n)
  have hx4 : H4 x = some (.ins CD dx (DvF f a b way sg l due (.int (fhN sc tl a)) (.int (fhN sc tl b)) pw)) := by
    rw [hH4]
    exact upd_same
  rw [← hH4] at D4
  show tSeq _ _ _ _ (upd H3 x (.ins CD dx (DvF f a b way sg l due (.int (fhN sc tl a)) (.int (fhN sc tl b)) pw)))
  rw [← hH4]
  try simp only [L2.start, List.map_cons, List.map_nil, List.length_cons, List.length_nil, List.replicate_succ, List.replicate_zero, List.cons_append, List.nil_append, List.set_cons_succ, List.set_cons_zero, Nat.reduceAdd, Nat.reduceSub, Nat.zero_add]
  obtain ⟨df, hf, h1, h2, h3, h4⟩ := id D4.fa
  refine ⟨_, rfl, x, CD, dx, _, _, rfl, hx4, L.T2.cl, L.T2.n_form, rfl, f, C, df, _, _, rfl, hf, L.T.cl, L.T.nt, fl_t _ _, _, _, rfl, rfl, ?_⟩
  refine ⟨_, rfl, x, CD, dx, _, rfl, hx4, L.T2.cl, L.T2.n_due, (by show 10 < 1000; decide), ?_⟩
  have D5 := D4.put dx ((tl : Int) + 3) (.int (fhN sc tl a)) (.int (fhN sc tl b)) pw
  obtain ⟨df, hf, h1, h2, h3, h4⟩ := id D5.fa
  refine ⟨_, rfl, _, rfl, _, _, rfl, rfl, _, rfl, x, CD, dx, _, _, rfl, upd_same, L.T2.cl, L.T2.n_form, rfl, f, C, df, _, _, rfl, hf, L.T.cl, L.T.nt, fl_t _ _, _, _, rfl, rfl, _, _, rfl, rfl, ?_⟩
  refine ⟨_, rfl, x, CD, dx, _, rfl, upd_same, L.T2.cl, L.T2.n_power, (by show 10 < 1000; decide), ?_⟩
  refine q _ (D5.put dx ((tl : Int) + 3) (.int (fhN sc tl a)) (.int (fhN sc tl b)) (fhP sc tl a - fhP sc tl b - tl - 2)) fun p u e n => ?_
  rw [upd_ne n, upd_ne n]
  exact k4 _ _ e n
end
section
variable {P : Program} {w : World} {K : PySem.W.Frag} {mg : Str → Option Value} {base : Heap}
variable {C : Addr} {CD : Addr} {a1 a2 a3 a4 a5 a6 a7 a8 a9 a10 a11 a12 a13 a14 a15 a16 a17 a18 a19 a20 a21 a22 a23 a24 a25 a26 a27 a28 a29 a30 a31 a32 a33 a34 a35 a36 a37 a38 a39 a40 a41 a42 a43 a44 a45 a46 a47 a48 a49 a50 a51 a52 a53 a54 : Addr} {l1 l2 l3 l4 l5 l6 l7 l8 l9 l10 l11 l12 l13 l14 l15 l16 l17 l18 l19 l20 l21 l22 l23 l24 l25 l26 l27 l28 l29 l30 l31 l32 l33 l34 l35 l36 l37 l38 l39 l40 l41 l42 l43 l44 l45 l46 l47 l48 l49 l50 l51 l52 l53 l54 : FuncData} {t39 t40 t41 tg_NEAR tg_CUT tg_UP : Tok} {E_NoStep I_NoStep E_Undone I_Undone E_Busy : Addr}
theorem upd_twice {H : Hp} {x : Addr} {o o' : HO} : upd (upd H x o) x o' = upd H x o' := by
  funext y
  by_cases c : y = x
  · rw [c, upd_same, upd_same]
  · rw [upd_ne c, upd_ne c, upd_ne c]
theorem gnx42 {H H' : Hp} {T : L2.St → Hp → Prop} {σ : L2.St} (e : H = H') (h : T σ H') : T σ H := e ▸ h
def dvDue (sc tl : Nat) (a b : Int) : Int := if [a, b].all (hdv sc tl) = true then (tl : Int) + 3 else 0
def dvOv (sc tl : Nat) (a b : Int) : V := if [a, b].all (hdv sc tl) = true then .int (fhN sc tl a) else .non
def dvBy (sc tl : Nat) (a b : Int) : V := if [a, b].all (hdv sc tl) = true then .int (fhN sc tl b) else .non
def dvPw (sc tl : Nat) (a b : Int) : Int := if [a, b].all (hdv sc tl) = true then fhP sc tl a - fhP sc tl b - tl - 2 else 0
def spDvI (C CD : Addr) : Sp := fun vs H Q _ => ∃ (x dx f0 : Addr) (sc tl : Nat) (a b : Int) (way : Str) (sg : Bool), vs = [.ref x, .ref f0, .int a, .int b, .str way, .bl sg] ∧ H x = some (.ins CD dx []) ∧ FAt C H f0 sc tl ∧
  ∀ f l H', DvAt C CD H' x f l sc tl a b way sg [] (dvDue sc tl a b) (dvOv sc tl a b) (dvBy sc tl a b) (dvPw sc tl a b) → H l = none → H f = none → (∀ p u, H p = some u → p ≠ x → H' p = some u) → Q .non H'
theorem ok_Divider___init__ (B : Bl mg) (L : LL K mg C CD a1 a2 a3 a4 a5 a6 a7 a8 a9 a10 a11 a12 a13 a14 a15 a16 a17 a18 a19 a20 a21 a22 a23 a24 a25 a26 a27 a28 a29 a30 a31 a32 a33 a34 a35 a36 a37 a38 a39 a40 a41 a42 a43 a44 a45 a46 a47 a48 a49 a50 a51 a52 a53 a54 l1 l2 l3 l4 l5 l6 l7 l8 l9 l10 l11 l12 l13 l14 l15 l16 l17 l18 l19 l20 l21 l22 l23 l24 l25 l26 l27 l28 l29 l30 l31 l32 l33 l34 l35 l36 l37 l38 l39 l40 l41 l42 l43 l44 l45 l46 l47 l48 l49 l50 l51 l52 l53 l54 t39 t40 t41 tg_NEAR tg_CUT tg_UP E_NoStep I_NoStep E_Undone I_Undone E_Busy) : FnOk P w K mg base CX0 8 a44 l44 ["self", "form", "a", "b", "way", "signed"] (spDvI C CD) := by
  have G_Form___init__ : FnOk P w K mg base CX0 6 a33 l33 ["self", "scale", "tail"] (spInit C) := (ok_Form___init__ B L).mono (by decide)
  have G_have_heads : FnOk P w K mg base CX0 7 a19 l19 ["form", "words"] (spHH K C) := (ok_have_heads B L).mono (by decide)
  have G_Divider_begin : FnOk P w K mg base CX0 7 a45 l45 ["self"] (spBegin C CD) := (ok_Divider_begin B L).mono (by decide)
  refine L.F_Divider___init__.ok sc_Divider___init__ (fun vs H Q E h => ?_) (fun cdv A outer s H vs Q E hr h => ?_)
  · obtain ⟨x, dx, f0, sc, tl, a, b, way, sg, rfl, _⟩ := h
    rfl
  obtain ⟨x, dx, f0, sc, tl, a, b, way, sg, rfl, hx, hF0, q⟩ := h
  refine ⟨_, (pss_cons (ps_fld (pv 0) (pe_make L.M G_Form___init__ hr (by rfl) L.T.mgC L.b_Form___init__ .nil pass0 (pa_cons (pe_fld (pv 1) rfl) (pa_cons (pe_fld (pv 1) rfl) pa_nil))) rfl)
    (pss_cons (ps_fld (pv 0) (pv 2) rfl)
    (pss_cons (ps_fld (pv 0) (pv 3) rfl)
    (pss_cons (ps_fld (pv 0) (pv 4) rfl)
    (pss_cons (ps_fld (pv 0) (pv 5) rfl)
    (pss_cons (ps_fld (pv 0) (pe_lst pa_nil) rfl)
    (pss_cons (ps_fld (pv 0) pe_int rfl)
    (pss_cons (ps_fld (pv 0) pe_non rfl)
    (pss_cons (ps_fld (pv 0) pe_non rfl)
    (pss_cons (ps_fld (pv 0) pe_int rfl)
    (pss_one (ps_if (pt_val (pe_call G_have_heads hr (by rfl) L.m_have_heads L.F_have_heads.kp L.b_have_heads .nil pass0 (pa_cons (pe_fld (pv 0) rfl) (pa_cons (pe_tup (pa_cons (pv 2) (pa_cons (pv 3) pa_nil))) pa_nil)))) (pss_one (ps_expr (pe_meth0 (pv 0) L.T2.cl L.M_Divider_begin G_Divider_begin hr L.b_Divider_begin .nil pass0))) pss_nil)))))))))))), ?_⟩
  obtain ⟨d0, hf0, h1, h2, h3, h4⟩ := id hF0
  refine ⟨_, rfl, f0, C, d0, _, _, rfl, hf0, L.T.cl, L.T.ns, fl_s _ _, _, rfl, f0, C, d0, _, _, rfl, hf0, L.T.cl, L.T.nt, fl_t _ _, fun f df nf ndf ne => ?_⟩
  refine ⟨f, df, sc, tl, rfl, upd_same, h1, h2, h3, h4, fun H1 F1 kp => ⟨rfl, ?_⟩⟩
  have s1 : Same H H1 := made nf ndf ne kp
  have nfx : f ≠ x := (ne_of_none hx nf).symm
  refine ⟨_, rfl, x, CD, dx, _, rfl, s1 _ _ hx, L.T2.cl, L.T2.n_form, (by decide), ?_⟩
  refine ⟨_, rfl, _, rfl, x, CD, dx, _, rfl, upd_same, L.T2.cl, L.T2.n_one, (by show 1 < 1000; decide), ?_⟩
  rw [upd_twice]
  refine ⟨_, rfl, _, rfl, x, CD, dx, _, rfl, upd_same, L.T2.cl, L.T2.n_two, (by show 2 < 1000; decide), ?_⟩
  rw [upd_twice]
  refine ⟨_, rfl, _, rfl, x, CD, dx, _, rfl, upd_same, L.T2.cl, L.T2.n_way, (by show 3 < 1000; decide), ?_⟩
  rw [upd_twice]
  refine ⟨_, rfl, _, rfl, x, CD, dx, _, rfl, upd_same, L.T2.cl, L.T2.n_signed, (by show 4 < 1000; decide), ?_⟩
  rw [upd_twice]
  refine ⟨Nat.zero_le _, fun l nl => ?_⟩
  have nlx : l ≠ x := fun z => by
    rw [z, upd_same] at nl
    cases nl
  have nl1 : H1 l = none := by
    rw [upd_ne nlx] at nl
    exact nl
  have nl0 := s1.free nl1
  have nfl : f ≠ l := fun z => by
    obtain ⟨_, e, _⟩ := F1
    rw [z, nl1] at e
    cases e
  refine ⟨_, rfl, x, CD, dx, _, rfl, (by rw [upd_ne nlx.symm]; exact upd_same), L.T2.cl, L.T2.n_told, (by show 5 < 1000; decide), ?_⟩
  refine ⟨_, rfl, x, CD, dx, _, rfl, upd_same, L.T2.cl, L.T2.n_due, (by show 6 < 1000; decide), ?_⟩
  rw [upd_twice]
  refine ⟨_, rfl, x, CD, dx, _, rfl, upd_same, L.T2.cl, L.T2.n_over, (by show 7 < 1000; decide), ?_⟩
  rw [upd_twice]
  refine ⟨_, rfl, x, CD, dx, _, rfl, upd_same, L.T2.cl, L.T2.n_by, (by show 8 < 1000; decide), ?_⟩
  rw [upd_twice]
  refine ⟨_, rfl, x, CD, dx, _, rfl, upd_same, L.T2.cl, L.T2.n_power, (by show 9 < 1000; decide), ?_⟩
  rw [upd_twice]
  have D0 : DvAt C CD (upd (upd (upd H1 x (.ins CD dx [("form", .ref f), ("one", .int a), ("two", .int b), ("way", .str way), ("signed", .bl sg)])) l (.lst [])) x (.ins CD dx (DvF f a b way sg l 0 .non .non 0))) x f l sc tl a b way sg [] 0 .non .non 0 := by
    obtain ⟨d1, hf1, r1⟩ := F1
    exact ⟨⟨dx, upd_same⟩, ⟨d1, by rw [upd_ne nfx, upd_ne nfl, upd_ne nfx]; exact hf1, r1⟩, by rw [upd_ne nlx, upd_same]; rfl⟩
  have k0 : ∀ p u, H p = some u → p ≠ x → (upd (upd (upd H1 x (.ins CD dx [("form", .ref f), ("one", .int a), ("two", .int b), ("way", .str way), ("signed", .bl sg)])) l (.lst [])) x (.ins CD dx (DvF f a b way sg l 0 .non .non 0))) p = some u := fun p u e n => by
    rw [upd_ne n, upd_ne (ne_of_none e nl0), upd_ne n]
    exact s1 _ _ e
  refine gnx42 (H' := (upd (upd (upd H1 x (.ins CD dx [("form", .ref f), ("one", .int a), ("two", .int b), ("way", .str way), ("signed", .bl sg)])) l (.lst [])) x (.ins CD dx (DvF f a b way sg l 0 .non .non 0)))) rfl ?_
  generalize upd (upd (upd H1 x (.ins CD dx [("form", .ref f), ("one", .int a), ("two", .int b), ("way", .str way), ("signed", .bl sg)])) l (.lst [])) x (.ins CD dx (DvF f a b way sg l 0 .non .non 0)) = H2 at *
  obtain ⟨dx2, hx2⟩ := D0.row
  refine ⟨_, rfl, x, CD, dx2, _, _, rfl, hx2, L.T2.cl, L.T2.n_form, rfl, _, rfl, _, rfl, (by show 2 ≤ sizeLine; decide), fun t nt => ?_⟩
  have st := same_upd (o := .tup [.int a, .int b]) nt
  refine ⟨f, t, sc, tl, [a, b], rfl, D0.fa.same st, .inl (.inl upd_same), Nat.le_of_ble_eq_true rfl, fun H3 s3 => ?_⟩
  have D3 := (D0.same st).same s3
  unfold dvDue dvOv dvBy dvPw at q
  refine ⟨_, rfl, ite2 (fun c => ?_) (fun c => ?_)⟩
  · rw [if_pos c, if_pos c, if_pos c, if_pos c] at q
    have hab := List.all_eq_true.mp c
    obtain ⟨dx3, hx3⟩ := D3.row
    refine ⟨_, rfl, x, dx3, _, rfl, hx3, rfl, x, f, l, sc, tl, a, b, way, sg, 0, .non, .non, 0, rfl, D3, (hdv_real (hab a (by simp))).1, (hdv_real (hab b (by simp))).1, fun H4 D4 k4 => ?_⟩
    exact q f l _ D4 nl0 nf fun p u e n => k4 _ _ (s3 _ _ (st _ _ (k0 _ _ e n))) n
  · rw [if_neg c, if_neg c, if_neg c, if_neg c] at q
    exact q f l _ D3 nl0 nf fun p u e n => s3 _ _ (st _ _ (k0 _ _ e n))
theorem sx_01' (sc tl : Nat) (a b : Int) : sx sc tl a b = 0 ∨ sx sc tl a b = 1 := by
  unfold sx
  split <;> simp
/-! ### the outcome -/
def oQ (ds : List Int) (o : Int) : Int := wof ds - (if o < 0 then 1 else 0)
def spOut (C CD : Addr) : Sp := fun vs H Q _ => ∃ (x f l : Addr) (sc tl : Nat) (a b : Int) (way : Str) (sg : Bool) (ds : List Int) (due o y pw : Int), vs = [.ref x] ∧ DvAt C CD H x f l sc tl a b way sg ds due (.int o) (.int y) pw ∧ due - (ds.length : Nat) ≤ 0 ∧ Fit (oQ ds o) ∧ -4000 ≤ pw ∧ pw ≤ 4000 ∧ (¬ o = 0 → oQ ds o ≠ 0 ∧ pw < GR.lap sc tl (oQ ds o) pw) ∧
  ∀ t H', Same H H' → PairAt H' t (GR.rnd sc tl (sx sc tl a b) (oQ ds o) pw way (!decide (o = 0))) → Q (.ref t) H'
theorem ok_out1 (B : Bl mg) (L : LL K mg C CD a1 a2 a3 a4 a5 a6 a7 a8 a9 a10 a11 a12 a13 a14 a15 a16 a17 a18 a19 a20 a21 a22 a23 a24 a25 a26 a27 a28 a29 a30 a31 a32 a33 a34 a35 a36 a37 a38 a39 a40 a41 a42 a43 a44 a45 a46 a47 a48 a49 a50 a51 a52 a53 a54 l1 l2 l3 l4 l5 l6 l7 l8 l9 l10 l11 l12 l13 l14 l15 l16 l17 l18 l19 l20 l21 l22 l23 l24 l25 l26 l27 l28 l29 l30 l31 l32 l33 l34 l35 l36 l37 l38 l39 l40 l41 l42 l43 l44 l45 l46 l47 l48 l49 l50 l51 l52 l53 l54 t39 t40 t41 tg_NEAR tg_CUT tg_UP E_NoStep I_NoStep E_Undone I_Undone E_Busy) : FnOk P w K mg base CX0 9 a53 l53 ["self"] (spOut C CD) := by
  have G_Divider_left : FnOk P w K mg base CX0 8 a52 l52 ["self"] (spLeft C CD) := (ok_Divider_left B L).mono (by decide)
  have G_Divider_quotient : FnOk P w K mg base CX0 8 a49 l49 ["self"] (spQuot C CD) := (ok_Divider_quotient B L).mono (by decide)
  have G_divided : FnOk P w K mg base CX0 8 a13 l13 ["form", "a", "b", "way"] (spDiv C) := (ok_divided B L).mono (by decide)
  have G_unlike_sign : FnOk P w K mg base CX0 8 a17 l17 ["form", "a", "b"] (spUnl C) := (ok_unlike_sign B L).mono (by decide)
  have G_rounded : FnOk P w K mg base CX0 8 a7 l7 ["form", "sign", "number", "power", "way", "more"] (spRnd C) := (ok_rounded B L).mono (by decide)
  refine L.F_Divider_outcome.ok sc_Divider_outcome (fun vs H Q E h => ?_) (fun cdv A outer s H vs Q E hr h => ?_)
  · obtain ⟨x, f, l, sc, tl, a, b, way, sg, ds, due, o, y, pw, rfl, _⟩ := h
    rfl
  obtain ⟨x, f, l, sc, tl, a, b, way, sg, ds, due, o, y, pw, rfl, D, hd, hn, p0, p1, hm, q⟩ := h
  refine ⟨_, (pss_cons (ps_if (pt_cmpR op_gt (pe_meth0 (pv 0) L.T2.cl L.M_Divider_left G_Divider_left hr L.b_Divider_left .nil pass0) pe_int (nomark _)) (pss_one ps_never) pss_nil)
    (pss_cons (ps_if (pt_cmpR op_isN (pe_fld (pv 0) rfl) pe_non (nomark _)) (pss_one (ps_ret (pe_callN G_divided hr (by rfl) L.m_divided L.F_divided.kp (L.kb_divided_way).choose_spec pass0 (pa_cons (pe_fld (pv 0) rfl) (pa_cons (pe_fld (pv 0) rfl) (pa_cons (pe_fld (pv 0) rfl) pa_nil))) (pk_cons (pe_fld (pv 0) rfl) pk_nil)))) pss_nil)
    (pss_cons (ps_set (i := 1) sc_Divider_outcome.nd rfl (.inl rfl) (pe_op op_sub (pe_meth0 (pv 0) L.T2.cl L.M_Divider_quotient G_Divider_quotient hr L.b_Divider_quotient .nil pass0) (pe_ifExp (pt_cmpR op_lt (pe_fld (pv 0) rfl) pe_int (nomark _)) pe_int pe_int)))
    (pss_cons (ps_set (i := 2) sc_Divider_outcome.nd rfl (.inl rfl) (pe_cmpR op_ne (pe_fld (pv 0) rfl) pe_int (nomark _)))
    (pss_cons (ps_set (i := 3) sc_Divider_outcome.nd rfl (.inl rfl) (pe_call G_unlike_sign hr (by rfl) L.m_unlike_sign L.F_unlike_sign.kp L.b_unlike_sign .nil pass0 (pa_cons (pe_fld (pv 0) rfl) (pa_cons (pe_fld (pv 0) rfl) (pa_cons (pe_fld (pv 0) rfl) pa_nil)))))
    (pss_one (ps_ret (pe_callN G_rounded hr (by rfl) L.m_rounded L.F_rounded.kp (L.kb_rounded_way_more).choose_spec pass0 (pa_cons (pe_fld (pv 0) rfl) (pa_cons (pv 3) (pa_cons (pv 1) (pa_cons (pe_fld (pv 0) rfl) pa_nil)))) (pk_cons (pe_fld (pv 0) rfl) (pk_cons (pv 2) pk_nil)))))))))), ?_⟩
  obtain ⟨⟨dx, hx⟩, hF, el⟩ := id D
  refine ⟨_, rfl, x, dx, _, rfl, hx, rfl, x, f, l, sc, tl, a, b, way, sg, ds, due, .int o, .int y, pw, rfl, D, _, _, rfl, rfl, _, rfl, ite2 (fun c => ?_) (fun _ => ?_)⟩
  · have := of_decide_eq_true c
    omega
  refine ⟨_, rfl, x, CD, dx, _, _, rfl, hx, L.T2.cl, L.T2.n_by, rfl, rfl, _, rfl, iteF ?_⟩
  refine ⟨_, rfl, x, dx, _, rfl, hx, rfl, x, f, l, sc, tl, a, b, way, sg, ds, due, .int o, .int y, pw, rfl, D, ?_⟩
  refine if_ev (fun z H' => z = .int (if o < 0 then 1 else 0) ∧ H' = H) (fun Q' q' => ?_) ?_
  · refine ⟨_, rfl, x, CD, dx, _, _, rfl, hx, L.T2.cl, L.T2.n_over, rfl, _, _, rfl, rfl, _, rfl, ite2 (fun c => q' _ _ ⟨by rw [if_pos (of_decide_eq_true c)], rfl⟩) (fun c => q' _ _ ⟨by rw [if_neg (of_decide_eq_false (Bool.eq_false_iff.mpr c))], rfl⟩)⟩
  rintro _ _ ⟨rfl, rfl⟩
  refine ⟨_, _, rfl, rfl, ?_⟩
  refine gI (show _ = oQ ds o from rfl) ?_
  try simp only [L2.start, List.map_cons, List.map_nil, List.length_cons, List.length_nil, List.replicate_succ, List.replicate_zero, List.cons_append, List.nil_append, List.set_cons_succ, List.set_cons_zero, Nat.reduceAdd, Nat.reduceSub, Nat.zero_add]
  refine ⟨_, rfl, x, CD, dx, _, _, rfl, hx, L.T2.cl, L.T2.n_over, rfl, rfl, ?_⟩
  refine gB (show _ = !decide (o = 0) from by rw [dvi]) ?_
  try simp only [L2.start, List.map_cons, List.map_nil, List.length_cons, List.length_nil, List.replicate_succ, List.replicate_zero, List.cons_append, List.nil_append, List.set_cons_succ, List.set_cons_zero, Nat.reduceAdd, Nat.reduceSub, Nat.zero_add]
  refine ⟨_, rfl, x, CD, dx, _, _, rfl, hx, L.T2.cl, L.T2.n_form, rfl, _, rfl, x, CD, dx, _, _, rfl, hx, L.T2.cl, L.T2.n_one, rfl, _, rfl, x, CD, dx, _, _, rfl, hx, L.T2.cl, L.T2.n_two, rfl, f, sc, tl, a, b, rfl, hF, fun H1 s1 => ?_⟩
  try simp only [L2.start, List.map_cons, List.map_nil, List.length_cons, List.length_nil, List.replicate_succ, List.replicate_zero, List.cons_append, List.nil_append, List.set_cons_succ, List.set_cons_zero, Nat.reduceAdd, Nat.reduceSub, Nat.zero_add]
  have hx1 := s1 _ _ hx
  refine ⟨_, rfl, x, CD, dx, _, _, rfl, hx1, L.T2.cl, L.T2.n_form, rfl, _, rfl, _, rfl, _, rfl, x, CD, dx, _, _, rfl, hx1, L.T2.cl, L.T2.n_power, rfl, _, rfl, x, CD, dx, _, _, rfl, hx1, L.T2.cl, L.T2.n_way, rfl, _, rfl, rfl, rfl, f, sc, tl, sx sc tl a b, oQ ds o, pw, way, !decide (o = 0), rfl, hF.same s1, sx_01' sc tl a b, hn, p0, p1, fun z => hm (by simpa using z), fun t H2 nt s2 P2 => q t _ (s1.trans s2) P2⟩
end
section
variable {P : Program} {w : World} {K : PySem.W.Frag} {mg : Str → Option Value} {base : Heap}
variable {C : Addr} {CD : Addr} {a1 a2 a3 a4 a5 a6 a7 a8 a9 a10 a11 a12 a13 a14 a15 a16 a17 a18 a19 a20 a21 a22 a23 a24 a25 a26 a27 a28 a29 a30 a31 a32 a33 a34 a35 a36 a37 a38 a39 a40 a41 a42 a43 a44 a45 a46 a47 a48 a49 a50 a51 a52 a53 a54 : Addr} {l1 l2 l3 l4 l5 l6 l7 l8 l9 l10 l11 l12 l13 l14 l15 l16 l17 l18 l19 l20 l21 l22 l23 l24 l25 l26 l27 l28 l29 l30 l31 l32 l33 l34 l35 l36 l37 l38 l39 l40 l41 l42 l43 l44 l45 l46 l47 l48 l49 l50 l51 l52 l53 l54 : FuncData} {t39 t40 t41 tg_NEAR tg_CUT tg_UP : Tok} {E_NoStep I_NoStep E_Undone I_Undone E_Busy : Addr}
/-! ### refused: a step where nothing is left, an outcome where something is -/
theorem exm_cons {K : PySem.W.Frag} {cls c : Value} {r : List Value} {b d : Bool} (h : PySem.W.exmOne K cls c = some b) (g : PySem.W.exmAny K cls r = some d) : PySem.W.exmAny K cls (c :: r) = some (b || d) := by
  show (match PySem.W.exmOne K cls c, PySem.W.exmAny K cls r with | some b, some d => some (b || d) | _, _ => none) = _
  rw [h, g]
theorem ek_same {H H' : Hp} {a C : Addr} {v : V} (e : EkAt H a C v) (s : Same H H') : EkAt H' a C v := by
  obtain ⟨d, h1, h2⟩ := e
  exact ⟨d, s _ _ h1, s _ _ h2⟩
def spStepX (C CD CT : Addr) : Sp := fun vs H _ E => ∃ (x f l : Addr) (sc tl : Nat) (a b : Int) (way : Str) (sg : Bool) (ds : List Int) (due : Int) (ov bb : V) (pw : Int), vs = [.ref x] ∧ DvAt C CD H x f l sc tl a b way sg ds due ov bb pw ∧ due - (ds.length : Nat) = 0 ∧
  ∀ d, H d = none → E (.ref CT) (some d) (upd H d (.xd [(("what" : Str), .int (ds.length : Nat))]))
theorem ok_stepX (B : Bl mg) (L : LL K mg C CD a1 a2 a3 a4 a5 a6 a7 a8 a9 a10 a11 a12 a13 a14 a15 a16 a17 a18 a19 a20 a21 a22 a23 a24 a25 a26 a27 a28 a29 a30 a31 a32 a33 a34 a35 a36 a37 a38 a39 a40 a41 a42 a43 a44 a45 a46 a47 a48 a49 a50 a51 a52 a53 a54 l1 l2 l3 l4 l5 l6 l7 l8 l9 l10 l11 l12 l13 l14 l15 l16 l17 l18 l19 l20 l21 l22 l23 l24 l25 l26 l27 l28 l29 l30 l31 l32 l33 l34 l35 l36 l37 l38 l39 l40 l41 l42 l43 l44 l45 l46 l47 l48 l49 l50 l51 l52 l53 l54 t39 t40 t41 tg_NEAR tg_CUT tg_UP E_NoStep I_NoStep E_Undone I_Undone E_Busy) : FnOk P w K mg base (L2.CX P w) 3 a46 l46 ["self"] (spStepX C CD E_NoStep) := by
  have G_Divider_left : FnOk P w K mg base CX0 2 a52 l52 ["self"] (spLeft C CD) := (ok_Divider_left B L).mono (by decide)
  have G_Divider_digit_by : FnOk P w K mg base CX0 2 a47 l47 ["self", "rest"] (spDig C CD) := (ok_Divider_digit_by B L).mono (by decide)
  refine L.F_Divider_step.okX sc_Divider_step (fun vs H Q E h => ?_) (fun cdv A outer s H vs Q E hr h => ?_)
  · obtain ⟨x, f, l, sc, tl, a, b, way, sg, ds, due, ov, bb, pw, rfl, _⟩ := h
    rfl
  obtain ⟨x, f, l, sc, tl, a, b, way, sg, ds, due, ov, bb, pw, rfl, D, hd, q⟩ := h
  refine ⟨_, (pss_cons (ps_if (pt_cmpR op_eq (pe_meth0 (pv 0) L.T2.cl L.M_Divider_left G_Divider_left hr L.b_Divider_left .nil pass0) pe_int (nomark _)) (pss_one (ps_raise rfl (takes_of rfl rfl rfl rfl) (pmk_what L.R_NoStep hr (by decide) L.g_NoStep rfl (pa_cons (pe_callB call_len_seq (by rfl) B.len PySem.boot_len (pa_cons (pe_fld (pv 0) rfl) pa_nil)) pa_nil)))) pss_nil)
    (pss_cons (ps_set (i := 1) sc_Divider_step.nd rfl (.inl rfl) (pe_ifExp (pt_cmpR (op_eqD hr.units) (pe_fld (pv 0) rfl) (pe_lst pa_nil) (nomark _)) (pe_fld (pv 0) rfl) (pe_op op_mul pe_int (pe_fld (pv 0) rfl))))
    (pss_cons (ps_set (i := 2) sc_Divider_step.nd rfl (.inl rfl) (pe_meth (pv 0) L.T2.cl L.M_Divider_digit_by G_Divider_digit_by hr L.b_Divider_digit_by .nil pass0 (pa_cons (pv 1) pa_nil)))
    (pss_cons (ps_fld (pv 0) (pe_op op_sub (pv 1) (pe_op op_mul (pv 2) (pe_fld (pv 0) rfl))) rfl)
    (pss_cons (ps_expr (pe_bm PySem.F.plainAttrs_list PySem.F.slot_list_append PySem.F.type_list_append mt_append (pe_fld (pv 0) rfl) (pa_cons (pv 2) pa_nil)))
    (pss_one (ps_ret (pv 2)))))))), ?_⟩
  obtain ⟨⟨dx, hx⟩, hF, el⟩ := id D
  refine ⟨_, rfl, x, dx, _, rfl, hx, rfl, x, f, l, sc, tl, a, b, way, sg, ds, due, ov, bb, pw, rfl, D, rfl, _, rfl, ite2 (fun _ => ?_) (fun c => absurd (decide_eq_true (congrArg V.int hd)) c)⟩
  refine ⟨_, rfl, x, CD, dx, _, _, rfl, hx, L.T2.cl, L.T2.n_told, rfl, l, _, rfl, .inl (SqL.of el), _, rfl, ?_⟩
  rw [List.length_map]
  exact q
def spOutX (C CD CT : Addr) : Sp := fun vs H _ E => ∃ (x f l : Addr) (sc tl : Nat) (a b : Int) (way : Str) (sg : Bool) (ds : List Int) (due : Int) (ov bb : V) (pw : Int), vs = [.ref x] ∧ DvAt C CD H x f l sc tl a b way sg ds due ov bb pw ∧ 0 < due - (ds.length : Nat) ∧
  ∀ d, H d = none → E (.ref CT) (some d) (upd H d (.xd [(("what" : Str), .int (due - (ds.length : Nat)))]))
theorem ok_outX (B : Bl mg) (L : LL K mg C CD a1 a2 a3 a4 a5 a6 a7 a8 a9 a10 a11 a12 a13 a14 a15 a16 a17 a18 a19 a20 a21 a22 a23 a24 a25 a26 a27 a28 a29 a30 a31 a32 a33 a34 a35 a36 a37 a38 a39 a40 a41 a42 a43 a44 a45 a46 a47 a48 a49 a50 a51 a52 a53 a54 l1 l2 l3 l4 l5 l6 l7 l8 l9 l10 l11 l12 l13 l14 l15 l16 l17 l18 l19 l20 l21 l22 l23 l24 l25 l26 l27 l28 l29 l30 l31 l32 l33 l34 l35 l36 l37 l38 l39 l40 l41 l42 l43 l44 l45 l46 l47 l48 l49 l50 l51 l52 l53 l54 t39 t40 t41 tg_NEAR tg_CUT tg_UP E_NoStep I_NoStep E_Undone I_Undone E_Busy) : FnOk P w K mg base (L2.CX P w) 9 a53 l53 ["self"] (spOutX C CD E_Undone) := by
  have G_Divider_left : FnOk P w K mg base CX0 8 a52 l52 ["self"] (spLeft C CD) := (ok_Divider_left B L).mono (by decide)
  have G_Divider_quotient : FnOk P w K mg base CX0 8 a49 l49 ["self"] (spQuot C CD) := (ok_Divider_quotient B L).mono (by decide)
  have G_divided : FnOk P w K mg base CX0 8 a13 l13 ["form", "a", "b", "way"] (spDiv C) := (ok_divided B L).mono (by decide)
  have G_unlike_sign : FnOk P w K mg base CX0 8 a17 l17 ["form", "a", "b"] (spUnl C) := (ok_unlike_sign B L).mono (by decide)
  have G_rounded : FnOk P w K mg base CX0 8 a7 l7 ["form", "sign", "number", "power", "way", "more"] (spRnd C) := (ok_rounded B L).mono (by decide)
  refine L.F_Divider_outcome.okX sc_Divider_outcome (fun vs H Q E h => ?_) (fun cdv A outer s H vs Q E hr h => ?_)
  · obtain ⟨x, f, l, sc, tl, a, b, way, sg, ds, due, ov, bb, pw, rfl, _⟩ := h
    rfl
  obtain ⟨x, f, l, sc, tl, a, b, way, sg, ds, due, ov, bb, pw, rfl, D, hd, q⟩ := h
  refine ⟨_, (pss_cons (ps_if (pt_cmpR op_gt (pe_meth0 (pv 0) L.T2.cl L.M_Divider_left G_Divider_left hr L.b_Divider_left .nil pass0) pe_int (nomark _)) (pss_one (ps_raise rfl (takes_of rfl rfl rfl rfl) (pmk_what L.R_Undone hr (by decide) L.g_Undone rfl (pa_cons (pe_meth0 (pv 0) L.T2.cl L.M_Divider_left G_Divider_left hr L.b_Divider_left .nil pass0) pa_nil)))) pss_nil)
    (pss_cons (ps_if (pt_cmpR op_isN (pe_fld (pv 0) rfl) pe_non (nomark _)) (pss_one (ps_ret (pe_callN G_divided hr (by rfl) L.m_divided L.F_divided.kp (L.kb_divided_way).choose_spec pass0 (pa_cons (pe_fld (pv 0) rfl) (pa_cons (pe_fld (pv 0) rfl) (pa_cons (pe_fld (pv 0) rfl) pa_nil))) (pk_cons (pe_fld (pv 0) rfl) pk_nil)))) pss_nil)
    (pss_cons (ps_set (i := 1) sc_Divider_outcome.nd rfl (.inl rfl) (pe_op op_sub (pe_meth0 (pv 0) L.T2.cl L.M_Divider_quotient G_Divider_quotient hr L.b_Divider_quotient .nil pass0) (pe_ifExp (pt_cmpR op_lt (pe_fld (pv 0) rfl) pe_int (nomark _)) pe_int pe_int)))
    (pss_cons (ps_set (i := 2) sc_Divider_outcome.nd rfl (.inl rfl) (pe_cmpR op_ne (pe_fld (pv 0) rfl) pe_int (nomark _)))
    (pss_cons (ps_set (i := 3) sc_Divider_outcome.nd rfl (.inl rfl) (pe_call G_unlike_sign hr (by rfl) L.m_unlike_sign L.F_unlike_sign.kp L.b_unlike_sign .nil pass0 (pa_cons (pe_fld (pv 0) rfl) (pa_cons (pe_fld (pv 0) rfl) (pa_cons (pe_fld (pv 0) rfl) pa_nil)))))
    (pss_one (ps_ret (pe_callN G_rounded hr (by rfl) L.m_rounded L.F_rounded.kp (L.kb_rounded_way_more).choose_spec pass0 (pa_cons (pe_fld (pv 0) rfl) (pa_cons (pv 3) (pa_cons (pv 1) (pa_cons (pe_fld (pv 0) rfl) pa_nil)))) (pk_cons (pe_fld (pv 0) rfl) (pk_cons (pv 2) pk_nil)))))))))), ?_⟩
  obtain ⟨⟨dx, hx⟩, hF, el⟩ := id D
  refine ⟨_, rfl, x, dx, _, rfl, hx, rfl, x, f, l, sc, tl, a, b, way, sg, ds, due, ov, bb, pw, rfl, D, _, _, rfl, rfl, _, rfl, ite2 (fun _ => ?_) (fun c => absurd (decide_eq_true hd) c)⟩
  refine ⟨_, rfl, x, dx, _, rfl, hx, rfl, x, f, l, sc, tl, a, b, way, sg, ds, due, ov, bb, pw, rfl, D, _, rfl, q⟩
/-! ### the outcome where there are no heads -/
def spOutN (C CD : Addr) : Sp := fun vs H Q _ => ∃ (x f l : Addr) (sc tl : Nat) (a b : Int) (way : Str) (sg : Bool) (ds : List Int) (due : Int) (ov : V) (pw : Int), vs = [.ref x] ∧ DvAt C CD H x f l sc tl a b way sg ds due ov .non pw ∧ due - (ds.length : Nat) ≤ 0 ∧
  ∀ t H', Same H H' → PairAt H' t (divR sc tl a b way) → Q (.ref t) H'
theorem ok_outN (B : Bl mg) (L : LL K mg C CD a1 a2 a3 a4 a5 a6 a7 a8 a9 a10 a11 a12 a13 a14 a15 a16 a17 a18 a19 a20 a21 a22 a23 a24 a25 a26 a27 a28 a29 a30 a31 a32 a33 a34 a35 a36 a37 a38 a39 a40 a41 a42 a43 a44 a45 a46 a47 a48 a49 a50 a51 a52 a53 a54 l1 l2 l3 l4 l5 l6 l7 l8 l9 l10 l11 l12 l13 l14 l15 l16 l17 l18 l19 l20 l21 l22 l23 l24 l25 l26 l27 l28 l29 l30 l31 l32 l33 l34 l35 l36 l37 l38 l39 l40 l41 l42 l43 l44 l45 l46 l47 l48 l49 l50 l51 l52 l53 l54 t39 t40 t41 tg_NEAR tg_CUT tg_UP E_NoStep I_NoStep E_Undone I_Undone E_Busy) : FnOk P w K mg base CX0 9 a53 l53 ["self"] (spOutN C CD) := by
  have G_Divider_left : FnOk P w K mg base CX0 8 a52 l52 ["self"] (spLeft C CD) := (ok_Divider_left B L).mono (by decide)
  have G_Divider_quotient : FnOk P w K mg base CX0 8 a49 l49 ["self"] (spQuot C CD) := (ok_Divider_quotient B L).mono (by decide)
  have G_divided : FnOk P w K mg base CX0 8 a13 l13 ["form", "a", "b", "way"] (spDiv C) := (ok_divided B L).mono (by decide)
  have G_unlike_sign : FnOk P w K mg base CX0 8 a17 l17 ["form", "a", "b"] (spUnl C) := (ok_unlike_sign B L).mono (by decide)
  have G_rounded : FnOk P w K mg base CX0 8 a7 l7 ["form", "sign", "number", "power", "way", "more"] (spRnd C) := (ok_rounded B L).mono (by decide)
  refine L.F_Divider_outcome.ok sc_Divider_outcome (fun vs H Q E h => ?_) (fun cdv A outer s H vs Q E hr h => ?_)
  · obtain ⟨x, f, l, sc, tl, a, b, way, sg, ds, due, ov, pw, rfl, _⟩ := h
    rfl
  obtain ⟨x, f, l, sc, tl, a, b, way, sg, ds, due, ov, pw, rfl, D, hd, q⟩ := h
  refine ⟨_, (pss_cons (ps_if (pt_cmpR op_gt (pe_meth0 (pv 0) L.T2.cl L.M_Divider_left G_Divider_left hr L.b_Divider_left .nil pass0) pe_int (nomark _)) (pss_one ps_never) pss_nil)
    (pss_cons (ps_if (pt_cmpR op_isN (pe_fld (pv 0) rfl) pe_non (nomark _)) (pss_one (ps_ret (pe_callN G_divided hr (by rfl) L.m_divided L.F_divided.kp (L.kb_divided_way).choose_spec pass0 (pa_cons (pe_fld (pv 0) rfl) (pa_cons (pe_fld (pv 0) rfl) (pa_cons (pe_fld (pv 0) rfl) pa_nil))) (pk_cons (pe_fld (pv 0) rfl) pk_nil)))) pss_nil)
    (pss_cons (ps_set (i := 1) sc_Divider_outcome.nd rfl (.inl rfl) (pe_op op_sub (pe_meth0 (pv 0) L.T2.cl L.M_Divider_quotient G_Divider_quotient hr L.b_Divider_quotient .nil pass0) (pe_ifExp (pt_cmpR op_lt (pe_fld (pv 0) rfl) pe_int (nomark _)) pe_int pe_int)))
    (pss_cons (ps_set (i := 2) sc_Divider_outcome.nd rfl (.inl rfl) (pe_cmpR op_ne (pe_fld (pv 0) rfl) pe_int (nomark _)))
    (pss_cons (ps_set (i := 3) sc_Divider_outcome.nd rfl (.inl rfl) (pe_call G_unlike_sign hr (by rfl) L.m_unlike_sign L.F_unlike_sign.kp L.b_unlike_sign .nil pass0 (pa_cons (pe_fld (pv 0) rfl) (pa_cons (pe_fld (pv 0) rfl) (pa_cons (pe_fld (pv 0) rfl) pa_nil)))))
    (pss_one (ps_ret (pe_callN G_rounded hr (by rfl) L.m_rounded L.F_rounded.kp (L.kb_rounded_way_more).choose_spec pass0 (pa_cons (pe_fld (pv 0) rfl) (pa_cons (pv 3) (pa_cons (pv 1) (pa_cons (pe_fld (pv 0) rfl) pa_nil)))) (pk_cons (pe_fld (pv 0) rfl) (pk_cons (pv 2) pk_nil)))))))))), ?_⟩
  obtain ⟨⟨dx, hx⟩, hF, el⟩ := id D
  refine ⟨_, rfl, x, dx, _, rfl, hx, rfl, x, f, l, sc, tl, a, b, way, sg, ds, due, ov, .non, pw, rfl, D, _, _, rfl, rfl, _, rfl, ite2 (fun c => ?_) (fun _ => ?_)⟩
  · have := of_decide_eq_true c
    omega
  refine ⟨_, rfl, x, CD, dx, _, _, rfl, hx, L.T2.cl, L.T2.n_by, rfl, rfl, _, rfl, iteT ?_⟩
  refine ⟨_, rfl, x, CD, dx, _, _, rfl, hx, L.T2.cl, L.T2.n_form, rfl, _, rfl, x, CD, dx, _, _, rfl, hx, L.T2.cl, L.T2.n_one, rfl, _, rfl, x, CD, dx, _, _, rfl, hx, L.T2.cl, L.T2.n_two, rfl, _, rfl, x, CD, dx, _, _, rfl, hx, L.T2.cl, L.T2.n_way, rfl, rfl, rfl, f, sc, tl, a, b, way, rfl, hF, fun t H1 s1 P1 => q t _ s1 P1⟩
/-! ### _law_refused -/
def spRef (C CD : Addr) : Sp := fun vs H Q _ => ∃ (x f l : Addr) (sc tl : Nat) (a b : Int) (way : Str) (sg : Bool) (ds : List Int) (due : Int) (ov bb : V) (pw : Int) (st : Bool), vs = [.ref x, .str (if st = true then "step" else "outcome")] ∧ DvAt C CD H x f l sc tl a b way sg ds due ov bb pw ∧ (st = true → due - (ds.length : Nat) = 0) ∧ (st = false → 0 < due - (ds.length : Nat)) ∧
  ∀ t H', H t = none → Same H H' → H' t = some (.tup [.str (if st = true then "step" else "undone"), .int (if st = true then (ds.length : Nat) else due - (ds.length : Nat))]) → Q (.ref t) H'
theorem ok__law_refused (B : Bl mg) (L : LL K mg C CD a1 a2 a3 a4 a5 a6 a7 a8 a9 a10 a11 a12 a13 a14 a15 a16 a17 a18 a19 a20 a21 a22 a23 a24 a25 a26 a27 a28 a29 a30 a31 a32 a33 a34 a35 a36 a37 a38 a39 a40 a41 a42 a43 a44 a45 a46 a47 a48 a49 a50 a51 a52 a53 a54 l1 l2 l3 l4 l5 l6 l7 l8 l9 l10 l11 l12 l13 l14 l15 l16 l17 l18 l19 l20 l21 l22 l23 l24 l25 l26 l27 l28 l29 l30 l31 l32 l33 l34 l35 l36 l37 l38 l39 l40 l41 l42 l43 l44 l45 l46 l47 l48 l49 l50 l51 l52 l53 l54 t39 t40 t41 tg_NEAR tg_CUT tg_UP E_NoStep I_NoStep E_Undone I_Undone E_Busy) : FnOk P w K mg base CX0 11 a29 l29 ["_law_divider", "_law_which"] (spRef C CD) := by
  have G_SU : FnOk P w K mg base (L2.CX P w) 10 a46 l46 ["self"] (spStepX C CD E_NoStep) := (ok_stepX B L).mono (by decide)
  have G_OU : FnOk P w K mg base (L2.CX P w) 10 a53 l53 ["self"] (spOutX C CD E_Undone) := (ok_outX B L).mono (by decide)
  refine L.F__law_refused.ok sc__law_refused (fun vs H Q E h => ?_) (fun cdv A outer s H vs Q E hr h => ?_)
  · obtain ⟨x, f, l, sc, tl, a, b, way, sg, ds, due, ov, bb, pw, st, rfl, _⟩ := h
    rfl
  obtain ⟨x, f, l, sc, tl, a, b, way, sg, ds, due, ov, bb, pw, st, rfl, D, hs, ho, q⟩ := h
  refine ⟨_, (pss_cons (ps_asg (pe_tup (pa_cons pe_non (pa_cons pe_non pa_nil))) (pg_tup (by rfl) (pgs_cons (pg_name (i := 2) sc__law_refused.nd rfl (.inl rfl)) (pgs_cons (pg_name (i := 3) sc__law_refused.nd rfl (.inl rfl)) pgs_nil))))
    (pss_cons (ps_try_keepT (cs := [.ref E_NoStep, .ref E_Undone, .ref E_Busy]) (i := 4) rfl rfl rfl sc__law_refused.nd rfl rfl (.cons ⟨rfl, by decide, Or.inl L.g_NoStep⟩ (.cons ⟨rfl, by decide, Or.inl L.g_Undone⟩ (.cons ⟨rfl, by decide, Or.inl L.g_Busy⟩ .nil))) (by show 3 ≤ 100; decide) (fun W pn xe tk _ => pss_one (ps_set (i := 2) sc__law_refused.nd rfl (Or.inl rfl) (pe_ifExp (pt_cmpR op_eq (pv 1) pe_str (nomark _)) (pe_meth0S (pv 0) L.T2.cl L.M_Divider_step G_SU hr L.b_Divider_step (E := WE W) (fun σ => passAt tk σ)) (pe_meth0S (pv 0) L.T2.cl L.M_Divider_outcome G_OU hr L.b_Divider_outcome (E := WE W) (fun σ => passAt tk σ))))) (fun a oe cls d pn hz hf => pss_one (ps_set (i := 3) sc__law_refused.nd rfl (Or.inl rfl) (pv 4))))
    (pss_cons (ps_if (PW.pt (pw_or (pt_cmpR op_isN (pv 3) pe_non (nomark _)) (pw_or (pt_not (pt_val (pe_callB call_isW (by rfl) B.isinstance boot_isinstance (pa_cons (pv 3) (pa_cons (pe_bltn (v := .ty "RuntimeError") (by rfl) L.z_RuntimeError (by decide +kernel) rfl) pa_nil))))) (pw_or1 (pt_val (pe_callB call_isW (by rfl) B.isinstance boot_isinstance (pa_cons (pv 3) (pa_cons (pe_glob (v := .ref E_Busy) rfl L.g_Busy rfl) pa_nil)))))))) (pss_one (ps_ret pe_non)) pss_nil)
    (pss_one (ps_ret (pe_tup (pa_cons (pe_ix ix_list (pe_lst (pa_cons pe_str (pa_cons pe_str pa_nil))) (pe_callTy call_int1 (by rfl) B.int PyProof.Rows.boot_int (pa_cons (pe_callB call_isW (by rfl) B.isinstance boot_isinstance (pa_cons (pv 3) (pa_cons (pe_glob (v := .ref E_NoStep) rfl L.g_NoStep rfl) pa_nil))) pa_nil)) (fun _ _ => rfl)) (pa_cons (pe_what (pv 3)) pa_nil)))))))), ?_⟩
  refine ⟨(by show 2 ≤ sizeLine; decide), fun T nT => ?_⟩
  have sT := same_upd (o := .tup [.non, .non]) nT
  refine ⟨T, _, rfl, .inl (.inl upd_same), rfl, _, _, rfl, _, _, rfl, rfl, ?_⟩
  have D1 := D.same sT
  generalize upd H T (HO.tup [.non, .non]) = H1 at *
  obtain ⟨dx, hx⟩ := D1.row
  try simp only [L2.start, List.map_cons, List.map_nil, List.length_cons, List.length_nil, List.replicate_succ, List.replicate_zero, List.cons_append, List.nil_append, List.set_cons_succ, List.set_cons_zero, Nat.reduceAdd, Nat.reduceSub, Nat.zero_add]
  cases st with
  | true =>
    refine ⟨_, rfl, rfl, _, rfl, ite2 (fun _ => ?_) (fun c => absurd (show decide (V.str "step" = V.str "step") = true from decide_eq_true rfl) c)⟩
    refine ⟨_, rfl, x, dx, _, rfl, hx, rfl, x, f, l, sc, tl, a, b, way, sg, ds, due, ov, bb, pw, rfl, D1, hs rfl, fun d nd => ?_⟩
    refine ⟨exm_cons L.x_NoStep (exm_cons L.y_NoStep_Undone (exm_cons L.y_NoStep_Busy rfl)), fun a' na => ?_⟩
    refine ⟨_, rfl, ?_⟩
    have nad : a' ≠ d := fun z => by
      rw [z, upd_same] at na
      cases na
    have ek : EkAt (upd (upd H1 d (.xd [(("what" : Str), .int (ds.length : Nat))])) a' (Exk a' (.ref E_NoStep) (some d))) a' E_NoStep (.int (ds.length : Nat)) := ⟨d, upd_same, by rw [upd_ne nad.symm, upd_same]⟩
    have s3 : Same H1 (upd (upd H1 d (.xd [(("what" : Str), .int (ds.length : Nat))])) a' (Exk a' (.ref E_NoStep) (some d))) := (same_upd nd).trans (same_upd na)
    dsimp only [gName]
    generalize upd (upd H1 d (HO.xd [(("what" : Str), V.int (ds.length : Nat))])) a' (Exk a' (.ref E_NoStep) (some d)) = H3 at *
    try simp only [L2.start, List.map_cons, List.map_nil, List.length_cons, List.length_nil, List.replicate_succ, List.replicate_zero, List.cons_append, List.nil_append, List.set_cons_succ, List.set_cons_zero, Nat.reduceAdd, Nat.reduceSub, Nat.zero_add]
    have w3 := sT.trans s3
    refine ⟨_, rfl, rfl, _, rfl, iteF ?_⟩
    refine ⟨_, rfl, a', E_NoStep, _, _, .type "RuntimeError", true, rfl, L.R_NoStep.toErrC, ek, .ty _, L.q_NoStep_RuntimeError, _, rfl, iteF ?_⟩
    refine ⟨_, rfl, a', E_NoStep, _, _, .ref E_Busy, false, rfl, L.R_NoStep.toErrC, ek, .own _, L.q_NoStep_Busy, _, rfl, iteF ?_⟩
    refine ⟨(by show 2 ≤ sizeLine; decide), fun lo nlo => ?_⟩
    have slo := same_upd (o := .lst [.str "undone", .str "step"]) nlo
    refine ⟨_, rfl, a', E_NoStep, _, _, .ref E_NoStep, true, rfl, L.R_NoStep.toErrC, ek_same ek slo, .own _, L.q_NoStep_NoStep, ?_⟩
    refine .inr ⟨_, rfl, lo, _, _, _, rfl, rfl, SqL.of upd_same, rfl, ?_⟩
    refine ⟨_, rfl, a', E_NoStep, _, rfl, L.R_NoStep.toErrC, ek_same ek slo, (by show 2 ≤ sizeLine; decide), fun t nt => ?_⟩
    have w4 := w3.trans slo
    exact q t _ (w4.free nt) (w4.trans (same_upd nt)) upd_same
  | false =>
    refine ⟨_, rfl, rfl, _, rfl, ite2 (fun c => absurd c (show ¬ decide (V.str "outcome" = V.str "step") = true by decide +kernel)) (fun _ => ?_)⟩
    refine ⟨_, rfl, x, dx, _, rfl, hx, rfl, x, f, l, sc, tl, a, b, way, sg, ds, due, ov, bb, pw, rfl, D1, ho rfl, fun d nd => ?_⟩
    refine ⟨exm_cons L.y_Undone_NoStep (exm_cons L.x_Undone (exm_cons L.y_Undone_Busy rfl)), fun a' na => ?_⟩
    refine ⟨_, rfl, ?_⟩
    have nad : a' ≠ d := fun z => by
      rw [z, upd_same] at na
      cases na
    have ek : EkAt (upd (upd H1 d (.xd [(("what" : Str), .int (due - (ds.length : Nat)))])) a' (Exk a' (.ref E_Undone) (some d))) a' E_Undone (.int (due - (ds.length : Nat))) := ⟨d, upd_same, by rw [upd_ne nad.symm, upd_same]⟩
    have s3 : Same H1 (upd (upd H1 d (.xd [(("what" : Str), .int (due - (ds.length : Nat)))])) a' (Exk a' (.ref E_Undone) (some d))) := (same_upd nd).trans (same_upd na)
    dsimp only [gName]
    generalize upd (upd H1 d (HO.xd [(("what" : Str), V.int (due - (ds.length : Nat)))])) a' (Exk a' (.ref E_Undone) (some d)) = H3 at *
    try simp only [L2.start, List.map_cons, List.map_nil, List.length_cons, List.length_nil, List.replicate_succ, List.replicate_zero, List.cons_append, List.nil_append, List.set_cons_succ, List.set_cons_zero, Nat.reduceAdd, Nat.reduceSub, Nat.zero_add]
    have w3 := sT.trans s3
    refine ⟨_, rfl, rfl, _, rfl, iteF ?_⟩
    refine ⟨_, rfl, a', E_Undone, _, _, .type "RuntimeError", true, rfl, L.R_Undone.toErrC, ek, .ty _, L.q_Undone_RuntimeError, _, rfl, iteF ?_⟩
    refine ⟨_, rfl, a', E_Undone, _, _, .ref E_Busy, false, rfl, L.R_Undone.toErrC, ek, .own _, L.q_Undone_Busy, _, rfl, iteF ?_⟩
    refine ⟨(by show 2 ≤ sizeLine; decide), fun lo nlo => ?_⟩
    have slo := same_upd (o := .lst [.str "undone", .str "step"]) nlo
    refine ⟨_, rfl, a', E_Undone, _, _, .ref E_NoStep, false, rfl, L.R_Undone.toErrC, ek_same ek slo, .own _, L.q_Undone_NoStep, ?_⟩
    refine .inr ⟨_, rfl, lo, _, _, _, rfl, rfl, SqL.of upd_same, rfl, ?_⟩
    refine ⟨_, rfl, a', E_Undone, _, rfl, L.R_Undone.toErrC, ek_same ek slo, (by show 2 ≤ sizeLine; decide), fun t nt => ?_⟩
    have w4 := w3.trans slo
    exact q t _ (w4.free nt) (w4.trans (same_upd nt)) upd_same
def spDivr (C CD : Addr) : Sp := fun vs H Q _ => ∃ (x f l : Addr) (sc tl : Nat) (a b : Int) (way : Str) (sg : Bool) (ds : List Int) (due : Int) (ov bb : V) (pw : Int), vs = [.ref x] ∧ DvAt C CD H x f l sc tl a b way sg ds due ov bb pw ∧ Q bb H
theorem ok_Divider_divisor (B : Bl mg) (L : LL K mg C CD a1 a2 a3 a4 a5 a6 a7 a8 a9 a10 a11 a12 a13 a14 a15 a16 a17 a18 a19 a20 a21 a22 a23 a24 a25 a26 a27 a28 a29 a30 a31 a32 a33 a34 a35 a36 a37 a38 a39 a40 a41 a42 a43 a44 a45 a46 a47 a48 a49 a50 a51 a52 a53 a54 l1 l2 l3 l4 l5 l6 l7 l8 l9 l10 l11 l12 l13 l14 l15 l16 l17 l18 l19 l20 l21 l22 l23 l24 l25 l26 l27 l28 l29 l30 l31 l32 l33 l34 l35 l36 l37 l38 l39 l40 l41 l42 l43 l44 l45 l46 l47 l48 l49 l50 l51 l52 l53 l54 t39 t40 t41 tg_NEAR tg_CUT tg_UP E_NoStep I_NoStep E_Undone I_Undone E_Busy) : FnOk P w K mg base CX0 1 a51 l51 ["self"] (spDivr C CD) := by
  refine L.F_Divider_divisor.ok sc_Divider_divisor (fun vs H Q E h => ?_) (fun cdv A outer s H vs Q E hr h => ?_)
  · obtain ⟨x, f, l, sc, tl, a, b, way, sg, ds, due, ov, bb, pw, rfl, _⟩ := h
    rfl
  obtain ⟨x, f, l, sc, tl, a, b, way, sg, ds, due, ov, bb, pw, rfl, ⟨⟨dx, hx⟩, hF, el⟩, q⟩ := h
  refine ⟨_, (pss_one (ps_ret (pe_fld (pv 0) rfl))), ?_⟩
  exact ⟨_, rfl, x, CD, dx, _, _, rfl, hx, L.T2.cl, L.T2.n_by, rfl, q⟩
end
section
variable {P : Program} {w : World} {K : PySem.W.Frag} {mg : Str → Option Value} {base : Heap}
variable {C : Addr} {CD : Addr} {a1 a2 a3 a4 a5 a6 a7 a8 a9 a10 a11 a12 a13 a14 a15 a16 a17 a18 a19 a20 a21 a22 a23 a24 a25 a26 a27 a28 a29 a30 a31 a32 a33 a34 a35 a36 a37 a38 a39 a40 a41 a42 a43 a44 a45 a46 a47 a48 a49 a50 a51 a52 a53 a54 : Addr} {l1 l2 l3 l4 l5 l6 l7 l8 l9 l10 l11 l12 l13 l14 l15 l16 l17 l18 l19 l20 l21 l22 l23 l24 l25 l26 l27 l28 l29 l30 l31 l32 l33 l34 l35 l36 l37 l38 l39 l40 l41 l42 l43 l44 l45 l46 l47 l48 l49 l50 l51 l52 l53 l54 : FuncData} {t39 t40 t41 tg_NEAR tg_CUT tg_UP : Tok} {E_NoStep I_NoStep E_Undone I_Undone E_Busy : Addr}
/-! ### what the steps of a division come to -/
def stp (sg : Bool) (tl : Nat) (y : Int) (p : List Int × Int) : List Int × Int := (p.1 ++ [dgt sg tl y (rst p.1 p.2)], rst p.1 p.2 - dgt sg tl y (rst p.1 p.2) * y)
def runD (sg : Bool) (tl : Nat) (y o : Int) : Nat → List Int × Int
  | 0 => ([], o)
  | j + 1 => stp sg tl y (runD sg tl y o j)
theorem runD_len (sg : Bool) (tl : Nat) (y o : Int) : ∀ j, (runD sg tl y o j).1.length = j
  | 0 => rfl
  | j + 1 => by
    show ((runD sg tl y o j).1 ++ [_]).length = j + 1
    rw [List.length_append, runD_len sg tl y o j]
    rfl
theorem wof_app (ds : List Int) (d : Int) : wof (ds ++ [d]) = 2 * wof ds + d := by
  unfold wof
  rw [List.foldl_append]
  rfl
structure DI (sg : Bool) (tl : Nat) (X Y : Int) (j : Nat) (p : List Int × Int) : Prop where
  eq : X * 2 ^ j = wof p.1 * Y + p.2
  lo : -Y < p.2
  hi : p.2 < Y
  un : sg = false → 0 ≤ p.2
  pw : Y = 2 ^ tl → 0 ≤ p.2
theorem dgt_step {sg : Bool} {tl : Nat} {Y r : Int} (hY : 2 ^ tl ≤ Y) (r0 : -(2 * Y) < r) (r1 : r < 2 * Y) (ru : sg = false → 0 ≤ r) (rp : Y = 2 ^ tl → 0 ≤ r) :
    -Y < r - dgt sg tl Y r * Y ∧ r - dgt sg tl Y r * Y < Y ∧ (sg = false → 0 ≤ r - dgt sg tl Y r * Y) ∧ (Y = 2 ^ tl → 0 ≤ r - dgt sg tl Y r * Y) := by
  have hp := GM.pow_pos' tl
  unfold dgt
  generalize (2 : Int) ^ tl = T at *
  cases sg with
  | false =>
    have ru := ru rfl
    rw [if_neg (by decide)]
    by_cases c : Y ≤ r
    · rw [if_pos c]
      exact ⟨by omega, by omega, fun _ => by omega, fun _ => by omega⟩
    · rw [if_neg c]
      exact ⟨by omega, by omega, fun _ => by omega, fun _ => by omega⟩
  | true =>
    rw [if_pos rfl]
    by_cases c : T ≤ r
    · rw [if_pos c]
      exact ⟨by omega, by omega, fun z => (by cases z), fun z => by omega⟩
    · rw [if_neg c]
      by_cases d : r < -T
      · rw [if_pos d]
        refine ⟨by omega, by omega, fun z => (by cases z), fun z => ?_⟩
        have := rp z
        omega
      · rw [if_neg d]
        refine ⟨?_, by omega, fun z => (by cases z), fun z => ?_⟩
        · by_cases e : Y = T
          · have := rp e
            omega
          · omega
        · have := rp z
          omega
theorem run_inv {sg : Bool} {tl : Nat} {X Y : Int} (X0 : 0 ≤ X) (X1 : X < 2 * Y) (hY : 2 ^ tl ≤ Y) : ∀ j, DI sg tl X Y j (runD sg tl Y X (j + 1))
  | 0 => by
    have hp := GM.pow_pos' tl
    obtain ⟨a, b, c, d⟩ := dgt_step (sg := sg) (r := X) hY (by omega) X1 (fun _ => X0) (fun _ => X0)
    refine ⟨?_, a, b, c, d⟩
    show X * 2 ^ 0 = wof ([] ++ [dgt sg tl Y X]) * Y + (X - dgt sg tl Y X * Y)
    rw [wof_app, show wof [] = 0 from rfl, Int.mul_zero, Int.zero_add]
    omega
  | j + 1 => by
    have hp := GM.pow_pos' tl
    have ih := run_inv (sg := sg) X0 X1 hY j
    have hl := runD_len sg tl Y X (j + 1)
    generalize hP : runD sg tl Y X (j + 1) = p at ih hl
    have hr : rst p.1 p.2 = 2 * p.2 := by
      unfold rst
      rw [if_neg (fun z => by rw [z] at hl; cases hl)]
    have h1 := ih.lo
    have h2 := ih.hi
    obtain ⟨a, b, c, d⟩ := dgt_step (sg := sg) (r := 2 * p.2) hY (by omega) (by omega) (fun z => by have := ih.un z; omega) (fun z => by have := ih.pw z; omega)
    have e2 : runD sg tl Y X (j + 1 + 1) = (p.1 ++ [dgt sg tl Y (2 * p.2)], 2 * p.2 - dgt sg tl Y (2 * p.2) * Y) := by
      show stp sg tl Y (runD sg tl Y X (j + 1)) = _
      rw [hP]
      unfold stp
      rw [hr]
    rw [e2]
    refine ⟨?_, a, b, c, d⟩
    show X * 2 ^ (j + 1) = wof (p.1 ++ [dgt sg tl Y (2 * p.2)]) * Y + (2 * p.2 - dgt sg tl Y (2 * p.2) * Y)
    have e3 : wof p.1 * Y * 2 = 2 * wof p.1 * Y := by rw [Int.mul_comm, Int.mul_assoc]
    rw [wof_app, GM.pow_s, ← Int.mul_assoc, ih.eq, Int.add_mul, Int.add_mul, e3]
    generalize 2 * wof p.1 * Y = A
    omega
theorem out_eq {sg : Bool} {tl j : Nat} {X Y : Int} {p : List Int × Int} (hY : 0 < Y) (h : DI sg tl X Y j p) : oQ p.1 p.2 = X * 2 ^ j / Y ∧ (p.2 = 0 ↔ X * 2 ^ j % Y = 0) := by
  have h1 := h.lo
  have h2 := h.hi
  have he := h.eq
  unfold oQ
  by_cases c : p.2 < 0
  · rw [if_pos c]
    obtain ⟨a, b⟩ := (Int.ediv_emod_unique (a := X * 2 ^ j) (q := wof p.1 - 1) (r := p.2 + Y) hY).mpr ⟨by rw [Int.mul_sub, Int.mul_one, Int.mul_comm Y, he]; omega, by omega, by omega⟩
    exact ⟨a.symm, fun z => by omega, fun z => by omega⟩
  · rw [if_neg c]
    obtain ⟨a, b⟩ := (Int.ediv_emod_unique (a := X * 2 ^ j) (q := wof p.1) (r := p.2) hY).mpr ⟨by rw [Int.mul_comm Y, he]; omega, by omega, by omega⟩
    exact ⟨by rw [a, Int.sub_zero], fun z => by omega, fun z => by omega⟩
theorem fhN_in {sc tl : Nat} {v : Int} (h : hdv sc tl v = true) : 2 ^ tl ≤ fhN sc tl v ∧ fhN sc tl v < 2 ^ (tl + 1) ∧ 0 < GM.num tl (sz sc tl v) ∧ hk tl (GM.num tl (sz sc tl v)) ≤ tl := by
  have hr := hdv_real h
  have nz := num_zero (tl := tl) (sz_nn sc tl v)
  have n0 : 0 < GM.num tl (sz sc tl v) := by
    have : ¬ GM.num tl (sz sc tl v) = 0 := fun z => hr.2 (nz.2.mp z)
    omega
  obtain ⟨k, ek, k1, k2⟩ := GR.bl_in n0
  have hb := bits_in42 (sc := sc) (tl := tl) v
  unfold GR.bl at ek
  unfold fhN hk
  generalize Builtin.Int.intBits (GM.num tl (sz sc tl v)) = B at *
  generalize GM.num tl (sz sc tl v) = n at *
  have eB : B = k + 1 := by omega
  subst eB
  obtain ⟨g, rfl⟩ : ∃ g, tl = k + g := ⟨tl - k, by omega⟩
  rw [show k + g + 1 - (k + 1) = g by omega]
  have pg := GM.pow_pos' g
  have a := Int.mul_le_mul_of_nonneg_right k1 (Int.le_of_lt pg)
  have b := Int.mul_lt_mul_of_pos_right k2 pg
  rw [← GM.pow_add'] at a b
  rw [show k + 1 + g = k + g + 1 by omega] at b
  exact ⟨a, b, n0, by omega⟩
theorem quo_ok2 {sc tl : Nat} {q p : Int} (hq : 2 ^ (tl + 1) ≤ q) : 0 < q ∧ p < GR.lap sc tl q p := by
  have p1 := GM.pow_pos' (tl + 1)
  have h0 : 0 < q := by omega
  refine ⟨h0, ?_⟩
  obtain ⟨m, hm, g1, g2⟩ := GR.bl_in h0
  have hm1 : tl + 1 ≤ m := by
    rcases Nat.lt_or_ge m (tl + 1) with c | c
    · have := GM.pow_le' (show m + 1 ≤ tl + 1 by omega)
      omega
    · exact c
  unfold GR.lap
  split <;> omega
theorem quo_eq2 {sc tl k : Nat} {s x p y e : Int} {w : Str} (j : Nat) (hy : 0 < y) (hq : 2 ^ (tl + 1) ≤ x * 2 ^ k / y) : quoR sc tl (k + j) s x p y e w = quoR sc tl k s x p y e w := by
  have pj := GM.pow_pos' j
  have pk := GM.pow_pos' k
  have ek : (2 : Int) ^ (k + j) = 2 ^ k * 2 ^ j := GM.pow_add' _ _
  have eq : x * 2 ^ (k + j) / y / 2 ^ j = x * 2 ^ k / y := by
    rw [Int.ediv_ediv_of_nonneg (Int.le_of_lt hy), ek, ← Int.mul_assoc, Int.mul_ediv_mul_of_pos_left _ _ pj]
  have ok := quo_ok2 (sc := sc) (tl := tl) (p := p - e - (k : Int)) hq
  have ep : p - e - ((k + j : Nat) : Int) + j = p - e - (k : Int) := by omega
  unfold quoR
  rw [GR.rnd_cut j (by rw [eq]; exact ok.1) (by rw [eq, ep]; exact ok.2), eq, ep]
  congr 1
  rw [Bool.eq_iff_iff, Bool.or_eq_true, Bool.not_eq_true', Bool.not_eq_true', Bool.not_eq_true', decide_eq_false_iff_not, decide_eq_false_iff_not, decide_eq_false_iff_not]
  have dm1 := Int.emod_add_mul_ediv (x * 2 ^ (k + j)) y
  have key : (x * 2 ^ (k + j) / y % 2 ^ j = 0 ∧ x * 2 ^ (k + j) % y = 0) ↔ x * 2 ^ k % y = 0 := by
    constructor
    · rintro ⟨a, b⟩
      rw [b, Int.zero_add] at dm1
      have dm2 := Int.emod_add_mul_ediv (x * 2 ^ (k + j) / y) (2 ^ j)
      rw [a, Int.zero_add, eq] at dm2
      have e3 : (y * (x * 2 ^ k / y)) * 2 ^ j = (x * 2 ^ k) * 2 ^ j := by
        rw [Int.mul_assoc y, Int.mul_comm _ (2 ^ j), dm2, dm1, ek, Int.mul_assoc]
      have := Int.eq_of_mul_eq_mul_right (by omega) e3
      rw [← this, Int.mul_emod_right]
    · intro a
      have dm2 := Int.emod_add_mul_ediv (x * 2 ^ k) y
      rw [a, Int.zero_add] at dm2
      have e2 : x * 2 ^ (k + j) = y * (x * 2 ^ k / y * 2 ^ j) := by
        rw [ek, ← Int.mul_assoc, ← Int.mul_assoc, dm2]
      refine ⟨?_, ?_⟩
      · rw [e2, Int.mul_ediv_cancel_left _ (by omega), Int.mul_emod_left]
      · rw [e2, Int.mul_emod_right]
  constructor
  · intro h z
    have := key.mpr z
    exact h.elim (fun y => y this.1) (fun y => y this.2)
  · intro h
    by_cases z : x * 2 ^ (k + j) / y % 2 ^ j = 0
    · exact .inr (fun y => h (key.mp ⟨z, y⟩))
    · exact .inl z
theorem quo_head {sc tl k g h : Nat} {s x p y e : Int} {w : Str} : quoR sc tl (k + h) s (x * 2 ^ g) (p - g) (y * 2 ^ h) (e - h) w = quoR sc tl (k + g) s x p y e w := by
  have ph := GM.pow_pos' h
  have e1 : x * 2 ^ g * 2 ^ (k + h) = x * 2 ^ (k + g) * 2 ^ h := by
    rw [GM.pow_add' k h, GM.pow_add' k g, Int.mul_assoc, Int.mul_assoc, Int.mul_assoc, ← Int.mul_assoc (2 ^ g), Int.mul_comm (2 ^ g) (2 ^ k), Int.mul_assoc]
  have e2 : p - (g : Int) - (e - (h : Int)) - ((k + h : Nat) : Int) = p - e - ((k + g : Nat) : Int) := by omega
  have e3 : x * 2 ^ (k + g) * 2 ^ h % (y * 2 ^ h) = x * 2 ^ (k + g) % y * 2 ^ h := by
    rw [Int.mul_comm _ (2 ^ h), Int.mul_comm y (2 ^ h), Int.mul_emod_mul_of_pos _ _ ph, Int.mul_comm]
  unfold quoR
  rw [e1, e2, Int.mul_ediv_mul_of_pos_left _ _ ph, e3]
  congr 2
  refine decide_eq_decide.mpr ⟨fun z => (Int.mul_eq_zero.mp z).resolve_right (by omega), fun z => by rw [z, Int.zero_mul]⟩
theorem head_quo {sc tl : Nat} {a b : Int} (ha : hdv sc tl a = true) (hb : hdv sc tl b = true) : 2 ^ (tl + 1) ≤ fhN sc tl a * 2 ^ (tl + 2) / fhN sc tl b := by
  have A := fhN_in ha
  have B := fhN_in hb
  have pt := GM.pow_pos' tl
  have p1 := GM.pow_pos' (tl + 1)
  have p2 := GM.pow_pos' (tl + 2)
  refine (Int.le_ediv_iff_mul_le (by omega)).mpr ?_
  have l1 : (2 : Int) ^ (tl + 1) * fhN sc tl b ≤ 2 ^ (tl + 1) * 2 ^ (tl + 1) := Int.mul_le_mul_of_nonneg_left (by omega) (by omega)
  have l2 : (2 : Int) ^ tl * 2 ^ (tl + 2) ≤ fhN sc tl a * 2 ^ (tl + 2) := Int.mul_le_mul_of_nonneg_right A.1 (by omega)
  rw [← GM.pow_add'] at l1 l2
  rw [show tl + (tl + 2) = tl + 1 + (tl + 1) by omega] at l2
  omega
theorem divR_heads {sc tl : Nat} {a b : Int} {w : Str} (ha : hdv sc tl a = true) (hb : hdv sc tl b = true) : divR sc tl a b w = quoR sc tl (2 * tl + 2) (sx sc tl a b) (GM.num tl (sz sc tl a)) (wp sc tl a) (GM.num tl (sz sc tl b)) (wp sc tl b) w := by
  have st : ∀ v, hdv sc tl v = true → ¬ srt sc tl (sz sc tl v) = "none" ∧ ¬ srt sc tl (sz sc tl v) = "nought" ∧ ¬ srt sc tl (sz sc tl v) = "endless" := fun v hv => by
    have r := hdv_real hv
    exact ⟨fun z => r.1 ((srt_top sc tl _).mp (.inr z)), fun z => r.2 ((srt_nought _ _ _).mp z).2, fun z => r.1 ((srt_top sc tl _).mp (.inl z))⟩
  have A := st a ha
  have B := st b hb
  unfold divR
  rw [if_neg (fun z => z.elim A.1 B.1), if_neg (fun z => z.elim (fun y => A.2.1 y.1) (fun y => A.2.2 y.1)), if_neg A.2.2, if_neg (fun z => z.elim B.2.2 A.2.1), if_neg B.2.1, ab_num, ab_num]
theorem div_head {sc tl : Nat} {a b : Int} {w : Str} (ha : hdv sc tl a = true) (hb : hdv sc tl b = true) : quoR sc tl (tl + 2) (sx sc tl a b) (fhN sc tl a) (fhP sc tl a) (fhN sc tl b) (fhP sc tl b) w = divR sc tl a b w := by
  have A := fhN_in ha
  have B := fhN_in hb
  have pt := GM.pow_pos' tl
  have Bn := num_lt42 (tl := tl) (sz_nn sc tl b)
  have ps : (2 : Int) ^ (tl + 1) = 2 ^ tl * 2 := GM.pow_s tl
  rw [divR_heads ha hb, ← quo_eq2 (k := tl + 2) (tl + hk tl (GM.num tl (sz sc tl b))) (by omega) (head_quo ha hb)]
  rw [show tl + 2 + (tl + hk tl (GM.num tl (sz sc tl b))) = 2 * tl + 2 + hk tl (GM.num tl (sz sc tl b)) by omega]
  unfold fhN fhP
  rw [quo_head]
  exact quo_eq _ A.2.2.1 B.2.2.1 (by omega)
/-- the outcome of a division is the rounded exact quotient -/
theorem dv_out {sg : Bool} {sc tl : Nat} {a b : Int} (w : Str) (ha : hdv sc tl a = true) (hb : hdv sc tl b = true) :
    GR.rnd sc tl (sx sc tl a b) (oQ (runD sg tl (fhN sc tl b) (fhN sc tl a) (tl + 3)).1 (runD sg tl (fhN sc tl b) (fhN sc tl a) (tl + 3)).2) (fhP sc tl a - fhP sc tl b - tl - 2) w (!decide ((runD sg tl (fhN sc tl b) (fhN sc tl a) (tl + 3)).2 = 0)) = divR sc tl a b w ∧
    2 ^ (tl + 1) ≤ oQ (runD sg tl (fhN sc tl b) (fhN sc tl a) (tl + 3)).1 (runD sg tl (fhN sc tl b) (fhN sc tl a) (tl + 3)).2 ∧
    oQ (runD sg tl (fhN sc tl b) (fhN sc tl a) (tl + 3)).1 (runD sg tl (fhN sc tl b) (fhN sc tl a) (tl + 3)).2 < 2 ^ (tl + 1) * 2 ^ (tl + 2) := by
  have A := fhN_in ha
  have B := fhN_in hb
  have pt := GM.pow_pos' tl
  have p2 := GM.pow_pos' (tl + 2)
  have ps : (2 : Int) ^ (tl + 1) = 2 ^ tl * 2 := GM.pow_s tl
  have I := run_inv (sg := sg) (tl := tl) (X := fhN sc tl a) (Y := fhN sc tl b) (by omega) (by omega) B.1 (tl + 2)
  rw [show tl + 2 + 1 = tl + 3 from rfl] at I
  obtain ⟨o1, o2⟩ := out_eq (by omega) I
  have hq := head_quo (sc := sc) (tl := tl) ha hb
  refine ⟨?_, ?_, ?_⟩
  · rw [← div_head ha hb]
    unfold quoR
    rw [o1, show fhP sc tl a - fhP sc tl b - ((tl + 2 : Nat) : Int) = fhP sc tl a - fhP sc tl b - tl - 2 by omega, decide_eq_decide.mpr o2]
  · rw [o1]
    exact hq
  · rw [o1]
    have l0 : 0 ≤ fhN sc tl a * 2 ^ (tl + 2) := Int.mul_nonneg (by omega) (by omega)
    have l1 : fhN sc tl a * 2 ^ (tl + 2) / fhN sc tl b ≤ fhN sc tl a * 2 ^ (tl + 2) := Int.ediv_le_self _ l0
    have l2 : fhN sc tl a * 2 ^ (tl + 2) < 2 ^ (tl + 1) * 2 ^ (tl + 2) := Int.mul_lt_mul_of_pos_right A.2.1 p2
    omega
end
section
variable {P : Program} {w : World} {K : PySem.W.Frag} {mg : Str → Option Value} {base : Heap}
variable {C : Addr} {CD : Addr} {a1 a2 a3 a4 a5 a6 a7 a8 a9 a10 a11 a12 a13 a14 a15 a16 a17 a18 a19 a20 a21 a22 a23 a24 a25 a26 a27 a28 a29 a30 a31 a32 a33 a34 a35 a36 a37 a38 a39 a40 a41 a42 a43 a44 a45 a46 a47 a48 a49 a50 a51 a52 a53 a54 : Addr} {l1 l2 l3 l4 l5 l6 l7 l8 l9 l10 l11 l12 l13 l14 l15 l16 l17 l18 l19 l20 l21 l22 l23 l24 l25 l26 l27 l28 l29 l30 l31 l32 l33 l34 l35 l36 l37 l38 l39 l40 l41 l42 l43 l44 l45 l46 l47 l48 l49 l50 l51 l52 l53 l54 : FuncData} {t39 t40 t41 tg_NEAR tg_CUT tg_UP : Tok} {E_NoStep I_NoStep E_Undone I_Undone E_Busy : Addr}
/-! ### a division after j steps -/
def dvN (sc tl : Nat) (a b : Int) : Nat := if [a, b].all (hdv sc tl) = true then tl + 3 else 0
def dvDs (sg : Bool) (sc tl : Nat) (a b : Int) (j : Nat) : List Int := if [a, b].all (hdv sc tl) = true then (runD sg tl (fhN sc tl b) (fhN sc tl a) j).1 else []
def dvO (sg : Bool) (sc tl : Nat) (a b : Int) (j : Nat) : V := if [a, b].all (hdv sc tl) = true then .int (runD sg tl (fhN sc tl b) (fhN sc tl a) j).2 else .non
structure DvS (C CD : Addr) (H : Hp) (x f l : Addr) (sc tl : Nat) (a b : Int) (way : Str) (sg : Bool) (j : Nat) : Prop where
  at_ : DvAt C CD H x f l sc tl a b way sg (dvDs sg sc tl a b j) (dvDue sc tl a b) (dvO sg sc tl a b j) (dvBy sc tl a b) (dvPw sc tl a b)
  le : j ≤ dvN sc tl a b
theorem DvS.same {C CD : Addr} {H H' : Hp} {x f l : Addr} {sc tl : Nat} {a b : Int} {way : Str} {sg : Bool} {j : Nat} (h : DvS C CD H x f l sc tl a b way sg j) (s : Same H H') : DvS C CD H' x f l sc tl a b way sg j := ⟨h.at_.same s, h.le⟩
theorem DvS.updR {C CD R : Addr} {o : HO} {H : Hp} {x f l : Addr} {sc tl : Nat} {a b : Int} {way : Str} {sg : Bool} {j : Nat} (h : DvS C CD H x f l sc tl a b way sg j) (n1 : R ≠ x) (n2 : R ≠ f) (n3 : R ≠ l) : DvS C CD (upd H R o) x f l sc tl a b way sg j := by
  obtain ⟨⟨⟨dx, hx⟩, ⟨df, hf, r⟩, el⟩, le⟩ := h
  exact ⟨⟨⟨dx, by rw [upd_ne n1.symm]; exact hx⟩, ⟨df, by rw [upd_ne n2.symm]; exact hf, r⟩, by rw [upd_ne n3.symm]; exact el⟩, le⟩
theorem dvDs_len {sg : Bool} {sc tl : Nat} {a b : Int} {j : Nat} (h : j ≤ dvN sc tl a b) : (dvDs sg sc tl a b j).length = j := by
  unfold dvN at h
  unfold dvDs
  by_cases c : [a, b].all (hdv sc tl) = true
  · rw [if_pos c, runD_len]
  · rw [if_neg c] at h ⊢
    show 0 = j
    omega
theorem dvDue_N (sc tl : Nat) (a b : Int) : dvDue sc tl a b = (dvN sc tl a b : Nat) := by
  unfold dvDue dvN
  split
  · omega
  · rfl
theorem dvN_le {sc tl : Nat} {a b : Int} (h : tl ≤ 24) : dvN sc tl a b ≤ 27 := by
  unfold dvN
  split <;> omega
theorem all2 {sc tl : Nat} {a b : Int} (h : [a, b].all (hdv sc tl) = true) : hdv sc tl a = true ∧ hdv sc tl b = true := ⟨List.all_eq_true.mp h a (by simp), List.all_eq_true.mp h b (by simp)⟩
theorem run_bnd {sg : Bool} {sc tl : Nat} {a b : Int} (h4 : tl ≤ 24) (h : [a, b].all (hdv sc tl) = true) (j : Nat) : -(2 ^ 40) ≤ (runD sg tl (fhN sc tl b) (fhN sc tl a) j).2 ∧ (runD sg tl (fhN sc tl b) (fhN sc tl a) j).2 ≤ 2 ^ 40 ∧ 0 ≤ fhN sc tl b ∧ fhN sc tl b ≤ 2 ^ 40 := by
  have A := fhN_in (all2 h).1
  have B := fhN_in (all2 h).2
  have pt := GM.pow_pos' tl
  have ps : (2 : Int) ^ (tl + 1) = 2 ^ tl * 2 := GM.pow_s tl
  have p25 : (2 : Int) ^ (tl + 1) ≤ 2 ^ 25 := GM.pow_le' (by omega)
  have r : -(2 ^ 40) ≤ (runD sg tl (fhN sc tl b) (fhN sc tl a) j).2 ∧ (runD sg tl (fhN sc tl b) (fhN sc tl a) j).2 ≤ 2 ^ 40 := by
    cases j with
    | zero =>
      show -(2 ^ 40) ≤ fhN sc tl a ∧ fhN sc tl a ≤ 2 ^ 40
      omega
    | succ j =>
      have I := run_inv (sg := sg) (tl := tl) (X := fhN sc tl a) (Y := fhN sc tl b) (by omega) (by omega) B.1 j
      have l := I.lo
      have h := I.hi
      omega
  exact ⟨r.1, r.2, by omega, by omega⟩
/-- the digit of step j -/
def dvD (sg : Bool) (sc tl : Nat) (a b : Int) (j : Nat) : Int := dgt sg tl (fhN sc tl b) (rst (runD sg tl (fhN sc tl b) (fhN sc tl a) j).1 (runD sg tl (fhN sc tl b) (fhN sc tl a) j).2)
def spStepS (C CD : Addr) : Sp := fun vs H Q _ => ∃ (x f l : Addr) (sc tl : Nat) (a b : Int) (way : Str) (sg : Bool) (j : Nat), vs = [.ref x] ∧ DvS C CD H x f l sc tl a b way sg j ∧ j < dvN sc tl a b ∧
  ∀ H', DvS C CD H' x f l sc tl a b way sg (j + 1) → Kx x l H H' → Q (.int (dvD sg sc tl a b j)) H'
theorem ok_stepS (B : Bl mg) (L : LL K mg C CD a1 a2 a3 a4 a5 a6 a7 a8 a9 a10 a11 a12 a13 a14 a15 a16 a17 a18 a19 a20 a21 a22 a23 a24 a25 a26 a27 a28 a29 a30 a31 a32 a33 a34 a35 a36 a37 a38 a39 a40 a41 a42 a43 a44 a45 a46 a47 a48 a49 a50 a51 a52 a53 a54 l1 l2 l3 l4 l5 l6 l7 l8 l9 l10 l11 l12 l13 l14 l15 l16 l17 l18 l19 l20 l21 l22 l23 l24 l25 l26 l27 l28 l29 l30 l31 l32 l33 l34 l35 l36 l37 l38 l39 l40 l41 l42 l43 l44 l45 l46 l47 l48 l49 l50 l51 l52 l53 l54 t39 t40 t41 tg_NEAR tg_CUT tg_UP E_NoStep I_NoStep E_Undone I_Undone E_Busy) : FnOk P w K mg base CX0 3 a46 l46 ["self"] (spStepS C CD) := by
  refine (ok_Divider_step B L).imp fun vs H Q E h => ?_
  obtain ⟨x, f, l, sc, tl, a, b, way, sg, j, rfl, D, hj, q⟩ := h
  obtain ⟨D, le⟩ := D
  obtain ⟨df, hf, h1, h2, h3, h4⟩ := id D.fa
  have hl := dvDs_len (sg := sg) le
  have hd : [a, b].all (hdv sc tl) = true := by
    by_cases c : [a, b].all (hdv sc tl) = true
    · exact c
    · unfold dvN at hj
      rw [if_neg c] at hj
      omega
  have hN := dvDue_N sc tl a b
  have bn := run_bnd (sg := sg) h4 hd j
  have nl := dvN_le (sc := sc) (a := a) (b := b) h4
  unfold dvO dvBy at D
  rw [if_pos hd, if_pos hd] at D
  refine ⟨x, f, l, sc, tl, a, b, way, sg, _, _, _, _, _, rfl, D, by omega, by omega, bn.1, bn.2.1, bn.2.2.1, bn.2.2.2, fun H' D' k => ?_⟩
  have e : dvDs sg sc tl a b j = (runD sg tl (fhN sc tl b) (fhN sc tl a) j).1 := by
    unfold dvDs
    rw [if_pos hd]
  have r := q H' ⟨?_, by omega⟩ k
  · unfold dvD at r
    rw [e]
    exact r
  · rw [e] at D'
    unfold dvDs dvO dvBy
    rw [if_pos hd, if_pos hd, if_pos hd]
    exact D'
def spOutS (C CD : Addr) : Sp := fun vs H Q _ => ∃ (x f l : Addr) (sc tl : Nat) (a b : Int) (way : Str) (sg : Bool) (j : Nat), vs = [.ref x] ∧ DvS C CD H x f l sc tl a b way sg j ∧ j = dvN sc tl a b ∧
  ∀ t H', Same H H' → PairAt H' t (divR sc tl a b way) → Q (.ref t) H'
theorem ok_outS (B : Bl mg) (L : LL K mg C CD a1 a2 a3 a4 a5 a6 a7 a8 a9 a10 a11 a12 a13 a14 a15 a16 a17 a18 a19 a20 a21 a22 a23 a24 a25 a26 a27 a28 a29 a30 a31 a32 a33 a34 a35 a36 a37 a38 a39 a40 a41 a42 a43 a44 a45 a46 a47 a48 a49 a50 a51 a52 a53 a54 l1 l2 l3 l4 l5 l6 l7 l8 l9 l10 l11 l12 l13 l14 l15 l16 l17 l18 l19 l20 l21 l22 l23 l24 l25 l26 l27 l28 l29 l30 l31 l32 l33 l34 l35 l36 l37 l38 l39 l40 l41 l42 l43 l44 l45 l46 l47 l48 l49 l50 l51 l52 l53 l54 t39 t40 t41 tg_NEAR tg_CUT tg_UP E_NoStep I_NoStep E_Undone I_Undone E_Busy) : FnOk P w K mg base CX0 9 a53 l53 ["self"] (spOutS C CD) := by
  refine (fn_or (ok_out1 B L) (ok_outN B L)).imp fun vs H Q E h => ?_
  obtain ⟨x, f, l, sc, tl, a, b, way, sg, j, rfl, ⟨D, le⟩, rfl, q⟩ := h
  obtain ⟨df, hf, h1, h2, h3, h4⟩ := id D.fa
  have hl := dvDs_len (sg := sg) le
  have hN := dvDue_N sc tl a b
  by_cases hd : [a, b].all (hdv sc tl) = true
  · refine .inl ?_
    have A := all2 hd
    have o := dv_out (sg := sg) way A.1 A.2
    have eN : dvN sc tl a b = tl + 3 := by
      unfold dvN
      rw [if_pos hd]
    rw [eN] at D hl
    have eD : dvDs sg sc tl a b (tl + 3) = (runD sg tl (fhN sc tl b) (fhN sc tl a) (tl + 3)).1 := by
      unfold dvDs
      rw [if_pos hd]
    unfold dvO dvBy dvPw at D
    rw [if_pos hd, if_pos hd, if_pos hd, eD] at D
    rw [eD] at hl
    have FA := fhN_in A.1
    have FB := fhN_in A.2
    have wa := wp_in h1 h2 h4 (hdv_real A.1).1
    have wb := wp_in h1 h2 h4 (hdv_real A.2).1
    have fp : -4000 ≤ fhP sc tl a - fhP sc tl b - tl - 2 ∧ fhP sc tl a - fhP sc tl b - tl - 2 ≤ 4000 := by
      unfold fhP
      omega
    have pk := GM.pow_pos' (tl + 1)
    have pl : (2 : Int) ^ (tl + 1) * 2 ^ (tl + 2) ≤ 2 ^ 125 := by
      rw [← GM.pow_add']
      exact GM.pow_le' (by omega)
    refine ⟨x, f, l, sc, tl, a, b, way, sg, _, _, _, _, _, rfl, D, by omega, fit_lt (k := 125) (by omega) (by omega) (by decide), fp.1, fp.2, fun _ => ?_, fun t H' s P => q t H' s ?_⟩
    · have k := quo_ok2 (sc := sc) (p := fhP sc tl a - fhP sc tl b - tl - 2) o.2.1
      exact ⟨by omega, k.2⟩
    · rw [← o.1]
      exact P
  · refine .inr ?_
    unfold dvBy at D
    rw [if_neg hd] at D
    exact ⟨x, f, l, sc, tl, a, b, way, sg, _, _, _, _, rfl, D, by omega, q⟩
def spRefS (C CD : Addr) : Sp := fun vs H Q _ => ∃ (x f l : Addr) (sc tl : Nat) (a b : Int) (way : Str) (sg : Bool) (j : Nat) (st : Bool), vs = [.ref x, .str (if st = true then "step" else "outcome")] ∧ DvS C CD H x f l sc tl a b way sg j ∧ (st = true → j = dvN sc tl a b) ∧ (st = false → j < dvN sc tl a b) ∧
  ∀ t H', H t = none → Same H H' → H' t = some (.tup [.str (if st = true then "step" else "undone"), .int (if st = true then (j : Nat) else ((dvN sc tl a b : Nat) : Int) - (j : Nat))]) → Q (.ref t) H'
theorem ok_refS (B : Bl mg) (L : LL K mg C CD a1 a2 a3 a4 a5 a6 a7 a8 a9 a10 a11 a12 a13 a14 a15 a16 a17 a18 a19 a20 a21 a22 a23 a24 a25 a26 a27 a28 a29 a30 a31 a32 a33 a34 a35 a36 a37 a38 a39 a40 a41 a42 a43 a44 a45 a46 a47 a48 a49 a50 a51 a52 a53 a54 l1 l2 l3 l4 l5 l6 l7 l8 l9 l10 l11 l12 l13 l14 l15 l16 l17 l18 l19 l20 l21 l22 l23 l24 l25 l26 l27 l28 l29 l30 l31 l32 l33 l34 l35 l36 l37 l38 l39 l40 l41 l42 l43 l44 l45 l46 l47 l48 l49 l50 l51 l52 l53 l54 t39 t40 t41 tg_NEAR tg_CUT tg_UP E_NoStep I_NoStep E_Undone I_Undone E_Busy) : FnOk P w K mg base CX0 11 a29 l29 ["_law_divider", "_law_which"] (spRefS C CD) := by
  refine (ok__law_refused B L).imp fun vs H Q E h => ?_
  obtain ⟨x, f, l, sc, tl, a, b, way, sg, j, st, rfl, ⟨D, le⟩, hs, ho, q⟩ := h
  have hl := dvDs_len (sg := sg) le
  have hN := dvDue_N sc tl a b
  refine ⟨x, f, l, sc, tl, a, b, way, sg, _, _, _, _, _, st, rfl, D, fun z => by have := hs z; omega, fun z => by have := ho z; omega, fun t H' n s e => q t H' n s ?_⟩
  rw [hl, hN] at e
  exact e
def spBegunS (C CD : Addr) : Sp := fun vs H Q _ => ∃ (f0 : Addr) (sc tl : Nat) (a b : Int) (way : Str) (sg : Bool) (how : Int), vs = [.ref f0, .int a, .int b, .str way, .bl sg, .int how] ∧ FAt C H f0 sc tl ∧
  ∀ x f l H', DvS C CD H' x f l sc tl a b way sg 0 → H x = none → H f = none → H l = none → Same H H' → Q (.ref x) H'
theorem dv_zero (sg : Bool) (sc tl : Nat) (a b : Int) : dvDs sg sc tl a b 0 = [] ∧ dvO sg sc tl a b 0 = dvOv sc tl a b := by
  unfold dvDs dvO dvOv
  by_cases c : [a, b].all (hdv sc tl) = true
  · rw [if_pos c, if_pos c, if_pos c]
    exact ⟨rfl, rfl⟩
  · rw [if_neg c, if_neg c, if_neg c]
    exact ⟨rfl, rfl⟩
end
section
variable {P : Program} {w : World} {K : PySem.W.Frag} {mg : Str → Option Value} {base : Heap}
variable {C : Addr} {CD : Addr} {a1 a2 a3 a4 a5 a6 a7 a8 a9 a10 a11 a12 a13 a14 a15 a16 a17 a18 a19 a20 a21 a22 a23 a24 a25 a26 a27 a28 a29 a30 a31 a32 a33 a34 a35 a36 a37 a38 a39 a40 a41 a42 a43 a44 a45 a46 a47 a48 a49 a50 a51 a52 a53 a54 : Addr} {l1 l2 l3 l4 l5 l6 l7 l8 l9 l10 l11 l12 l13 l14 l15 l16 l17 l18 l19 l20 l21 l22 l23 l24 l25 l26 l27 l28 l29 l30 l31 l32 l33 l34 l35 l36 l37 l38 l39 l40 l41 l42 l43 l44 l45 l46 l47 l48 l49 l50 l51 l52 l53 l54 : FuncData} {t39 t40 t41 tg_NEAR tg_CUT tg_UP : Tok} {E_NoStep I_NoStep E_Undone I_Undone E_Busy : Addr}
/-! ### a second one like it -/
def spLike (C CD : Addr) : Sp := fun vs H Q _ => ∃ (x f l : Addr) (sc tl : Nat) (a b : Int) (way : Str) (sg : Bool) (ds : List Int) (due : Int) (ov bb : V) (pw : Int), vs = [.ref x] ∧ DvAt C CD H x f l sc tl a b way sg ds due ov bb pw ∧ ds.length ≤ 900 ∧
  ∀ x' f' l' H', DvAt C CD H' x' f' l' sc tl a b way sg ds (dvDue sc tl a b) ov (dvBy sc tl a b) (dvPw sc tl a b) → H x' = none → H f' = none → H l' = none → Same H H' → Q (.ref x') H'
theorem ok_Divider_like (B : Bl mg) (L : LL K mg C CD a1 a2 a3 a4 a5 a6 a7 a8 a9 a10 a11 a12 a13 a14 a15 a16 a17 a18 a19 a20 a21 a22 a23 a24 a25 a26 a27 a28 a29 a30 a31 a32 a33 a34 a35 a36 a37 a38 a39 a40 a41 a42 a43 a44 a45 a46 a47 a48 a49 a50 a51 a52 a53 a54 l1 l2 l3 l4 l5 l6 l7 l8 l9 l10 l11 l12 l13 l14 l15 l16 l17 l18 l19 l20 l21 l22 l23 l24 l25 l26 l27 l28 l29 l30 l31 l32 l33 l34 l35 l36 l37 l38 l39 l40 l41 l42 l43 l44 l45 l46 l47 l48 l49 l50 l51 l52 l53 l54 t39 t40 t41 tg_NEAR tg_CUT tg_UP E_NoStep I_NoStep E_Undone I_Undone E_Busy) : FnOk P w K mg base CX0 10 a54 l54 ["self"] (spLike C CD) := by
  have G_Divider___init__ : FnOk P w K mg base CX0 8 a44 l44 ["self", "form", "a", "b", "way", "signed"] (spDvI C CD) := (ok_Divider___init__ B L).mono (by decide)
  refine L.F_Divider_like.ok sc_Divider_like (fun vs H Q E h => ?_) (fun cdv A outer s H vs Q E hr h => ?_)
  · obtain ⟨x, f, l, sc, tl, a, b, way, sg, ds, due, ov, bb, pw, rfl, _⟩ := h
    rfl
  obtain ⟨x, f, l, sc, tl, a, b, way, sg, ds, due, ov, bb, pw, rfl, D, hl, q⟩ := h
  refine ⟨_, (pss_cons (ps_set (i := 1) sc_Divider_like.nd rfl (.inl rfl) (pe_makeK L.M2 G_Divider___init__ hr (by rfl) L.T2.mgC (L.kb_Divider___init___way_signed).choose_spec pass0 (pa_cons (pe_fld (pv 0) rfl) (pa_cons (pe_fld (pv 0) rfl) (pa_cons (pe_fld (pv 0) rfl) pa_nil))) (pk_cons (pe_fld (pv 0) rfl) (pk_cons (pe_fld (pv 0) rfl) pk_nil))))
    (pss_cons (ps_fld (pv 1) (pe_callTy call_list_of (by rfl) B.list PyProof.Rows.boot_list (pa_cons (pe_fld (pv 0) rfl) pa_nil)) rfl)
    (pss_cons (ps_fld (pv 1) (pe_fld (pv 0) rfl) rfl)
    (pss_one (ps_ret (pv 1)))))), ?_⟩
  obtain ⟨⟨dx, hx⟩, hF, el⟩ := id D
  refine ⟨_, rfl, x, CD, dx, _, _, rfl, hx, L.T2.cl, L.T2.n_form, rfl, _, rfl, x, CD, dx, _, _, rfl, hx, L.T2.cl, L.T2.n_one, rfl, _, rfl, x, CD, dx, _, _, rfl, hx, L.T2.cl, L.T2.n_two, rfl, _, rfl, x, CD, dx, _, _, rfl, hx, L.T2.cl, L.T2.n_way, rfl, _, rfl, x, CD, dx, _, _, rfl, hx, L.T2.cl, L.T2.n_signed, rfl, rfl, rfl, fun xd dd nxd ndd ned => ?_⟩
  have sM : Same H (upd (upd H dd (.own xd)) xd (.ins CD dd [])) := (same_upd ndd).trans (same_upd (by rw [upd_ne ned.symm]; exact nxd))
  refine ⟨xd, dd, f, sc, tl, a, b, way, sg, rfl, upd_same, hF.same sM, fun f2 l2 H4 D4 nl nf k4 => ⟨rfl, ?_⟩⟩
  have w4 : Same H H4 := fun y u e => k4 y u (sM y u e) (ne_of_none e nxd)
  have nlx : H l2 = none := sM.free nl
  have nfx : H f2 = none := sM.free nf
  clear k4 nl nf sM
  try simp only [L2.start, List.map_cons, List.map_nil, List.length_cons, List.length_nil, List.replicate_succ, List.replicate_zero, List.cons_append, List.nil_append, List.set_cons_succ, List.set_cons_zero, Nat.reduceAdd, Nat.reduceSub, Nat.zero_add]
  obtain ⟨dx4, hx4⟩ := D4.row
  refine ⟨_, rfl, x, CD, dx, _, _, rfl, w4 _ _ hx, L.T2.cl, L.T2.n_told, rfl, l, _, rfl, .inl (SqL.of (w4 _ _ el)), fun p np => ?_⟩
  have sp := same_upd (o := .lst (ds.map V.int)) np
  refine ⟨_, rfl, xd, CD, dx4, _, rfl, sp _ _ hx4, L.T2.cl, L.T2.n_told, (by show 10 < 1000; decide), ?_⟩
  have npx : p ≠ xd := (ne_of_none hx4 np).symm
  obtain ⟨nfx4, _, _⟩ := D4.nfx
  have D5 : DvAt C CD (upd (upd H4 p (.lst (ds.map V.int))) xd (.ins CD dx4 (DvF f2 a b way sg p (dvDue sc tl a b) (dvOv sc tl a b) (dvBy sc tl a b) (dvPw sc tl a b)))) xd f2 p sc tl a b way sg ds (dvDue sc tl a b) (dvOv sc tl a b) (dvBy sc tl a b) (dvPw sc tl a b) := by
    refine ⟨⟨dx4, upd_same⟩, ?_, by rw [upd_ne npx, upd_same]⟩
    obtain ⟨df, hf, hr4⟩ := D4.fa.same sp
    exact ⟨df, by rw [upd_ne nfx4]; exact hf, hr4⟩
  have k5 : ∀ y u, H y = some u → (upd (upd H4 p (.lst (ds.map V.int))) xd (.ins CD dx4 (DvF f2 a b way sg p (dvDue sc tl a b) (dvOv sc tl a b) (dvBy sc tl a b) (dvPw sc tl a b)))) y = some u := fun y u e => by
    rw [upd_ne (ne_of_none e nxd)]
    exact sp _ _ (w4 _ _ e)
  refine gnx42 (H' := upd (upd H4 p (.lst (ds.map V.int))) xd (.ins CD dx4 (DvF f2 a b way sg p (dvDue sc tl a b) (dvOv sc tl a b) (dvBy sc tl a b) (dvPw sc tl a b)))) rfl ?_
  have hx5 : (upd (upd H4 p (.lst (ds.map V.int))) xd (.ins CD dx4 (DvF f2 a b way sg p (dvDue sc tl a b) (dvOv sc tl a b) (dvBy sc tl a b) (dvPw sc tl a b)))) xd = some (.ins CD dx4 (DvF f2 a b way sg p (dvDue sc tl a b) (dvOv sc tl a b) (dvBy sc tl a b) (dvPw sc tl a b))) := upd_same
  have npH : H p = none := w4.free np
  generalize upd (upd H4 p (.lst (ds.map V.int))) xd (.ins CD dx4 (DvF f2 a b way sg p (dvDue sc tl a b) (dvOv sc tl a b) (dvBy sc tl a b) (dvPw sc tl a b))) = H5 at *
  refine ⟨_, rfl, x, CD, dx, _, _, rfl, k5 _ _ hx, L.T2.cl, L.T2.n_over, rfl, _, rfl, xd, CD, dx4, _, rfl, hx5, L.T2.cl, L.T2.n_over, (by show 10 < 1000; decide), ?_⟩
  refine ⟨_, rfl, q xd f2 p _ (D5.put dx4 _ ov _ _) nxd nfx npH fun y u e => ?_⟩
  rw [upd_ne (ne_of_none e nxd)]
  exact k5 _ _ e
/-! ### _law_begun -/
def spBegun (C CD : Addr) : Sp := fun vs H Q _ => ∃ (f0 : Addr) (sc tl : Nat) (a b : Int) (way : Str) (sg : Bool) (how : Int), vs = [.ref f0, .int a, .int b, .str way, .bl sg, .int how] ∧ FAt C H f0 sc tl ∧
  ∀ x f l H', DvAt C CD H' x f l sc tl a b way sg [] (dvDue sc tl a b) (dvOv sc tl a b) (dvBy sc tl a b) (dvPw sc tl a b) → H x = none → H f = none → H l = none → Same H H' → Q (.ref x) H'
theorem ok__law_begun (B : Bl mg) (L : LL K mg C CD a1 a2 a3 a4 a5 a6 a7 a8 a9 a10 a11 a12 a13 a14 a15 a16 a17 a18 a19 a20 a21 a22 a23 a24 a25 a26 a27 a28 a29 a30 a31 a32 a33 a34 a35 a36 a37 a38 a39 a40 a41 a42 a43 a44 a45 a46 a47 a48 a49 a50 a51 a52 a53 a54 l1 l2 l3 l4 l5 l6 l7 l8 l9 l10 l11 l12 l13 l14 l15 l16 l17 l18 l19 l20 l21 l22 l23 l24 l25 l26 l27 l28 l29 l30 l31 l32 l33 l34 l35 l36 l37 l38 l39 l40 l41 l42 l43 l44 l45 l46 l47 l48 l49 l50 l51 l52 l53 l54 t39 t40 t41 tg_NEAR tg_CUT tg_UP E_NoStep I_NoStep E_Undone I_Undone E_Busy) : FnOk P w K mg base CX0 10 a28 l28 ["_law_form_here", "_law_a", "_law_b", "_law_mode", "_law_by_signs", "_law_how"] (spBegun C CD) := by
  have G_Divider___init__ : FnOk P w K mg base CX0 8 a44 l44 ["self", "form", "a", "b", "way", "signed"] (spDvI C CD) := (ok_Divider___init__ B L).mono (by decide)
  refine L.F__law_begun.ok sc__law_begun (fun vs H Q E h => ?_) (fun cdv A outer s H vs Q E hr h => ?_)
  · obtain ⟨f0, sc, tl, a, b, way, sg, how, rfl, _⟩ := h
    rfl
  obtain ⟨f0, sc, tl, a, b, way, sg, how, rfl, hF, q⟩ := h
  refine ⟨_, (pss_cons (ps_if (PW.pt (pw_and (pt_cmpR op_eq (pv 5) pe_int (nomark _)) (pw_and1 (pt_cmpR op_eq (pv 3) pe_str (nomark _))))) (pss_one (ps_ret (pe_ifExp (pt_val (pv 4)) (pe_makeK L.M2 G_Divider___init__ hr (by rfl) L.T2.mgC (L.kb_Divider___init___signed).choose_spec pass0 (pa_cons (pv 0) (pa_cons (pv 1) (pa_cons (pv 2) pa_nil))) (pk_cons (pv 4) pk_nil)) (pe_make L.M2 G_Divider___init__ hr (by rfl) L.T2.mgC (L.kb_Divider___init__).choose_spec.2 (L.kb_Divider___init__).choose_spec.1 pass0 (pa_cons (pv 0) (pa_cons (pv 1) (pa_cons (pv 2) pa_nil))))))) pss_nil)
    (pss_cons (ps_if (PW.pt (pw_and (pt_cmpR op_eq (pv 5) pe_int (nomark _)) (pw_and1 (pt_not (pt_val (pv 4)))))) (pss_one (ps_ret (pe_makeK L.M2 G_Divider___init__ hr (by rfl) L.T2.mgC (L.kb_Divider___init___way).choose_spec pass0 (pa_cons (pv 0) (pa_cons (pv 1) (pa_cons (pv 2) pa_nil))) (pk_cons (pv 3) pk_nil)))) pss_nil)
    (pss_one (ps_ret (pe_makeK L.M2 G_Divider___init__ hr (by rfl) L.T2.mgC (L.kb_Divider___init___signed_way).choose_spec pass0 (pa_cons (pv 0) (pa_cons (pv 1) (pa_cons (pv 2) pa_nil))) (pk_cons (pv 4) (pk_cons (pv 3) pk_nil))))))), ?_⟩
  have fin : ∀ (wy : Str) (sn : Bool) (xd dd : Addr), wy = way → sn = sg → H xd = none → H dd = none → dd ≠ xd → spDvI C CD [.ref xd, .ref f0, .int a, .int b, .str wy, .bl sn] (upd (upd H dd (.own xd)) xd (.ins CD dd [])) (fun v H' => v = .non ∧ Q (.ref xd) H') (fun _ _ _ => False) := fun wy sn xd dd e1 e2 nxd ndd ned => by
    subst e1 e2
    have sM : Same H (upd (upd H dd (.own xd)) xd (.ins CD dd [])) := (same_upd ndd).trans (same_upd (by rw [upd_ne ned.symm]; exact nxd))
    exact ⟨xd, dd, f0, sc, tl, a, b, wy, sn, rfl, upd_same, hF.same sM, fun f2 l2 H4 D4 nl nf k4 => ⟨rfl, q xd f2 l2 H4 D4 nxd (sM.free nf) (sM.free nl) fun y u e => k4 y u (sM y u e) (ne_of_none e nxd)⟩⟩
  refine ifS_ev (fun r H' => (r = true → way = "near") ∧ H' = H) (fun Q' q' => ?_) ?_ ?_
  · refine ⟨_, rfl, rfl, _, rfl, ite2 (fun c1 => ?_) (fun c1 => ?_)⟩
    · refine ⟨_, rfl, rfl, _, rfl, ?_⟩
      exact q' _ _ ⟨fun z => V.str.inj (of_decide_eq_true z), rfl⟩
    · exact q' _ _ ⟨fun z => (by cases z), rfl⟩
  · rintro _ ⟨hw, rfl⟩
    have hw := hw rfl
    try simp only [L2.start, List.map_cons, List.map_nil, List.length_cons, List.length_nil, List.replicate_succ, List.replicate_zero, List.cons_append, List.nil_append, List.set_cons_succ, List.set_cons_zero, Nat.reduceAdd, Nat.reduceSub, Nat.zero_add]
    cases sg with
    | true =>
      refine ⟨_, rfl, _, rfl, iteT ?_⟩
      refine ⟨_, rfl, _, rfl, _, rfl, _, rfl, rfl, rfl, fun xd dd nxd ndd ned => ?_⟩
      exact fin _ _ xd dd hw.symm rfl nxd ndd ned
    | false =>
      refine ⟨_, rfl, _, rfl, iteF ?_⟩
      refine ⟨_, rfl, _, rfl, _, rfl, fun xd dd nxd ndd ned => ?_⟩
      exact fin _ _ xd dd hw.symm rfl nxd ndd ned
  rintro H1 ⟨_, rfl⟩
  dsimp only [tNext]
  refine ifS_ev (fun r HH => (r = true → sg = false) ∧ HH = H1) (fun Q' q' => ?_) ?_ ?_
  · refine ⟨_, rfl, rfl, _, rfl, ite2 (fun c1 => ?_) (fun c1 => ?_)⟩
    · cases sg with
      | true => exact ⟨_, rfl, _, rfl, q' _ _ ⟨fun z => (by cases z), rfl⟩⟩
      | false => exact ⟨_, rfl, _, rfl, q' _ _ ⟨fun z => rfl, rfl⟩⟩
    · exact q' _ _ ⟨fun z => (by cases z), rfl⟩
  · rintro _ ⟨hs, rfl⟩
    have hs := hs rfl
    try simp only [L2.start, List.map_cons, List.map_nil, List.length_cons, List.length_nil, List.replicate_succ, List.replicate_zero, List.cons_append, List.nil_append, List.set_cons_succ, List.set_cons_zero, Nat.reduceAdd, Nat.reduceSub, Nat.zero_add]
    refine ⟨_, rfl, _, rfl, _, rfl, _, rfl, rfl, rfl, fun xd dd nxd ndd ned => ?_⟩
    exact fin _ _ xd dd rfl hs.symm nxd ndd ned
  rintro _ ⟨_, rfl⟩
  try simp only [L2.start, List.map_cons, List.map_nil, List.length_cons, List.length_nil, List.replicate_succ, List.replicate_zero, List.cons_append, List.nil_append, List.set_cons_succ, List.set_cons_zero, Nat.reduceAdd, Nat.reduceSub, Nat.zero_add]
  refine ⟨_, rfl, _, rfl, _, rfl, _, rfl, _, rfl, rfl, rfl, fun xd dd nxd ndd ned => ?_⟩
  exact fin _ _ xd dd rfl rfl nxd ndd ned
theorem ok_begunS (B : Bl mg) (L : LL K mg C CD a1 a2 a3 a4 a5 a6 a7 a8 a9 a10 a11 a12 a13 a14 a15 a16 a17 a18 a19 a20 a21 a22 a23 a24 a25 a26 a27 a28 a29 a30 a31 a32 a33 a34 a35 a36 a37 a38 a39 a40 a41 a42 a43 a44 a45 a46 a47 a48 a49 a50 a51 a52 a53 a54 l1 l2 l3 l4 l5 l6 l7 l8 l9 l10 l11 l12 l13 l14 l15 l16 l17 l18 l19 l20 l21 l22 l23 l24 l25 l26 l27 l28 l29 l30 l31 l32 l33 l34 l35 l36 l37 l38 l39 l40 l41 l42 l43 l44 l45 l46 l47 l48 l49 l50 l51 l52 l53 l54 t39 t40 t41 tg_NEAR tg_CUT tg_UP E_NoStep I_NoStep E_Undone I_Undone E_Busy) : FnOk P w K mg base CX0 10 a28 l28 ["_law_form_here", "_law_a", "_law_b", "_law_mode", "_law_by_signs", "_law_how"] (spBegunS C CD) := by
  refine (ok__law_begun B L).imp fun vs H Q E h => ?_
  obtain ⟨f0, sc, tl, a, b, way, sg, how, rfl, hF, q⟩ := h
  refine ⟨f0, sc, tl, a, b, way, sg, how, rfl, hF, fun x f l H' D n1 n2 n3 s => q x f l H' ⟨?_, Nat.zero_le _⟩ n1 n2 n3 s⟩
  have z := dv_zero sg sc tl a b
  rw [z.1, z.2]
  exact D
def spLikeS (C CD : Addr) : Sp := fun vs H Q _ => ∃ (x f l : Addr) (sc tl : Nat) (a b : Int) (way : Str) (sg : Bool) (j : Nat), vs = [.ref x] ∧ DvS C CD H x f l sc tl a b way sg j ∧
  ∀ x' f' l' H', DvS C CD H' x' f' l' sc tl a b way sg j → H x' = none → H f' = none → H l' = none → Same H H' → Q (.ref x') H'
theorem ok_likeS (B : Bl mg) (L : LL K mg C CD a1 a2 a3 a4 a5 a6 a7 a8 a9 a10 a11 a12 a13 a14 a15 a16 a17 a18 a19 a20 a21 a22 a23 a24 a25 a26 a27 a28 a29 a30 a31 a32 a33 a34 a35 a36 a37 a38 a39 a40 a41 a42 a43 a44 a45 a46 a47 a48 a49 a50 a51 a52 a53 a54 l1 l2 l3 l4 l5 l6 l7 l8 l9 l10 l11 l12 l13 l14 l15 l16 l17 l18 l19 l20 l21 l22 l23 l24 l25 l26 l27 l28 l29 l30 l31 l32 l33 l34 l35 l36 l37 l38 l39 l40 l41 l42 l43 l44 l45 l46 l47 l48 l49 l50 l51 l52 l53 l54 t39 t40 t41 tg_NEAR tg_CUT tg_UP E_NoStep I_NoStep E_Undone I_Undone E_Busy) : FnOk P w K mg base CX0 10 a54 l54 ["self"] (spLikeS C CD) := by
  refine (ok_Divider_like B L).imp fun vs H Q E h => ?_
  obtain ⟨x, f, l, sc, tl, a, b, way, sg, j, rfl, ⟨D, le⟩, q⟩ := h
  have hl := dvDs_len (sg := sg) le
  obtain ⟨df, hf, h1, h2, h3, h4⟩ := id D.fa
  have := dvN_le (sc := sc) (a := a) (b := b) h4
  exact ⟨x, f, l, sc, tl, a, b, way, sg, _, _, _, _, _, rfl, D, by omega, fun x' f' l' H' D' n1 n2 n3 s => q x' f' l' H' ⟨D', le⟩ n1 n2 n3 s⟩
/-! ### how a division stands, as a text -/
theorem seq_asg41 {σ : L2.St} {H : Hp} {t : TE} {g : TG} {r : TS} {D : Ends} (h : t σ H (fun x H1 => g x σ H1 ({ D with nx := r D } : Ends).nx)) : tSeq (tAsg t g) r D σ H := h
theorem wof_run (sg : Bool) (tl : Nat) (y o : Int) : ∀ j, -(2 ^ j) < wof (runD sg tl y o j).1 ∧ wof (runD sg tl y o j).1 < 2 ^ j
  | 0 => by
    show -(2 ^ 0) < (0 : Int) ∧ (0 : Int) < 2 ^ 0
    decide
  | j + 1 => by
    have ih := wof_run sg tl y o j
    have dg := dgt_in sg tl y (rst (runD sg tl y o j).1 (runD sg tl y o j).2)
    have ps : (2 : Int) ^ (j + 1) = 2 ^ j * 2 := GM.pow_s j
    show -(2 ^ (j + 1)) < wof ((runD sg tl y o j).1 ++ [dgt sg tl y (rst (runD sg tl y o j).1 (runD sg tl y o j).2)]) ∧ _
    rw [show (runD sg tl y o (j + 1)).1 = (runD sg tl y o j).1 ++ [dgt sg tl y (rst (runD sg tl y o j).1 (runD sg tl y o j).2)] from rfl, wof_app]
    omega
theorem run_dig (sg : Bool) (tl : Nat) (y o : Int) : ∀ j, ∀ d ∈ (runD sg tl y o j).1, -1 ≤ d ∧ d ≤ 1
  | 0 => fun d h => nomatch h
  | j + 1 => fun d h => by
    rcases List.mem_append.mp (show d ∈ (runD sg tl y o j).1 ++ [dgt sg tl y (rst (runD sg tl y o j).1 (runD sg tl y o j).2)] from h) with z | z
    · exact run_dig sg tl y o j d z
    · rw [List.mem_singleton.mp z]
      exact dgt_in _ _ _ _
def dvOp (sg : Bool) (sc tl : Nat) (a b : Int) (j : Nat) : PyData := if [a, b].all (hdv sc tl) = true then .int (runD sg tl (fhN sc tl b) (fhN sc tl a) j).2 else .none
def dvYp (sc tl : Nat) (a b : Int) : PyData := if [a, b].all (hdv sc tl) = true then .int (fhN sc tl b) else .none
theorem dv_some {sg : Bool} {sc tl : Nat} {a b : Int} {j : Nat} (h4 : tl ≤ 24) (hj : j ≤ dvN sc tl a b) : (∀ d ∈ dvDs sg sc tl a b j, -1 ≤ d ∧ d ≤ 1) ∧ -(2 ^ 27) < wof (dvDs sg sc tl a b j) ∧ wof (dvDs sg sc tl a b j) < 2 ^ 27 ∧ Shw 0 0 (dvOp sg sc tl a b j) ∧ Shw 0 0 (dvYp sc tl a b) := by
  have hN := dvN_le (sc := sc) (a := a) (b := b) h4
  unfold dvDs dvOp dvYp
  by_cases c : [a, b].all (hdv sc tl) = true
  · rw [if_pos c, if_pos c, if_pos c]
    have w := wof_run sg tl (fhN sc tl b) (fhN sc tl a) j
    have pj : (2 : Int) ^ j ≤ 2 ^ 27 := GM.pow_le' (by omega)
    have bn := run_bnd (sg := sg) h4 c j
    exact ⟨run_dig _ _ _ _ _, by omega, by omega, Shw.int (by omega) (by omega), Shw.int (by omega) (by omega)⟩
  · rw [if_neg c, if_neg c, if_neg c]
    exact ⟨(fun d h => nomatch h), by decide, by decide, Shw.non, Shw.non⟩
theorem dp_dvO {H : Hp} (sg : Bool) (sc tl : Nat) (a b : Int) (j : Nat) : Dp K H (dvO sg sc tl a b j) (dvOp sg sc tl a b j) ∧ Dp K H (dvBy sc tl a b) (dvYp sc tl a b) := by
  unfold dvO dvOp dvBy dvYp
  by_cases c : [a, b].all (hdv sc tl) = true
  · rw [if_pos c, if_pos c, if_pos c, if_pos c]
    exact ⟨.int _, .int _⟩
  · rw [if_neg c, if_neg c, if_neg c, if_neg c]
    exact ⟨.non, .non⟩
end
section
variable {P : Program} {w : World} {K : PySem.W.Frag} {mg : Str → Option Value} {base : Heap}
variable {C : Addr} {CD : Addr} {a1 a2 a3 a4 a5 a6 a7 a8 a9 a10 a11 a12 a13 a14 a15 a16 a17 a18 a19 a20 a21 a22 a23 a24 a25 a26 a27 a28 a29 a30 a31 a32 a33 a34 a35 a36 a37 a38 a39 a40 a41 a42 a43 a44 a45 a46 a47 a48 a49 a50 a51 a52 a53 a54 : Addr} {l1 l2 l3 l4 l5 l6 l7 l8 l9 l10 l11 l12 l13 l14 l15 l16 l17 l18 l19 l20 l21 l22 l23 l24 l25 l26 l27 l28 l29 l30 l31 l32 l33 l34 l35 l36 l37 l38 l39 l40 l41 l42 l43 l44 l45 l46 l47 l48 l49 l50 l51 l52 l53 l54 : FuncData} {t39 t40 t41 tg_NEAR tg_CUT tg_UP : Tok} {E_NoStep I_NoStep E_Undone I_Undone E_Busy : Addr}
def dvData (sg : Bool) (sc tl : Nat) (a b : Int) (j : Nat) : PyData := .list [.list ((dvDs sg sc tl a b j).map PyData.int), .int (wof (dvDs sg sc tl a b j)), dvOp sg sc tl a b j, dvYp sc tl a b, .int (((dvN sc tl a b : Nat) : Int) - (j : Nat))]
theorem dvData_shw {sg : Bool} {sc tl : Nat} {a b : Int} {j : Nat} (h4 : tl ≤ 24) (hj : j ≤ dvN sc tl a b) : Shw 100 3 (dvData sg sc tl a b j) := by
  obtain ⟨hd, w0, w1, ho, hy⟩ := dv_some (sg := sg) h4 hj
  have hN := dvN_le (sc := sc) (a := a) (b := b) h4
  have hl := dvDs_len (sg := sg) hj
  have di := ShwA.ints (dvDs sg sc tl a b j) fun d hdm => by
    have := hd d hdm
    omega
  have e1 : Shw 27 2 (.list ((dvDs sg sc tl a b j).map PyData.int)) := (Shw.lst di).mono (by omega) (by decide)
  have e2 : Shw 0 2 (.int (wof (dvDs sg sc tl a b j))) := (Shw.int (by omega) (by omega)).mono (Nat.le_refl _) (by decide)
  have e3 : Shw 0 2 (dvOp sg sc tl a b j) := ho.mono (Nat.le_refl _) (by decide)
  have e4 : Shw 0 2 (dvYp sc tl a b) := hy.mono (Nat.le_refl _) (by decide)
  have e5 : Shw 0 2 (.int (((dvN sc tl a b : Nat) : Int) - (j : Nat))) := (Shw.int (by omega) (by omega)).mono (Nat.le_refl _) (by decide)
  have n0 : ShwA 0 2 [] := ShwA.nil.mono (Nat.le_refl _) (by decide)
  exact (Shw.lst (.cons e1 (.cons e2 (.cons e3 (.cons e4 (.cons e5 n0)))))).mono (by decide) (by decide)
def spState (C CD : Addr) : Sp := fun vs H Q _ => ∃ (x f l : Addr) (sc tl : Nat) (a b : Int) (way : Str) (sg : Bool) (j : Nat), vs = [.ref x] ∧ DvS C CD H x f l sc tl a b way sg j ∧ ∀ H', Same H H' → Q (.str (dvData sg sc tl a b j).shown) H'
theorem ok__law_state (B : Bl mg) (L : LL K mg C CD a1 a2 a3 a4 a5 a6 a7 a8 a9 a10 a11 a12 a13 a14 a15 a16 a17 a18 a19 a20 a21 a22 a23 a24 a25 a26 a27 a28 a29 a30 a31 a32 a33 a34 a35 a36 a37 a38 a39 a40 a41 a42 a43 a44 a45 a46 a47 a48 a49 a50 a51 a52 a53 a54 l1 l2 l3 l4 l5 l6 l7 l8 l9 l10 l11 l12 l13 l14 l15 l16 l17 l18 l19 l20 l21 l22 l23 l24 l25 l26 l27 l28 l29 l30 l31 l32 l33 l34 l35 l36 l37 l38 l39 l40 l41 l42 l43 l44 l45 l46 l47 l48 l49 l50 l51 l52 l53 l54 t39 t40 t41 tg_NEAR tg_CUT tg_UP E_NoStep I_NoStep E_Undone I_Undone E_Busy) : FnOkG P w K mg base CX0 5 a30 l30 ["_law_divider"] (spState C CD) := by
  have G_Divider_digits : FnOk P w K mg base CX0 4 a48 l48 ["self"] (spDigs C CD) := (ok_Divider_digits B L).mono (by decide)
  have G_Divider_quotient : FnOk P w K mg base CX0 4 a49 l49 ["self"] (spQuot C CD) := (ok_Divider_quotient B L).mono (by decide)
  have G_Divider_rest : FnOk P w K mg base CX0 4 a50 l50 ["self"] (spRest C CD) := (ok_Divider_rest B L).mono (by decide)
  have G_Divider_divisor : FnOk P w K mg base CX0 4 a51 l51 ["self"] (spDivr C CD) := (ok_Divider_divisor B L).mono (by decide)
  have G_Divider_left : FnOk P w K mg base CX0 4 a52 l52 ["self"] (spLeft C CD) := (ok_Divider_left B L).mono (by decide)
  refine L.F__law_state.okG sc__law_state (fun vs H Q E h => ?_) (fun cdv A outer s H vs Q E gd hr h => ?_)
  · obtain ⟨x, f, l, sc, tl, a, b, way, sg, j, rfl, _⟩ := h
    rfl
  obtain ⟨x, f, l, sc, tl, a, b, way, sg, j, rfl, D, q⟩ := h
  refine ⟨_, (pss_cons (ps_set (i := 1) sc__law_state.nd rfl (.inl rfl) (pe_lst (pa_cons (pe_meth0 (pv 0) L.T2.cl L.M_Divider_digits G_Divider_digits hr L.b_Divider_digits .nil pass0) (pa_cons (pe_meth0 (pv 0) L.T2.cl L.M_Divider_quotient G_Divider_quotient hr L.b_Divider_quotient .nil pass0) (pa_cons (pe_meth0 (pv 0) L.T2.cl L.M_Divider_rest G_Divider_rest hr L.b_Divider_rest .nil pass0) (pa_cons (pe_meth0 (pv 0) L.T2.cl L.M_Divider_divisor G_Divider_divisor hr L.b_Divider_divisor .nil pass0) (pa_cons (pe_meth0 (pv 0) L.T2.cl L.M_Divider_left G_Divider_left hr L.b_Divider_left .nil pass0) pa_nil)))))))
    (pss_one (ps_ret (pe_callTy (call_strL gd (roomS hr)) (by rfl) B.str PyProof.Rows.boot_str (pa_cons (pv 1) pa_nil))))), ?_⟩
  obtain ⟨df, hf, h1, h2, h3, h4⟩ := id D.at_.fa
  have hj := D.le
  have hl := dvDs_len (sg := sg) hj
  have hN := dvN_le (sc := sc) (a := a) (b := b) h4
  have D := D.at_
  rw [dvDue_N] at D
  obtain ⟨dx, hx⟩ := D.row
  refine ⟨_, rfl, x, dx, _, rfl, hx, rfl, x, f, l, sc, tl, a, b, way, sg, _, _, _, _, _, rfl, D, by omega, fun p H1 np s1 ep => ?_⟩
  have D1 := D.same s1
  have hx1 := s1 _ _ hx
  refine ⟨_, rfl, x, dx, _, rfl, hx1, rfl, x, f, l, sc, tl, a, b, way, sg, _, _, _, _, _, rfl, D1, ?_⟩
  refine ⟨_, rfl, x, dx, _, rfl, hx1, rfl, x, f, l, sc, tl, a, b, way, sg, _, _, _, _, _, rfl, D1, ?_⟩
  refine ⟨_, rfl, x, dx, _, rfl, hx1, rfl, x, f, l, sc, tl, a, b, way, sg, _, _, _, _, _, rfl, D1, ?_⟩
  refine ⟨_, rfl, x, dx, _, rfl, hx1, rfl, x, f, l, sc, tl, a, b, way, sg, _, _, _, _, _, rfl, D1, (by show 5 ≤ sizeLine; decide), fun t1 nt1 => ?_⟩
  have st1 := same_upd (o := .lst [.ref p, .int (wof (dvDs sg sc tl a b j)), dvO sg sc tl a b j, dvBy sc tl a b, .int (((dvN sc tl a b : Nat) : Int) - ((dvDs sg sc tl a b j).length : Nat))]) nt1
  try simp only [L2.start, List.map_cons, List.map_nil, List.length_cons, List.length_nil, List.replicate_succ, List.replicate_zero, List.cons_append, List.nil_append, List.set_cons_succ, List.set_cons_zero, Nat.reduceAdd, Nat.reduceSub, Nat.zero_add]
  refine ⟨_, rfl, t1, dvData sg sc tl a b j, 100, 3, rfl, ?_, dvData_shw h4 hj, by decide, by decide, q _ (s1.trans st1)⟩
  have dO := dp_dvO (K := K) (H := upd H1 t1 (.lst [.ref p, .int (wof (dvDs sg sc tl a b j)), dvO sg sc tl a b j, dvBy sc tl a b, .int (((dvN sc tl a b : Nat) : Int) - ((dvDs sg sc tl a b j).length : Nat))])) sg sc tl a b j
  unfold dvData
  exact .lst (SqL.of upd_same) (.cons (.lst (SqL.of (st1 _ _ ep)) (dp_ints42 _)) (.cons (.int _) (.cons dO.1 (.cons dO.2 (.cons (by rw [hl]; exact .int _) .nil)))))
theorem cut_last (ds : List Int) (d : Int) : cutV ((ds ++ [d]).map V.int) (some (-1)) none = [d].map V.int := by
  have e : ((ds ++ [d]).map V.int).length = ds.length + 1 := by rw [List.length_map, List.length_append]; rfl
  have i1 : HT.sIx (ds.length + 1) 0 (some (-1)) = ds.length := by
    unfold HT.sIx
    simp only []
    rw [if_pos (by decide)]
    omega
  unfold cutV
  rw [e, i1, List.map_append, List.drop_append_of_le_length (by rw [List.length_map]; omega), List.drop_of_length_le (by rw [List.length_map]; omega)]
  show List.take (ds.length + 1 - ds.length) [V.int d] = [V.int d]
  rw [show ds.length + 1 - ds.length = 1 by omega]
  rfl
theorem dvDs_step {sg : Bool} {sc tl : Nat} {a b : Int} {j : Nat} (h : j < dvN sc tl a b) : dvDs sg sc tl a b (j + 1) = dvDs sg sc tl a b j ++ [dvD sg sc tl a b j] := by
  have hd : [a, b].all (hdv sc tl) = true := by
    by_cases c : [a, b].all (hdv sc tl) = true
    · exact c
    · unfold dvN at h
      rw [if_neg c] at h
      omega
  unfold dvDs
  rw [if_pos hd, if_pos hd]
  rfl
/-! ### _law_go -/
def spGo (C CD : Addr) : Sp := fun vs H Q _ => ∃ (b x f l : Addr) (sc tl : Nat) (a b' : Int) (way : Str) (sg : Bool) (j : Nat) (c : Int), vs = [.ref b, .ref x] ∧ BoxAt c H b ∧ c ≤ 900000000 ∧ DvS C CD H x f l sc tl a b' way sg j ∧ b ≠ l ∧
  ∀ H' j', DvS C CD H' x f l sc tl a b' way sg j' → BoxAt (c + 1) H' b → (∀ p u, H p = some u → p ≠ b → p ≠ x → p ≠ l → H' p = some u) → Q (.bl true) H'
theorem ok__law_go (B : Bl mg) (L : LL K mg C CD a1 a2 a3 a4 a5 a6 a7 a8 a9 a10 a11 a12 a13 a14 a15 a16 a17 a18 a19 a20 a21 a22 a23 a24 a25 a26 a27 a28 a29 a30 a31 a32 a33 a34 a35 a36 a37 a38 a39 a40 a41 a42 a43 a44 a45 a46 a47 a48 a49 a50 a51 a52 a53 a54 l1 l2 l3 l4 l5 l6 l7 l8 l9 l10 l11 l12 l13 l14 l15 l16 l17 l18 l19 l20 l21 l22 l23 l24 l25 l26 l27 l28 l29 l30 l31 l32 l33 l34 l35 l36 l37 l38 l39 l40 l41 l42 l43 l44 l45 l46 l47 l48 l49 l50 l51 l52 l53 l54 t39 t40 t41 tg_NEAR tg_CUT tg_UP E_NoStep I_NoStep E_Undone I_Undone E_Busy) : FnOkG P w K mg base CX0 12 a31 l31 ["_law_box_here", "_law_divider"] (spGo C CD) := by
  have G__law_take : FnOk P w K mg base CX0 11 a23 l23 ["_law_box_here", "_law_size"] (spTake 1) := (ok_take L.F__law_take L.b__law_take L.m__law_take B 1).mono (by decide)
  have G__law_state : FnOkG P w K mg base CX0 11 a30 l30 ["_law_divider"] (spState C CD) := (ok__law_state B L).mono (by decide)
  have G__law_refused : FnOk P w K mg base CX0 11 a29 l29 ["_law_divider", "_law_which"] (spRefS C CD) := (ok_refS B L).mono (by decide)
  have G_Divider_digits : FnOk P w K mg base CX0 11 a48 l48 ["self"] (spDigs C CD) := (ok_Divider_digits B L).mono (by decide)
  have G_Divider_left : FnOk P w K mg base CX0 11 a52 l52 ["self"] (spLeft C CD) := (ok_Divider_left B L).mono (by decide)
  have G_Divider_step : FnOk P w K mg base CX0 11 a46 l46 ["self"] (spStepS C CD) := (ok_stepS B L).mono (by decide)
  refine L.F__law_go.okG sc__law_go (fun vs H Q E h => ?_) (fun cdv A outer s H vs Q E gd hr h => ?_)
  · obtain ⟨b, x, f, l, sc, tl, a, b', way, sg, j, c, rfl, _⟩ := h
    rfl
  obtain ⟨b, x, f, l, sc, tl, a, b', way, sg, j, c, rfl, hB, hc, D, nbl, q⟩ := h
  refine ⟨_, (pss_cons (ps_set (i := 2) sc__law_go.nd rfl (.inl rfl) (pe_callG G__law_state gd hr (by rfl) L.m__law_state L.F__law_state.kp L.b__law_state .nil pass0 (pa_cons (pv 1) pa_nil)))
    (pss_cons (ps_set (i := 3) sc__law_go.nd rfl (.inl rfl) (pe_meth0 (pv 1) L.T2.cl L.M_Divider_digits G_Divider_digits hr L.b_Divider_digits .nil pass0))
    (pss_cons (ps_expr (pe_bm PySem.F.plainAttrs_list PySem.F.slot_list_append PySem.F.type_list_append mt_append (pv 3) (pa_cons pe_int pa_nil)))
    (pss_cons (ps_if (PW.pt (pw_and (pt_cmpR op_gt (pe_meth0 (pv 1) L.T2.cl L.M_Divider_left G_Divider_left hr L.b_Divider_left .nil pass0) pe_int (nomark _)) (pw_and1 (pt_cmpR op_gt (pe_call G__law_take hr (by rfl) L.m__law_take L.F__law_take.kp L.b__law_take .nil pass0 (pa_cons (pv 0) (pa_cons pe_int pa_nil))) pe_int (nomark _))))) (pss_cons (ps_set (i := 4) sc__law_go.nd rfl (.inl rfl) (pe_meth0 (pv 1) L.T2.cl L.M_Divider_step G_Divider_step hr L.b_Divider_step .nil pass0))
    (pss_one (ps_ret (pe_cmpR (op_eqD hr.units) (pe_slice sl_list (pe_meth0 (pv 1) L.T2.cl L.M_Divider_digits G_Divider_digits hr L.b_Divider_digits .nil pass0) (po_some (pe_un un_neg pe_int)) po_none) (pe_lst (pa_cons (pv 4) pa_nil)) (nomark _))))) pss_nil)
    (pss_cons (ps_set (i := 5) sc__law_go.nd rfl (.inl rfl) (pe_ifExp (pt_cmpR op_gt (pe_meth0 (pv 1) L.T2.cl L.M_Divider_left G_Divider_left hr L.b_Divider_left .nil pass0) pe_int (nomark _)) pe_str pe_str))
    (pss_one (ps_ret (pe_and (pe_cmpR op_notN (pe_call G__law_refused hr (by rfl) L.m__law_refused L.F__law_refused.kp L.b__law_refused .nil pass0 (pa_cons (pv 1) (pa_cons (pv 5) pa_nil))) pe_non (nomark _)) (pe_one (pe_cmpR op_eq (pe_callG G__law_state gd hr (by rfl) L.m__law_state L.F__law_state.kp L.b__law_state .nil pass0 (pa_cons (pv 1) pa_nil)) (pv 2) (nomark _))))))))))), ?_⟩
  obtain ⟨df, hf, h1, h2, h3, h4⟩ := id D.at_.fa
  have hj := D.le
  have hl := dvDs_len (sg := sg) hj
  have hN := dvN_le (sc := sc) (a := a) (b := b') h4
  have nbx : b ≠ x := fun z => by
    obtain ⟨_, e⟩ := D.at_.row
    obtain ⟨_, _, _, eb, _⟩ := hB
    rw [← z, eb] at e
    cases e
  refine ⟨_, rfl, x, f, l, sc, tl, a, b', way, sg, j, rfl, D, fun H1 s1 => ?_⟩
  try simp only [L2.start, List.map_cons, List.map_nil, List.length_cons, List.length_nil, List.replicate_succ, List.replicate_zero, List.cons_append, List.nil_append, List.set_cons_succ, List.set_cons_zero, Nat.reduceAdd, Nat.reduceSub, Nat.zero_add]
  have D1 := D.same s1
  obtain ⟨dx1, hx1⟩ := D1.at_.row
  refine ⟨_, rfl, x, dx1, _, rfl, hx1, rfl, x, f, l, sc, tl, a, b', way, sg, _, _, _, _, _, rfl, D1.at_, by omega, fun p H2 np s2 ep => ?_⟩
  try simp only [L2.start, List.map_cons, List.map_nil, List.length_cons, List.length_nil, List.replicate_succ, List.replicate_zero, List.cons_append, List.nil_append, List.set_cons_succ, List.set_cons_zero, Nat.reduceAdd, Nat.reduceSub, Nat.zero_add]
  refine ⟨_, rfl, .inl ⟨rfl, _, SqL.of ep⟩, p, _, _, rfl, rfl, ep, (by rw [List.length_map]; exact small1000 (by omega)), ?_⟩
  have w3 : Same H (upd H2 p (.lst ((dvDs sg sc tl a b' j).map V.int ++ [V.int 9]))) := fun y u e => by
    rw [upd_ne (ne_of_none (s1 _ _ e) np)]
    exact s2 _ _ (s1 _ _ e)
  generalize upd H2 p (.lst ((dvDs sg sc tl a b' j).map V.int ++ [V.int 9])) = H3 at *
  have D3 := D.same w3
  have B3 := hB.same w3
  obtain ⟨dx3, hx3⟩ := D3.at_.row
  try simp only [L2.start, List.map_cons, List.map_nil, List.length_cons, List.length_nil, List.replicate_succ, List.replicate_zero, List.cons_append, List.nil_append, List.set_cons_succ, List.set_cons_zero, Nat.reduceAdd, Nat.reduceSub, Nat.zero_add]
  refine ifS_ev (fun r H' => (r = true → j < dvN sc tl a b') ∧ DvS C CD H' x f l sc tl a b' way sg j ∧ BoxAt (c + 1) H' b ∧ Keep b H H') (fun Q' q' => ?_) ?_ ?_
  · refine ⟨_, rfl, x, dx3, _, rfl, hx3, rfl, x, f, l, sc, tl, a, b', way, sg, _, _, _, _, _, rfl, D3.at_, _, _, rfl, rfl, _, rfl, ite2 (fun c1 => ?_) (fun c1 => ?_)⟩
    · have c2 := of_decide_eq_true c1
      rw [dvDue_N, hl] at c2
      refine ⟨_, rfl, b, _, _, rfl, B3, (by decide), (by decide), (by decide), (by omega), (by decide), fun r H4 u4 v4 B4 k4 => ?_⟩
      replace B4 := bx1 B4
      have D4 : DvS C CD H4 x f l sc tl a b' way sg j := by
        obtain ⟨⟨⟨dx, hx⟩, ⟨d2, hf2, rf⟩, el⟩, le⟩ := D3
        refine ⟨⟨⟨dx, k4 _ _ hx nbx.symm⟩, ⟨d2, k4 _ _ hf2 (fun z => ?_), rf⟩, k4 _ _ el nbl.symm⟩, le⟩
        obtain ⟨_, _, _, eb, _⟩ := B3
        rw [z, eb] at hf2
        cases hf2
      exact ⟨_, _, rfl, rfl, _, rfl, q' _ _ ⟨fun _ => by omega, D4, B4, (Keep.ofSame w3).trans k4⟩⟩
    · exact q' _ _ ⟨fun z => (by cases z), D3, B3.mono (by omega), Keep.ofSame w3⟩
  · rintro H4 ⟨hlt, D4, B4, k4⟩
    have hlt := hlt rfl
    obtain ⟨dx4, hx4⟩ := D4.at_.row
    try simp only [L2.start, List.map_cons, List.map_nil, List.length_cons, List.length_nil, List.replicate_succ, List.replicate_zero, List.cons_append, List.nil_append, List.set_cons_succ, List.set_cons_zero, Nat.reduceAdd, Nat.reduceSub, Nat.zero_add]
    refine ⟨_, rfl, x, dx4, _, rfl, hx4, rfl, x, f, l, sc, tl, a, b', way, sg, j, rfl, D4, hlt, fun H5 D5 k5 => ?_⟩
    try simp only [L2.start, List.map_cons, List.map_nil, List.length_cons, List.length_nil, List.replicate_succ, List.replicate_zero, List.cons_append, List.nil_append, List.set_cons_succ, List.set_cons_zero, Nat.reduceAdd, Nat.reduceSub, Nat.zero_add]
    obtain ⟨dx5, hx5⟩ := D5.at_.row
    have hl5 := dvDs_len (sg := sg) D5.le
    have B5 : BoxAt (c + 1) H5 b := by
      obtain ⟨x0, x1, x2, eb, r⟩ := B4
      exact ⟨x0, x1, x2, k5 _ _ eb nbx nbl, r⟩
    have w5 : ∀ p u, H p = some u → p ≠ b → p ≠ x → p ≠ l → H5 p = some u := fun p u e n1 n2 n3 => k5 _ _ (k4 _ _ e n1) n2 n3
    refine ⟨_, rfl, x, dx5, _, rfl, hx5, rfl, x, f, l, sc, tl, a, b', way, sg, _, _, _, _, _, rfl, D5.at_, by omega, fun p5 H6 np5 s6 ep6 => ?_⟩
    rw [dvDs_step hlt] at ep6
    refine ⟨_, rfl, _, rfl, p5, _, rfl, SqL.of ep6, fun t nt => ?_⟩
    rw [cut_last]
    have st := same_upd (o := .lst ([dvD sg sc tl a b' j].map V.int)) nt
    have et : (upd H6 t (.lst ([dvD sg sc tl a b' j].map V.int))) t = some (.lst ([dvD sg sc tl a b' j].map V.int)) := upd_same
    generalize upd H6 t (.lst ([dvD sg sc tl a b' j].map V.int)) = H7 at *
    refine ⟨_, rfl, (by show 1 ≤ sizeLine; decide), fun t2 nt2 => ?_⟩
    have st2 := same_upd (o := .lst ([dvD sg sc tl a b' j].map V.int)) nt2
    refine ⟨_, _, .lst (SqL.of (st2 _ _ et)) (dp_ints42 [dvD sg sc tl a b' j]), .lst (SqL.of (upd_same (o := .lst ([dvD sg sc tl a b' j].map V.int)))) (dp_ints42 [dvD sg sc tl a b' j]), shp_ints42 _, shp_ints42 _, ?_⟩
    rw [eqv_ints]
    have w8 := s6.trans (st.trans st2)
    exact q _ (j + 1) (D5.same w8) (B5.same w8) fun p u e n1 n2 n3 => w8 _ _ (w5 p u e n1 n2 n3)
  rintro H4 ⟨_, D4, B4, k4⟩
  dsimp only [tNext]
  obtain ⟨dx4, hx4⟩ := D4.at_.row
  try simp only [L2.start, List.map_cons, List.map_nil, List.length_cons, List.length_nil, List.replicate_succ, List.replicate_zero, List.cons_append, List.nil_append, List.set_cons_succ, List.set_cons_zero, Nat.reduceAdd, Nat.reduceSub, Nat.zero_add]
  refine seq_asg41 ?_
  refine if_ev (fun z H' => z = .str (if decide (j = dvN sc tl a b') = true then "step" else "outcome") ∧ H' = H4) (fun Q' q' => ?_) ?_
  · refine ⟨_, rfl, x, dx4, _, rfl, hx4, rfl, x, f, l, sc, tl, a, b', way, sg, _, _, _, _, _, rfl, D4.at_, _, _, rfl, rfl, _, rfl, ite2 (fun c1 => ?_) (fun c1 => ?_)⟩
    · have c2 := of_decide_eq_true c1
      rw [dvDue_N, hl] at c2
      exact q' _ _ ⟨by rw [decide_eq_false (show ¬ j = dvN sc tl a b' by omega)]; rfl, rfl⟩
    · have c2 := of_decide_eq_false (Bool.eq_false_iff.mpr c1)
      rw [dvDue_N, hl] at c2
      exact q' _ _ ⟨by rw [decide_eq_true (show j = dvN sc tl a b' by omega)]; rfl, rfl⟩
  rintro _ H4 ⟨rfl, rfl⟩
  try simp only [L2.start, List.map_cons, List.map_nil, List.length_cons, List.length_nil, List.replicate_succ, List.replicate_zero, List.cons_append, List.nil_append, List.set_cons_succ, List.set_cons_zero, Nat.reduceAdd, Nat.reduceSub, Nat.zero_add]
  refine ⟨_, rfl, _, rfl, x, f, l, sc, tl, a, b', way, sg, j, decide (j = dvN sc tl a b'), rfl, D4, of_decide_eq_true, (fun z => by have := of_decide_eq_false z; omega), fun t H5 nt s5 et => ?_⟩
  refine ⟨rfl, _, rfl, iteT ?_⟩
  refine ⟨_, rfl, x, f, l, sc, tl, a, b', way, sg, j, rfl, D4.same s5, fun H6 s6 => ?_⟩
  refine ⟨_, rfl, rfl, ?_⟩
  rw [decide_eq_true rfl]
  have w6 := s5.trans s6
  exact q _ j (D4.same w6) (B4.same w6) fun p u e n1 n2 n3 => w6 _ _ (k4 _ _ e n1)
end
section
variable {P : Program} {w : World} {K : PySem.W.Frag} {mg : Str → Option Value} {base : Heap}
variable {C : Addr} {CD : Addr} {a1 a2 a3 a4 a5 a6 a7 a8 a9 a10 a11 a12 a13 a14 a15 a16 a17 a18 a19 a20 a21 a22 a23 a24 a25 a26 a27 a28 a29 a30 a31 a32 a33 a34 a35 a36 a37 a38 a39 a40 a41 a42 a43 a44 a45 a46 a47 a48 a49 a50 a51 a52 a53 a54 : Addr} {l1 l2 l3 l4 l5 l6 l7 l8 l9 l10 l11 l12 l13 l14 l15 l16 l17 l18 l19 l20 l21 l22 l23 l24 l25 l26 l27 l28 l29 l30 l31 l32 l33 l34 l35 l36 l37 l38 l39 l40 l41 l42 l43 l44 l45 l46 l47 l48 l49 l50 l51 l52 l53 l54 : FuncData} {t39 t40 t41 tg_NEAR tg_CUT tg_UP : Tok} {E_NoStep I_NoStep E_Undone I_Undone E_Busy : Addr}
/-! ### several divisions side by side -/
def Apart (x l x' f' l' : Addr) : Prop := x' ≠ x ∧ x' ≠ l ∧ f' ≠ x ∧ f' ≠ l ∧ l' ≠ x ∧ l' ≠ l
section
variable {H H' : Hp} {x f l x' f' l' b : Addr} {sc tl : Nat} {u v u' v' c : Int} {way : Str} {sg : Bool} {j : Nat}
theorem DvS.apart (D : DvS C CD H x f l sc tl u v way sg j) (n1 : H x' = none) (n2 : H f' = none) (n3 : H l' = none) : Apart x l x' f' l' ∧ Apart x' l' x f l := by
  obtain ⟨⟨⟨dx, hx⟩, ⟨df, hf, _⟩, el⟩, _⟩ := D
  exact ⟨⟨(ne_of_none hx n1).symm, (ne_of_none el n1).symm, (ne_of_none hx n2).symm, (ne_of_none el n2).symm, (ne_of_none hx n3).symm, (ne_of_none el n3).symm⟩, ne_of_none hx n1, ne_of_none hx n3, ne_of_none hf n1, ne_of_none hf n3, ne_of_none el n1, ne_of_none el n3⟩
theorem DvS.ofKx (D : DvS C CD H x' f' l' sc tl u v way sg j) (A : Apart x l x' f' l') (k : Kx x l H H') : DvS C CD H' x' f' l' sc tl u v way sg j := by
  obtain ⟨⟨⟨dx, hx⟩, ⟨df, hf, r⟩, el⟩, le⟩ := D
  obtain ⟨a1, a2, a3, a4, a5, a6⟩ := A
  exact ⟨⟨⟨dx, k _ _ hx a1 a2⟩, ⟨df, k _ _ hf a3 a4, r⟩, k _ _ el a5 a6⟩, le⟩
theorem DvS.box (D : DvS C CD H x f l sc tl u v way sg j) (B : BoxAt c H b) : x ≠ b ∧ f ≠ b := by
  obtain ⟨⟨⟨dx, hx⟩, ⟨df, hf, _⟩, _⟩, _⟩ := D
  obtain ⟨_, _, _, eb, _⟩ := B
  refine ⟨fun z => ?_, fun z => ?_⟩
  · rw [z, eb] at hx
    cases hx
  · rw [z, eb] at hf
    cases hf
theorem DvS.ofKeep (D : DvS C CD H x f l sc tl u v way sg j) (B : BoxAt c H b) (n : l ≠ b) (k : Keep b H H') : DvS C CD H' x f l sc tl u v way sg j := by
  obtain ⟨n1, n2⟩ := D.box B
  obtain ⟨⟨⟨dx, hx⟩, ⟨df, hf, r⟩, el⟩, le⟩ := D
  exact ⟨⟨⟨dx, k _ _ hx n1⟩, ⟨df, k _ _ hf n2, r⟩, k _ _ el n⟩, le⟩
theorem DvS.ofGo (D : DvS C CD H x' f' l' sc tl u v way sg j) (B : BoxAt c H b) (n : l' ≠ b) (A : Apart x l x' f' l') (k : ∀ p o, H p = some o → p ≠ b → p ≠ x → p ≠ l → H' p = some o) : DvS C CD H' x' f' l' sc tl u v way sg j := by
  obtain ⟨n1, n2⟩ := D.box B
  obtain ⟨⟨⟨dx, hx⟩, ⟨df, hf, r⟩, el⟩, le⟩ := D
  obtain ⟨a1, a2, a3, a4, a5, a6⟩ := A
  exact ⟨⟨⟨dx, k _ _ hx n1 a1 a2⟩, ⟨df, k _ _ hf n2 a3 a4, r⟩, k _ _ el n a5 a6⟩, le⟩
theorem BoxAt.ofKx (B : BoxAt c H b) (n1 : b ≠ x) (n2 : b ≠ l) (k : Kx x l H H') : BoxAt c H' b := by
  obtain ⟨x0, x1, x2, eb, r⟩ := B
  exact ⟨x0, x1, x2, k _ _ eb n1 n2, r⟩
end
theorem at_way {r : Int} (h0 : 0 ≤ r) (h1 : r < 4) : ∃ m : Str, atI ([.str "near", .str "cut", .str "up", .str "down"] : List V) r = some (.str m) ∧ m ∈ WL := by
  have c : r = 0 ∨ r = 1 ∨ r = 2 ∨ r = 3 := by omega
  rcases c with z | z | z | z <;> subst z
  · exact ⟨"near", rfl, by simp [WL]⟩
  · exact ⟨"cut", rfl, by simp [WL]⟩
  · exact ⟨"up", rfl, by simp [WL]⟩
  · exact ⟨"down", rfl, by simp [WL]⟩
theorem rnd_len (sc tl : Nat) (s n p : Int) (w : Str) (m : Bool) : (GR.rnd sc tl s n p w m).2.length ≤ 1000 := by
  unfold GR.rnd GR.flg
  repeat' split
  all_goals first | exact (by decide : 2 ≤ 1000) | exact (by decide : 0 ≤ 1000) | exact (by decide : 1 ≤ 1000)
theorem div_len (sc tl : Nat) (a b : Int) (w : Str) : (divR sc tl a b w).2.length ≤ 1000 := by
  unfold divR
  repeat' split
  all_goals first | exact (by decide : 0 ≤ 1000) | exact (by decide : 1 ≤ 1000) | exact rnd_len _ _ _ _ _ _ _
theorem PairAt.sameP {H H' : Hp} {p : Addr} {r : Int × List Str} (h : PairAt H p r) (s : Same H H') : PairAt H' p r := by
  obtain ⟨f, e1, e2⟩ := h
  exact ⟨f, s _ _ e1, s _ _ e2⟩
/-! ### _law_right -/
def spRight (K : PySem.W.Frag) : Sp := fun vs H Q _ => ∃ (b : Addr) (c : Int), vs = [.ref b] ∧ BoxAt c H b ∧ c ≤ 700000000 ∧
  ∀ (H' : Hp), BoxAt (c + 200) H' b → Keep b H H' → Q (.bl true) H'
theorem ok__law_right (B : Bl mg) (L : LL K mg C CD a1 a2 a3 a4 a5 a6 a7 a8 a9 a10 a11 a12 a13 a14 a15 a16 a17 a18 a19 a20 a21 a22 a23 a24 a25 a26 a27 a28 a29 a30 a31 a32 a33 a34 a35 a36 a37 a38 a39 a40 a41 a42 a43 a44 a45 a46 a47 a48 a49 a50 a51 a52 a53 a54 l1 l2 l3 l4 l5 l6 l7 l8 l9 l10 l11 l12 l13 l14 l15 l16 l17 l18 l19 l20 l21 l22 l23 l24 l25 l26 l27 l28 l29 l30 l31 l32 l33 l34 l35 l36 l37 l38 l39 l40 l41 l42 l43 l44 l45 l46 l47 l48 l49 l50 l51 l52 l53 l54 t39 t40 t41 tg_NEAR tg_CUT tg_UP E_NoStep I_NoStep E_Undone I_Undone E_Busy) : FnOkG P w K mg base CX0 13 a32 l32 ["_law_box_here"] (spRight K) := by
  have G__law_take : FnOk P w K mg base CX0 12 a23 l23 ["_law_box_here", "_law_size"] (spTake 1) := (ok_take L.F__law_take L.b__law_take L.m__law_take B 1).mono (by decide)
  have G__law_form : FnOk P w K mg base CX0 12 a26 l26 ["_law_box_here"] spForm := (ok__law_form B L).mono (by decide)
  have G__law_word : FnOk P w K mg base CX0 12 a27 l27 ["_law_box_here", "_law_scale", "_law_tail"] spWord := (ok__law_word B L).mono (by decide)
  have G__law_begun : FnOk P w K mg base CX0 12 a28 l28 ["_law_form_here", "_law_a", "_law_b", "_law_mode", "_law_by_signs", "_law_how"] (spBegunS C CD) := (ok_begunS B L).mono (by decide)
  have G__law_state : FnOkG P w K mg base CX0 12 a30 l30 ["_law_divider"] (spState C CD) := (ok__law_state B L).mono (by decide)
  have G__law_go : FnOkG P w K mg base CX0 12 a31 l31 ["_law_box_here", "_law_divider"] (spGo C CD) := (ok__law_go B L).mono (by decide)
  have G__law_same : FnOk P w K mg base CX0 12 a25 l25 ["_law_found", "_law_due"] (spSame K 4) := (ok_same L.F__law_same L.b__law_same L.m__law_same B 4).mono (by decide)
  have G_Form___init__ : FnOk P w K mg base CX0 11 a33 l33 ["self", "scale", "tail"] (spInit C) := (ok_Form___init__ B L).mono (by decide)
  have G_Divider_left : FnOk P w K mg base CX0 12 a52 l52 ["self"] (spLeft C CD) := (ok_Divider_left B L).mono (by decide)
  have G_Divider_step : FnOk P w K mg base CX0 12 a46 l46 ["self"] (spStepS C CD) := (ok_stepS B L).mono (by decide)
  have G_Divider_like : FnOk P w K mg base CX0 12 a54 l54 ["self"] (spLikeS C CD) := (ok_likeS B L).mono (by decide)
  have G_Divider_outcome : FnOk P w K mg base CX0 12 a53 l53 ["self"] (spOutS C CD) := (ok_outS B L).mono (by decide)
  refine L.F__law_right.okG sc__law_right (fun vs H Q E h => ?_) (fun cdv A outer s H vs Q E gd hr h => ?_)
  · obtain ⟨b, c, rfl, _⟩ := h
    rfl
  obtain ⟨b, c, rfl, hB, hc, q⟩ := h
  refine ⟨_, (pss_cons (ps_asg (pe_call G__law_form hr (by rfl) L.m__law_form L.F__law_form.kp L.b__law_form .nil pass0 (pa_cons (pv 0) pa_nil)) (pg_tup (by rfl) (pgs_cons (pg_name (i := 1) sc__law_right.nd rfl (.inr rfl)) (pgs_cons (pg_name (i := 2) sc__law_right.nd rfl (.inr rfl)) pgs_nil))))
    (pss_cons (ps_asg (pe_tup (pa_cons (pe_make L.M G_Form___init__ hr (by rfl) L.T.mgC L.b_Form___init__ .nil pass0 (pa_cons (pv 1) (pa_cons (pv 2) pa_nil))) (pa_cons (pe_lc (own := [("_law_turn", 10)]) (by rfl) sc__law_right.nd (pi_range1 (by rfl) B.range (pa_cons pe_int pa_nil)) (blkOk_by (own := [("_law_turn", 10)]) (N := ["_law_box_here", "_law_scale", "_law_tail", "_law_form_here", "_law_words", "_law_mode", "_law_by_signs", "_law_one", "_law_other", "_law_third", "_law_turn", "_law_copy", "_law_kept", "_law_ahead", "_law_held", "_law_divider"]) (sc := defScope s__law_right) (by decide +kernel)) (fun _ _ _ _ _ => pg_name (i := 10) sc__law_right.nd rfl (Or.inl rfl)) (fun _ _ _ _ _ => pts_nil) (fun _ _ _ _ _ => (pe_call G__law_word hr (by rfl) L.m__law_word L.F__law_word.kp L.b__law_word .nil pass0 (pa_cons (pv 0) (pa_cons (pv 1) (pa_cons (pv 2) pa_nil)))))) pa_nil))) (pg_tup (by rfl) (pgs_cons (pg_name (i := 3) sc__law_right.nd rfl (.inr rfl)) (pgs_cons (pg_name (i := 4) sc__law_right.nd rfl (.inr rfl)) pgs_nil))))
    (pss_cons (ps_asg (pe_tup (pa_cons (pe_ix ix_list (pe_lst (pa_cons pe_str (pa_cons pe_str (pa_cons pe_str (pa_cons pe_str pa_nil))))) (pe_call G__law_take hr (by rfl) L.m__law_take L.F__law_take.kp L.b__law_take .nil pass0 (pa_cons (pv 0) (pa_cons pe_int pa_nil))) (fun _ _ => rfl)) (pa_cons (pe_cmpR op_eq (pe_call G__law_take hr (by rfl) L.m__law_take L.F__law_take.kp L.b__law_take .nil pass0 (pa_cons (pv 0) (pa_cons pe_int pa_nil))) pe_int (nomark _)) pa_nil))) (pg_tup (by rfl) (pgs_cons (pg_name (i := 5) sc__law_right.nd rfl (.inr rfl)) (pgs_cons (pg_name (i := 6) sc__law_right.nd rfl (.inr rfl)) pgs_nil))))
    (pss_cons (ps_asg (pe_lc (own := [("_law_turn", 10)]) (by rfl) sc__law_right.nd (pi_range1 (by rfl) B.range (pa_cons pe_int pa_nil)) (blkOk_by (own := [("_law_turn", 10)]) (N := ["_law_box_here", "_law_scale", "_law_tail", "_law_form_here", "_law_words", "_law_mode", "_law_by_signs", "_law_one", "_law_other", "_law_third", "_law_turn", "_law_copy", "_law_kept", "_law_ahead", "_law_held", "_law_divider"]) (sc := defScope s__law_right) (by decide +kernel)) (fun _ _ _ _ _ => pg_name (i := 10) sc__law_right.nd rfl (Or.inl rfl)) (fun _ _ _ _ _ => pts_nil) (fun _ _ _ _ _ => (pe_call G__law_begun hr (by rfl) L.m__law_begun L.F__law_begun.kp L.b__law_begun .nil pass0 (pa_cons (pv 3) (pa_cons (pe_ix (ix_listK (K := K)) (pv 4) pe_int (fun _ _ => rfl)) (pa_cons (pe_ix (ix_listK (K := K)) (pv 4) pe_int (fun _ _ => rfl)) (pa_cons (pv 5) (pa_cons (pv 6) (pa_cons (pe_call G__law_take hr (by rfl) L.m__law_take L.F__law_take.kp L.b__law_take .nil pass0 (pa_cons (pv 0) (pa_cons pe_int pa_nil))) pa_nil))))))))) (pg_unl (by rfl) (pgs_cons (pg_name (i := 7) sc__law_right.nd rfl (.inl rfl)) (pgs_cons (pg_name (i := 8) sc__law_right.nd rfl (.inl rfl)) pgs_nil))))
    (pss_cons (ps_set (i := 9) sc__law_right.nd rfl (.inl rfl) (pe_call G__law_begun hr (by rfl) L.m__law_begun L.F__law_begun.kp L.b__law_begun .nil pass0 (pa_cons (pv 3) (pa_cons (pe_ix ix_list (pv 4) pe_int (fun _ _ => rfl)) (pa_cons (pe_ix ix_list (pv 4) pe_int (fun _ _ => rfl)) (pa_cons (pv 5) (pa_cons (pv 6) (pa_cons pe_int pa_nil))))))))
    (pss_cons (ps_for PassesOwn.never rfl (pi_range1 (by rfl) B.range (pa_cons (pe_call G__law_take hr (by rfl) L.m__law_take L.F__law_take.kp L.b__law_take .nil pass0 (pa_cons (pv 0) (pa_cons (pe_op op_add (pe_meth0 (pv 7) L.T2.cl L.M_Divider_left G_Divider_left hr L.b_Divider_left .nil pass0) pe_int) pa_nil))) pa_nil)) (pg_name (i := 10) sc__law_right.nd rfl (.inl rfl)) (pss_one (ps_expr (pe_meth0 (pv 7) L.T2.cl L.M_Divider_step G_Divider_step hr L.b_Divider_step .nil pass0))))
    (pss_cons (ps_par3 (by rfl) sc__law_right.nd (i := 11) (j := 12) (l := 13) rfl rfl rfl (by decide) (by decide) (by decide) rfl rfl rfl (pa_cons (pe_meth0 (pv 7) L.T2.cl L.M_Divider_like G_Divider_like hr L.b_Divider_like .nil pass0) (pa_cons (pe_callG G__law_state gd hr (by rfl) L.m__law_state L.F__law_state.kp L.b__law_state .nil pass0 (pa_cons (pv 7) pa_nil)) (pa_cons (pe_callG G__law_state gd hr (by rfl) L.m__law_state L.F__law_state.kp L.b__law_state .nil pass0 (pa_cons (pv 9) pa_nil)) pa_nil))) (by rfl))
    (pss_cons (ps_for PassesOwn.never rfl (pi_range1 (by rfl) B.range (pa_cons pe_int pa_nil)) (pg_name (i := 10) sc__law_right.nd rfl (.inl rfl)) (pss_one (ps_if (PW.pt (pw_or (pt_not (pt_val (pe_callG G__law_go gd hr (by rfl) L.m__law_go L.F__law_go.kp L.b__law_go .nil pass0 (pa_cons (pv 0) (pa_cons (pv 11) pa_nil))))) (pw_or (pt_cmpR op_ne (pe_callG G__law_state gd hr (by rfl) L.m__law_state L.F__law_state.kp L.b__law_state .nil pass0 (pa_cons (pv 7) pa_nil)) (pv 12) (nomark _)) (pw_or1 (pt_cmpR op_ne (pe_callG G__law_state gd hr (by rfl) L.m__law_state L.F__law_state.kp L.b__law_state .nil pass0 (pa_cons (pv 9) pa_nil)) (pv 13) (nomark _)))))) (pss_one (ps_ret pe_bl)) pss_nil)))
    (pss_cons (ps_if (pt_cmpR op_ne (pe_callG G__law_state gd hr (by rfl) L.m__law_state L.F__law_state.kp L.b__law_state .nil pass0 (pa_cons (pe_meth0 (pv 7) L.T2.cl L.M_Divider_like G_Divider_like hr L.b_Divider_like .nil pass0) pa_nil)) (pv 12) (nomark _)) (pss_one (ps_ret pe_bl)) pss_nil)
    (pss_cons (ps_set (i := 14) sc__law_right.nd rfl (.inl rfl) (pe_callG G__law_state gd hr (by rfl) L.m__law_state L.F__law_state.kp L.b__law_state .nil pass0 (pa_cons (pv 11) pa_nil)))
    (pss_cons (ps_for PassesOwn.never rfl (pi_range1 (by rfl) B.range (pa_cons (pe_meth0 (pv 7) L.T2.cl L.M_Divider_left G_Divider_left hr L.b_Divider_left .nil pass0) pa_nil)) (pg_name (i := 10) sc__law_right.nd rfl (.inl rfl)) (pss_one (ps_expr (pe_meth0 (pv 7) L.T2.cl L.M_Divider_step G_Divider_step hr L.b_Divider_step .nil pass0))))
    (pss_cons (ps_if (PW.pt (pw_or (pt_cmpR op_ne (pe_callG G__law_state gd hr (by rfl) L.m__law_state L.F__law_state.kp L.b__law_state .nil pass0 (pa_cons (pv 11) pa_nil)) (pv 14) (nomark _)) (pw_or1 (pt_not (pt_val (pe_callG G__law_go gd hr (by rfl) L.m__law_go L.F__law_go.kp L.b__law_go .nil pass0 (pa_cons (pv 0) (pa_cons (pv 9) pa_nil)))))))) (pss_one (ps_ret pe_bl)) pss_nil)
    (pss_cons (ps_for PassesOwn.never rfl (pi_tup (pe_tup (pa_cons (pv 11) (pa_cons (pv 8) pa_nil)))) (pg_name (i := 15) sc__law_right.nd rfl (.inl rfl)) (pss_cons (ps_for PassesOwn.never rfl (pi_range1 (by rfl) B.range (pa_cons (pe_meth0 (pv 15) L.T2.cl L.M_Divider_left G_Divider_left hr L.b_Divider_left .nil pass0) pa_nil)) (pg_name (i := 10) sc__law_right.nd rfl (.inl rfl)) (pss_one (ps_expr (pe_meth0 (pv 15) L.T2.cl L.M_Divider_step G_Divider_step hr L.b_Divider_step .nil pass0))))
    (pss_one (ps_if (PW.pt (pw_or (pt_cmpR op_ne (pe_callG G__law_state gd hr (by rfl) L.m__law_state L.F__law_state.kp L.b__law_state .nil pass0 (pa_cons (pv 15) pa_nil)) (pe_callG G__law_state gd hr (by rfl) L.m__law_state L.F__law_state.kp L.b__law_state .nil pass0 (pa_cons (pv 7) pa_nil)) (nomark _)) (pw_or1 (pt_not (pt_val (pe_call G__law_same hr (by rfl) L.m__law_same L.F__law_same.kp L.b__law_same .nil pass0 (pa_cons (pe_meth0 (pv 15) L.T2.cl L.M_Divider_outcome G_Divider_outcome hr L.b_Divider_outcome .nil pass0) (pa_cons (pe_meth0 (pv 7) L.T2.cl L.M_Divider_outcome G_Divider_outcome hr L.b_Divider_outcome .nil pass0) pa_nil)))))))) (pss_one (ps_ret pe_bl)) pss_nil))))
    (pss_one (ps_ret (pe_call G__law_same hr (by rfl) L.m__law_same L.F__law_same.kp L.b__law_same .nil pass0 (pa_cons (pe_meth0 (pe_meth0 (pv 7) L.T2.cl L.M_Divider_like G_Divider_like hr L.b_Divider_like .nil pass0) L.T2.cl L.M_Divider_outcome G_Divider_outcome hr L.b_Divider_outcome .nil pass0) (pa_cons (pe_meth0 (pv 7) L.T2.cl L.M_Divider_outcome G_Divider_outcome hr L.b_Divider_outcome .nil pass0) pa_nil)))))))))))))))))), ?_⟩
  refine ⟨_, rfl, b, c, rfl, hB, by omega, fun p sc tl H1 ep h1 h2 h3 h4 B1 k1 => ?_⟩
  refine ⟨p, _, rfl, .inl (.inl ep), rfl, _, _, rfl, _, _, rfl, rfl, ?_⟩
  try simp only [L2.start, List.map_cons, List.map_nil, List.length_cons, List.length_nil, List.replicate_succ, List.replicate_zero, List.cons_append, List.nil_append, List.set_cons_succ, List.set_cons_zero, Nat.reduceAdd, Nat.reduceSub, Nat.zero_add]
  refine ⟨_, rfl, _, rfl, fun x dx nx ndx ne => ?_⟩
  refine ⟨x, dx, sc, tl, rfl, upd_same, h1, h2, h3, h4, fun H2 F2 kp => ⟨rfl, ?_⟩⟩
  have s2 : Same H1 H2 := made nx ndx ne kp
  have nxb : x ≠ b := (B1.ne nx).symm
  have B2 := B1.same s2
  refine ⟨4, rfl, by decide, by decide, fun W nW => ?_⟩
  have nWb : W ≠ b := (B2.ne nW).symm
  have nWx : W ≠ x := fun z => by
    obtain ⟨_, e, _⟩ := F2
    rw [← z, nW] at e
    cases e
  have kA : Keep b H H2 := k1.trans (Keep.ofSame s2)
  refine lc_range (n := 4) (fun j H' => Keep b H2 H' ∧ BoxAt (c + 5 + 20 * (j : Int)) H' b ∧ ∃ ws : List Int, ws.length = j ∧ H' W = some (.lst (ws.map V.int))) ⟨Keep.new nW, (B2.same (same_upd nW)).mono (by omega), [], rfl, upd_same⟩ ?_ ?_
  · rintro j H3 hj ⟨k3, B3, ws, hws, eW⟩
    refine ⟨rfl, yesT ?_⟩
    refine ⟨_, rfl, _, rfl, _, rfl, b, sc, tl, _, rfl, h1, h2, h3, h4, B3, by omega, fun v H4 v0 v1 B4 k4 => ?_⟩
    refine ⟨_, k4 _ _ eW nWb, by rw [List.length_map]; exact small1000 (by omega), fun y u e n => ?_, BoxAt.mono (B4.at (upd_ne nWb.symm)) (by omega), ws ++ [v], by rw [List.length_append, hws]; rfl, ?_⟩
    · rw [upd_ne (ne_of_none e nW)]
      exact k4 _ _ (k3 _ _ e n) n
    · rw [upd_same, List.map_append]
      rfl
  rintro H3 ⟨k3, B3, ws, hws, eW⟩
  refine ⟨(by show 2 ≤ sizeLine; decide), fun tp ntp => ?_⟩
  have stp := same_upd (o := .tup [.ref x, .ref W]) ntp
  refine ⟨tp, _, rfl, .inl (.inl upd_same), rfl, _, _, rfl, _, _, rfl, rfl, ?_⟩
  replace eW := stp _ _ eW
  replace B3 := B3.same stp
  replace k3 := k3.trans (Keep.ofSame stp)
  clear stp ntp
  generalize upd H3 tp (.tup [.ref x, .ref W]) = H3 at *
  obtain ⟨u1, u2, u3, u4, rfl⟩ : ∃ u1 u2 u3 u4 : Int, ws = [u1, u2, u3, u4] := by
    match ws, hws with
    | [u1, u2, u3, u4], _ => exact ⟨u1, u2, u3, u4, rfl⟩
  have F3 := F2.keep k3 nxb
  have kB := kA.trans k3
  clear hws k3 kA F2 B2 B1 k1 nW s2 kp ep nx ndx ne
  try simp only [L2.start, List.map_cons, List.map_nil, List.length_cons, List.length_nil, List.replicate_succ, List.replicate_zero, List.cons_append, List.nil_append, List.set_cons_succ, List.set_cons_zero, Nat.reduceAdd, Nat.reduceSub, Nat.zero_add]
  refine ⟨(by show 4 ≤ sizeLine; decide), fun lw nlw => ?_⟩
  have slw := same_upd (o := .lst [.str "near", .str "cut", .str "up", .str "down"]) nlw
  have nlb : lw ≠ b := (B3.ne nlw).symm
  refine ⟨_, rfl, b, _, _, rfl, B3.same slw, (by decide), (by decide), (by decide), (by omega), (by decide), fun r5 H5 u5 v5 B5 k5 => ?_⟩
  replace B5 := bx1 B5
  obtain ⟨m, hm, hW⟩ := at_way u5 v5
  refine ⟨lw, _, _, _, rfl, rfl, SqL.of (k5 _ _ upd_same nlb), hm, _, rfl, b, _, _, rfl, B5, (by decide), (by decide), (by decide), (by omega), (by decide), fun r6 H6 u6 v6 B6 k6 => ?_⟩
  replace B6 := bx1 B6
  refine ⟨rfl, (by show 2 ≤ sizeLine; decide), fun tp ntp => ?_⟩
  have stp := same_upd (o := .tup [.str m, .bl (decide (V.int r6 = V.int 0))]) ntp
  refine ⟨tp, _, rfl, .inl (.inl upd_same), rfl, _, _, rfl, _, _, rfl, rfl, ?_⟩
  replace B6 := B6.same stp
  replace k6 := k6.trans (Keep.ofSame stp)
  clear stp ntp
  generalize upd H6 tp (.tup [.str m, .bl (decide (V.int r6 = V.int 0))]) = H6 at *
  generalize decide (V.int r6 = V.int 0) = sg at *
  have kC : Keep b H3 H6 := ((Keep.ofSame slw).trans k5).trans k6
  have F6 := F3.keep kC nxb
  have eW6 := kC _ _ eW nWb
  have kD := kB.trans kC
  clear slw nlw k5 k6 kC kB F3 eW B3 B5 hm hW u5 v5 u6 v6
  try simp only [L2.start, List.map_cons, List.map_nil, List.length_cons, List.length_nil, List.replicate_succ, List.replicate_zero, List.cons_append, List.nil_append, List.set_cons_succ, List.set_cons_zero, Nat.reduceAdd, Nat.reduceSub, Nat.zero_add]
  refine ⟨2, rfl, by decide, by decide, fun O nO => ?_⟩
  have nOb : O ≠ b := (B6.ne nO).symm
  have nOx : O ≠ x := fun z => by
    obtain ⟨_, e, _⟩ := F6
    rw [← z, nO] at e
    cases e
  have nOW : O ≠ W := (ne_of_none eW6 nO).symm
  refine lc_range (n := 2) (fun j H' => Keep b H6 H' ∧ BoxAt (c + 85 + 1 + 1 + (j : Int)) H' b ∧ ∃ ts : List (Addr × Addr × Addr), ts.length = j ∧ H' O = some (.lst (ts.map fun t => V.ref t.1)) ∧ (∀ t ∈ ts, DvS C CD H' t.1 t.2.1 t.2.2 sc tl u1 u2 m sg 0 ∧ t.2.2 ≠ b ∧ O ≠ t.1 ∧ O ≠ t.2.1 ∧ O ≠ t.2.2 ∧ H6 t.1 = none ∧ H6 t.2.2 = none) ∧ ts.Pairwise (fun s t => Apart s.1 s.2.2 t.1 t.2.1 t.2.2 ∧ Apart t.1 t.2.2 s.1 s.2.1 s.2.2))
    ⟨Keep.new nO, (B6.same (same_upd nO)).mono (by omega), [], rfl, upd_same, (fun t h => nomatch h), .nil⟩ ?_ ?_
  · rintro j H7 hj ⟨k7, B7, ts, hts, eO, hD, hP⟩
    refine ⟨rfl, yesT ?_⟩
    have eW7 := k7 _ _ eW6 nWb
    have F7 := F6.keep k7 nxb
    refine ⟨_, rfl, _, rfl, W, _, _, _, rfl, rfl, SqL.of eW7, rfl, _, rfl, W, _, _, _, rfl, rfl, SqL.of eW7, rfl, _, rfl, _, rfl, _, rfl, b, _, _, rfl, B7, (by decide), (by decide), (by decide), (by omega), (by decide), fun r8 H8 u8 v8 B8 k8 => ?_⟩
    replace B8 := bx1 B8
    refine ⟨x, sc, tl, u1, u2, m, sg, r8, rfl, F7.keep k8 nxb, fun xd f l H9 D9 nx9 nf9 nl9 s9 => ?_⟩
    have eO8 := k8 _ _ eO nOb
    have k68 := k7.trans k8
    have neb : ∀ {y : Addr}, H8 y = none → y ≠ b := fun {y} e z => by
      obtain ⟨_, _, _, eb, _⟩ := B8
      rw [z, eb] at e
      cases e
    refine ⟨_, s9 _ _ eO8, by rw [List.length_map, hts]; exact small1000 (by omega), fun y u e n => ?_, BoxAt.mono ((B8.same s9).at (upd_ne nOb.symm)) (by omega), ts ++ [(xd, f, l)], by rw [List.length_append, hts]; rfl, ?_, fun t ht => ?_, ?_⟩
    · rw [upd_ne (ne_of_none e nO)]
      exact s9 _ _ (k68 _ _ e n)
    · rw [upd_same, List.map_append]
      rfl
    · rcases List.mem_append.mp ht with z | z
      · obtain ⟨d1, d2, d3, d4, d5, d6, d7⟩ := hD t z
        exact ⟨(((d1.ofKeep B7 d2 k8).same s9).updR d3 d4 d5), d2, d3, d4, d5, d6, d7⟩
      · cases List.mem_singleton.mp z
        exact ⟨D9.updR (ne_of_none eO8 nx9) (ne_of_none eO8 nf9) (ne_of_none eO8 nl9), neb nl9, ne_of_none eO8 nx9, ne_of_none eO8 nf9, ne_of_none eO8 nl9, k68.none (neb nx9) nx9, k68.none (neb nl9) nl9⟩
    · refine List.pairwise_append.mpr ⟨hP, List.pairwise_singleton _ _, fun s hs t ht => ?_⟩
      cases List.mem_singleton.mp ht
      obtain ⟨d1, d2, _⟩ := hD s hs
      exact (d1.ofKeep B7 d2 k8).apart nx9 nf9 nl9
  rintro H7 ⟨k7, B7, ts, hts, eO, hD, hP⟩
  obtain ⟨⟨x1, f1, l1⟩, ⟨x2, f2, l2⟩, rfl⟩ : ∃ t1 t2 : Addr × Addr × Addr, ts = [t1, t2] := by
    match ts, hts with
    | [t1, t2], _ => exact ⟨t1, t2, rfl⟩
  obtain ⟨D1, nb1, _, _, _, hx1, hl1⟩ := hD (x1, f1, l1) (by simp)
  obtain ⟨D2, nb2, _, _, _, hx2, hl2⟩ := hD (x2, f2, l2) (by simp)
  obtain ⟨A12, A21⟩ := (List.pairwise_cons.mp hP).1 (x2, f2, l2) (by simp)
  dsimp only at D1 D2 nb1 nb2 hx1 hl1 hx2 hl2 A12 A21
  refine ⟨O, _, rfl, SqL.of eO, rfl, _, _, rfl, _, _, rfl, rfl, ?_⟩
  have eW7 := k7 _ _ eW6 nWb
  have F7 := F6.keep k7 nxb
  have kE := kD.trans k7
  replace hx1 := kD.none (D1.box B7).1 hx1
  replace hx2 := kD.none (D2.box B7).1 hx2
  replace hl1 := kD.none nb1 hl1
  replace hl2 := kD.none nb2 hl2
  clear hD hP hts eO nO eW6 F6 B6 k7 kD
  try simp only [L2.start, List.map_cons, List.map_nil, List.length_cons, List.length_nil, List.replicate_succ, List.replicate_zero, List.cons_append, List.nil_append, List.set_cons_succ, List.set_cons_zero, Nat.reduceAdd, Nat.reduceSub, Nat.zero_add]
  refine ⟨_, rfl, _, rfl, W, _, _, _, rfl, rfl, SqL.of eW7, rfl, _, rfl, W, _, _, _, rfl, rfl, SqL.of eW7, rfl, _, rfl, _, rfl, ?_⟩
  refine ⟨x, sc, tl, u3, u4, m, sg, 2, rfl, F7, fun x3 f3 l3 H8 D3 nx3 nf3 nl3 s8 => ?_⟩
  have nb3 : l3 ≠ b := (B7.ne nl3).symm
  obtain ⟨A13, A31⟩ := D1.apart nx3 nf3 nl3
  obtain ⟨A23, A32⟩ := D2.apart nx3 nf3 nl3
  have hx3 := kE.none (B7.ne nx3).symm nx3
  have hl3 := kE.none nb3 nl3
  replace D1 := D1.same s8
  replace D2 := D2.same s8
  replace B8 := B7.same s8
  have kF := kE.trans (Keep.ofSame s8)
  have ek1 : dvDue sc tl u1 u2 = (dvN sc tl u1 u2 : Nat) := dvDue_N _ _ _ _
  have hN := dvN_le (sc := sc) (a := u1) (b := u2) h4
  have ln0 := dvDs_len (sg := sg) D1.le
  clear nx3 nf3 nl3 s8 B7 kE F7 eW7
  try simp only [L2.start, List.map_cons, List.map_nil, List.length_cons, List.length_nil, List.replicate_succ, List.replicate_zero, List.cons_append, List.nil_append, List.set_cons_succ, List.set_cons_zero, Nat.reduceAdd, Nat.reduceSub, Nat.zero_add]
  obtain ⟨dx1, hr1⟩ := D1.at_.row
  refine ⟨_, rfl, _, rfl, x1, dx1, _, rfl, hr1, rfl, x1, f1, l1, sc, tl, u1, u2, m, sg, _, _, _, _, _, rfl, D1.at_, _, _, rfl, rfl, ?_⟩
  refine ⟨b, _, _, rfl, B8, (by omega), (by omega), (by omega), (by omega), (by decide), fun r9 H9 u9 v9 B9 k9 => ?_⟩
  replace B9 := bx1 B9
  replace D1 := D1.ofKeep B8 nb1 k9
  replace D2 := D2.ofKeep B8 nb2 k9
  replace D3 := D3.ofKeep B8 nb3 k9
  replace kF := kF.trans k9
  clear hr1 B8 k9 ln0
  obtain ⟨r, rfl⟩ : ∃ r : Nat, r9 = (r : Int) := ⟨r9.toNat, by omega⟩
  have hr0 : r ≤ dvN sc tl u1 u2 := by
    have := dvDs_len (sg := sg) D1.le
    omega
  refine ⟨_, rfl, by omega, by omega, ?_⟩
  rw [Int.toNat_natCast]
  refine for_range (n := r) (fun i σ Hx => ∃ (y10 : Option V), σ = [some (.ref b), some (.int sc), some (.int tl), some (.ref x), some (.ref W), some (.str m), some (.bl sg), some (.ref x1), some (.ref x2), some (.ref x3), y10, none, none, none, none, none] ∧ DvS C CD Hx x1 f1 l1 sc tl u1 u2 m sg i ∧ DvS C CD Hx x2 f2 l2 sc tl u1 u2 m sg 0 ∧ DvS C CD Hx x3 f3 l3 sc tl u3 u4 m sg 0 ∧ BoxAt (c + 90) Hx b ∧ Keep b H Hx)
    ⟨_, rfl, D1, D2, D3, B9.mono (by omega), kF⟩ ?_ ?_
  · rintro i σ Hx hi ⟨y10, rfl, d1, d2, d3, bx, kx⟩
    obtain ⟨dx, hr⟩ := d1.at_.row
    refine ⟨_, rfl, x1, dx, _, rfl, hr, rfl, x1, f1, l1, sc, tl, u1, u2, m, sg, i, rfl, d1, by omega, fun Hy d1' k => ?_⟩
    exact ⟨_, rfl, d1', d2.ofKx A12 k, d3.ofKx A13 k, bx.ofKx (d1.box bx).1.symm nb1.symm k, fun y u e n => k _ _ (kx y u e n) (ne_of_none e hx1) (ne_of_none e hl1)⟩
  clear D1 D2 D3 B9 kF u9 v9
  rintro σ H9 ⟨y10, rfl, D1, D2, D3, B9, kF⟩
  obtain ⟨dx1, hr1⟩ := D1.at_.row
  try simp only [L2.start, List.map_cons, List.map_nil, List.length_cons, List.length_nil, List.replicate_succ, List.replicate_zero, List.cons_append, List.nil_append, List.set_cons_succ, List.set_cons_zero, Nat.reduceAdd, Nat.reduceSub, Nat.zero_add]
  refine ⟨_, rfl, x1, dx1, _, rfl, hr1, rfl, x1, f1, l1, sc, tl, u1, u2, m, sg, r, rfl, D1, fun x4 f4 l4 H10 D4 nx4 nf4 nl4 s10 => ?_⟩
  have nb4 : l4 ≠ b := (B9.ne nl4).symm
  obtain ⟨A14, A41⟩ := D1.apart nx4 nf4 nl4
  obtain ⟨A24, A42⟩ := D2.apart nx4 nf4 nl4
  obtain ⟨A34, A43⟩ := D3.apart nx4 nf4 nl4
  have hx4 := kF.none (B9.ne nx4).symm nx4
  have hl4 := kF.none nb4 nl4
  refine ⟨_, rfl, x1, f1, l1, sc, tl, u1, u2, m, sg, r, rfl, D1.same s10, fun H11 s11 => ?_⟩
  refine ⟨_, rfl, x3, f3, l3, sc, tl, u3, u4, m, sg, 0, rfl, (D3.same s10).same s11, fun H12 s12 => ?_⟩
  refine ⟨.ref x4, .str (dvData sg sc tl u1 u2 r).shown, .str (dvData sg sc tl u3 u4 0).shown, rfl, ?_⟩
  have w12 := s10.trans (s11.trans s12)
  try simp only [L2.start, List.map_cons, List.map_nil, List.length_cons, List.length_nil, List.replicate_succ, List.replicate_zero, List.cons_append, List.nil_append, List.set_cons_succ, List.set_cons_zero, Nat.reduceAdd, Nat.reduceSub, Nat.zero_add]
  refine ⟨8, rfl, by decide, by decide, ?_⟩
  refine for_range (n := 8) (fun i σ Hx => ∃ (y10 : Option V) (j4 : Nat), σ = [some (.ref b), some (.int sc), some (.int tl), some (.ref x), some (.ref W), some (.str m), some (.bl sg), some (.ref x1), some (.ref x2), some (.ref x3), y10, some (.ref x4), some (.str (dvData sg sc tl u1 u2 r).shown), some (.str (dvData sg sc tl u3 u4 0).shown), none, none] ∧ DvS C CD Hx x1 f1 l1 sc tl u1 u2 m sg r ∧ DvS C CD Hx x2 f2 l2 sc tl u1 u2 m sg 0 ∧ DvS C CD Hx x3 f3 l3 sc tl u3 u4 m sg 0 ∧ DvS C CD Hx x4 f4 l4 sc tl u1 u2 m sg j4 ∧ BoxAt (c + 90 + (i : Int)) Hx b ∧ Keep b H Hx)
    ⟨_, r, rfl, D1.same w12, D2.same w12, D3.same w12, D4.same (s11.trans s12), (B9.same w12).mono (by omega), kF.trans (Keep.ofSame w12)⟩ ?_ ?_
  · rintro i σ Hx hi ⟨y10, j4, rfl, d1, d2, d3, d4, bx, kx⟩
    try simp only [L2.start, List.map_cons, List.map_nil, List.length_cons, List.length_nil, List.replicate_succ, List.replicate_zero, List.cons_append, List.nil_append, List.set_cons_succ, List.set_cons_zero, Nat.reduceAdd, Nat.reduceSub, Nat.zero_add]
    refine ⟨_, rfl, _, rfl, b, x4, f4, l4, sc, tl, u1, u2, m, sg, j4, _, rfl, bx, by omega, d4, nb4.symm, fun Hy j5 d4' by' k => ?_⟩
    refine ⟨_, rfl, iteF ?_⟩
    have e1 := d1.ofGo bx nb1 A41 k
    have e2 := d2.ofGo bx nb2 A42 k
    have e3 := d3.ofGo bx nb3 A43 k
    have ky : Keep b H Hy := fun y u e n => k _ _ (kx y u e n) n (ne_of_none e hx4) (ne_of_none e hl4)
    refine ⟨_, rfl, x1, f1, l1, sc, tl, u1, u2, m, sg, r, rfl, e1, fun Hz sz => ?_⟩
    refine ⟨_, rfl, rfl, _, rfl, ?_⟩
    rw [decide_eq_true rfl]
    refine iteF ?_
    refine ⟨_, rfl, x3, f3, l3, sc, tl, u3, u4, m, sg, 0, rfl, e3.same sz, fun Hw sw => ?_⟩
    refine ⟨_, rfl, rfl, _, rfl, ?_⟩
    rw [decide_eq_true rfl]
    refine iteF ?_
    have ww := sz.trans sw
    exact ⟨_, j5, rfl, e1.same ww, e2.same ww, e3.same ww, d4'.same ww, (by'.same ww).mono (by omega), ky.trans (Keep.ofSame ww)⟩
  clear D1 D2 D3 D4 B9 kF s10 s11 s12 w12 hr1
  rintro σ H12 ⟨y10', j4, rfl, D1, D2, D3, D4, B12, kF⟩
  obtain ⟨dx1, hr1⟩ := D1.at_.row
  try simp only [L2.start, List.map_cons, List.map_nil, List.length_cons, List.length_nil, List.replicate_succ, List.replicate_zero, List.cons_append, List.nil_append, List.set_cons_succ, List.set_cons_zero, Nat.reduceAdd, Nat.reduceSub, Nat.zero_add]
  refine ⟨_, rfl, x1, dx1, _, rfl, hr1, rfl, x1, f1, l1, sc, tl, u1, u2, m, sg, r, rfl, D1, fun x5 f5 l5 H13 D5 _ _ _ s13 => ?_⟩
  refine ⟨x5, f5, l5, sc, tl, u1, u2, m, sg, r, rfl, D5, fun H14 s14 => ?_⟩
  refine ⟨_, rfl, rfl, _, rfl, ?_⟩
  rw [decide_eq_true rfl]
  refine iteF ?_
  clear D5
  refine ⟨_, rfl, x4, f4, l4, sc, tl, u1, u2, m, sg, j4, rfl, (D4.same s13).same s14, fun H15 s15 => ?_⟩
  have w15 := s13.trans (s14.trans s15)
  replace D1 := D1.same w15
  replace D2 := D2.same w15
  replace D3 := D3.same w15
  replace D4 := D4.same w15
  replace B12 := B12.same w15
  replace kF := kF.trans (Keep.ofSame w15)
  clear w15 s13 s14 s15 hr1
  obtain ⟨dx1, hr1⟩ := D1.at_.row
  try simp only [L2.start, List.map_cons, List.map_nil, List.length_cons, List.length_nil, List.replicate_succ, List.replicate_zero, List.cons_append, List.nil_append, List.set_cons_succ, List.set_cons_zero, Nat.reduceAdd, Nat.reduceSub, Nat.zero_add]
  refine ⟨_, rfl, x1, dx1, _, rfl, hr1, rfl, x1, f1, l1, sc, tl, u1, u2, m, sg, _, _, _, _, _, rfl, D1.at_, ?_⟩
  have lnr := dvDs_len (sg := sg) D1.le
  rw [show dvDue sc tl u1 u2 - ((dvDs sg sc tl u1 u2 r).length : Nat) = ((dvN sc tl u1 u2 - r : Nat) : Int) by omega]
  refine ⟨_, rfl, by omega, by omega, ?_⟩
  rw [Int.toNat_natCast]
  refine for_range (n := dvN sc tl u1 u2 - r) (fun i σ Hx => ∃ (y10 : Option V), σ = [some (.ref b), some (.int sc), some (.int tl), some (.ref x), some (.ref W), some (.str m), some (.bl sg), some (.ref x1), some (.ref x2), some (.ref x3), y10, some (.ref x4), some (.str (dvData sg sc tl u1 u2 r).shown), some (.str (dvData sg sc tl u3 u4 0).shown), some (.str (dvData sg sc tl u1 u2 j4).shown), none] ∧ DvS C CD Hx x1 f1 l1 sc tl u1 u2 m sg (r + i) ∧ DvS C CD Hx x2 f2 l2 sc tl u1 u2 m sg 0 ∧ DvS C CD Hx x3 f3 l3 sc tl u3 u4 m sg 0 ∧ DvS C CD Hx x4 f4 l4 sc tl u1 u2 m sg j4 ∧ BoxAt (c + 98) Hx b ∧ Keep b H Hx)
    ⟨_, rfl, D1, D2, D3, D4, B12.mono (by omega), kF⟩ ?_ ?_
  · rintro i σ Hx hi ⟨y10, rfl, d1, d2, d3, d4, bx, kx⟩
    obtain ⟨dx, hr⟩ := d1.at_.row
    refine ⟨_, rfl, x1, dx, _, rfl, hr, rfl, x1, f1, l1, sc, tl, u1, u2, m, sg, r + i, rfl, d1, by omega, fun Hy d1' k => ?_⟩
    exact ⟨_, rfl, d1', d2.ofKx A12 k, d3.ofKx A13 k, d4.ofKx A14 k, bx.ofKx (d1.box bx).1.symm nb1.symm k, fun y u e n => k _ _ (kx y u e n) (ne_of_none e hx1) (ne_of_none e hl1)⟩
  clear D1 D2 D3 D4 B12 kF hr1 lnr
  rintro σ H15 ⟨y10, rfl, D1, D2, D3, D4, B12, kF⟩
  rw [show r + (dvN sc tl u1 u2 - r) = dvN sc tl u1 u2 by omega] at D1
  try simp only [L2.start, List.map_cons, List.map_nil, List.length_cons, List.length_nil, List.replicate_succ, List.replicate_zero, List.cons_append, List.nil_append, List.set_cons_succ, List.set_cons_zero, Nat.reduceAdd, Nat.reduceSub, Nat.zero_add]
  refine ⟨_, rfl, x4, f4, l4, sc, tl, u1, u2, m, sg, j4, rfl, D4, fun H16 s16 => ?_⟩
  refine ⟨_, rfl, rfl, _, rfl, ?_⟩
  rw [decide_eq_true rfl]
  refine iteF ?_
  refine ⟨_, rfl, _, rfl, b, x3, f3, l3, sc, tl, u3, u4, m, sg, 0, _, rfl, B12.same s16, by omega, D3.same s16, nb3.symm, fun H17 j3 D3' B17 k17 => ?_⟩
  refine ⟨_, rfl, iteF ?_⟩
  replace D1 := (D1.same s16).ofGo (B12.same s16) nb1 A31 k17
  replace D2 := (D2.same s16).ofGo (B12.same s16) nb2 A32 k17
  replace D4 := (D4.same s16).ofGo (B12.same s16) nb4 A34 k17
  replace kF : Keep b H H17 := fun y u e n => k17 _ _ (s16 _ _ (kF y u e n)) n (ne_of_none e hx3) (ne_of_none e hl3)
  clear D3 D3' B12 s16 k17
  try simp only [L2.start, List.map_cons, List.map_nil, List.length_cons, List.length_nil, List.replicate_succ, List.replicate_zero, List.cons_append, List.nil_append, List.set_cons_succ, List.set_cons_zero, Nat.reduceAdd, Nat.reduceSub, Nat.zero_add]
  refine ⟨_, rfl, _, rfl, (by show 2 ≤ sizeLine; decide), fun tw ntw => ?_⟩
  have stw := same_upd (o := .tup [.ref x4, .ref x2]) ntw
  have etw : (upd H17 tw (.tup [.ref x4, .ref x2])) tw = some (.tup [.ref x4, .ref x2]) := upd_same
  refine ⟨tw, rfl, ⟨[.ref x4, .ref x2], .inl (.inl etw)⟩, ?_⟩
  replace B17 := B17.same stw
  replace D1 := D1.same stw
  have nt4 : tw ≠ x4 := by
    obtain ⟨_, e⟩ := D4.at_.row
    exact (ne_of_none e ntw).symm
  have ntl4 : tw ≠ l4 := (ne_of_none D4.at_.el ntw).symm
  have nt2 : tw ≠ x2 := by
    obtain ⟨_, e⟩ := D2.at_.row
    exact (ne_of_none e ntw).symm
  have ntl2 : tw ≠ l2 := (ne_of_none D2.at_.el ntw).symm
  replace D2 := D2.same stw
  replace D4 := D4.same stw
  replace kF := kF.trans (Keep.ofSame stw)
  clear stw ntw
  generalize upd H17 tw (.tup [.ref x4, .ref x2]) = H18 at *
  refine for_tup (K := K) (a := tw) (xs := [.ref x4, .ref x2]) (fun i σ Hx => ∃ (y10 y15 : Option V) (ja jb : Nat), σ = [some (.ref b), some (.int sc), some (.int tl), some (.ref x), some (.ref W), some (.str m), some (.bl sg), some (.ref x1), some (.ref x2), some (.ref x3), y10, some (.ref x4), some (.str (dvData sg sc tl u1 u2 r).shown), some (.str (dvData sg sc tl u3 u4 0).shown), some (.str (dvData sg sc tl u1 u2 j4).shown), y15] ∧ DvS C CD Hx x1 f1 l1 sc tl u1 u2 m sg (dvN sc tl u1 u2) ∧ DvS C CD Hx x4 f4 l4 sc tl u1 u2 m sg ja ∧ DvS C CD Hx x2 f2 l2 sc tl u1 u2 m sg jb ∧ BoxAt (c + 99) Hx b ∧ Keep b H Hx ∧ Hx tw = some (.tup [.ref x4, .ref x2]))
    ⟨_, _, j4, 0, rfl, D1, D4, D2, B17.mono (by omega), kF, etw⟩ (fun i σ Hx _ ⟨_, _, _, _, _, _, _, _, _, _, ew⟩ => .inl (.inl ew)) ?_ ?_
  · rintro i z σ Hx hz ⟨y10, y15, ja, jb, rfl, d1, d4, d2, bx, kx, ew⟩
    clear D1 D2 D4 B17 kF etw
    rcases (show i = 0 ∨ i = 1 by
      have := (List.getElem?_eq_some_iff.mp hz).1
      have : i < 2 := this
      omega) with ei | ei <;> subst ei
    · have hz : z = .ref x4 := by
        cases hz
        rfl
      subst hz
      obtain ⟨dx, hr⟩ := d4.at_.row
      try simp only [L2.start, List.map_cons, List.map_nil, List.length_cons, List.length_nil, List.replicate_succ, List.replicate_zero, List.cons_append, List.nil_append, List.set_cons_succ, List.set_cons_zero, Nat.reduceAdd, Nat.reduceSub, Nat.zero_add]
      refine ⟨_, rfl, x4, dx, _, rfl, hr, rfl, x4, f4, l4, sc, tl, u1, u2, m, sg, _, _, _, _, _, rfl, d4.at_, ?_⟩
      have lnr := dvDs_len (sg := sg) d4.le
      have le4 := d4.le
      rw [show dvDue sc tl u1 u2 - ((dvDs sg sc tl u1 u2 ja).length : Nat) = ((dvN sc tl u1 u2 - ja : Nat) : Int) by omega]
      refine ⟨_, rfl, by omega, by omega, ?_⟩
      rw [Int.toNat_natCast]
      refine for_range (n := dvN sc tl u1 u2 - ja) (fun i σ Hz => ∃ (y10 : Option V), σ = [some (.ref b), some (.int sc), some (.int tl), some (.ref x), some (.ref W), some (.str m), some (.bl sg), some (.ref x1), some (.ref x2), some (.ref x3), y10, some (.ref x4), some (.str (dvData sg sc tl u1 u2 r).shown), some (.str (dvData sg sc tl u3 u4 0).shown), some (.str (dvData sg sc tl u1 u2 j4).shown), some (.ref x4)] ∧ DvS C CD Hz x1 f1 l1 sc tl u1 u2 m sg (dvN sc tl u1 u2) ∧ DvS C CD Hz x4 f4 l4 sc tl u1 u2 m sg (ja + i) ∧ DvS C CD Hz x2 f2 l2 sc tl u1 u2 m sg jb ∧ BoxAt (c + 99) Hz b ∧ Keep b H Hz ∧ Hz tw = some (.tup [.ref x4, .ref x2]))
        ⟨_, rfl, d1, d4, d2, bx, kx, ew⟩ ?_ ?_
      · rintro i σ Hz hi ⟨y10, rfl, d1, dX, dO, bx, kx, ew⟩
        obtain ⟨dx, hr⟩ := dX.at_.row
        refine ⟨_, rfl, x4, dx, _, rfl, hr, rfl, x4, f4, l4, sc, tl, u1, u2, m, sg, ja + i, rfl, dX, by omega, fun Hy dX' k => ?_⟩
        exact ⟨_, rfl, d1.ofKx A41 k, dX', dO.ofKx A42 k, bx.ofKx (dX.box bx).1.symm nb4.symm k, (fun y u e n => k _ _ (kx y u e n) (ne_of_none e hx4) (ne_of_none e hl4)), k _ _ ew nt4 ntl4⟩
      rintro σ Hz ⟨y10, rfl, d1, dX, dO, bx, kx, ew⟩
      rw [show ja + (dvN sc tl u1 u2 - ja) = dvN sc tl u1 u2 by omega] at dX
      try simp only [L2.start, List.map_cons, List.map_nil, List.length_cons, List.length_nil, List.replicate_succ, List.replicate_zero, List.cons_append, List.nil_append, List.set_cons_succ, List.set_cons_zero, Nat.reduceAdd, Nat.reduceSub, Nat.zero_add]
      refine ⟨_, rfl, x4, f4, l4, sc, tl, u1, u2, m, sg, _, rfl, dX, fun H18 s18 => ?_⟩
      refine ⟨_, rfl, x1, f1, l1, sc, tl, u1, u2, m, sg, _, rfl, d1.same s18, fun H19 s19 => ?_⟩
      refine ⟨rfl, _, rfl, ?_⟩
      rw [decide_eq_true rfl]
      refine iteF ?_
      have w19 := s18.trans s19
      have dX9 := dX.same w19
      obtain ⟨dx9, hr9⟩ := dX9.at_.row
      refine ⟨_, rfl, x4, dx9, _, rfl, hr9, rfl, x4, f4, l4, sc, tl, u1, u2, m, sg, _, rfl, dX9, rfl, fun o1 H20 s20 P20 => ?_⟩
      have d20 := (d1.same w19).same s20
      obtain ⟨dx20, hr20⟩ := d20.at_.row
      refine ⟨_, rfl, x1, dx20, _, rfl, hr20, rfl, x1, f1, l1, sc, tl, u1, u2, m, sg, _, rfl, d20, rfl, fun o2 H21 s21 P21 => ?_⟩
      refine ⟨_, _, _, 3, rfl, rfl, lv_pair3 _ (div_len sc tl u1 u2 m), dp_pair (P20.sameP s21), dp_pair P21, fun H22 s22 => ?_⟩
      refine ⟨_, rfl, iteF ?_⟩
      have w22 := w19.trans (s20.trans (s21.trans s22))
      exact ⟨_, _, (dvN sc tl u1 u2), jb, rfl, d1.same w22, dX.same w22, dO.same w22, bx.same w22, kx.trans (Keep.ofSame w22), w22 _ _ ew⟩
    · have hz : z = .ref x2 := by
        cases hz
        rfl
      subst hz
      obtain ⟨dx, hr⟩ := d2.at_.row
      try simp only [L2.start, List.map_cons, List.map_nil, List.length_cons, List.length_nil, List.replicate_succ, List.replicate_zero, List.cons_append, List.nil_append, List.set_cons_succ, List.set_cons_zero, Nat.reduceAdd, Nat.reduceSub, Nat.zero_add]
      refine ⟨_, rfl, x2, dx, _, rfl, hr, rfl, x2, f2, l2, sc, tl, u1, u2, m, sg, _, _, _, _, _, rfl, d2.at_, ?_⟩
      have lnr := dvDs_len (sg := sg) d2.le
      have le4 := d2.le
      rw [show dvDue sc tl u1 u2 - ((dvDs sg sc tl u1 u2 jb).length : Nat) = ((dvN sc tl u1 u2 - jb : Nat) : Int) by omega]
      refine ⟨_, rfl, by omega, by omega, ?_⟩
      rw [Int.toNat_natCast]
      refine for_range (n := dvN sc tl u1 u2 - jb) (fun i σ Hz => ∃ (y10 : Option V), σ = [some (.ref b), some (.int sc), some (.int tl), some (.ref x), some (.ref W), some (.str m), some (.bl sg), some (.ref x1), some (.ref x2), some (.ref x3), y10, some (.ref x4), some (.str (dvData sg sc tl u1 u2 r).shown), some (.str (dvData sg sc tl u3 u4 0).shown), some (.str (dvData sg sc tl u1 u2 j4).shown), some (.ref x2)] ∧ DvS C CD Hz x1 f1 l1 sc tl u1 u2 m sg (dvN sc tl u1 u2) ∧ DvS C CD Hz x2 f2 l2 sc tl u1 u2 m sg (jb + i) ∧ DvS C CD Hz x4 f4 l4 sc tl u1 u2 m sg ja ∧ BoxAt (c + 99) Hz b ∧ Keep b H Hz ∧ Hz tw = some (.tup [.ref x4, .ref x2]))
        ⟨_, rfl, d1, d2, d4, bx, kx, ew⟩ ?_ ?_
      · rintro i σ Hz hi ⟨y10, rfl, d1, dX, dO, bx, kx, ew⟩
        obtain ⟨dx, hr⟩ := dX.at_.row
        refine ⟨_, rfl, x2, dx, _, rfl, hr, rfl, x2, f2, l2, sc, tl, u1, u2, m, sg, jb + i, rfl, dX, by omega, fun Hy dX' k => ?_⟩
        exact ⟨_, rfl, d1.ofKx A21 k, dX', dO.ofKx A24 k, bx.ofKx (dX.box bx).1.symm nb2.symm k, (fun y u e n => k _ _ (kx y u e n) (ne_of_none e hx2) (ne_of_none e hl2)), k _ _ ew nt2 ntl2⟩
      rintro σ Hz ⟨y10, rfl, d1, dX, dO, bx, kx, ew⟩
      rw [show jb + (dvN sc tl u1 u2 - jb) = dvN sc tl u1 u2 by omega] at dX
      try simp only [L2.start, List.map_cons, List.map_nil, List.length_cons, List.length_nil, List.replicate_succ, List.replicate_zero, List.cons_append, List.nil_append, List.set_cons_succ, List.set_cons_zero, Nat.reduceAdd, Nat.reduceSub, Nat.zero_add]
      refine ⟨_, rfl, x2, f2, l2, sc, tl, u1, u2, m, sg, _, rfl, dX, fun H18 s18 => ?_⟩
      refine ⟨_, rfl, x1, f1, l1, sc, tl, u1, u2, m, sg, _, rfl, d1.same s18, fun H19 s19 => ?_⟩
      refine ⟨rfl, _, rfl, ?_⟩
      rw [decide_eq_true rfl]
      refine iteF ?_
      have w19 := s18.trans s19
      have dX9 := dX.same w19
      obtain ⟨dx9, hr9⟩ := dX9.at_.row
      refine ⟨_, rfl, x2, dx9, _, rfl, hr9, rfl, x2, f2, l2, sc, tl, u1, u2, m, sg, _, rfl, dX9, rfl, fun o1 H20 s20 P20 => ?_⟩
      have d20 := (d1.same w19).same s20
      obtain ⟨dx20, hr20⟩ := d20.at_.row
      refine ⟨_, rfl, x1, dx20, _, rfl, hr20, rfl, x1, f1, l1, sc, tl, u1, u2, m, sg, _, rfl, d20, rfl, fun o2 H21 s21 P21 => ?_⟩
      refine ⟨_, _, _, 3, rfl, rfl, lv_pair3 _ (div_len sc tl u1 u2 m), dp_pair (P20.sameP s21), dp_pair P21, fun H22 s22 => ?_⟩
      refine ⟨_, rfl, iteF ?_⟩
      have w22 := w19.trans (s20.trans (s21.trans s22))
      exact ⟨_, _, ja, (dvN sc tl u1 u2), rfl, d1.same w22, dO.same w22, dX.same w22, bx.same w22, kx.trans (Keep.ofSame w22), w22 _ _ ew⟩
  clear D1 D2 D4 B17 kF etw
  rintro σ Hx ⟨y10, y15, ja, jb, rfl, d1, d4, d2, bx, kx, ew⟩
  obtain ⟨dx, hr⟩ := d1.at_.row
  try simp only [L2.start, List.map_cons, List.map_nil, List.length_cons, List.length_nil, List.replicate_succ, List.replicate_zero, List.cons_append, List.nil_append, List.set_cons_succ, List.set_cons_zero, Nat.reduceAdd, Nat.reduceSub, Nat.zero_add]
  refine ⟨_, rfl, x1, dx, _, rfl, hr, rfl, x1, f1, l1, sc, tl, u1, u2, m, sg, _, rfl, d1, fun x6 f6 l6 H20 D6 _ _ _ s20 => ?_⟩
  obtain ⟨dx6, hr6⟩ := D6.at_.row
  refine ⟨x6, dx6, _, rfl, hr6, rfl, x6, f6, l6, sc, tl, u1, u2, m, sg, _, rfl, D6, rfl, fun o1 H21 s21 P21 => ?_⟩
  have d21 := (d1.same s20).same s21
  obtain ⟨dx21, hr21⟩ := d21.at_.row
  refine ⟨_, rfl, x1, dx21, _, rfl, hr21, rfl, x1, f1, l1, sc, tl, u1, u2, m, sg, _, rfl, d21, rfl, fun o2 H22 s22 P22 => ?_⟩
  refine ⟨_, _, _, 3, rfl, rfl, lv_pair3 _ (div_len sc tl u1 u2 m), dp_pair (P21.sameP s22), dp_pair P22, fun H23 s23 => ?_⟩
  have w := s20.trans (s21.trans (s22.trans s23))
  exact q _ ((bx.same w).mono (by omega)) (kx.trans (Keep.ofSame w))
end
section
variable {P : Program} {w : World} {K : PySem.W.Frag} {mg : Str → Option Value} {base : Heap}
variable {C : Addr} {CD : Addr} {a1 a2 a3 a4 a5 a6 a7 a8 a9 a10 a11 a12 a13 a14 a15 a16 a17 a18 a19 a20 a21 a22 a23 a24 a25 a26 a27 a28 a29 a30 a31 a32 a33 a34 a35 a36 a37 a38 a39 a40 a41 a42 a43 a44 a45 a46 a47 a48 a49 a50 a51 a52 a53 a54 : Addr} {l1 l2 l3 l4 l5 l6 l7 l8 l9 l10 l11 l12 l13 l14 l15 l16 l17 l18 l19 l20 l21 l22 l23 l24 l25 l26 l27 l28 l29 l30 l31 l32 l33 l34 l35 l36 l37 l38 l39 l40 l41 l42 l43 l44 l45 l46 l47 l48 l49 l50 l51 l52 l53 l54 : FuncData} {t39 t40 t41 tg_NEAR tg_CUT tg_UP : Tok} {E_NoStep I_NoStep E_Undone I_Undone E_Busy : Addr}
def spLaw (K : PySem.W.Frag) : Sp := fun vs H Q _ => ∃ (a : Addr) (ns : List Int), vs = [.ref a] ∧ SqL K H a (ns.map V.int) ∧ ns.length ≤ 63 ∧ ∀ H', Q (.bl true) H'
theorem ok_law {f : Addr} {fd : FuncData} (F : Fun K "law" "law" s_law f fd) (B : Bl mg) (L : LL K mg C CD a1 a2 a3 a4 a5 a6 a7 a8 a9 a10 a11 a12 a13 a14 a15 a16 a17 a18 a19 a20 a21 a22 a23 a24 a25 a26 a27 a28 a29 a30 a31 a32 a33 a34 a35 a36 a37 a38 a39 a40 a41 a42 a43 a44 a45 a46 a47 a48 a49 a50 a51 a52 a53 a54 l1 l2 l3 l4 l5 l6 l7 l8 l9 l10 l11 l12 l13 l14 l15 l16 l17 l18 l19 l20 l21 l22 l23 l24 l25 l26 l27 l28 l29 l30 l31 l32 l33 l34 l35 l36 l37 l38 l39 l40 l41 l42 l43 l44 l45 l46 l47 l48 l49 l50 l51 l52 l53 l54 t39 t40 t41 tg_NEAR tg_CUT tg_UP E_NoStep I_NoStep E_Undone I_Undone E_Busy) : FnOkG P w K mg base CX0 14 f fd ["_law_script"] (spLaw K) := by
  have G__law_folded : FnOk P w K mg base CX0 13 a24 l24 ["_law_script", "_law_size"] (spFolded K) := ok_folded L.F__law_folded B
  have G__law_box : FnOk P w K mg base CX0 13 a22 l22 ["_law_script", "_law_k"] (spBox K) := ok_box L.F__law_box B
  have G__law_right : FnOkG P w K mg base CX0 13 a32 l32 ["_law_box_here"] (spRight K) := (ok__law_right B L).mono (by decide)
  refine F.okG sc_law (fun vs H Q E h => ?_) (fun cdv A outer s H vs Q E gd hr h => ?_)
  · obtain ⟨a, ns, rfl, _⟩ := h
    rfl
  obtain ⟨a, ns, rfl, hS, h63, q⟩ := h
  refine ⟨_, (pss_cons (ps_set (i := 1) sc_law.nd rfl (.inr rfl) (pe_call G__law_folded hr (by rfl) L.m__law_folded L.F__law_folded.kp L.b__law_folded .nil pass0 (pa_cons (pv 0) (pa_cons pe_int pa_nil))))
    (pss_one (ps_ret (pe_callB (cr_all rfl) (by rfl) B.all boot_all (pa_cons (pe_lc (own := [("_law_k", 2)]) (by rfl) sc_law.nd (pi_range1 (by rfl) B.range (pa_cons (pe_callB (call_max2 rfl) (by rfl) B.max boot_max (pa_cons pe_int (pa_cons (pe_callB call_len_seq (by rfl) B.len PySem.boot_len (pa_cons (pv 1) pa_nil)) pa_nil))) pa_nil)) (blkOk_by (own := [("_law_k", 2)]) (N := ["_law_script", "_law_cells", "_law_k"]) (sc := defScope s_law) (by decide +kernel)) (fun _ _ _ _ _ => pg_name (i := 2) sc_law.nd rfl (Or.inl rfl)) (fun _ _ _ _ _ => pts_nil) (fun _ _ _ _ _ => (pe_callG G__law_right gd hr (by rfl) L.m__law_right L.F__law_right.kp L.b__law_right .nil pass0 (pa_cons (pe_call G__law_box hr (by rfl) L.m__law_box L.F__law_box.kp L.b__law_box .nil pass0 (pa_cons (pv 1) (pa_cons (pv 2) pa_nil))) pa_nil)))) pa_nil))))), ?_⟩
  refine ⟨_, rfl, a, ns, 3, rfl, hS, h63, by decide, by decide, fun p H1 zs np s1 ep lz => ?_⟩
  have lz2 : zs.length ≤ 3 := by omega
  refine ⟨_, rfl, p, _, rfl, .inl (SqL.of ep), _, _, rfl, ?_⟩
  obtain ⟨n, en, hn⟩ : ∃ n : Nat, (if (((zs.map V.int).length : Nat) : Int) > 2 then (((zs.map V.int).length : Nat) : Int) else 2) = (n : Int) ∧ n ≤ 3 := by
    rw [List.length_map]
    split
    · exact ⟨zs.length, rfl, lz2⟩
    · exact ⟨2, rfl, by decide⟩
  rw [en]
  refine ⟨_, rfl, by omega, by omega, fun D nD => ?_⟩
  rw [Int.toNat_natCast]
  refine lc_range (n := n) (fun j H7 => Same H1 H7 ∧ H7 D = some (.lst (List.replicate j (.bl true)))) ⟨same_upd nD, upd_same⟩ ?_ ?_
  · rintro j H7 hj ⟨s7, eD⟩
    refine ⟨rfl, yesT ?_⟩
    refine ⟨_, rfl, _, rfl, p, zs, _, rfl, SqL.of (s7 _ _ ep), by omega, by omega, fun b H8 nb s8 B8 => ?_⟩
    refine ⟨b, _, rfl, B8, by omega, fun H9 B9 k9 => ?_⟩
    have nDb : D ≠ b := ne_of_none eD nb
    refine ⟨_, k9 _ _ (s8 _ _ eD) nDb, ?_, fun x u e => ?_, ?_⟩
    · rw [List.length_replicate]
      exact small1000 (by omega)
    · rw [upd_ne (ne_of_none e nD)]
      exact k9 _ _ (s8 _ _ (s7 _ _ e)) (ne_of_none (s7 _ _ e) nb)
    · rw [upd_same, repl_snoc]
  · rintro H7 ⟨s7, eD⟩
    refine ⟨D, List.replicate n true, rfl, .inl (.inl (by rw [List.map_replicate]; exact eD)), ?_⟩
    rw [all_repl]
    exact q _
end
theorem all_mk {l : PySem.W.OpenLaw} {w : World} {K : PySem.W.Frag} {h : Heap} {mg : Str → Option Value} {fa f1 f2 f3 f4 f5 f6 f7 f8 f9 f10 f11 f12 f13 f14 f15 f16 f17 f18 f19 f20 f21 f22 f23 f24 f25 f26 f27 f28 f29 f30 f31 f32 f33 f34 f35 f36 f37 f38 f39 f40 f41 f42 f43 f44 f45 f46 f47 f48 f49 f50 f51 f52 f53 f54 f55 C CD : Addr} (X : K.In h) (G : h.Ns mainGlobals mg) (hfa : mg "law" = some (.ref fa))
    {od1 an1 od2 an2 od3 an3 od4 an4 od5 an5 od6 an6 od7 an7 od8 an8 od9 an9 od10 an10 od11 an11 od12 an12 od13 an13 od14 an14 od15 an15 od16 an16 od17 an17 od18 an18 od19 an19 od20 an20 od21 an21 od22 an22 od23 an23 od24 an24 od25 an25 od26 an26 od27 an27 od28 an28 od29 an29 od30 an30 od31 an31 od32 an32 od33 an33 od34 an34 od35 an35 od36 an36 od37 an37 od38 an38 od39 an39 od40 an40 od41 an41 od42 an42 od43 an43 od44 an44 od45 an45 od46 an46 od47 an47 od48 an48 od49 an49 od50 an50 od51 an51 od52 an52 od53 an53 od54 an54 od55 an55 : Option Addr} {sl1 sl2 sl3 sl4 sl5 sl6 sl7 sl8 sl9 sl10 sl11 sl12 sl13 sl14 sl15 sl16 sl17 sl18 sl19 sl20 sl21 sl22 sl23 sl24 sl25 sl26 sl27 sl28 sl29 sl30 sl31 sl32 sl33 sl34 sl35 sl36 sl37 sl38 sl39 sl40 sl41 sl42 sl43 sl44 sl45 sl46 sl47 sl48 sl49 sl50 sl51 sl52 sl53 sl54 sl55 : Array (Option Value)} {oc1 kV1 dc1 pm1 cd1 ct1 oc2 kV2 dc2 pm2 cd2 ct2 oc3 kV3 dc3 pm3 cd3 ct3 oc4 kV4 dc4 pm4 cd4 ct4 oc5 kV5 dc5 pm5 cd5 ct5 oc6 kV6 dc6 pm6 cd6 ct6 oc7 dc7 pm7 cd7 ct7 oc8 kV8 dc8 pm8 cd8 ct8 oc9 kV9 dc9 pm9 cd9 ct9 oc10 kV10 dc10 pm10 cd10 ct10 oc11 kV11 dc11 pm11 cd11 ct11 oc12 kV12 dc12 pm12 cd12 ct12 oc13 dc13 pm13 cd13 ct13 oc14 kV14 dc14 pm14 cd14 ct14 oc15 kV15 dc15 pm15 cd15 ct15 oc16 kV16 dc16 pm16 cd16 ct16 oc17 kV17 dc17 pm17 cd17 ct17 oc18 kV18 dc18 pm18 cd18 ct18 oc19 kV19 dc19 pm19 cd19 ct19 oc20 kV20 dc20 pm20 cd20 ct20 oc21 kV21 dc21 pm21 cd21 ct21 oc22 kV22 dc22 pm22 cd22 ct22 oc23 kV23 dc23 pm23 cd23 ct23 oc24 kV24 dc24 pm24 cd24 ct24 oc25 kV25 dc25 pm25 cd25 ct25 oc26 kV26 dc26 pm26 cd26 ct26 oc27 kV27 dc27 pm27 cd27 ct27 oc28 kV28 dc28 pm28 cd28 ct28 oc29 kV29 dc29 pm29 cd29 ct29 oc30 kV30 dc30 pm30 cd30 ct30 oc31 kV31 dc31 pm31 cd31 ct31 oc32 kV32 dc32 pm32 cd32 ct32 oc33 kV33 dc33 pm33 cd33 ct33 oc34 kV34 dc34 pm34 cd34 ct34 oc35 kV35 dc35 pm35 cd35 ct35 oc36 kV36 dc36 pm36 cd36 ct36 oc37 kV37 dc37 pm37 cd37 ct37 oc38 kV38 dc38 pm38 cd38 ct38 oc39 kV39 dc39 pm39 cd39 ct39 oc40 kV40 dc40 pm40 cd40 ct40 oc41 kV41 dc41 pm41 cd41 ct41 oc42 kV42 dc42 pm42 cd42 ct42 oc43 kV43 dc43 pm43 cd43 ct43 oc44 kV44 dc44 pm44 cd44 ct44 oc45 dc45 pm45 cd45 ct45 oc46 kV46 dc46 pm46 cd46 ct46 oc47 kV47 dc47 pm47 cd47 ct47 oc48 kV48 dc48 pm48 cd48 ct48 oc49 kV49 dc49 pm49 cd49 ct49 oc50 kV50 dc50 pm50 cd50 ct50 oc51 kV51 dc51 pm51 cd51 ct51 oc52 kV52 dc52 pm52 cd52 ct52 oc53 kV53 dc53 pm53 cd53 ct53 oc54 kV54 dc54 pm54 cd54 ct54 oc55 kV55 dc55 pm55 cd55 ct55 oT40 oT41 oT42 : Value}
    {vT40 vT41 vT42 : Tok}
    {T40 T41 T42 : Addr} {dT40 dT41 dT42 : Option Addr} {nT40 nT41 nT42 : Nat} {sT40 sT41 sT42 : Array (Option Value)}
     {ENoStep INoStep NNoStep : Addr} {nmNoStep qqNoStep : Str} {bsNoStep sbNoStep : List Value} {snNoStep : List Str} {abNoStep : Bool} {coNoStep : Option Bool} {ddNoStep odINoStep anINoStep : Option Addr} {kaNoStep kbNoStep kcNoStep kdNoStep keNoStep : Option Value} {ocINoStep dcINoStep pmINoStep cdINoStep ctINoStep : Value} {slINoStep : Array (Option Value)} {p1NoStep p2NoStep q1NoStep q2NoStep q3NoStep q4NoStep : Pos} {EUndone IUndone NUndone : Addr} {nmUndone qqUndone : Str} {bsUndone sbUndone : List Value} {snUndone : List Str} {abUndone : Bool} {coUndone : Option Bool} {ddUndone odIUndone anIUndone : Option Addr} {kaUndone kbUndone kcUndone kdUndone keUndone : Option Value} {ocIUndone dcIUndone pmIUndone cdIUndone ctIUndone : Value} {slIUndone : Array (Option Value)} {p1Undone p2Undone q1Undone q2Undone q3Undone q4Undone : Pos} {EBusy : Addr} {tgNEAR tgCUT tgUP : Tok}
    {Dk7 : Addr} {tk7_0 : Tok}
    {Dk13 : Addr} {tk13_0 : Tok}
    {Dk45 : Addr} {tk45_0 : Tok}
    (a1 : PySem.W.nsIn K mainGlobals "worth_of" = some (some (.ref f1))) (l1 : K.lookup f1 = some ⟨oc1, od1, .func (PySem.W.fnOf "worth_of" "worth_of" (defArgs s_worth_of) (defBody s_worth_of) (defScope s_worth_of) .none kV1 dc1 pm1 an1 cd1 ct1), sl1⟩) (c1 : PySem.W.codeIn K cd1 "worth_of" = true) (k1 : PySem.W.keepIn K (.ref f1) = true)
    (a2 : PySem.W.nsIn K mainGlobals "is_number" = some (some (.ref f2))) (l2 : K.lookup f2 = some ⟨oc2, od2, .func (PySem.W.fnOf "is_number" "is_number" (defArgs s_is_number) (defBody s_is_number) (defScope s_is_number) .none kV2 dc2 pm2 an2 cd2 ct2), sl2⟩) (c2 : PySem.W.codeIn K cd2 "is_number" = true) (k2 : PySem.W.keepIn K (.ref f2) = true)
    (a3 : PySem.W.nsIn K mainGlobals "is_number_in" = some (some (.ref f3))) (l3 : K.lookup f3 = some ⟨oc3, od3, .func (PySem.W.fnOf "is_number_in" "is_number_in" (defArgs s_is_number_in) (defBody s_is_number_in) (defScope s_is_number_in) .none kV3 dc3 pm3 an3 cd3 ct3), sl3⟩) (c3 : PySem.W.codeIn K cd3 "is_number_in" = true) (k3 : PySem.W.keepIn K (.ref f3) = true)
    (a4 : PySem.W.nsIn K mainGlobals "cut_off" = some (some (.ref f4))) (l4 : K.lookup f4 = some ⟨oc4, od4, .func (PySem.W.fnOf "cut_off" "cut_off" (defArgs s_cut_off) (defBody s_cut_off) (defScope s_cut_off) .none kV4 dc4 pm4 an4 cd4 ct4), sl4⟩) (c4 : PySem.W.codeIn K cd4 "cut_off" = true) (k4 : PySem.W.keepIn K (.ref f4) = true)
    (a5 : PySem.W.nsIn K mainGlobals "last_power" = some (some (.ref f5))) (l5 : K.lookup f5 = some ⟨oc5, od5, .func (PySem.W.fnOf "last_power" "last_power" (defArgs s_last_power) (defBody s_last_power) (defScope s_last_power) .none kV5 dc5 pm5 an5 cd5 ct5), sl5⟩) (c5 : PySem.W.codeIn K cd5 "last_power" = true) (k5 : PySem.W.keepIn K (.ref f5) = true)
    (a6 : PySem.W.nsIn K mainGlobals "least_power" = some (some (.ref f6))) (l6 : K.lookup f6 = some ⟨oc6, od6, .func (PySem.W.fnOf "least_power" "least_power" (defArgs s_least_power) (defBody s_least_power) (defScope s_least_power) .none kV6 dc6 pm6 an6 cd6 ct6), sl6⟩) (c6 : PySem.W.codeIn K cd6 "least_power" = true) (k6 : PySem.W.keepIn K (.ref f6) = true)
    (a7 : PySem.W.nsIn K mainGlobals "rounded" = some (some (.ref f7))) (l7 : K.lookup f7 = some ⟨oc7, od7, .func (PySem.W.fnOf "rounded" "rounded" (defArgs s_rounded) (defBody s_rounded) (defScope s_rounded) .none (.ref Dk7) dc7 pm7 an7 cd7 ct7), sl7⟩) (c7 : PySem.W.codeIn K cd7 "rounded" = true) (k7 : PySem.W.keepIn K (.ref f7) = true)
    (w7_0 : PySem.W.nsIn K Dk7 "way" = some (some (.str "near" tk7_0)))
    (w7_1 : PySem.W.nsIn K Dk7 "more" = some (some (.bool false)))
    (a8 : PySem.W.nsIn K mainGlobals "parted" = some (some (.ref f8))) (l8 : K.lookup f8 = some ⟨oc8, od8, .func (PySem.W.fnOf "parted" "parted" (defArgs s_parted) (defBody s_parted) (defScope s_parted) .none kV8 dc8 pm8 an8 cd8 ct8), sl8⟩) (c8 : PySem.W.codeIn K cd8 "parted" = true) (k8 : PySem.W.keepIn K (.ref f8) = true)
    (a9 : PySem.W.nsIn K mainGlobals "goes_up" = some (some (.ref f9))) (l9 : K.lookup f9 = some ⟨oc9, od9, .func (PySem.W.fnOf "goes_up" "goes_up" (defArgs s_goes_up) (defBody s_goes_up) (defScope s_goes_up) .none kV9 dc9 pm9 an9 cd9 ct9), sl9⟩) (c9 : PySem.W.codeIn K cd9 "goes_up" = true) (k9 : PySem.W.keepIn K (.ref f9) = true)
    (a10 : PySem.W.nsIn K mainGlobals "goes_away" = some (some (.ref f10))) (l10 : K.lookup f10 = some ⟨oc10, od10, .func (PySem.W.fnOf "goes_away" "goes_away" (defArgs s_goes_away) (defBody s_goes_away) (defScope s_goes_away) .none kV10 dc10 pm10 an10 cd10 ct10), sl10⟩) (c10 : PySem.W.codeIn K cd10 "goes_away" = true) (k10 : PySem.W.keepIn K (.ref f10) = true)
    (a11 : PySem.W.nsIn K mainGlobals "word_beyond" = some (some (.ref f11))) (l11 : K.lookup f11 = some ⟨oc11, od11, .func (PySem.W.fnOf "word_beyond" "word_beyond" (defArgs s_word_beyond) (defBody s_word_beyond) (defScope s_word_beyond) .none kV11 dc11 pm11 an11 cd11 ct11), sl11⟩) (c11 : PySem.W.codeIn K cd11 "word_beyond" = true) (k11 : PySem.W.keepIn K (.ref f11) = true)
    (a12 : PySem.W.nsIn K mainGlobals "flags_of_rest" = some (some (.ref f12))) (l12 : K.lookup f12 = some ⟨oc12, od12, .func (PySem.W.fnOf "flags_of_rest" "flags_of_rest" (defArgs s_flags_of_rest) (defBody s_flags_of_rest) (defScope s_flags_of_rest) .none kV12 dc12 pm12 an12 cd12 ct12), sl12⟩) (c12 : PySem.W.codeIn K cd12 "flags_of_rest" = true) (k12 : PySem.W.keepIn K (.ref f12) = true)
    (a13 : PySem.W.nsIn K mainGlobals "divided" = some (some (.ref f13))) (l13 : K.lookup f13 = some ⟨oc13, od13, .func (PySem.W.fnOf "divided" "divided" (defArgs s_divided) (defBody s_divided) (defScope s_divided) .none (.ref Dk13) dc13 pm13 an13 cd13 ct13), sl13⟩) (c13 : PySem.W.codeIn K cd13 "divided" = true) (k13 : PySem.W.keepIn K (.ref f13) = true)
    (w13_0 : PySem.W.nsIn K Dk13 "way" = some (some (.str "near" tk13_0)))
    (a14 : PySem.W.nsIn K mainGlobals "has_none" = some (some (.ref f14))) (l14 : K.lookup f14 = some ⟨oc14, od14, .func (PySem.W.fnOf "has_none" "has_none" (defArgs s_has_none) (defBody s_has_none) (defScope s_has_none) .none kV14 dc14 pm14 an14 cd14 ct14), sl14⟩) (c14 : PySem.W.codeIn K cd14 "has_none" = true) (k14 : PySem.W.keepIn K (.ref f14) = true)
    (a15 : PySem.W.nsIn K mainGlobals "bad" = some (some (.ref f15))) (l15 : K.lookup f15 = some ⟨oc15, od15, .func (PySem.W.fnOf "bad" "bad" (defArgs s_bad) (defBody s_bad) (defScope s_bad) .none kV15 dc15 pm15 an15 cd15 ct15), sl15⟩) (c15 : PySem.W.codeIn K cd15 "bad" = true) (k15 : PySem.W.keepIn K (.ref f15) = true)
    (a16 : PySem.W.nsIn K mainGlobals "sign_of" = some (some (.ref f16))) (l16 : K.lookup f16 = some ⟨oc16, od16, .func (PySem.W.fnOf "sign_of" "sign_of" (defArgs s_sign_of) (defBody s_sign_of) (defScope s_sign_of) .none kV16 dc16 pm16 an16 cd16 ct16), sl16⟩) (c16 : PySem.W.codeIn K cd16 "sign_of" = true) (k16 : PySem.W.keepIn K (.ref f16) = true)
    (a17 : PySem.W.nsIn K mainGlobals "unlike_sign" = some (some (.ref f17))) (l17 : K.lookup f17 = some ⟨oc17, od17, .func (PySem.W.fnOf "unlike_sign" "unlike_sign" (defArgs s_unlike_sign) (defBody s_unlike_sign) (defScope s_unlike_sign) .none kV17 dc17 pm17 an17 cd17 ct17), sl17⟩) (c17 : PySem.W.codeIn K cd17 "unlike_sign" = true) (k17 : PySem.W.keepIn K (.ref f17) = true)
    (a18 : PySem.W.nsIn K mainGlobals "quotient_rounded" = some (some (.ref f18))) (l18 : K.lookup f18 = some ⟨oc18, od18, .func (PySem.W.fnOf "quotient_rounded" "quotient_rounded" (defArgs s_quotient_rounded) (defBody s_quotient_rounded) (defScope s_quotient_rounded) .none kV18 dc18 pm18 an18 cd18 ct18), sl18⟩) (c18 : PySem.W.codeIn K cd18 "quotient_rounded" = true) (k18 : PySem.W.keepIn K (.ref f18) = true)
    (a19 : PySem.W.nsIn K mainGlobals "have_heads" = some (some (.ref f19))) (l19 : K.lookup f19 = some ⟨oc19, od19, .func (PySem.W.fnOf "have_heads" "have_heads" (defArgs s_have_heads) (defBody s_have_heads) (defScope s_have_heads) .none kV19 dc19 pm19 an19 cd19 ct19), sl19⟩) (c19 : PySem.W.codeIn K cd19 "have_heads" = true) (k19 : PySem.W.keepIn K (.ref f19) = true)
    (a20 : PySem.W.nsIn K mainGlobals "head_of" = some (some (.ref f20))) (l20 : K.lookup f20 = some ⟨oc20, od20, .func (PySem.W.fnOf "head_of" "head_of" (defArgs s_head_of) (defBody s_head_of) (defScope s_head_of) .none kV20 dc20 pm20 an20 cd20 ct20), sl20⟩) (c20 : PySem.W.codeIn K cd20 "head_of" = true) (k20 : PySem.W.keepIn K (.ref f20) = true)
    (a21 : PySem.W.nsIn K mainGlobals "full_head" = some (some (.ref f21))) (l21 : K.lookup f21 = some ⟨oc21, od21, .func (PySem.W.fnOf "full_head" "full_head" (defArgs s_full_head) (defBody s_full_head) (defScope s_full_head) .none kV21 dc21 pm21 an21 cd21 ct21), sl21⟩) (c21 : PySem.W.codeIn K cd21 "full_head" = true) (k21 : PySem.W.keepIn K (.ref f21) = true)
    (a22 : PySem.W.nsIn K mainGlobals "_law_box" = some (some (.ref f22))) (l22 : K.lookup f22 = some ⟨oc22, od22, .func (PySem.W.fnOf "_law_box" "_law_box" (defArgs sBox) (defBody sBox) (defScope sBox) .none kV22 dc22 pm22 an22 cd22 ct22), sl22⟩) (c22 : PySem.W.codeIn K cd22 "_law_box" = true) (k22 : PySem.W.keepIn K (.ref f22) = true)
    (a23 : PySem.W.nsIn K mainGlobals "_law_take" = some (some (.ref f23))) (l23 : K.lookup f23 = some ⟨oc23, od23, .func (PySem.W.fnOf "_law_take" "_law_take" (defArgs sTake) (defBody sTake) (defScope sTake) .none kV23 dc23 pm23 an23 cd23 ct23), sl23⟩) (c23 : PySem.W.codeIn K cd23 "_law_take" = true) (k23 : PySem.W.keepIn K (.ref f23) = true)
    (a24 : PySem.W.nsIn K mainGlobals "_law_folded" = some (some (.ref f24))) (l24 : K.lookup f24 = some ⟨oc24, od24, .func (PySem.W.fnOf "_law_folded" "_law_folded" (defArgs sFolded) (defBody sFolded) (defScope sFolded) .none kV24 dc24 pm24 an24 cd24 ct24), sl24⟩) (c24 : PySem.W.codeIn K cd24 "_law_folded" = true) (k24 : PySem.W.keepIn K (.ref f24) = true)
    (a25 : PySem.W.nsIn K mainGlobals "_law_same" = some (some (.ref f25))) (l25 : K.lookup f25 = some ⟨oc25, od25, .func (PySem.W.fnOf "_law_same" "_law_same" (defArgs sSame) (defBody sSame) (defScope sSame) .none kV25 dc25 pm25 an25 cd25 ct25), sl25⟩) (c25 : PySem.W.codeIn K cd25 "_law_same" = true) (k25 : PySem.W.keepIn K (.ref f25) = true)
    (a26 : PySem.W.nsIn K mainGlobals "_law_form" = some (some (.ref f26))) (l26 : K.lookup f26 = some ⟨oc26, od26, .func (PySem.W.fnOf "_law_form" "_law_form" (defArgs s__law_form) (defBody s__law_form) (defScope s__law_form) .none kV26 dc26 pm26 an26 cd26 ct26), sl26⟩) (c26 : PySem.W.codeIn K cd26 "_law_form" = true) (k26 : PySem.W.keepIn K (.ref f26) = true)
    (a27 : PySem.W.nsIn K mainGlobals "_law_word" = some (some (.ref f27))) (l27 : K.lookup f27 = some ⟨oc27, od27, .func (PySem.W.fnOf "_law_word" "_law_word" (defArgs s__law_word) (defBody s__law_word) (defScope s__law_word) .none kV27 dc27 pm27 an27 cd27 ct27), sl27⟩) (c27 : PySem.W.codeIn K cd27 "_law_word" = true) (k27 : PySem.W.keepIn K (.ref f27) = true)
    (a28 : PySem.W.nsIn K mainGlobals "_law_begun" = some (some (.ref f28))) (l28 : K.lookup f28 = some ⟨oc28, od28, .func (PySem.W.fnOf "_law_begun" "_law_begun" (defArgs s__law_begun) (defBody s__law_begun) (defScope s__law_begun) .none kV28 dc28 pm28 an28 cd28 ct28), sl28⟩) (c28 : PySem.W.codeIn K cd28 "_law_begun" = true) (k28 : PySem.W.keepIn K (.ref f28) = true)
    (a29 : PySem.W.nsIn K mainGlobals "_law_refused" = some (some (.ref f29))) (l29 : K.lookup f29 = some ⟨oc29, od29, .func (PySem.W.fnOf "_law_refused" "_law_refused" (defArgs s__law_refused) (defBody s__law_refused) (defScope s__law_refused) .none kV29 dc29 pm29 an29 cd29 ct29), sl29⟩) (c29 : PySem.W.codeIn K cd29 "_law_refused" = true) (k29 : PySem.W.keepIn K (.ref f29) = true)
    (a30 : PySem.W.nsIn K mainGlobals "_law_state" = some (some (.ref f30))) (l30 : K.lookup f30 = some ⟨oc30, od30, .func (PySem.W.fnOf "_law_state" "_law_state" (defArgs s__law_state) (defBody s__law_state) (defScope s__law_state) .none kV30 dc30 pm30 an30 cd30 ct30), sl30⟩) (c30 : PySem.W.codeIn K cd30 "_law_state" = true) (k30 : PySem.W.keepIn K (.ref f30) = true)
    (a31 : PySem.W.nsIn K mainGlobals "_law_go" = some (some (.ref f31))) (l31 : K.lookup f31 = some ⟨oc31, od31, .func (PySem.W.fnOf "_law_go" "_law_go" (defArgs s__law_go) (defBody s__law_go) (defScope s__law_go) .none kV31 dc31 pm31 an31 cd31 ct31), sl31⟩) (c31 : PySem.W.codeIn K cd31 "_law_go" = true) (k31 : PySem.W.keepIn K (.ref f31) = true)
    (a32 : PySem.W.nsIn K mainGlobals "_law_right" = some (some (.ref f32))) (l32 : K.lookup f32 = some ⟨oc32, od32, .func (PySem.W.fnOf "_law_right" "_law_right" (defArgs s__law_right) (defBody s__law_right) (defScope s__law_right) .none kV32 dc32 pm32 an32 cd32 ct32), sl32⟩) (c32 : PySem.W.codeIn K cd32 "_law_right" = true) (k32 : PySem.W.keepIn K (.ref f32) = true)
    (a33 : PySem.W.nsIn K mainGlobals "law" = some (some (.ref f33))) (l33 : K.lookup f33 = some ⟨oc33, od33, .func (PySem.W.fnOf "law" "law" (defArgs s_law) (defBody s_law) (defScope s_law) .none kV33 dc33 pm33 an33 cd33 ct33), sl33⟩) (c33 : PySem.W.codeIn K cd33 "law" = true) (k33 : PySem.W.keepIn K (.ref f33) = true)
    (aC : PySem.W.nsIn K mainGlobals "Form" = some (some (.ref C)))
    (pgC : PySem.W.plainGet K C Str.empty = true) (hdC : PySem.W.hasDictIn K C = true) (poC : PySem.W.plainOver K C = true) (saC : PySem.W.findIn K (.ref C) "__setattr__" = some (some (.builtin "object.__setattr__"))) (mkC : PySem.W.makesIn K C = true) (kcC : PySem.W.keepIn K (.ref C) = true)
    (naC0 : PySem.W.findIn K (.ref C) "scale" = some none)
    (naC1 : PySem.W.findIn K (.ref C) "tail" = some none)
    (aCD : PySem.W.nsIn K mainGlobals "Divider" = some (some (.ref CD)))
    (pgCD : PySem.W.plainGet K CD Str.empty = true) (hdCD : PySem.W.hasDictIn K CD = true) (poCD : PySem.W.plainOver K CD = true) (saCD : PySem.W.findIn K (.ref CD) "__setattr__" = some (some (.builtin "object.__setattr__"))) (mkCD : PySem.W.makesIn K CD = true) (kcCD : PySem.W.keepIn K (.ref CD) = true)
    (naCD0 : PySem.W.findIn K (.ref CD) "form" = some none)
    (naCD1 : PySem.W.findIn K (.ref CD) "one" = some none)
    (naCD2 : PySem.W.findIn K (.ref CD) "two" = some none)
    (naCD3 : PySem.W.findIn K (.ref CD) "way" = some none)
    (naCD4 : PySem.W.findIn K (.ref CD) "signed" = some none)
    (naCD5 : PySem.W.findIn K (.ref CD) "told" = some none)
    (naCD6 : PySem.W.findIn K (.ref CD) "due" = some none)
    (naCD7 : PySem.W.findIn K (.ref CD) "over" = some none)
    (naCD8 : PySem.W.findIn K (.ref CD) "by" = some none)
    (naCD9 : PySem.W.findIn K (.ref CD) "power" = some none)
    (a34 : PySem.W.findIn K (.ref C) "__init__" = some (some (.ref f34))) (i34 : PySem.W.isFn K (.ref f34) = true) (l34 : K.lookup f34 = some ⟨oc34, od34, .func (PySem.W.fnOf "__init__" "Form.__init__" (defArgs s_Form___init__) (defBody s_Form___init__) (defScope s_Form___init__) .none kV34 dc34 pm34 an34 cd34 ct34), sl34⟩) (c34 : PySem.W.codeIn K cd34 "Form.__init__" = true) (k34 : PySem.W.keepIn K (.ref f34) = true)
    (a35 : PySem.W.findIn K (.ref C) "bias" = some (some (.ref f35))) (i35 : PySem.W.isFn K (.ref f35) = true) (l35 : K.lookup f35 = some ⟨oc35, od35, .func (PySem.W.fnOf "bias" "Form.bias" (defArgs s_Form_bias) (defBody s_Form_bias) (defScope s_Form_bias) .none kV35 dc35 pm35 an35 cd35 ct35), sl35⟩) (c35 : PySem.W.codeIn K cd35 "Form.bias" = true) (k35 : PySem.W.keepIn K (.ref f35) = true)
    (a36 : PySem.W.findIn K (.ref C) "top" = some (some (.ref f36))) (i36 : PySem.W.isFn K (.ref f36) = true) (l36 : K.lookup f36 = some ⟨oc36, od36, .func (PySem.W.fnOf "top" "Form.top" (defArgs s_Form_top) (defBody s_Form_top) (defScope s_Form_top) .none kV36 dc36 pm36 an36 cd36 ct36), sl36⟩) (c36 : PySem.W.codeIn K cd36 "Form.top" = true) (k36 : PySem.W.keepIn K (.ref f36) = true)
    (a37 : PySem.W.findIn K (.ref C) "parts" = some (some (.ref f37))) (i37 : PySem.W.isFn K (.ref f37) = true) (l37 : K.lookup f37 = some ⟨oc37, od37, .func (PySem.W.fnOf "parts" "Form.parts" (defArgs s_Form_parts) (defBody s_Form_parts) (defScope s_Form_parts) .none kV37 dc37 pm37 an37 cd37 ct37), sl37⟩) (c37 : PySem.W.codeIn K cd37 "Form.parts" = true) (k37 : PySem.W.keepIn K (.ref f37) = true)
    (a38 : PySem.W.findIn K (.ref C) "word_of" = some (some (.ref f38))) (i38 : PySem.W.isFn K (.ref f38) = true) (l38 : K.lookup f38 = some ⟨oc38, od38, .func (PySem.W.fnOf "word_of" "Form.word_of" (defArgs s_Form_word_of) (defBody s_Form_word_of) (defScope s_Form_word_of) .none kV38 dc38 pm38 an38 cd38 ct38), sl38⟩) (c38 : PySem.W.codeIn K cd38 "Form.word_of" = true) (k38 : PySem.W.keepIn K (.ref f38) = true)
    (a39 : PySem.W.findIn K (.ref C) "sort_of" = some (some (.ref f39))) (i39 : PySem.W.isFn K (.ref f39) = true) (l39 : K.lookup f39 = some ⟨oc39, od39, .func (PySem.W.fnOf "sort_of" "Form.sort_of" (defArgs s_Form_sort_of) (defBody s_Form_sort_of) (defScope s_Form_sort_of) .none kV39 dc39 pm39 an39 cd39 ct39), sl39⟩) (c39 : PySem.W.codeIn K cd39 "Form.sort_of" = true) (k39 : PySem.W.keepIn K (.ref f39) = true)
    (a40 : PySem.W.findIn K (.ref C) "nought" = some (some (.ref f40))) (i40 : PySem.W.isFn K (.ref f40) = true) (l40 : K.lookup f40 = some ⟨oc40, od40, .func (PySem.W.fnOf "nought" "Form.nought" (defArgs s_Form_nought) (defBody s_Form_nought) (defScope s_Form_nought) (.ref T40) kV40 dc40 pm40 an40 cd40 ct40), sl40⟩) (c40 : PySem.W.codeIn K cd40 "Form.nought" = true) (k40 : PySem.W.keepIn K (.ref f40) = true)
    (t40 : K.lookup T40 = some ⟨oT40, dT40, .seq #[.int 0 vT40] nT40, sT40⟩)
    (a41 : PySem.W.findIn K (.ref C) "endless" = some (some (.ref f41))) (i41 : PySem.W.isFn K (.ref f41) = true) (l41 : K.lookup f41 = some ⟨oc41, od41, .func (PySem.W.fnOf "endless" "Form.endless" (defArgs s_Form_endless) (defBody s_Form_endless) (defScope s_Form_endless) (.ref T41) kV41 dc41 pm41 an41 cd41 ct41), sl41⟩) (c41 : PySem.W.codeIn K cd41 "Form.endless" = true) (k41 : PySem.W.keepIn K (.ref f41) = true)
    (t41 : K.lookup T41 = some ⟨oT41, dT41, .seq #[.int 0 vT41] nT41, sT41⟩)
    (a42 : PySem.W.findIn K (.ref C) "greatest" = some (some (.ref f42))) (i42 : PySem.W.isFn K (.ref f42) = true) (l42 : K.lookup f42 = some ⟨oc42, od42, .func (PySem.W.fnOf "greatest" "Form.greatest" (defArgs s_Form_greatest) (defBody s_Form_greatest) (defScope s_Form_greatest) (.ref T42) kV42 dc42 pm42 an42 cd42 ct42), sl42⟩) (c42 : PySem.W.codeIn K cd42 "Form.greatest" = true) (k42 : PySem.W.keepIn K (.ref f42) = true)
    (t42 : K.lookup T42 = some ⟨oT42, dT42, .seq #[.int 0 vT42] nT42, sT42⟩)
    (a43 : PySem.W.findIn K (.ref C) "none_word" = some (some (.ref f43))) (i43 : PySem.W.isFn K (.ref f43) = true) (l43 : K.lookup f43 = some ⟨oc43, od43, .func (PySem.W.fnOf "none_word" "Form.none_word" (defArgs s_Form_none_word) (defBody s_Form_none_word) (defScope s_Form_none_word) .none kV43 dc43 pm43 an43 cd43 ct43), sl43⟩) (c43 : PySem.W.codeIn K cd43 "Form.none_word" = true) (k43 : PySem.W.keepIn K (.ref f43) = true)
    (a44 : PySem.W.findIn K (.ref C) "worth" = some (some (.ref f44))) (i44 : PySem.W.isFn K (.ref f44) = true) (l44 : K.lookup f44 = some ⟨oc44, od44, .func (PySem.W.fnOf "worth" "Form.worth" (defArgs s_Form_worth) (defBody s_Form_worth) (defScope s_Form_worth) .none kV44 dc44 pm44 an44 cd44 ct44), sl44⟩) (c44 : PySem.W.codeIn K cd44 "Form.worth" = true) (k44 : PySem.W.keepIn K (.ref f44) = true)
    (a45 : PySem.W.findIn K (.ref CD) "__init__" = some (some (.ref f45))) (i45 : PySem.W.isFn K (.ref f45) = true) (l45 : K.lookup f45 = some ⟨oc45, od45, .func (PySem.W.fnOf "__init__" "Divider.__init__" (defArgs s_Divider___init__) (defBody s_Divider___init__) (defScope s_Divider___init__) .none (.ref Dk45) dc45 pm45 an45 cd45 ct45), sl45⟩) (c45 : PySem.W.codeIn K cd45 "Divider.__init__" = true) (k45 : PySem.W.keepIn K (.ref f45) = true)
    (w45_0 : PySem.W.nsIn K Dk45 "way" = some (some (.str "near" tk45_0)))
    (w45_1 : PySem.W.nsIn K Dk45 "signed" = some (some (.bool false)))
    (a46 : PySem.W.findIn K (.ref CD) "begin" = some (some (.ref f46))) (i46 : PySem.W.isFn K (.ref f46) = true) (l46 : K.lookup f46 = some ⟨oc46, od46, .func (PySem.W.fnOf "begin" "Divider.begin" (defArgs s_Divider_begin) (defBody s_Divider_begin) (defScope s_Divider_begin) .none kV46 dc46 pm46 an46 cd46 ct46), sl46⟩) (c46 : PySem.W.codeIn K cd46 "Divider.begin" = true) (k46 : PySem.W.keepIn K (.ref f46) = true)
    (a47 : PySem.W.findIn K (.ref CD) "step" = some (some (.ref f47))) (i47 : PySem.W.isFn K (.ref f47) = true) (l47 : K.lookup f47 = some ⟨oc47, od47, .func (PySem.W.fnOf "step" "Divider.step" (defArgs s_Divider_step) (defBody s_Divider_step) (defScope s_Divider_step) .none kV47 dc47 pm47 an47 cd47 ct47), sl47⟩) (c47 : PySem.W.codeIn K cd47 "Divider.step" = true) (k47 : PySem.W.keepIn K (.ref f47) = true)
    (a48 : PySem.W.findIn K (.ref CD) "digit_by" = some (some (.ref f48))) (i48 : PySem.W.isFn K (.ref f48) = true) (l48 : K.lookup f48 = some ⟨oc48, od48, .func (PySem.W.fnOf "digit_by" "Divider.digit_by" (defArgs s_Divider_digit_by) (defBody s_Divider_digit_by) (defScope s_Divider_digit_by) .none kV48 dc48 pm48 an48 cd48 ct48), sl48⟩) (c48 : PySem.W.codeIn K cd48 "Divider.digit_by" = true) (k48 : PySem.W.keepIn K (.ref f48) = true)
    (a49 : PySem.W.findIn K (.ref CD) "digits" = some (some (.ref f49))) (i49 : PySem.W.isFn K (.ref f49) = true) (l49 : K.lookup f49 = some ⟨oc49, od49, .func (PySem.W.fnOf "digits" "Divider.digits" (defArgs s_Divider_digits) (defBody s_Divider_digits) (defScope s_Divider_digits) .none kV49 dc49 pm49 an49 cd49 ct49), sl49⟩) (c49 : PySem.W.codeIn K cd49 "Divider.digits" = true) (k49 : PySem.W.keepIn K (.ref f49) = true)
    (a50 : PySem.W.findIn K (.ref CD) "quotient" = some (some (.ref f50))) (i50 : PySem.W.isFn K (.ref f50) = true) (l50 : K.lookup f50 = some ⟨oc50, od50, .func (PySem.W.fnOf "quotient" "Divider.quotient" (defArgs s_Divider_quotient) (defBody s_Divider_quotient) (defScope s_Divider_quotient) .none kV50 dc50 pm50 an50 cd50 ct50), sl50⟩) (c50 : PySem.W.codeIn K cd50 "Divider.quotient" = true) (k50 : PySem.W.keepIn K (.ref f50) = true)
    (a51 : PySem.W.findIn K (.ref CD) "rest" = some (some (.ref f51))) (i51 : PySem.W.isFn K (.ref f51) = true) (l51 : K.lookup f51 = some ⟨oc51, od51, .func (PySem.W.fnOf "rest" "Divider.rest" (defArgs s_Divider_rest) (defBody s_Divider_rest) (defScope s_Divider_rest) .none kV51 dc51 pm51 an51 cd51 ct51), sl51⟩) (c51 : PySem.W.codeIn K cd51 "Divider.rest" = true) (k51 : PySem.W.keepIn K (.ref f51) = true)
    (a52 : PySem.W.findIn K (.ref CD) "divisor" = some (some (.ref f52))) (i52 : PySem.W.isFn K (.ref f52) = true) (l52 : K.lookup f52 = some ⟨oc52, od52, .func (PySem.W.fnOf "divisor" "Divider.divisor" (defArgs s_Divider_divisor) (defBody s_Divider_divisor) (defScope s_Divider_divisor) .none kV52 dc52 pm52 an52 cd52 ct52), sl52⟩) (c52 : PySem.W.codeIn K cd52 "Divider.divisor" = true) (k52 : PySem.W.keepIn K (.ref f52) = true)
    (a53 : PySem.W.findIn K (.ref CD) "left" = some (some (.ref f53))) (i53 : PySem.W.isFn K (.ref f53) = true) (l53 : K.lookup f53 = some ⟨oc53, od53, .func (PySem.W.fnOf "left" "Divider.left" (defArgs s_Divider_left) (defBody s_Divider_left) (defScope s_Divider_left) .none kV53 dc53 pm53 an53 cd53 ct53), sl53⟩) (c53 : PySem.W.codeIn K cd53 "Divider.left" = true) (k53 : PySem.W.keepIn K (.ref f53) = true)
    (a54 : PySem.W.findIn K (.ref CD) "outcome" = some (some (.ref f54))) (i54 : PySem.W.isFn K (.ref f54) = true) (l54 : K.lookup f54 = some ⟨oc54, od54, .func (PySem.W.fnOf "outcome" "Divider.outcome" (defArgs s_Divider_outcome) (defBody s_Divider_outcome) (defScope s_Divider_outcome) .none kV54 dc54 pm54 an54 cd54 ct54), sl54⟩) (c54 : PySem.W.codeIn K cd54 "Divider.outcome" = true) (k54 : PySem.W.keepIn K (.ref f54) = true)
    (a55 : PySem.W.findIn K (.ref CD) "like" = some (some (.ref f55))) (i55 : PySem.W.isFn K (.ref f55) = true) (l55 : K.lookup f55 = some ⟨oc55, od55, .func (PySem.W.fnOf "like" "Divider.like" (defArgs s_Divider_like) (defBody s_Divider_like) (defScope s_Divider_like) .none kV55 dc55 pm55 an55 cd55 ct55), sl55⟩) (c55 : PySem.W.codeIn K cd55 "Divider.like" = true) (k55 : PySem.W.keepIn K (.ref f55) = true)
    (z1 : PySem.W.nsIn K mainGlobals "len" = some none)
    (z2 : PySem.W.nsIn K mainGlobals "abs" = some none)
    (z3 : PySem.W.nsIn K mainGlobals "int" = some none)
    (z4 : PySem.W.nsIn K mainGlobals "divmod" = some none)
    (z5 : PySem.W.nsIn K mainGlobals "list" = some none)
    (z6 : PySem.W.nsIn K mainGlobals "enumerate" = some none)
    (z7 : PySem.W.nsIn K mainGlobals "isinstance" = some none)
    (z8 : PySem.W.nsIn K mainGlobals "tuple" = some none)
    (z9 : PySem.W.nsIn K mainGlobals "str" = some none)
    (z10 : PySem.W.nsIn K mainGlobals "bool" = some none)
    (z11 : PySem.W.nsIn K mainGlobals "zip" = some none)
    (z12 : PySem.W.nsIn K mainGlobals "all" = some none)
    (z13 : PySem.W.nsIn K mainGlobals "range" = some none)
    (z14 : PySem.W.nsIn K mainGlobals "max" = some none)
    (z15 : PySem.W.nsIn K mainGlobals "any" = some none)
    (z16 : PySem.W.nsIn K mainGlobals "min" = some none)
    (z17 : PySem.W.nsIn K mainGlobals "sum" = some none)
    (gNEAR : PySem.W.nsIn K mainGlobals "NEAR" = some (some (.str "near" tgNEAR)))
    (gCUT : PySem.W.nsIn K mainGlobals "CUT" = some (some (.str "cut" tgCUT)))
    (gUP : PySem.W.nsIn K mainGlobals "UP" = some (some (.str "up" tgUP)))
    (aENoStep : PySem.W.nsIn K mainGlobals "NoStep" = some (some (.ref ENoStep)))
    (cENoStep : K.lookup ENoStep = some (excClassObj nmNoStep qqNoStep ENoStep NNoStep bsNoStep [.type "RuntimeError", .type "Exception", .type "BaseException", .type "object"] true snNoStep sbNoStep abNoStep coNoStep ddNoStep kaNoStep kbNoStep kcNoStep kdNoStep keNoStep "RuntimeError.__new__"))
    (saENoStep : PySem.W.findIn K (.ref ENoStep) "__setattr__" = some (some (.builtin "object.__setattr__")))
    (gaENoStep : PySem.W.findIn K (.ref ENoStep) "__getattribute__" = some (some (.builtin "BaseException.__getattribute__")))
    (ggENoStep : PySem.W.findIn K (.ref ENoStep) "__getattr__" = some none)
    (nwENoStep : PySem.W.findIn K (.ref ENoStep) "what" = some none)
    (inENoStep : PySem.W.findIn K (.ref ENoStep) "__init__" = some (some (.ref INoStep)))
    (tiENoStep : PySem.W.typeIn K (.ref INoStep) = some (.type "function"))
    (liENoStep : K.lookup INoStep = some ⟨ocINoStep, odINoStep, .func (PySem.W.fnOf "__init__" "NoStep.__init__" (PySem.WhX.whA p1NoStep p2NoStep) (PySem.WhX.whB q1NoStep q2NoStep q3NoStep q4NoStep) PySem.WhX.whS .none .none dcINoStep pmINoStep anINoStep cdINoStep ctINoStep), slINoStep⟩)
    (ciENoStep : PySem.W.codeIn K cdINoStep "NoStep.__init__" = true)
    (kcENoStep : PySem.W.keepIn K (.ref ENoStep) = true)
    (exENoStep : PySem.W.subIn K (.ref ENoStep) (.type "BaseException") = some true)
    (tyENoStep : PySem.W.typeIn K (.ref ENoStep) = some (.type "type"))
    (hdENoStep : PySem.W.hasDictIn K ENoStep = true)
    (clENoStep : PySem.W.findIn K (.ref ENoStep) "__class__" = some (some (.builtin "object.__class__")))
    (spENoStep : PySem.W.specialIn K (.builtin "object.__class__") "__get__" = some (some (.builtin "getset_descriptor.__get__")))
    (tkENoStep : PySem.W.takesIn K (.builtin "object.__class__") = some true)
    (mrENoStep : PySem.W.mroIn K ENoStep (.type "object") = some true)
    (suENoStep : PySem.W.subIn K (.ref ENoStep) (.ref ENoStep) = some true)
    (aEUndone : PySem.W.nsIn K mainGlobals "Undone" = some (some (.ref EUndone)))
    (cEUndone : K.lookup EUndone = some (excClassObj nmUndone qqUndone EUndone NUndone bsUndone [.type "RuntimeError", .type "Exception", .type "BaseException", .type "object"] true snUndone sbUndone abUndone coUndone ddUndone kaUndone kbUndone kcUndone kdUndone keUndone "RuntimeError.__new__"))
    (saEUndone : PySem.W.findIn K (.ref EUndone) "__setattr__" = some (some (.builtin "object.__setattr__")))
    (gaEUndone : PySem.W.findIn K (.ref EUndone) "__getattribute__" = some (some (.builtin "BaseException.__getattribute__")))
    (ggEUndone : PySem.W.findIn K (.ref EUndone) "__getattr__" = some none)
    (nwEUndone : PySem.W.findIn K (.ref EUndone) "what" = some none)
    (inEUndone : PySem.W.findIn K (.ref EUndone) "__init__" = some (some (.ref IUndone)))
    (tiEUndone : PySem.W.typeIn K (.ref IUndone) = some (.type "function"))
    (liEUndone : K.lookup IUndone = some ⟨ocIUndone, odIUndone, .func (PySem.W.fnOf "__init__" "Undone.__init__" (PySem.WhX.whA p1Undone p2Undone) (PySem.WhX.whB q1Undone q2Undone q3Undone q4Undone) PySem.WhX.whS .none .none dcIUndone pmIUndone anIUndone cdIUndone ctIUndone), slIUndone⟩)
    (ciEUndone : PySem.W.codeIn K cdIUndone "Undone.__init__" = true)
    (kcEUndone : PySem.W.keepIn K (.ref EUndone) = true)
    (exEUndone : PySem.W.subIn K (.ref EUndone) (.type "BaseException") = some true)
    (tyEUndone : PySem.W.typeIn K (.ref EUndone) = some (.type "type"))
    (hdEUndone : PySem.W.hasDictIn K EUndone = true)
    (clEUndone : PySem.W.findIn K (.ref EUndone) "__class__" = some (some (.builtin "object.__class__")))
    (spEUndone : PySem.W.specialIn K (.builtin "object.__class__") "__get__" = some (some (.builtin "getset_descriptor.__get__")))
    (tkEUndone : PySem.W.takesIn K (.builtin "object.__class__") = some true)
    (mrEUndone : PySem.W.mroIn K EUndone (.type "object") = some true)
    (suEUndone : PySem.W.subIn K (.ref EUndone) (.ref EUndone) = some true)
    (aEBusy : PySem.W.nsIn K mainGlobals "Busy" = some (some (.ref EBusy)))
    (tyEBusy : PySem.W.typeIn K (.ref EBusy) = some (.type "type"))
    (hdEBusy : PySem.W.hasDictIn K EBusy = true)
    (zERuntimeError : PySem.W.nsIn K mainGlobals "RuntimeError" = some none)
    (sqNoStep_RuntimeError : PySem.W.subIn K (.ref ENoStep) (.type "RuntimeError") = some true)
    (sqUndone_RuntimeError : PySem.W.subIn K (.ref EUndone) (.type "RuntimeError") = some true)
    (sqNoStep_Busy : PySem.W.subIn K (.ref ENoStep) (.ref EBusy) = some false)
    (nqNoStep_Busy : (Value.ref ENoStep == Value.ref EBusy) = false)
    (sqUndone_Busy : PySem.W.subIn K (.ref EUndone) (.ref EBusy) = some false)
    (nqUndone_Busy : (Value.ref EUndone == Value.ref EBusy) = false)
    (sqUndone_NoStep : PySem.W.subIn K (.ref EUndone) (.ref ENoStep) = some false)
    (nqUndone_NoStep : (Value.ref EUndone == Value.ref ENoStep) = false)
    (sqNoStep_Undone : PySem.W.subIn K (.ref ENoStep) (.ref EUndone) = some false)
    (exEBusy : PySem.W.subIn K (.ref EBusy) (.type "BaseException") = some true)
    : ∃ fd : FuncData, (∀ (s : Shared) (v : Value), BindsTo s fd ⟨[v], []⟩ [("_law_script", v)]) ∧ ∀ base : Heap, K.In base → base.Ns mainGlobals mg → FnOkG l.prog w K mg base CX0 14 fa fd ["_law_script"] (spLaw K) := by
  have e := hfa.symm.trans (PySem.W.mg_of X G a33)
  cases e
  have F1 := fun_mk (st := s_worth_of) l1 c1 k1
  have b1 := F1.binds (ps := ["digits"]) fun _ _ _ _ _ _ us hl => match us, hl with | [_], _ => rfl
  have m1 := PySem.W.mg_of X G a1
  have F2 := fun_mk (st := s_is_number) l2 c2 k2
  have b2 := F2.binds (ps := ["thing"]) fun _ _ _ _ _ _ us hl => match us, hl with | [_], _ => rfl
  have m2 := PySem.W.mg_of X G a2
  have F3 := fun_mk (st := s_is_number_in) l3 c3 k3
  have b3 := F3.binds (ps := ["least", "greatest", "thing"]) fun _ _ _ _ _ _ us hl => match us, hl with | [_, _, _], _ => rfl
  have m3 := PySem.W.mg_of X G a3
  have F4 := fun_mk (st := s_cut_off) l4 c4 k4
  have b4 := F4.binds (ps := ["number", "by"]) fun _ _ _ _ _ _ us hl => match us, hl with | [_, _], _ => rfl
  have m4 := PySem.W.mg_of X G a4
  have F5 := fun_mk (st := s_last_power) l5 c5 k5
  have b5 := F5.binds (ps := ["form", "number", "power"]) fun _ _ _ _ _ _ us hl => match us, hl with | [_, _, _], _ => rfl
  have m5 := PySem.W.mg_of X G a5
  have F6 := fun_mk (st := s_least_power) l6 c6 k6
  have b6 := F6.binds (ps := ["form"]) fun _ _ _ _ _ _ us hl => match us, hl with | [_], _ => rfl
  have m6 := PySem.W.mg_of X G a6
  have F7 := fun_mk (st := s_rounded) l7 c7 k7
  have m7 := PySem.W.mg_of X G a7
  have F8 := fun_mk (st := s_parted) l8 c8 k8
  have b8 := F8.binds (ps := ["number", "by", "more"]) fun _ _ _ _ _ _ us hl => match us, hl with | [_, _, _], _ => rfl
  have m8 := PySem.W.mg_of X G a8
  have F9 := fun_mk (st := s_goes_up) l9 c9 k9
  have b9 := F9.binds (ps := ["way", "sign", "many", "rest"]) fun _ _ _ _ _ _ us hl => match us, hl with | [_, _, _, _], _ => rfl
  have m9 := PySem.W.mg_of X G a9
  have F10 := fun_mk (st := s_goes_away) l10 c10 k10
  have b10 := F10.binds (ps := ["way", "sign"]) fun _ _ _ _ _ _ us hl => match us, hl with | [_, _], _ => rfl
  have m10 := PySem.W.mg_of X G a10
  have F11 := fun_mk (st := s_word_beyond) l11 c11 k11
  have b11 := F11.binds (ps := ["form", "sign", "way"]) fun _ _ _ _ _ _ us hl => match us, hl with | [_, _, _], _ => rfl
  have m11 := PySem.W.mg_of X G a11
  have F12 := fun_mk (st := s_flags_of_rest) l12 c12 k12
  have b12 := F12.binds (ps := ["form", "number", "power", "rest"]) fun _ _ _ _ _ _ us hl => match us, hl with | [_, _, _, _], _ => rfl
  have m12 := PySem.W.mg_of X G a12
  have F13 := fun_mk (st := s_divided) l13 c13 k13
  have m13 := PySem.W.mg_of X G a13
  have F14 := fun_mk (st := s_has_none) l14 c14 k14
  have b14 := F14.binds (ps := ["form", "words"]) fun _ _ _ _ _ _ us hl => match us, hl with | [_, _], _ => rfl
  have m14 := PySem.W.mg_of X G a14
  have F15 := fun_mk (st := s_bad) l15 c15 k15
  have b15 := F15.binds (ps := ["form"]) fun _ _ _ _ _ _ us hl => match us, hl with | [_], _ => rfl
  have m15 := PySem.W.mg_of X G a15
  have F16 := fun_mk (st := s_sign_of) l16 c16 k16
  have b16 := F16.binds (ps := ["form", "word"]) fun _ _ _ _ _ _ us hl => match us, hl with | [_, _], _ => rfl
  have m16 := PySem.W.mg_of X G a16
  have F17 := fun_mk (st := s_unlike_sign) l17 c17 k17
  have b17 := F17.binds (ps := ["form", "a", "b"]) fun _ _ _ _ _ _ us hl => match us, hl with | [_, _, _], _ => rfl
  have m17 := PySem.W.mg_of X G a17
  have F18 := fun_mk (st := s_quotient_rounded) l18 c18 k18
  have b18 := F18.binds (ps := ["form", "sign", "one", "other", "way"]) fun _ _ _ _ _ _ us hl => match us, hl with | [_, _, _, _, _], _ => rfl
  have m18 := PySem.W.mg_of X G a18
  have F19 := fun_mk (st := s_have_heads) l19 c19 k19
  have b19 := F19.binds (ps := ["form", "words"]) fun _ _ _ _ _ _ us hl => match us, hl with | [_, _], _ => rfl
  have m19 := PySem.W.mg_of X G a19
  have F20 := fun_mk (st := s_head_of) l20 c20 k20
  have b20 := F20.binds (ps := ["form", "word"]) fun _ _ _ _ _ _ us hl => match us, hl with | [_, _], _ => rfl
  have m20 := PySem.W.mg_of X G a20
  have F21 := fun_mk (st := s_full_head) l21 c21 k21
  have b21 := F21.binds (ps := ["form", "word"]) fun _ _ _ _ _ _ us hl => match us, hl with | [_, _], _ => rfl
  have m21 := PySem.W.mg_of X G a21
  have F22 := fun_mk (st := sBox) l22 c22 k22
  have b22 := F22.binds (ps := ["_law_script", "_law_k"]) fun _ _ _ _ _ _ us hl => match us, hl with | [_, _], _ => rfl
  have m22 := PySem.W.mg_of X G a22
  have F23 := fun_mk (st := sTake) l23 c23 k23
  have b23 := F23.binds (ps := ["_law_box_here", "_law_size"]) fun _ _ _ _ _ _ us hl => match us, hl with | [_, _], _ => rfl
  have m23 := PySem.W.mg_of X G a23
  have F24 := fun_mk (st := sFolded) l24 c24 k24
  have b24 := F24.binds (ps := ["_law_script", "_law_size"]) fun _ _ _ _ _ _ us hl => match us, hl with | [_, _], _ => rfl
  have m24 := PySem.W.mg_of X G a24
  have F25 := fun_mk (st := sSame) l25 c25 k25
  have b25 := F25.binds (ps := ["_law_found", "_law_due"]) fun _ _ _ _ _ _ us hl => match us, hl with | [_, _], _ => rfl
  have m25 := PySem.W.mg_of X G a25
  have F26 := fun_mk (st := s__law_form) l26 c26 k26
  have b26 := F26.binds (ps := ["_law_box_here"]) fun _ _ _ _ _ _ us hl => match us, hl with | [_], _ => rfl
  have m26 := PySem.W.mg_of X G a26
  have F27 := fun_mk (st := s__law_word) l27 c27 k27
  have b27 := F27.binds (ps := ["_law_box_here", "_law_scale", "_law_tail"]) fun _ _ _ _ _ _ us hl => match us, hl with | [_, _, _], _ => rfl
  have m27 := PySem.W.mg_of X G a27
  have F28 := fun_mk (st := s__law_begun) l28 c28 k28
  have b28 := F28.binds (ps := ["_law_form_here", "_law_a", "_law_b", "_law_mode", "_law_by_signs", "_law_how"]) fun _ _ _ _ _ _ us hl => match us, hl with | [_, _, _, _, _, _], _ => rfl
  have m28 := PySem.W.mg_of X G a28
  have F29 := fun_mk (st := s__law_refused) l29 c29 k29
  have b29 := F29.binds (ps := ["_law_divider", "_law_which"]) fun _ _ _ _ _ _ us hl => match us, hl with | [_, _], _ => rfl
  have m29 := PySem.W.mg_of X G a29
  have F30 := fun_mk (st := s__law_state) l30 c30 k30
  have b30 := F30.binds (ps := ["_law_divider"]) fun _ _ _ _ _ _ us hl => match us, hl with | [_], _ => rfl
  have m30 := PySem.W.mg_of X G a30
  have F31 := fun_mk (st := s__law_go) l31 c31 k31
  have b31 := F31.binds (ps := ["_law_box_here", "_law_divider"]) fun _ _ _ _ _ _ us hl => match us, hl with | [_, _], _ => rfl
  have m31 := PySem.W.mg_of X G a31
  have F32 := fun_mk (st := s__law_right) l32 c32 k32
  have b32 := F32.binds (ps := ["_law_box_here"]) fun _ _ _ _ _ _ us hl => match us, hl with | [_], _ => rfl
  have m32 := PySem.W.mg_of X G a32
  have F33 := fun_mk (st := s_law) l33 c33 k33
  have F34 := fun_mk (st := s_Form___init__) l34 c34 k34
  have b34 := F34.binds (ps := ["self", "scale", "tail"]) fun _ _ _ _ _ _ us hl => match us, hl with | [_, _, _], _ => rfl
  have M34 : Meth K C "__init__" f34 := ⟨a34, i34, k34⟩
  have F35 := fun_mk (st := s_Form_bias) l35 c35 k35
  have b35 := F35.binds (ps := ["self"]) fun _ _ _ _ _ _ us hl => match us, hl with | [_], _ => rfl
  have M35 : Meth K C "bias" f35 := ⟨a35, i35, k35⟩
  have F36 := fun_mk (st := s_Form_top) l36 c36 k36
  have b36 := F36.binds (ps := ["self"]) fun _ _ _ _ _ _ us hl => match us, hl with | [_], _ => rfl
  have M36 : Meth K C "top" f36 := ⟨a36, i36, k36⟩
  have F37 := fun_mk (st := s_Form_parts) l37 c37 k37
  have b37 := F37.binds (ps := ["self", "word"]) fun _ _ _ _ _ _ us hl => match us, hl with | [_, _], _ => rfl
  have M37 : Meth K C "parts" f37 := ⟨a37, i37, k37⟩
  have F38 := fun_mk (st := s_Form_word_of) l38 c38 k38
  have b38 := F38.binds (ps := ["self", "sign", "scale", "tail"]) fun _ _ _ _ _ _ us hl => match us, hl with | [_, _, _, _], _ => rfl
  have M38 : Meth K C "word_of" f38 := ⟨a38, i38, k38⟩
  have F39 := fun_mk (st := s_Form_sort_of) l39 c39 k39
  have b39 := F39.binds (ps := ["self", "word"]) fun _ _ _ _ _ _ us hl => match us, hl with | [_, _], _ => rfl
  have M39 : Meth K C "sort_of" f39 := ⟨a39, i39, k39⟩
  have F40 := funA_mk (st := s_Form_nought) l40 c40 k40
  have b40 := bindsA (st := s_Form_nought) (ps := ["self", "sign"]) l40 t40 fun _ _ _ _ _ _ us hl => match us, hl with | [_, _], _ => ⟨_, rfl, rfl⟩
  have d40 := bindsAD (st := s_Form_nought) (ps := ["self", "sign"]) l40 t40 fun _ _ _ _ _ _ us hl => match us, hl with | [_], _ => ⟨_, rfl, rfl⟩
  have kb40 := kbindsA (x1 := "sign") (st := s_Form_nought) (ps := ["self", "sign"]) l40 t40 fun _ _ _ _ _ _ _ _ => ⟨_, rfl, rfl⟩
  have M40 : Meth K C "nought" f40 := ⟨a40, i40, k40⟩
  have F41 := funA_mk (st := s_Form_endless) l41 c41 k41
  have b41 := bindsA (st := s_Form_endless) (ps := ["self", "sign"]) l41 t41 fun _ _ _ _ _ _ us hl => match us, hl with | [_, _], _ => ⟨_, rfl, rfl⟩
  have d41 := bindsAD (st := s_Form_endless) (ps := ["self", "sign"]) l41 t41 fun _ _ _ _ _ _ us hl => match us, hl with | [_], _ => ⟨_, rfl, rfl⟩
  have kb41 := kbindsA (x1 := "sign") (st := s_Form_endless) (ps := ["self", "sign"]) l41 t41 fun _ _ _ _ _ _ _ _ => ⟨_, rfl, rfl⟩
  have M41 : Meth K C "endless" f41 := ⟨a41, i41, k41⟩
  have F42 := funA_mk (st := s_Form_greatest) l42 c42 k42
  have b42 := bindsA (st := s_Form_greatest) (ps := ["self", "sign"]) l42 t42 fun _ _ _ _ _ _ us hl => match us, hl with | [_, _], _ => ⟨_, rfl, rfl⟩
  have d42 := bindsAD (st := s_Form_greatest) (ps := ["self", "sign"]) l42 t42 fun _ _ _ _ _ _ us hl => match us, hl with | [_], _ => ⟨_, rfl, rfl⟩
  have kb42 := kbindsA (x1 := "sign") (st := s_Form_greatest) (ps := ["self", "sign"]) l42 t42 fun _ _ _ _ _ _ _ _ => ⟨_, rfl, rfl⟩
  have M42 : Meth K C "greatest" f42 := ⟨a42, i42, k42⟩
  have F43 := fun_mk (st := s_Form_none_word) l43 c43 k43
  have b43 := F43.binds (ps := ["self"]) fun _ _ _ _ _ _ us hl => match us, hl with | [_], _ => rfl
  have M43 : Meth K C "none_word" f43 := ⟨a43, i43, k43⟩
  have F44 := fun_mk (st := s_Form_worth) l44 c44 k44
  have b44 := F44.binds (ps := ["self", "word"]) fun _ _ _ _ _ _ us hl => match us, hl with | [_, _], _ => rfl
  have M44 : Meth K C "worth" f44 := ⟨a44, i44, k44⟩
  have F45 := fun_mk (st := s_Divider___init__) l45 c45 k45
  have M45 : Meth K CD "__init__" f45 := ⟨a45, i45, k45⟩
  have F46 := fun_mk (st := s_Divider_begin) l46 c46 k46
  have b46 := F46.binds (ps := ["self"]) fun _ _ _ _ _ _ us hl => match us, hl with | [_], _ => rfl
  have M46 : Meth K CD "begin" f46 := ⟨a46, i46, k46⟩
  have F47 := fun_mk (st := s_Divider_step) l47 c47 k47
  have b47 := F47.binds (ps := ["self"]) fun _ _ _ _ _ _ us hl => match us, hl with | [_], _ => rfl
  have M47 : Meth K CD "step" f47 := ⟨a47, i47, k47⟩
  have F48 := fun_mk (st := s_Divider_digit_by) l48 c48 k48
  have b48 := F48.binds (ps := ["self", "rest"]) fun _ _ _ _ _ _ us hl => match us, hl with | [_, _], _ => rfl
  have M48 : Meth K CD "digit_by" f48 := ⟨a48, i48, k48⟩
  have F49 := fun_mk (st := s_Divider_digits) l49 c49 k49
  have b49 := F49.binds (ps := ["self"]) fun _ _ _ _ _ _ us hl => match us, hl with | [_], _ => rfl
  have M49 : Meth K CD "digits" f49 := ⟨a49, i49, k49⟩
  have F50 := fun_mk (st := s_Divider_quotient) l50 c50 k50
  have b50 := F50.binds (ps := ["self"]) fun _ _ _ _ _ _ us hl => match us, hl with | [_], _ => rfl
  have M50 : Meth K CD "quotient" f50 := ⟨a50, i50, k50⟩
  have F51 := fun_mk (st := s_Divider_rest) l51 c51 k51
  have b51 := F51.binds (ps := ["self"]) fun _ _ _ _ _ _ us hl => match us, hl with | [_], _ => rfl
  have M51 : Meth K CD "rest" f51 := ⟨a51, i51, k51⟩
  have F52 := fun_mk (st := s_Divider_divisor) l52 c52 k52
  have b52 := F52.binds (ps := ["self"]) fun _ _ _ _ _ _ us hl => match us, hl with | [_], _ => rfl
  have M52 : Meth K CD "divisor" f52 := ⟨a52, i52, k52⟩
  have F53 := fun_mk (st := s_Divider_left) l53 c53 k53
  have b53 := F53.binds (ps := ["self"]) fun _ _ _ _ _ _ us hl => match us, hl with | [_], _ => rfl
  have M53 : Meth K CD "left" f53 := ⟨a53, i53, k53⟩
  have F54 := fun_mk (st := s_Divider_outcome) l54 c54 k54
  have b54 := F54.binds (ps := ["self"]) fun _ _ _ _ _ _ us hl => match us, hl with | [_], _ => rfl
  have M54 : Meth K CD "outcome" f54 := ⟨a54, i54, k54⟩
  have F55 := fun_mk (st := s_Divider_like) l55 c55 k55
  have b55 := F55.binds (ps := ["self"]) fun _ _ _ _ _ _ us hl => match us, hl with | [_], _ => rfl
  have M55 : Meth K CD "like" f55 := ⟨a55, i55, k55⟩
  have clC : Cls K C := ⟨pgC, hdC, poC, saC⟩
  have mgC := PySem.W.mg_of X G aC
  have clCD : Cls K CD := ⟨pgCD, hdCD, poCD, saCD⟩
  have mgCD := PySem.W.mg_of X G aCD
  have B : Bl mg := ⟨PySem.W.mg_none_of X G z1, PySem.W.mg_none_of X G z2, PySem.W.mg_none_of X G z3, PySem.W.mg_none_of X G z4, PySem.W.mg_none_of X G z5, PySem.W.mg_none_of X G z6, PySem.W.mg_none_of X G z7, PySem.W.mg_none_of X G z8, PySem.W.mg_none_of X G z9, PySem.W.mg_none_of X G z10, PySem.W.mg_none_of X G z11, PySem.W.mg_none_of X G z12, PySem.W.mg_none_of X G z13, PySem.W.mg_none_of X G z14, PySem.W.mg_none_of X G z15, PySem.W.mg_none_of X G z16, PySem.W.mg_none_of X G z17⟩
  refine ⟨PySem.W.fnOf "law" "law" (defArgs s_law) (defBody s_law) (defScope s_law) .none kV33 dc33 pm33 an33 cd33 ct33, fun s v => .of_eq rfl, fun base _ _ => ?_⟩
  have kb7_way : ∃ g, KBn K (PySem.W.fnOf "rounded" "rounded" (defArgs s_rounded) (defBody s_rounded) (defScope s_rounded) .none (.ref Dk7) dc7 pm7 an7 cd7 ct7) ["form", "sign", "number", "power", "way", "more"] 4 ["way"] g (fun vs zs => vs ++ (zs ++ [.bl false])) := ⟨fun vs zs => vs ++ (zs ++ [.bool false]), ⟨kbn_of (st := s_rounded) (ml := [("more", .bool false)]) (gV := fun vs zs => vs ++ (zs ++ [.bl false])) (fun q hq => by rcases List.mem_cons.mp hq with rfl | hq; exact w7_1; exact nomatch hq) (fun us ws l1 l2 => match us, ws, l1, l2 with | [_, _, _, _], [_], _, _ => ⟨_, _, _, _, _, _, rfl, rfl, (show _ = pure _ from rfl)⟩) (fun _ _ r1 r2 => r1.append (r2.append (.cons rfl .nil))), fun r1 r2 => r1.append (r2.append (.cons rfl .nil))⟩⟩
  have kb7_way_more : ∃ g, KBn K (PySem.W.fnOf "rounded" "rounded" (defArgs s_rounded) (defBody s_rounded) (defScope s_rounded) .none (.ref Dk7) dc7 pm7 an7 cd7 ct7) ["form", "sign", "number", "power", "way", "more"] 4 ["way", "more"] g (fun vs zs => vs ++ zs) := ⟨fun vs zs => vs ++ zs, ⟨kbn_of (st := s_rounded) (ml := []) (gV := fun vs zs => vs ++ zs) (fun q hq => nomatch hq) (fun us ws l1 l2 => match us, ws, l1, l2 with | [_, _, _, _], [_, _], _, _ => (show _ = pure _ from rfl)) (fun _ _ r1 r2 => r1.append r2), fun r1 r2 => r1.append r2⟩⟩
  have kb13_way : ∃ g, KBn K (PySem.W.fnOf "divided" "divided" (defArgs s_divided) (defBody s_divided) (defScope s_divided) .none (.ref Dk13) dc13 pm13 an13 cd13 ct13) ["form", "a", "b", "way"] 3 ["way"] g (fun vs zs => vs ++ zs) := ⟨fun vs zs => vs ++ zs, ⟨kbn_of (st := s_divided) (ml := []) (gV := fun vs zs => vs ++ zs) (fun q hq => nomatch hq) (fun us ws l1 l2 => match us, ws, l1, l2 with | [_, _, _], [_], _, _ => (show _ = pure _ from rfl)) (fun _ _ r1 r2 => r1.append r2), fun r1 r2 => r1.append r2⟩⟩
  have kb45_signed : ∃ g, KBn K (PySem.W.fnOf "__init__" "Divider.__init__" (defArgs s_Divider___init__) (defBody s_Divider___init__) (defScope s_Divider___init__) .none (.ref Dk45) dc45 pm45 an45 cd45 ct45) ["self", "form", "a", "b", "way", "signed"] 4 ["signed"] g (fun vs zs => vs ++ (.str "near" :: zs)) := ⟨fun vs zs => vs ++ (.str "near" tk45_0 :: zs), ⟨kbn_of (st := s_Divider___init__) (ml := [("way", .str "near" tk45_0)]) (gV := fun vs zs => vs ++ (.str "near" :: zs)) (fun q hq => by rcases List.mem_cons.mp hq with rfl | hq; exact w45_0; exact nomatch hq) (fun us ws l1 l2 => match us, ws, l1, l2 with | [_, _, _, _], [_], _, _ => ⟨_, _, _, _, _, _, rfl, rfl, (show _ = pure _ from rfl)⟩) (fun _ _ r1 r2 => r1.append (.cons ⟨_, rfl⟩ r2)), fun r1 r2 => r1.append (.cons ⟨_, rfl⟩ r2)⟩⟩
  have kb45_ : ∃ ds, Vals [.str "near", .bl false] ds ∧ Binds K (PySem.W.fnOf "__init__" "Divider.__init__" (defArgs s_Divider___init__) (defBody s_Divider___init__) (defScope s_Divider___init__) .none (.ref Dk45) dc45 pm45 an45 cd45 ct45) ["self", "form", "a", "b", "way", "signed"] ds := ⟨_, (.cons ⟨_, rfl⟩ (.cons rfl .nil)), bnd_of (st := s_Divider___init__) (ml := [("way", .str "near" tk45_0), ("signed", .bool false)]) (ds := [.str "near" tk45_0, .bool false]) (fun q hq => by rcases List.mem_cons.mp hq with rfl | hq; exact w45_0; rcases List.mem_cons.mp hq with rfl | hq; exact w45_1; exact nomatch hq) (fun us l1 => match us, l1 with | [_, _, _, _], _ => ⟨_, _, _, _, _, _, rfl, rfl, ⟨_, _, _, _, _, _, rfl, rfl, (show _ = pure _ from rfl)⟩⟩)⟩
  have kb45_way : ∃ g, KBn K (PySem.W.fnOf "__init__" "Divider.__init__" (defArgs s_Divider___init__) (defBody s_Divider___init__) (defScope s_Divider___init__) .none (.ref Dk45) dc45 pm45 an45 cd45 ct45) ["self", "form", "a", "b", "way", "signed"] 4 ["way"] g (fun vs zs => vs ++ (zs ++ [.bl false])) := ⟨fun vs zs => vs ++ (zs ++ [.bool false]), ⟨kbn_of (st := s_Divider___init__) (ml := [("signed", .bool false)]) (gV := fun vs zs => vs ++ (zs ++ [.bl false])) (fun q hq => by rcases List.mem_cons.mp hq with rfl | hq; exact w45_1; exact nomatch hq) (fun us ws l1 l2 => match us, ws, l1, l2 with | [_, _, _, _], [_], _, _ => ⟨_, _, _, _, _, _, rfl, rfl, (show _ = pure _ from rfl)⟩) (fun _ _ r1 r2 => r1.append (r2.append (.cons rfl .nil))), fun r1 r2 => r1.append (r2.append (.cons rfl .nil))⟩⟩
  have kb45_signed_way : ∃ g, KBn K (PySem.W.fnOf "__init__" "Divider.__init__" (defArgs s_Divider___init__) (defBody s_Divider___init__) (defScope s_Divider___init__) .none (.ref Dk45) dc45 pm45 an45 cd45 ct45) ["self", "form", "a", "b", "way", "signed"] 4 ["signed", "way"] g (fun vs zs => vs ++ zs.reverse) := ⟨fun vs zs => vs ++ zs.reverse, ⟨kbn_of (st := s_Divider___init__) (ml := []) (gV := fun vs zs => vs ++ zs.reverse) (fun q hq => nomatch hq) (fun us ws l1 l2 => match us, ws, l1, l2 with | [_, _, _, _], [_, _], _, _ => (show _ = pure _ from rfl)) (fun _ _ r1 r2 => r1.append r2.reverse), fun r1 r2 => r1.append r2.reverse⟩⟩
  have kb45_way_signed : ∃ g, KBn K (PySem.W.fnOf "__init__" "Divider.__init__" (defArgs s_Divider___init__) (defBody s_Divider___init__) (defScope s_Divider___init__) .none (.ref Dk45) dc45 pm45 an45 cd45 ct45) ["self", "form", "a", "b", "way", "signed"] 4 ["way", "signed"] g (fun vs zs => vs ++ zs) := ⟨fun vs zs => vs ++ zs, ⟨kbn_of (st := s_Divider___init__) (ml := []) (gV := fun vs zs => vs ++ zs) (fun q hq => nomatch hq) (fun us ws l1 l2 => match us, ws, l1, l2 with | [_, _, _, _], [_, _], _, _ => (show _ = pure _ from rfl)) (fun _ _ r1 r2 => r1.append r2), fun r1 r2 => r1.append r2⟩⟩
  have L : LL K mg C CD f1 f2 f3 f4 f5 f6 f7 f8 f9 f10 f11 f12 f13 f14 f15 f16 f17 f18 f19 f20 f21 f22 f23 f24 f25 f26 f27 f28 f29 f30 f31 f32 f34 f35 f36 f37 f38 f39 f40 f41 f42 f43 f44 f45 f46 f47 f48 f49 f50 f51 f52 f53 f54 f55 _ _ _ _ _ _ _ _ _ _ _ _ _ _ _ _ _ _ _ _ _ _ _ _ _ _ _ _ _ _ _ _ _ _ _ _ _ _ _ _ _ _ _ _ _ _ _ _ _ _ _ _ _ _ vT40 vT41 vT42 tgNEAR tgCUT tgUP ENoStep INoStep EUndone IUndone EBusy := ⟨F1, m1, b1, F2, m2, b2, F3, m3, b3, F4, m4, b4, F5, m5, b5, F6, m6, b6, F7, m7, kb7_way, kb7_way_more, F8, m8, b8, F9, m9, b9, F10, m10, b10, F11, m11, b11, F12, m12, b12, F13, m13, kb13_way, F14, m14, b14, F15, m15, b15, F16, m16, b16, F17, m17, b17, F18, m18, b18, F19, m19, b19, F20, m20, b20, F21, m21, b21, F22, m22, b22, F23, m23, b23, F24, m24, b24, F25, m25, b25, F26, m26, b26, F27, m27, b27, F28, m28, b28, F29, m29, b29, F30, m30, b30, F31, m31, b31, F32, m32, b32, ⟨clC, naC0, naC1, mgC⟩, ⟨mkC, a34, i34, kcC⟩, F34, b34, F35, b35, M35, F36, b36, M36, F37, b37, M37, F38, b38, M38, F39, b39, M39, F40, b40, M40, d40, F41, b41, M41, d41, F42, b42, M42, d42, F43, b43, M43, F44, b44, M44, ⟨clCD, naCD0, naCD1, naCD2, naCD3, naCD4, naCD5, naCD6, naCD7, naCD8, naCD9, mgCD⟩, ⟨mkCD, a45, i45, kcCD⟩, F45, kb45_signed, kb45_, kb45_way, kb45_signed_way, kb45_way_signed, F46, b46, M46, F47, b47, M47, F48, b48, M48, F49, b49, M49, F50, b50, M50, F51, b51, M51, F52, b52, M52, F53, b53, M53, F54, b54, M54, F55, b55, M55, PySem.W.mg_of X G gNEAR, PySem.W.mg_of X G gCUT, PySem.W.mg_of X G gUP, PySem.W.mg_of X G aENoStep, ⟨⟨gaENoStep, ggENoStep, nwENoStep, kcENoStep, exENoStep, tyENoStep, hdENoStep, clENoStep, spENoStep, tkENoStep, mrENoStep⟩, ⟨_, _, _, _, _, _, _, _, _, _, _, _, _, _, _, _, _, _, PySem.F.excBase_RuntimeError, cENoStep, by decide +kernel, PySem.F.store_RuntimeError.passes⟩, saENoStep, inENoStep, tiENoStep, ⟨_, _, _, _, _, _, _, _, _, _, _, _, _, _, _, liENoStep, ciENoStep⟩⟩, PySem.W.exm_ref exENoStep hdENoStep tyENoStep suENoStep, PySem.W.mg_of X G aEUndone, ⟨⟨gaEUndone, ggEUndone, nwEUndone, kcEUndone, exEUndone, tyEUndone, hdEUndone, clEUndone, spEUndone, tkEUndone, mrEUndone⟩, ⟨_, _, _, _, _, _, _, _, _, _, _, _, _, _, _, _, _, _, PySem.F.excBase_RuntimeError, cEUndone, by decide +kernel, PySem.F.store_RuntimeError.passes⟩, saEUndone, inEUndone, tiEUndone, ⟨_, _, _, _, _, _, _, _, _, _, _, _, _, _, _, liEUndone, ciEUndone⟩⟩, PySem.W.exm_ref exEUndone hdEUndone tyEUndone suEUndone, PySem.W.mg_of X G aEBusy, PySem.W.mg_none_of X G zERuntimeError, kit_bt sqNoStep_RuntimeError, kit_bt sqUndone_RuntimeError, kit_own nqNoStep_Busy hdEBusy tyEBusy sqNoStep_Busy, kit_own nqUndone_Busy hdEBusy tyEBusy sqUndone_Busy, kit_self, kit_own nqUndone_NoStep hdENoStep tyENoStep sqUndone_NoStep, PySem.W.exm_ref exEUndone hdEUndone tyEUndone sqNoStep_Undone, PySem.W.exm_ref exEBusy hdEBusy tyEBusy sqNoStep_Busy, PySem.W.exm_ref exENoStep hdENoStep tyENoStep sqUndone_NoStep, PySem.W.exm_ref exEBusy hdEBusy tyEBusy sqUndone_Busy⟩
  exact ok_law F33 B L
end GZ
open PySem PySem.W PyProof.Rows
set_option maxRecDepth 100000 in
set_option maxHeartbeats 0 in
theorem PySem.Challenge.cw_guessedzeros_k41_divisions_alike_and_ref_holds : PySem.Challenge.rw_guessedzeros_k41_divisions_alike_and_ref.Holds := by
  w_on; o_law; k_head; (case hw => w_witness2)
  k_fill
  refine L2.walkG (l := PySem.Challenge.rw_guessedzeros_k41_divisions_alike_and_ref) (n := 63) (k := 14) (x := "_law_script") (CX := fun _ => L2.CX0) (sp := fun w => GZ.spLaw _) rfl (by decide) rfl ⟨rfl, by decide, by decide⟩ (fun w h Y => PySem.W.kIn_of Y) ?F (fun _ _ a ns hl _ hS => ⟨a, ns, rfl, hS, hl, fun _ => rfl⟩) (fun _ _ _ _ _ h => h)
  case F =>
    intro w mg fa h KX G hmg
    refine' GZ.all_mk KX G hmg ?a1 ?l1 ?c1 ?k1 ?a2 ?l2 ?c2 ?k2 ?a3 ?l3 ?c3 ?k3 ?a4 ?l4 ?c4 ?k4 ?a5 ?l5 ?c5 ?k5 ?a6 ?l6 ?c6 ?k6 ?a7 ?l7 ?c7 ?k7 ?w7_0 ?w7_1 ?a8 ?l8 ?c8 ?k8 ?a9 ?l9 ?c9 ?k9 ?a10 ?l10 ?c10 ?k10 ?a11 ?l11 ?c11 ?k11 ?a12 ?l12 ?c12 ?k12 ?a13 ?l13 ?c13 ?k13 ?w13_0 ?a14 ?l14 ?c14 ?k14 ?a15 ?l15 ?c15 ?k15 ?a16 ?l16 ?c16 ?k16 ?a17 ?l17 ?c17 ?k17 ?a18 ?l18 ?c18 ?k18 ?a19 ?l19 ?c19 ?k19 ?a20 ?l20 ?c20 ?k20 ?a21 ?l21 ?c21 ?k21 ?a22 ?l22 ?c22 ?k22 ?a23 ?l23 ?c23 ?k23 ?a24 ?l24 ?c24 ?k24 ?a25 ?l25 ?c25 ?k25 ?a26 ?l26 ?c26 ?k26 ?a27 ?l27 ?c27 ?k27 ?a28 ?l28 ?c28 ?k28 ?a29 ?l29 ?c29 ?k29 ?a30 ?l30 ?c30 ?k30 ?a31 ?l31 ?c31 ?k31 ?a32 ?l32 ?c32 ?k32 ?a33 ?l33 ?c33 ?k33 ?aC ?pgC ?hdC ?poC ?saC ?mkC ?kcC ?naC0 ?naC1 ?aCD ?pgCD ?hdCD ?poCD ?saCD ?mkCD ?kcCD ?naCD0 ?naCD1 ?naCD2 ?naCD3 ?naCD4 ?naCD5 ?naCD6 ?naCD7 ?naCD8 ?naCD9 ?a34 ?i34 ?l34 ?c34 ?k34 ?a35 ?i35 ?l35 ?c35 ?k35 ?a36 ?i36 ?l36 ?c36 ?k36 ?a37 ?i37 ?l37 ?c37 ?k37 ?a38 ?i38 ?l38 ?c38 ?k38 ?a39 ?i39 ?l39 ?c39 ?k39 ?a40 ?i40 ?l40 ?c40 ?k40 ?t40 ?a41 ?i41 ?l41 ?c41 ?k41 ?t41 ?a42 ?i42 ?l42 ?c42 ?k42 ?t42 ?a43 ?i43 ?l43 ?c43 ?k43 ?a44 ?i44 ?l44 ?c44 ?k44 ?a45 ?i45 ?l45 ?c45 ?k45 ?w45_0 ?w45_1 ?a46 ?i46 ?l46 ?c46 ?k46 ?a47 ?i47 ?l47 ?c47 ?k47 ?a48 ?i48 ?l48 ?c48 ?k48 ?a49 ?i49 ?l49 ?c49 ?k49 ?a50 ?i50 ?l50 ?c50 ?k50 ?a51 ?i51 ?l51 ?c51 ?k51 ?a52 ?i52 ?l52 ?c52 ?k52 ?a53 ?i53 ?l53 ?c53 ?k53 ?a54 ?i54 ?l54 ?c54 ?k54 ?a55 ?i55 ?l55 ?c55 ?k55 ?z1 ?z2 ?z3 ?z4 ?z5 ?z6 ?z7 ?z8 ?z9 ?z10 ?z11 ?z12 ?z13 ?z14 ?z15 ?z16 ?z17 ?gNEAR ?gCUT ?gUP ?aENoStep ?cENoStep ?saENoStep ?gaENoStep ?ggENoStep ?nwENoStep ?inENoStep ?tiENoStep ?liENoStep ?ciENoStep ?kcENoStep ?exENoStep ?tyENoStep ?hdENoStep ?clENoStep ?spENoStep ?tkENoStep ?mrENoStep ?suENoStep ?aEUndone ?cEUndone ?saEUndone ?gaEUndone ?ggEUndone ?nwEUndone ?inEUndone ?tiEUndone ?liEUndone ?ciEUndone ?kcEUndone ?exEUndone ?tyEUndone ?hdEUndone ?clEUndone ?spEUndone ?tkEUndone ?mrEUndone ?suEUndone ?aEBusy ?tyEBusy ?hdEBusy ?zERuntimeError ?sqNoStep_RuntimeError ?sqUndone_RuntimeError ?sqNoStep_Busy ?nqNoStep_Busy ?sqUndone_Busy ?nqUndone_Busy ?sqUndone_NoStep ?nqUndone_NoStep ?sqNoStep_Undone ?exEBusy
    (case a1 => k_is)
    (case l1 => k_is)
    (case c1 => k_is)
    (case k1 => k_is)
    (case a2 => k_is)
    (case l2 => k_is)
    (case c2 => k_is)
    (case k2 => k_is)
    (case a3 => k_is)
    (case l3 => k_is)
    (case c3 => k_is)
    (case k3 => k_is)
    (case a4 => k_is)
    (case l4 => k_is)
    (case c4 => k_is)
    (case k4 => k_is)
    (case a5 => k_is)
    (case l5 => k_is)
    (case c5 => k_is)
    (case k5 => k_is)
    (case a6 => k_is)
    (case l6 => k_is)
    (case c6 => k_is)
    (case k6 => k_is)
    (case a7 => k_is)
    (case l7 => k_is)
    (case c7 => k_is)
    (case k7 => k_is)
    (case w7_0 => k_is)
    (case w7_1 => k_is)
    (case a8 => k_is)
    (case l8 => k_is)
    (case c8 => k_is)
    (case k8 => k_is)
    (case a9 => k_is)
    (case l9 => k_is)
    (case c9 => k_is)
    (case k9 => k_is)
    (case a10 => k_is)
    (case l10 => k_is)
    (case c10 => k_is)
    (case k10 => k_is)
    (case a11 => k_is)
    (case l11 => k_is)
    (case c11 => k_is)
    (case k11 => k_is)
    (case a12 => k_is)
    (case l12 => k_is)
    (case c12 => k_is)
    (case k12 => k_is)
    (case a13 => k_is)
    (case l13 => k_is)
    (case c13 => k_is)
    (case k13 => k_is)
    (case w13_0 => k_is)
    (case a14 => k_is)
    (case l14 => k_is)
    (case c14 => k_is)
    (case k14 => k_is)
    (case a15 => k_is)
    (case l15 => k_is)
    (case c15 => k_is)
    (case k15 => k_is)
    (case a16 => k_is)
    (case l16 => k_is)
    (case c16 => k_is)
    (case k16 => k_is)
    (case a17 => k_is)
    (case l17 => k_is)
    (case c17 => k_is)
    (case k17 => k_is)
    (case a18 => k_is)
    (case l18 => k_is)
    (case c18 => k_is)
    (case k18 => k_is)
    (case a19 => k_is)
    (case l19 => k_is)
    (case c19 => k_is)
    (case k19 => k_is)
    (case a20 => k_is)
    (case l20 => k_is)
    (case c20 => k_is)
    (case k20 => k_is)
    (case a21 => k_is)
    (case l21 => k_is)
    (case c21 => k_is)
    (case k21 => k_is)
    (case a22 => k_is)
    (case l22 => k_is)
    (case c22 => k_is)
    (case k22 => k_is)
    (case a23 => k_is)
    (case l23 => k_is)
    (case c23 => k_is)
    (case k23 => k_is)
    (case a24 => k_is)
    (case l24 => k_is)
    (case c24 => k_is)
    (case k24 => k_is)
    (case a25 => k_is)
    (case l25 => k_is)
    (case c25 => k_is)
    (case k25 => k_is)
    (case a26 => k_is)
    (case l26 => k_is)
    (case c26 => k_is)
    (case k26 => k_is)
    (case a27 => k_is)
    (case l27 => k_is)
    (case c27 => k_is)
    (case k27 => k_is)
    (case a28 => k_is)
    (case l28 => k_is)
    (case c28 => k_is)
    (case k28 => k_is)
    (case a29 => k_is)
    (case l29 => k_is)
    (case c29 => k_is)
    (case k29 => k_is)
    (case a30 => k_is)
    (case l30 => k_is)
    (case c30 => k_is)
    (case k30 => k_is)
    (case a31 => k_is)
    (case l31 => k_is)
    (case c31 => k_is)
    (case k31 => k_is)
    (case a32 => k_is)
    (case l32 => k_is)
    (case c32 => k_is)
    (case k32 => k_is)
    (case a33 => k_is)
    (case l33 => k_is)
    (case c33 => k_is)
    (case k33 => k_is)
    (case aC => k_is)
    (case pgC => k_is)
    (case hdC => k_is)
    (case poC => k_is)
    (case saC => k_is)
    (case mkC => k_is)
    (case kcC => k_is)
    (case naC0 => k_is)
    (case naC1 => k_is)
    (case aCD => k_is)
    (case pgCD => k_is)
    (case hdCD => k_is)
    (case poCD => k_is)
    (case saCD => k_is)
    (case mkCD => k_is)
    (case kcCD => k_is)
    (case naCD0 => k_is)
    (case naCD1 => k_is)
    (case naCD2 => k_is)
    (case naCD3 => k_is)
    (case naCD4 => k_is)
    (case naCD5 => k_is)
    (case naCD6 => k_is)
    (case naCD7 => k_is)
    (case naCD8 => k_is)
    (case naCD9 => k_is)
    (case a34 => k_is)
    (case i34 => k_is)
    (case l34 => k_is)
    (case c34 => k_is)
    (case k34 => k_is)
    (case a35 => k_is)
    (case i35 => k_is)
    (case l35 => k_is)
    (case c35 => k_is)
    (case k35 => k_is)
    (case a36 => k_is)
    (case i36 => k_is)
    (case l36 => k_is)
    (case c36 => k_is)
    (case k36 => k_is)
    (case a37 => k_is)
    (case i37 => k_is)
    (case l37 => k_is)
    (case c37 => k_is)
    (case k37 => k_is)
    (case a38 => k_is)
    (case i38 => k_is)
    (case l38 => k_is)
    (case c38 => k_is)
    (case k38 => k_is)
    (case a39 => k_is)
    (case i39 => k_is)
    (case l39 => k_is)
    (case c39 => k_is)
    (case k39 => k_is)
    (case a40 => k_is)
    (case i40 => k_is)
    (case l40 => k_is)
    (case c40 => k_is)
    (case k40 => k_is)
    (case t40 => k_is)
    (case a41 => k_is)
    (case i41 => k_is)
    (case l41 => k_is)
    (case c41 => k_is)
    (case k41 => k_is)
    (case t41 => k_is)
    (case a42 => k_is)
    (case i42 => k_is)
    (case l42 => k_is)
    (case c42 => k_is)
    (case k42 => k_is)
    (case t42 => k_is)
    (case a43 => k_is)
    (case i43 => k_is)
    (case l43 => k_is)
    (case c43 => k_is)
    (case k43 => k_is)
    (case a44 => k_is)
    (case i44 => k_is)
    (case l44 => k_is)
    (case c44 => k_is)
    (case k44 => k_is)
    (case a45 => k_is)
    (case i45 => k_is)
    (case l45 => k_is)
    (case c45 => k_is)
    (case k45 => k_is)
    (case w45_0 => k_is)
    (case w45_1 => k_is)
    (case a46 => k_is)
    (case i46 => k_is)
    (case l46 => k_is)
    (case c46 => k_is)
    (case k46 => k_is)
    (case a47 => k_is)
    (case i47 => k_is)
    (case l47 => k_is)
    (case c47 => k_is)
    (case k47 => k_is)
    (case a48 => k_is)
    (case i48 => k_is)
    (case l48 => k_is)
    (case c48 => k_is)
    (case k48 => k_is)
    (case a49 => k_is)
    (case i49 => k_is)
    (case l49 => k_is)
    (case c49 => k_is)
    (case k49 => k_is)
    (case a50 => k_is)
    (case i50 => k_is)
    (case l50 => k_is)
    (case c50 => k_is)
    (case k50 => k_is)
    (case a51 => k_is)
    (case i51 => k_is)
    (case l51 => k_is)
    (case c51 => k_is)
    (case k51 => k_is)
    (case a52 => k_is)
    (case i52 => k_is)
    (case l52 => k_is)
    (case c52 => k_is)
    (case k52 => k_is)
    (case a53 => k_is)
    (case i53 => k_is)
    (case l53 => k_is)
    (case c53 => k_is)
    (case k53 => k_is)
    (case a54 => k_is)
    (case i54 => k_is)
    (case l54 => k_is)
    (case c54 => k_is)
    (case k54 => k_is)
    (case a55 => k_is)
    (case i55 => k_is)
    (case l55 => k_is)
    (case c55 => k_is)
    (case k55 => k_is)
    (case z1 => k_is)
    (case z2 => k_is)
    (case z3 => k_is)
    (case z4 => k_is)
    (case z5 => k_is)
    (case z6 => k_is)
    (case z7 => k_is)
    (case z8 => k_is)
    (case z9 => k_is)
    (case z10 => k_is)
    (case z11 => k_is)
    (case z12 => k_is)
    (case z13 => k_is)
    (case z14 => k_is)
    (case z15 => k_is)
    (case z16 => k_is)
    (case z17 => k_is)
    (case gNEAR => k_is)
    (case gCUT => k_is)
    (case gUP => k_is)
    (case aENoStep => k_is)
    (case cENoStep => k_is)
    (case saENoStep => k_is)
    (case gaENoStep => k_is)
    (case ggENoStep => k_is)
    (case nwENoStep => k_is)
    (case inENoStep => k_is)
    (case tiENoStep => k_is)
    (case liENoStep => k_is)
    (case ciENoStep => k_is)
    (case kcENoStep => k_is)
    (case exENoStep => k_is)
    (case tyENoStep => k_is)
    (case hdENoStep => k_is)
    (case clENoStep => k_is)
    (case spENoStep => k_is)
    (case tkENoStep => k_is)
    (case mrENoStep => k_is)
    (case suENoStep => first | rfl | k_is)
    (case aEUndone => k_is)
    (case cEUndone => k_is)
    (case saEUndone => k_is)
    (case gaEUndone => k_is)
    (case ggEUndone => k_is)
    (case nwEUndone => k_is)
    (case inEUndone => k_is)
    (case tiEUndone => k_is)
    (case liEUndone => k_is)
    (case ciEUndone => k_is)
    (case kcEUndone => k_is)
    (case exEUndone => k_is)
    (case tyEUndone => k_is)
    (case hdEUndone => k_is)
    (case clEUndone => k_is)
    (case spEUndone => k_is)
    (case tkEUndone => k_is)
    (case mrEUndone => k_is)
    (case suEUndone => first | rfl | k_is)
    (case aEBusy => k_is)
    (case tyEBusy => k_is)
    (case hdEBusy => k_is)
    (case zERuntimeError => k_is)
    (case sqNoStep_RuntimeError => first | rfl | k_is)
    (case sqUndone_RuntimeError => first | rfl | k_is)
    (case sqNoStep_Busy => first | rfl | k_is)
    (case nqNoStep_Busy => rfl)
    (case sqUndone_Busy => first | rfl | k_is)
    (case nqUndone_Busy => rfl)
    (case sqUndone_NoStep => first | rfl | k_is)
    (case nqUndone_NoStep => rfl)
    (case sqNoStep_Undone => first | rfl | k_is)
    (case exEBusy => k_is)

import PyProof.Rows.All
import Wide.All
import OpenK.AllK
import Wide.FinOn
import HandS.ForMost
import HandS.Walk
import HandS.Zip
import HandS.WideBits
import HandS.IsInst
import OpenK.KEqL
import HandS.More
import HandS.Flow
import HandS.NoneIn
import HandS.Defaults
import HandS.Wide
import HandS.Style
import HandS.Star
import HandS.MakeKwOnly
import PySem.Challenge.RW_guessedzeros_k42_known_divisions
set_option Elab.async false
set_option linter.all false
set_option maxRecDepth 100000
set_option maxHeartbeats 40000000
namespace GZ
open PySem PySem.Spec PyProof.Rows L2
/-! ### the text by places -/
def topS (i : Nat) : Stmt := PySem.Challenge.pw_guessedzeros_k42_known_divisions.main.body.getD i (.Pass ⟨0, 0, 0, 0⟩)
abbrev s_worth_of : Stmt := topS 2
theorem sc_worth_of : FnScope ["digits", "worth", "digit"] ["digits"] (defScope s_worth_of) := ⟨rfl, rfl, rfl, by decide +kernel, rfl, by decide +kernel, by decide +kernel⟩
abbrev s_is_number : Stmt := topS 9
theorem sc_is_number : FnScope ["thing"] ["thing"] (defScope s_is_number) := ⟨rfl, rfl, rfl, by decide +kernel, rfl, by decide +kernel, by decide +kernel⟩
abbrev s_is_number_in : Stmt := topS 10
theorem sc_is_number_in : FnScope ["least", "greatest", "thing"] ["least", "greatest", "thing"] (defScope s_is_number_in) := ⟨rfl, rfl, rfl, by decide +kernel, rfl, by decide +kernel, by decide +kernel⟩
abbrev s_Form___init__ : Stmt := inClass (topS 12) 0
theorem sc_Form___init__ : FnScope ["self", "scale", "tail"] ["self", "scale", "tail"] (defScope s_Form___init__) := ⟨rfl, rfl, rfl, by decide +kernel, rfl, by decide +kernel, by decide +kernel⟩
abbrev s_Form_bias : Stmt := inClass (topS 12) 2
theorem sc_Form_bias : FnScope ["self"] ["self"] (defScope s_Form_bias) := ⟨rfl, rfl, rfl, by decide +kernel, rfl, by decide +kernel, by decide +kernel⟩
abbrev s_Form_top : Stmt := inClass (topS 12) 3
theorem sc_Form_top : FnScope ["self"] ["self"] (defScope s_Form_top) := ⟨rfl, rfl, rfl, by decide +kernel, rfl, by decide +kernel, by decide +kernel⟩
abbrev s_Form_parts : Stmt := inClass (topS 12) 4
theorem sc_Form_parts : FnScope ["self", "word", "sign", "scale", "tail"] ["self", "word"] (defScope s_Form_parts) := ⟨rfl, rfl, rfl, by decide +kernel, rfl, by decide +kernel, by decide +kernel⟩
abbrev s_Form_word_of : Stmt := inClass (topS 12) 5
theorem sc_Form_word_of : FnScope ["self", "sign", "scale", "tail"] ["self", "sign", "scale", "tail"] (defScope s_Form_word_of) := ⟨rfl, rfl, rfl, by decide +kernel, rfl, by decide +kernel, by decide +kernel⟩
abbrev s_Form_sort_of : Stmt := inClass (topS 12) 7
theorem sc_Form_sort_of : FnScope ["self", "word", "sign", "scale", "tail"] ["self", "word"] (defScope s_Form_sort_of) := ⟨rfl, rfl, rfl, by decide +kernel, rfl, by decide +kernel, by decide +kernel⟩
abbrev s_Form_nought : Stmt := inClass (topS 12) 8
theorem sc_Form_nought : FnScope ["self", "sign"] ["self", "sign"] (defScope s_Form_nought) := ⟨rfl, rfl, rfl, by decide +kernel, rfl, by decide +kernel, by decide +kernel⟩
abbrev s_Form_endless : Stmt := inClass (topS 12) 9
theorem sc_Form_endless : FnScope ["self", "sign"] ["self", "sign"] (defScope s_Form_endless) := ⟨rfl, rfl, rfl, by decide +kernel, rfl, by decide +kernel, by decide +kernel⟩
abbrev s_Form_greatest : Stmt := inClass (topS 12) 10
theorem sc_Form_greatest : FnScope ["self", "sign"] ["self", "sign"] (defScope s_Form_greatest) := ⟨rfl, rfl, rfl, by decide +kernel, rfl, by decide +kernel, by decide +kernel⟩
abbrev s_Form_none_word : Stmt := inClass (topS 12) 12
theorem sc_Form_none_word : FnScope ["self"] ["self"] (defScope s_Form_none_word) := ⟨rfl, rfl, rfl, by decide +kernel, rfl, by decide +kernel, by decide +kernel⟩
abbrev s_Form_worth : Stmt := inClass (topS 12) 14
theorem sc_Form_worth : FnScope ["self", "word", "sign", "scale", "tail", "number", "power"] ["self", "word"] (defScope s_Form_worth) := ⟨rfl, rfl, rfl, by decide +kernel, rfl, by decide +kernel, by decide +kernel⟩
abbrev s_cut_off : Stmt := topS 17
theorem sc_cut_off : FnScope ["number", "by", "kept"] ["number", "by"] (defScope s_cut_off) := ⟨rfl, rfl, rfl, by decide +kernel, rfl, by decide +kernel, by decide +kernel⟩
abbrev s_last_power : Stmt := topS 18
theorem sc_last_power : FnScope ["form", "number", "power"] ["form", "number", "power"] (defScope s_last_power) := ⟨rfl, rfl, rfl, by decide +kernel, rfl, by decide +kernel, by decide +kernel⟩
abbrev s_least_power : Stmt := topS 19
theorem sc_least_power : FnScope ["form"] ["form"] (defScope s_least_power) := ⟨rfl, rfl, rfl, by decide +kernel, rfl, by decide +kernel, by decide +kernel⟩
abbrev s_rounded : Stmt := topS 20
theorem sc_rounded : FnScope ["form", "sign", "number", "power", "way", "more", "last", "many", "rest", "size"] ["form", "sign", "number", "power", "way", "more"] (defScope s_rounded) := ⟨rfl, rfl, rfl, by decide +kernel, rfl, by decide +kernel, by decide +kernel⟩
abbrev s_parted : Stmt := topS 21
theorem sc_parted : FnScope ["number", "by", "more", "halves", "below"] ["number", "by", "more"] (defScope s_parted) := ⟨rfl, rfl, rfl, by decide +kernel, rfl, by decide +kernel, by decide +kernel⟩
abbrev s_goes_up : Stmt := topS 22
theorem sc_goes_up : FnScope ["way", "sign", "many", "rest"] ["way", "sign", "many", "rest"] (defScope s_goes_up) := ⟨rfl, rfl, rfl, by decide +kernel, rfl, by decide +kernel, by decide +kernel⟩
abbrev s_goes_away : Stmt := topS 23
theorem sc_goes_away : FnScope ["way", "sign"] ["way", "sign"] (defScope s_goes_away) := ⟨rfl, rfl, rfl, by decide +kernel, rfl, by decide +kernel, by decide +kernel⟩
abbrev s_word_beyond : Stmt := topS 24
theorem sc_word_beyond : FnScope ["form", "sign", "way"] ["form", "sign", "way"] (defScope s_word_beyond) := ⟨rfl, rfl, rfl, by decide +kernel, rfl, by decide +kernel, by decide +kernel⟩
abbrev s_flags_of_rest : Stmt := topS 25
theorem sc_flags_of_rest : FnScope ["form", "number", "power", "rest"] ["form", "number", "power", "rest"] (defScope s_flags_of_rest) := ⟨rfl, rfl, rfl, by decide +kernel, rfl, by decide +kernel, by decide +kernel⟩
abbrev s_divided : Stmt := topS 27
theorem sc_divided : FnScope ["form", "a", "b", "way", "one", "other", "sign"] ["form", "a", "b", "way"] (defScope s_divided) := ⟨rfl, rfl, rfl, by decide +kernel, rfl, by decide +kernel, by decide +kernel⟩
abbrev s_has_none : Stmt := topS 28
theorem sc_has_none : FnScope ["form", "words", "word"] ["form", "words"] (defScope s_has_none) := ⟨rfl, rfl, rfl, by decide +kernel, rfl, by decide +kernel, by decide +kernel⟩
abbrev s_bad : Stmt := topS 29
theorem sc_bad : FnScope ["form"] ["form"] (defScope s_bad) := ⟨rfl, rfl, rfl, by decide +kernel, rfl, by decide +kernel, by decide +kernel⟩
abbrev s_sign_of : Stmt := topS 30
theorem sc_sign_of : FnScope ["form", "word"] ["form", "word"] (defScope s_sign_of) := ⟨rfl, rfl, rfl, by decide +kernel, rfl, by decide +kernel, by decide +kernel⟩
abbrev s_unlike_sign : Stmt := topS 31
theorem sc_unlike_sign : FnScope ["form", "a", "b"] ["form", "a", "b"] (defScope s_unlike_sign) := ⟨rfl, rfl, rfl, by decide +kernel, rfl, by decide +kernel, by decide +kernel⟩
abbrev s_quotient_rounded : Stmt := topS 32
theorem sc_quotient_rounded : FnScope ["form", "sign", "one", "other", "way", "number", "power", "divisor", "divisor_power", "by", "quotient", "rest"] ["form", "sign", "one", "other", "way"] (defScope s_quotient_rounded) := ⟨rfl, rfl, rfl, by decide +kernel, rfl, by decide +kernel, by decide +kernel⟩
abbrev s_have_heads : Stmt := topS 34
theorem sc_have_heads : FnScope ["form", "words", "word"] ["form", "words"] (defScope s_have_heads) := ⟨rfl, rfl, rfl, by decide +kernel, rfl, by decide +kernel, by decide +kernel⟩
abbrev s_head_of : Stmt := topS 35
theorem sc_head_of : FnScope ["form", "word", "number", "power"] ["form", "word"] (defScope s_head_of) := ⟨rfl, rfl, rfl, by decide +kernel, rfl, by decide +kernel, by decide +kernel⟩
abbrev s_Divider___init__ : Stmt := inClass (topS 37) 0
theorem sc_Divider___init__ : FnScope ["self", "form", "a", "b", "way", "signed"] ["self", "form", "a", "b", "way", "signed"] (defScope s_Divider___init__) := ⟨rfl, rfl, rfl, by decide +kernel, rfl, by decide +kernel, by decide +kernel⟩
abbrev s_Divider_begin : Stmt := inClass (topS 37) 1
theorem sc_Divider_begin : FnScope ["self", "power", "other_power"] ["self"] (defScope s_Divider_begin) := ⟨rfl, rfl, rfl, by decide +kernel, rfl, by decide +kernel, by decide +kernel⟩
abbrev s_Divider_step : Stmt := inClass (topS 37) 2
theorem sc_Divider_step : FnScope ["self", "rest", "digit"] ["self"] (defScope s_Divider_step) := ⟨rfl, rfl, rfl, by decide +kernel, rfl, by decide +kernel, by decide +kernel⟩
abbrev s_Divider_digit_by : Stmt := inClass (topS 37) 3
theorem sc_Divider_digit_by : FnScope ["self", "rest", "bound"] ["self", "rest"] (defScope s_Divider_digit_by) := ⟨rfl, rfl, rfl, by decide +kernel, rfl, by decide +kernel, by decide +kernel⟩
abbrev s_Divider_digits : Stmt := inClass (topS 37) 4
theorem sc_Divider_digits : FnScope ["self"] ["self"] (defScope s_Divider_digits) := ⟨rfl, rfl, rfl, by decide +kernel, rfl, by decide +kernel, by decide +kernel⟩
abbrev s_Divider_quotient : Stmt := inClass (topS 37) 5
theorem sc_Divider_quotient : FnScope ["self"] ["self"] (defScope s_Divider_quotient) := ⟨rfl, rfl, rfl, by decide +kernel, rfl, by decide +kernel, by decide +kernel⟩
abbrev s_Divider_rest : Stmt := inClass (topS 37) 6
theorem sc_Divider_rest : FnScope ["self"] ["self"] (defScope s_Divider_rest) := ⟨rfl, rfl, rfl, by decide +kernel, rfl, by decide +kernel, by decide +kernel⟩
abbrev s_Divider_divisor : Stmt := inClass (topS 37) 7
theorem sc_Divider_divisor : FnScope ["self"] ["self"] (defScope s_Divider_divisor) := ⟨rfl, rfl, rfl, by decide +kernel, rfl, by decide +kernel, by decide +kernel⟩
abbrev s_Divider_left : Stmt := inClass (topS 37) 8
theorem sc_Divider_left : FnScope ["self"] ["self"] (defScope s_Divider_left) := ⟨rfl, rfl, rfl, by decide +kernel, rfl, by decide +kernel, by decide +kernel⟩
abbrev s_Divider_outcome : Stmt := inClass (topS 37) 9
theorem sc_Divider_outcome : FnScope ["self", "quotient", "more", "sign"] ["self"] (defScope s_Divider_outcome) := ⟨rfl, rfl, rfl, by decide +kernel, rfl, by decide +kernel, by decide +kernel⟩
abbrev s_full_head : Stmt := topS 38
theorem sc_full_head : FnScope ["form", "word", "head", "power", "by"] ["form", "word"] (defScope s_full_head) := ⟨rfl, rfl, rfl, by decide +kernel, rfl, by decide +kernel, by decide +kernel⟩
abbrev sBox : Stmt := topS 40
abbrev sTake : Stmt := topS 41
abbrev sFolded : Stmt := topS 42
abbrev sSame : Stmt := topS 43
abbrev s__law_known : Stmt := topS 44
theorem sc__law_known : FnScope ["_law_one", "_law_two", "_law_three", "_law_four", "_law_five", "_law_six"] [] (defScope s__law_known) := ⟨rfl, rfl, rfl, by decide +kernel, rfl, by decide +kernel, by decide +kernel⟩
abbrev s__law_division_right : Stmt := topS 45
theorem sc__law_division_right : FnScope ["_law_row", "_law_signs", "_law_mode", "_law_form", "_law_away", "_law_a", "_law_b", "_law_size", "_law_due", "_law_by_signs", "_law_divider", "_law_told", "_law_number", "_law_digit", "_law_found", "_law_turn"] ["_law_row", "_law_signs", "_law_mode"] (defScope s__law_division_right) := ⟨rfl, rfl, rfl, by decide +kernel, rfl, by decide +kernel, by decide +kernel⟩
abbrev s_law : Stmt := topS 46
theorem sc_law : FnScope ["_law_script", "_law_cells", "_law_k", "_law_box_here", "_law_rows", "_law_turn", "_law_row", "_law_mode"] ["_law_script"] (defScope s_law) := ⟨rfl, rfl, rfl, by decide +kernel, rfl, by decide +kernel, by decide +kernel⟩
/-! ### built-in names that the text leaves alone -/
structure Bl (mg : Str → Option Value) : Prop where
  len : mg "len" = none
  abs : mg "abs" = none
  int : mg "int" = none
  divmod : mg "divmod" = none
  list : mg "list" = none
  enumerate : mg "enumerate" = none
  isinstance : mg "isinstance" = none
  tuple : mg "tuple" = none
  str : mg "str" = none
  bool : mg "bool" = none
  zip : mg "zip" = none
  all : mg "all" = none
  range : mg "range" = none
  max : mg "max" = none
  any : mg "any" = none
  min : mg "min" = none
  sum : mg "sum" = none
/-! ### rules with the written part told (for the blocks of comprehensions) -/
section
variable {X : Cx} {K : PySem.W.Frag}
theorem call_len_seqK (h : X.K = K := by rfl) : CallR X (.builtin "len") (fun xs H Q => ∃ p ys, xs = [.ref p] ∧ (SqL K H p ys ∨ SqT K H p ys) ∧ Q (.int ys.length) H) := by subst h; exact call_len_seq
theorem call_list_ofK (h : X.K = K := by rfl) : CallR X (.type "list") (fun xs H Q => ∃ p ys, xs = [.ref p] ∧ (SqL K H p ys ∨ SqT K H p ys) ∧ ∀ l, H l = none → Q (.ref l) (upd H l (.lst ys))) := by subst h; exact call_list_of
theorem call_tuple_ofK (h : X.K = K := by rfl) : CallR X (.type "tuple") (fun xs H Q => ∃ p ys, xs = [.ref p] ∧ ((SqL K H p ys ∧ ∀ l, H l = none → Q (.ref l) (upd H l (.tup ys))) ∨ (SqT K H p ys ∧ Q (.ref p) H))) := by subst h; exact call_tuple_of
theorem ix_listK (h : X.K = K := by rfl) : IxR X (rIxL K) := by subst h; exact ix_list
theorem ix_tupK (h : X.K = K := by rfl) : IxR X (rIxT K) := by subst h; exact ix_tup
theorem ix_seqK (h : X.K = K := by rfl) : IxR X (rIx K) := by subst h; exact ix_seq
theorem op_in_seqK (h : X.K = K := by rfl) : OpR X (compareOp .In) (rIn K false) := by subst h; exact op_in_seq
theorem op_notIn_seqK (h : X.K = K := by rfl) : OpR X (compareOp .NotIn) (rIn K true) := by subst h; exact op_notIn_seq
theorem sl_listK (h : X.K = K := by rfl) : SlR X (rSlL K) := by subst h; exact sl_list
theorem cr_sumK (hc : X.calm = true) (h : X.K = K := by rfl) : CallR X (.builtin "sum") (rSum K) := by subst h; exact cr_sum hc
theorem cr_allK (hc : X.calm = true) (h : X.K = K := by rfl) : CallR X (.builtin "all") (rAll K) := by subst h; exact cr_all hc
theorem cr_anyK (hc : X.calm = true) (h : X.K = K := by rfl) : CallR X (.builtin "any") (rAny K) := by subst h; exact cr_any hc
theorem call_isiK' (h : X.K = K := by rfl) : CallR X (.builtin "isinstance") (rIsi K) := by subst h; exact call_isi
theorem pi_listK {tg l : Expr} {tl : TE} (hl : PE X l tl) (h : X.K = K := by rfl) : PI X tg l (iList K tl) := by subst h; exact pi_list hl
theorem pi_tupK {tg l : Expr} {tl : TE} (hl : PE X l tl) (h : X.K = K := by rfl) : PI X tg l (iTup K tl) := by subst h; exact pi_tup hl
theorem pe_fldK {e : Expr} {ta : TE} {f : Str} {pos : Pos} (he : PE X e ta) (hb : attributeBase e f X.env (eval e X.env) = eval e X.env) (h : X.K = K := by rfl) : PE X (.Attribute e f pos) (tFld K ta f) := by subst h; exact pe_fld he hb
end
/-! ### heaps -/
theorem same_upd {H : Hp} {p : Addr} {o : HO} (h : H p = none) : Same H (upd H p o) := fun b x e => by
  rw [upd_ne (ne_of_none e h)]
  exact e
/-- all but what stands at b is as it was -/
def Keep (b : Addr) (H H' : Hp) : Prop := ∀ p o, H p = some o → p ≠ b → H' p = some o
theorem Keep.refl (b : Addr) (H : Hp) : Keep b H H := fun _ _ h _ => h
theorem Keep.trans {b : Addr} {H H1 H2 : Hp} (x : Keep b H H1) (y : Keep b H1 H2) : Keep b H H2 := fun p o h n => y p o (x p o h n) n
theorem Keep.ofSame {b : Addr} {H H1 : Hp} (x : Same H H1) : Keep b H H1 := fun p o h _ => x p o h
theorem Keep.upd {b : Addr} {H : Hp} {o : HO} : Keep b H (upd H b o) := fun p x h n => by
  rw [upd_ne n]
  exact h
theorem Keep.new {b p : Addr} {H : Hp} {o : HO} (h : H p = none) : Keep b H (L2.upd H p o) := .ofSame (same_upd h)
theorem Keep.seq {K : PySem.W.Frag} {b a : Addr} {H H' : Hp} {xs : List V} (e : Keep b H H') (n : a ≠ b) (h : SqL K H a xs) : SqL K H' a xs := by
  rcases h with (h | ⟨o, h⟩) | h
  · exact .inl (.inl (e _ _ h n))
  · exact .inl (.inr ⟨o, e _ _ h n⟩)
  · exact .inr h
theorem Keep.seqT {K : PySem.W.Frag} {b a : Addr} {H H' : Hp} {xs : List V} (e : Keep b H H') (n : a ≠ b) (h : SqT K H a xs) : SqT K H' a xs := by
  rcases h with (h | ⟨o, h⟩) | h
  · exact .inl (.inl (e _ _ h n))
  · exact .inl (.inr ⟨o, e _ _ h n⟩)
  · exact .inr h
theorem Same.seqT {K : PySem.W.Frag} {a : Addr} {H H' : Hp} {xs : List V} (e : Same H H') (h : SqT K H a xs) : SqT K H' a xs := by
  rcases h with (h | ⟨o, h⟩) | h
  · exact .inl (.inl (e _ _ h))
  · exact .inl (.inr ⟨o, e _ _ h⟩)
  · exact .inr h
/-- a drawing box: three ints, the last at most c -/
def BoxAt (c : Int) (H : Hp) (b : Addr) : Prop := ∃ x0 x1 x2 : Int, H b = some (.lst [.int x0, .int x1, .int x2]) ∧ 0 ≤ x0 ∧ 0 ≤ x1 ∧ x1 < 2147483647 ∧ 0 ≤ x2 ∧ x2 ≤ c
theorem BoxAt.mono {c d : Int} {H : Hp} {b : Addr} (h : BoxAt c H b) (l : c ≤ d) : BoxAt d H b := by
  obtain ⟨x0, x1, x2, e, a1, a2, a3, a4, a5⟩ := h
  exact ⟨x0, x1, x2, e, a1, a2, a3, a4, by omega⟩
theorem BoxAt.same {c : Int} {H H' : Hp} {b : Addr} (h : BoxAt c H b) (s : Same H H') : BoxAt c H' b := by
  obtain ⟨x0, x1, x2, e, r⟩ := h
  exact ⟨x0, x1, x2, s _ _ e, r⟩
theorem BoxAt.at {c : Int} {H H' : Hp} {b : Addr} (h : BoxAt c H b) (s : H' b = H b) : BoxAt c H' b := by
  obtain ⟨x0, x1, x2, e, r⟩ := h
  exact ⟨x0, x1, x2, by rw [s]; exact e, r⟩
theorem BoxAt.ne {c : Int} {H : Hp} {b p : Addr} (h : BoxAt c H b) (n : H p = none) : b ≠ p := by
  obtain ⟨x0, x1, x2, e, r⟩ := h
  exact ne_of_none e n
theorem e7 : (10 : Int) ^ ((7 : Int).toNat) = 10000000 := by decide
theorem e18 : (10 : Int) ^ ((18 : Int).toNat) = 1000000000000000000 := by decide
theorem divp_small {i j : Int} (h0 : 0 < j) (h1 : j < 2 ^ 250) : CDivP i j := by
  refine ⟨h0, ?_⟩
  show (decide ((if j == 0 then 0 else j.natAbs.log2 / 30 + 1) > 300) && _) = false
  rw [if_neg (show ¬ (j == 0) = true by simpa using (show j ≠ 0 by omega))]
  have hl : j.natAbs.log2 < 250 := PySem.Flt.log2_lt_of (by decide) (by omega)
  rw [decide_eq_false (show ¬ (j.natAbs.log2 / 30 + 1 > 300) by omega), Bool.false_and]
section
variable {P : Program} {w : World} {K : PySem.W.Frag} {mg : Str → Option Value} {base : Heap}
/-! ### _law_take -/
theorem scTake : FnScope ["_law_box_here", "_law_size", "_law_found", "_law_step", "_law_once", "_law_twice"] ["_law_box_here", "_law_size"] (defScope sTake) := ⟨rfl, rfl, rfl, by decide +kernel, rfl, by decide +kernel, by decide +kernel⟩
def spTake (k : Nat) : Sp := fun vs H Q _ => ∃ (b : Addr) (n c : Int), vs = [.ref b, .int n] ∧ BoxAt c H b ∧ 1 ≤ n ∧ n ≤ 10000000 ^ k ∧ n < 2 ^ 250 ∧ c + 2 ^ k ≤ 1000000000 ∧ 0 < k ∧
  ∀ (r : Int) (H' : Hp), 0 ≤ r → r < n → BoxAt (c + 2 ^ (k - 1)) H' b → Keep b H H' → Q (.int r) H'
theorem take_none {f : Addr} {fd : FuncData} : FnOk P w K mg base CX0 0 f fd ["_law_box_here", "_law_size"] (spTake 0) := by
  have no : ∀ vs H Q E, ¬ spTake 0 vs H Q E := fun vs H Q E h => by
    obtain ⟨b, n, c, _, _, _, _, _, _, h0, _⟩ := h
    omega
  exact ⟨fun vs H Q E h => absurd h (no vs H Q E), fun A outer s H args us vs Q E _ _ _ _ h => absurd h (no vs H Q E)⟩
theorem ok_take1 {f : Addr} {fd : FuncData} {k : Nat} (F : Fun K "_law_take" "_law_take" sTake f fd) (G : FnOk P w K mg base CX0 k f fd ["_law_box_here", "_law_size"] (spTake k)) (bf : Binds K fd ["_law_box_here", "_law_size"] []) (mf : mg "_law_take" = some (.ref f)) (B : Bl mg) :
    FnOk P w K mg base CX0 (k + 1) f fd ["_law_box_here", "_law_size"] (spTake (k + 1)) := by
  refine F.ok scTake (fun vs H Q E h => ?_) (fun cdv A outer s H vs Q E hr h => ?_)
  · obtain ⟨b, n, c, rfl, _⟩ := h
    rfl
  obtain ⟨b, n, c, rfl, hB, hn1, hnk, hn60, hc, _, q⟩ := h
  obtain ⟨x0, x1, x2, hb, h0, h1, h1', h2, h2'⟩ := hB
  have hp : (0 : Int) < 2 ^ k := Int.pow_pos (by decide)
  have hk2 : (2 : Int) ^ (k + 1) = 2 ^ k * 2 := Int.pow_succ 2 k
  refine ⟨_, pss_cons (ps_if (pt_cmpR op_gt (pe_ix ix_list (pv 0) pe_int (fun _ _ => rfl)) pe_int (nomark _))
      (pss_cons (ps_asg (pe_callB call_divmodW (by rfl) B.divmod boot_divmod (pa_cons (pe_ix ix_list (pv 0) pe_int (fun _ _ => rfl)) (pa_cons (pv 1) pa_nil)))
          (pg_tup (by rfl) (pgs_cons (pg_sub (pv 0) pe_int set_list) (pgs_cons (pg_name (i := 2) scTake.nd rfl (.inl rfl)) pgs_nil))))
        (pss_one (ps_ret (pv 2)))) pss_nil)
    (pss_cons (ps_if (pt_cmpR op_gt (pv 1) (pe_op op_pow pe_int pe_int) (nomark _))
      (pss_one (ps_ret (pe_op op_mod (pe_op op_add (pe_call G hr (by rfl) mf F.kp bf .nil pass0 (pa_cons (pv 0) (pa_cons (pe_op op_pow pe_int pe_int) pa_nil)))
          (pe_op op_mul (pe_op op_pow pe_int pe_int) (pe_call G hr (by rfl) mf F.kp bf .nil pass0 (pa_cons (pv 0) (pa_cons (pe_op op_add (pe_op op_fdiv (pe_op op_sub (pv 1) pe_int) (pe_op op_pow pe_int pe_int)) pe_int) pa_nil))))) (pv 1)))) pss_nil)
    (pss_cons (ps_asg (pe_op op_add (pe_ix ix_list (pv 0) pe_int (fun _ _ => rfl)) pe_int) (pg_sub (pv 0) pe_int set_list))
    (pss_cons (ps_set (i := 3) scTake.nd rfl (.inl rfl) (pe_op op_add pe_int (pe_op op_mul (pe_ix ix_list (pv 0) pe_int (fun _ _ => rfl)) (pe_ix ix_list (pv 0) pe_int (fun _ _ => rfl)))))
    (pss_cons (ps_set (i := 4) scTake.nd rfl (.inl rfl) (pe_op op_mod (pe_op op_mul (pe_op op_add (pe_ix ix_list (pv 0) pe_int (fun _ _ => rfl)) (pe_op op_mul pe_int (pe_ix ix_list (pv 0) pe_int (fun _ _ => rfl)))) (pv 3)) pe_int))
    (pss_cons (ps_set (i := 5) scTake.nd rfl (.inl rfl) (pe_op op_mod (pe_op op_add (pe_op op_mul (pv 4) (pe_op op_add (pe_op op_mod (pv 4) pe_int) pe_int)) (pe_ix ix_list (pv 0) pe_int (fun _ _ => rfl))) pe_int))
    (pss_one (ps_ret (pe_op op_mod (pe_op op_fdiv (pe_op op_mod (pe_op op_mul (pv 5) (pe_op op_add (pe_op op_mod (pv 5) pe_int) pe_int)) pe_int) pe_int) (pv 1))))))))), ?_⟩
  refine ⟨_, rfl, b, _, _, _, rfl, rfl, SqL.of hb, rfl, _, _, rfl, rfl, _, rfl, ite2 (fun cc => ?_) (fun cc => ?_)⟩
  · -- the great number's own digits
    refine ⟨_, rfl, b, _, _, _, rfl, rfl, SqL.of hb, rfl, _, rfl, _, _, rfl, divp_small (by omega) (by omega), fun p np => ?_⟩
    have nbp : b ≠ p := ne_of_none hb np
    refine ⟨p, _, rfl, .inl (.inl upd_same), rfl, _, _, rfl, _, rfl, b, _, _, 0, rfl, rfl, (by rw [upd_ne nbp]; exact hb), rfl, _, _, rfl, rfl, _, rfl, ?_⟩
    refine q _ _ (Int.emod_nonneg _ (by omega)) (Int.emod_lt_of_pos _ (by omega)) ⟨x0 / n, x1, x2, upd_same, Int.ediv_nonneg h0 (by omega), h1, h1', h2, by show x2 ≤ c + 2 ^ k; omega⟩ ?_
    exact Keep.trans (Keep.new np) Keep.upd
  · refine ⟨_, rfl, _, _, rfl, rfl, ⟨by decide, by decide, by decide⟩, _, _, rfl, rfl, _, rfl, ite2 (fun c2 => ?_) (fun c2 => ?_)⟩
    · -- two lesser draws
      have c3 : (10 : Int) ^ ((7 : Int).toNat) < n := of_decide_eq_true c2
      rw [e7] at c3
      have hk : 0 < k := by
        rcases Nat.eq_zero_or_pos k with z | z
        · subst z
          rw [show (10000000 : Int) ^ (0 + 1) = 10000000 by decide] at hnk
          omega
        · exact z
      obtain ⟨j, rfl⟩ : ∃ j, k = j + 1 := ⟨k - 1, by omega⟩
      have hj2 : (2 : Int) ^ (j + 1) = 2 ^ j * 2 := Int.pow_succ 2 j
      have hjp : (0 : Int) < 2 ^ j := Int.pow_pos (by decide)
      have h10 : (10000000 : Int) ≤ 10000000 ^ (j + 1) := by
        rw [Int.pow_succ]
        have : (0 : Int) < 10000000 ^ j := Int.pow_pos (by decide)
        omega
      have hdiv : (n - 1) / 10000000 + 1 ≤ 10000000 ^ (j + 1) := by
        rw [Int.pow_succ] at hnk
        have : n - 1 < 10000000 ^ (j + 1) * 10000000 := by omega
        have := Int.ediv_lt_of_lt_mul (by decide) this
        omega
      refine ⟨_, rfl, _, _, rfl, rfl, ⟨by decide, by decide, by decide⟩, b, _, c, rfl, ⟨x0, x1, x2, hb, h0, h1, h1', h2, h2'⟩, (by rw [e7]; decide), (by rw [e7]; exact h10), (by rw [e7]; decide), by omega, by omega, fun r1 H1 a1 a2 B1 k1 => ?_⟩
      refine ⟨_, _, rfl, rfl, ⟨by decide, by decide, by decide⟩, _, rfl, _, rfl, _, _, rfl, rfl, _, _, rfl, rfl, ⟨by decide, by decide, by decide⟩, _, _, rfl, rfl, (by rw [e7]; exact ⟨by decide, by decide⟩), _, _, rfl, rfl, ?_⟩
      rw [e7]
      refine ⟨b, _, c + 2 ^ j, rfl, B1, by omega, hdiv, by omega, by omega, by omega, fun r2 H2 a3 a4 B2 k2 => ?_⟩
      refine ⟨_, _, rfl, rfl, .inl ⟨by decide, by decide⟩, _, _, rfl, rfl, _, rfl, _, _, rfl, rfl, (by show (0 : Int) < n; omega), ?_⟩
      refine q _ _ (Int.emod_nonneg _ (by omega)) (Int.emod_lt_of_pos _ (by omega)) (B2.mono ?_) (k1.trans k2)
      show c + 2 ^ j + 2 ^ j ≤ c + 2 ^ (j + 1)
      omega
    · -- a turn of the wheel
      refine ⟨_, rfl, b, _, _, _, rfl, rfl, SqL.of hb, rfl, _, _, rfl, rfl, _, rfl, b, _, _, 2, rfl, rfl, hb, rfl, ?_⟩
      have hb2 : (upd H b (.lst [.int x0, .int x1, .int (x2 + 1)])) b = some (.lst [.int x0, .int x1, .int (x2 + 1)]) := upd_same
      refine ⟨_, rfl, b, _, _, _, rfl, rfl, SqL.of hb2, rfl, _, rfl, b, _, _, _, rfl, rfl, SqL.of hb2, rfl, _, _, rfl, rfl, .inl ⟨by omega, by omega⟩, _, _, rfl, rfl, ?_⟩
      refine ⟨_, rfl, b, _, _, _, rfl, rfl, SqL.of hb2, rfl, _, rfl, b, _, _, _, rfl, rfl, SqL.of hb2, rfl, _, _, rfl, rfl, .inl ⟨by omega, by omega⟩, _, _, rfl, rfl, _, rfl, _, _, rfl, rfl, .inl ⟨by omega, by omega⟩, _, _, rfl, rfl, (by show (0 : Int) < 2147483587; decide), ?_⟩
      generalize (x1 + 39373 * (x2 + 1)) * (69621 + (x2 + 1) * (x2 + 1)) = y
      have y1 := Int.emod_nonneg y (show (2147483587 : Int) ≠ 0 by decide)
      have y2 := Int.emod_lt_of_pos y (show (0 : Int) < 2147483587 by decide)
      refine ⟨_, rfl, _, rfl, _, _, rfl, rfl, (by show (0 : Int) < 30011; decide), _, _, rfl, rfl, _, _, rfl, rfl, .inl ⟨by omega, by omega⟩, _, rfl, b, _, _, _, rfl, rfl, SqL.of hb2, rfl, _, _, rfl, rfl, _, _, rfl, rfl, (by show (0 : Int) < 2147483563; decide), ?_⟩
      generalize (y % 2147483587 * (y % 2147483587 % 30011 + 5) + (x2 + 1)) = z
      have z1 := Int.emod_nonneg z (show (2147483563 : Int) ≠ 0 by decide)
      have z2 := Int.emod_lt_of_pos z (show (0 : Int) < 2147483563 by decide)
      refine ⟨_, rfl, _, rfl, _, _, rfl, rfl, (by show (0 : Int) < 1013; decide), _, _, rfl, rfl, _, _, rfl, rfl, .inl ⟨by omega, by omega⟩, _, _, rfl, rfl, (by show (0 : Int) < 998244353; decide), _, _, rfl, rfl, ⟨by decide, by decide⟩, _, rfl, _, _, rfl, rfl, (by show (0 : Int) < n; omega), ?_⟩
      refine q _ _ (Int.emod_nonneg _ (by omega)) (Int.emod_lt_of_pos _ (by omega)) ⟨x0, x1, x2 + 1, hb2, h0, h1, h1', by omega, by show x2 + 1 ≤ c + 2 ^ k; omega⟩ Keep.upd
theorem ok_take {f : Addr} {fd : FuncData} (F : Fun K "_law_take" "_law_take" sTake f fd) (bf : Binds K fd ["_law_box_here", "_law_size"] []) (mf : mg "_law_take" = some (.ref f)) (B : Bl mg) : ∀ k : Nat, FnOk P w K mg base CX0 k f fd ["_law_box_here", "_law_size"] (spTake k)
  | 0 => take_none
  | k + 1 => ok_take1 F (ok_take F bf mf B k) bf mf B
/-! ### _law_box -/
theorem scBox : FnScope ["_law_script", "_law_k", "_law_cell"] ["_law_script", "_law_k"] (defScope sBox) := ⟨rfl, rfl, rfl, by decide +kernel, rfl, by decide +kernel, by decide +kernel⟩
def spBox (K : PySem.W.Frag) : Sp := fun vs H Q _ => ∃ (a : Addr) (zs : List Int) (k : Int), vs = [.ref a, .int k] ∧ SqL K H a (zs.map V.int) ∧ 0 ≤ k ∧ k ≤ 1000 ∧
  ∀ (p : Addr) (H' : Hp), H p = none → Same H H' → BoxAt 0 H' p → Q (.ref p) H'
theorem b01 (b : Bool) : (-(2 ^ 64) < (if b = true then (1 : Int) else 0)) ∧ (if b = true then (1 : Int) else 0) < 2 ^ 64 := by cases b <;> decide
theorem b01n (b : Bool) : 0 ≤ (if b = true then (1 : Int) else 0) := by cases b <;> decide
theorem abs_nn (i : Int) : 0 ≤ (if i < 0 then -i else i) := by
  split <;> omega
theorem at_int {zs : List Int} {k : Int} (h0 : 0 ≤ k) (h : k < (zs.length : Int)) : ∃ v : Int, atI (zs.map V.int) k = some (.int v) ∧ zs[k.toNat]? = some v := by
  have hk : k.toNat < zs.length := by omega
  have ek : k = ((k.toNat : Nat) : Int) := by omega
  have q : atI (zs.map V.int) ((k.toNat : Nat) : Int) = some (.int zs[k.toNat]) := atI_nat (by rw [List.getElem?_map, List.getElem?_eq_getElem hk] <;> rfl)
  rw [← ek] at q
  exact ⟨zs[k.toNat], q, List.getElem?_eq_getElem hk⟩
theorem ok_box {f : Addr} {fd : FuncData} {k : Nat} (F : Fun K "_law_box" "_law_box" sBox f fd) (B : Bl mg) : FnOk P w K mg base CX0 (k + 1) f fd ["_law_script", "_law_k"] (spBox K) := by
  refine F.ok scBox (fun vs H Q E h => ?_) (fun cdv A outer s H vs Q E hr h => ?_)
  · obtain ⟨a, zs, k, rfl, _⟩ := h
    rfl
  obtain ⟨a, zs, k, rfl, hS, h0, h1, q⟩ := h
  refine ⟨_, pss_cons (ps_set (i := 2) scBox.nd rfl (.inl rfl) (pe_ifExp (pt_cmpR op_lt (pv 1) (pe_callB call_len_seq (by rfl) B.len PySem.boot_len (pa_cons (pv 0) pa_nil)) (nomark _)) (pe_ix ix_list (pv 0) (pv 1) (fun _ _ => rfl)) pe_int))
    (pss_one (ps_ret (pe_lst (pa_cons (pe_op op_mul (pe_callB call_abs (by rfl) B.abs boot_abs (pa_cons (pv 2) pa_nil)) (pe_callTy call_int1 (by rfl) B.int PyProof.Rows.boot_int (pa_cons (pe_cmpR op_ge (pe_callB call_abs (by rfl) B.abs boot_abs (pa_cons (pv 2) pa_nil)) (pe_op op_pow pe_int pe_int) (nomark _)) pa_nil)))
      (pa_cons (pe_op op_mod (pe_op op_mul (pe_op op_add (pe_op op_add (pe_op op_mod (pv 2) pe_int) (pe_op op_mul pe_int (pv 1))) pe_int) pe_int) pe_int) (pa_cons pe_int pa_nil)))))), ?_⟩
  refine ⟨_, rfl, _, rfl, a, _, rfl, .inl hS, _, _, rfl, rfl, _, rfl, ite2 (fun cc => ?_) (fun cc => ?_)⟩
  · have c1 : k < (((zs.map V.int).length : Nat) : Int) := of_decide_eq_true cc
    rw [List.length_map] at c1
    obtain ⟨v, hv, _⟩ := at_int h0 c1
    refine ⟨_, rfl, _, rfl, a, _, _, _, rfl, rfl, hS, hv, ?_⟩
    refine ⟨_, rfl, _, rfl, _, rfl, _, rfl, _, _, rfl, rfl, ⟨by decide, by decide, by decide⟩, _, _, rfl, rfl, .inr ⟨_, rfl, ?_⟩⟩
    refine ⟨_, _, rfl, rfl, .inr (b01 _), _, rfl, _, _, rfl, rfl, (by show (0 : Int) < 2147483629; decide), _, rfl, _, _, rfl, rfl, .inl ⟨by decide, by decide⟩, _, _, rfl, rfl, _, _, rfl, rfl, _, _, rfl, rfl, .inr ⟨by decide, by decide⟩, _, _, rfl, rfl, (by show (0 : Int) < 2147483647; decide), (by show 3 ≤ sizeLine; decide), fun p np => ?_⟩
    refine q p _ np (same_upd np) ⟨_, _, _, upd_same, Int.mul_nonneg (abs_nn v) (b01n _), Int.emod_nonneg _ (by decide), Int.emod_lt_of_pos _ (by decide), by decide, by decide⟩
  · refine ⟨_, rfl, _, rfl, _, rfl, _, rfl, _, _, rfl, rfl, ⟨by decide, by decide, by decide⟩, _, _, rfl, rfl, .inr ⟨_, rfl, ?_⟩⟩
    refine ⟨_, _, rfl, rfl, .inr (b01 _), _, rfl, _, _, rfl, rfl, (by show (0 : Int) < 2147483629; decide), _, rfl, _, _, rfl, rfl, .inl ⟨by decide, by decide⟩, _, _, rfl, rfl, _, _, rfl, rfl, _, _, rfl, rfl, .inr ⟨by decide, by decide⟩, _, _, rfl, rfl, (by show (0 : Int) < 2147483647; decide), (by show 3 ≤ sizeLine; decide), fun p np => ?_⟩
    refine q p _ np (same_upd np) ⟨_, _, _, upd_same, Int.mul_nonneg (abs_nn 0) (b01n _), Int.emod_nonneg _ (by decide), Int.emod_lt_of_pos _ (by decide), by decide, by decide⟩
/-! ### _law_folded -/
theorem scFolded : FnScope ["_law_script", "_law_size", "_law_cells", "_law_k", "_law_cell"] ["_law_script", "_law_size"] (defScope sFolded) := ⟨rfl, rfl, rfl, by decide +kernel, rfl, by decide +kernel, by decide +kernel⟩
def spFolded (K : PySem.W.Frag) : Sp := fun vs H Q _ => ∃ (a : Addr) (ns : List Int) (m : Nat), vs = [.ref a, .int (m : Int)] ∧ SqL K H a (ns.map V.int) ∧ ns.length ≤ 63 ∧ 1 ≤ m ∧ m ≤ 63 ∧
  ∀ (p : Addr) (H' : Hp) (zs : List Int), H p = none → Same H H' → H' p = some (.lst (zs.map V.int)) → zs.length = min ns.length m → Q (.ref p) H'
theorem cut_lo (ns : List Int) (m : Nat) : cutV (ns.map V.int) none (some (m : Int)) = (ns.take m).map V.int := by
  unfold cutV
  rw [HT.sIx_none, HT.sIx_nat, List.drop_zero, Nat.sub_zero, List.length_map, ← List.map_take]
  congr 1
  rw [List.take_eq_take_iff]
  omega
theorem cut_mid (ns : List Int) (m j : Nat) : ∃ ws : List Int, cutV (ns.map V.int) (some (m : Int)) (some (j : Int)) = ws.map V.int ∧ ws.length ≤ ns.length - m := by
  unfold cutV
  rw [HT.sIx_nat, HT.sIx_nat, List.length_map, ← List.map_drop, ← List.map_take]
  refine ⟨_, rfl, ?_⟩
  rw [List.length_take, List.length_drop]
  omega
theorem int_at {ws : List Int} {i : Nat} {x : V} (h : (ws.map V.int)[i]? = some x) : ∃ z, ws[i]? = some z ∧ x = .int z := by
  rw [List.getElem?_map] at h
  cases e : ws[i]? with
  | none =>
    rw [e] at h
    cases h
  | some z =>
    rw [e] at h
    exact ⟨z, rfl, (Option.some.inj h).symm⟩
theorem map_set (zs : List Int) (j : Nat) (v : Int) : (zs.map V.int).set j (.int v) = (zs.set j v).map V.int := List.map_set.symm
theorem ixN_nat {n j : Nat} (h : j < n) : ixN n (j : Int) = some j := by
  unfold ixN
  rw [if_pos (Int.natCast_nonneg j), if_pos (by omega), Int.toNat_natCast]
theorem ok_folded {f : Addr} {fd : FuncData} {k : Nat} (F : Fun K "_law_folded" "_law_folded" sFolded f fd) (B : Bl mg) : FnOk P w K mg base CX0 (k + 1) f fd ["_law_script", "_law_size"] (spFolded K) := by
  refine F.ok scFolded (fun vs H Q E h => ?_) (fun cdv A outer s H vs Q E hr h => ?_)
  · obtain ⟨a, ns, m, rfl, _⟩ := h
    rfl
  obtain ⟨a, ns, m, rfl, hS, h63, hm1, hm2, q⟩ := h
  refine ⟨_, pss_cons (ps_set (i := 2) scFolded.nd rfl (.inl rfl) (pe_callTy call_list_of (by rfl) B.list PyProof.Rows.boot_list (pa_cons (pe_slice sl_list (pv 0) po_none (po_some (pv 1))) pa_nil)))
    (pss_cons (ps_for PassesOwn.never rfl (pi_enum (by rfl) B.enumerate (pa_cons (pe_slice sl_list (pv 0) (po_some (pv 1)) (po_some pe_int)) pa_nil))
        (pg_tup rfl (pgs_cons (pg_name (i := 3) scFolded.nd rfl (.inl rfl)) (pgs_cons (pg_name (i := 4) scFolded.nd rfl (.inl rfl)) pgs_nil)))
      (pss_one (ps_asg (pe_op op_add (pe_ix ix_list (pv 2) (pe_op op_mod (pv 3) (pv 1)) (fun _ _ => rfl)) (pe_op op_mul (pv 4) (pe_op op_add (pv 3) pe_int))) (pg_sub (pv 2) (pe_op op_mod (pv 3) (pv 1)) set_list))))
    (pss_one (ps_ret (pv 2)))), ?_⟩
  refine ⟨_, rfl, _, rfl, _, rfl, a, _, rfl, hS, fun c0 nc0 => ?_⟩
  rw [cut_lo]
  have s0 : Same H (upd H c0 (.lst ((ns.take m).map V.int))) := same_upd nc0
  refine ⟨c0, _, rfl, .inl (.inl (.inl upd_same)), fun p np => ?_⟩
  have npH : H p = none := s0.free np
  have ne0 : c0 ≠ p := fun e => by
    subst e
    rw [upd_same] at np
    cases np
  have s1 := s0.trans (same_upd (o := .lst ((ns.take m).map V.int)) np)
  refine ⟨_, rfl, _, rfl, _, rfl, _, rfl, a, _, rfl, s1.seq hS, fun c nc => ?_⟩
  obtain ⟨ws, ew, lw⟩ := cut_mid ns m 63
  rw [show ((63 : Nat) : Int) = (63 : Int) from rfl] at ew
  rw [ew]
  have s2 := s1.trans (same_upd (o := .lst (ws.map V.int)) nc)
  have nec : c ≠ p := fun e => by
    subst e
    rw [upd_same] at nc
    cases nc
  refine ⟨c, _, rfl, .inl (.inl upd_same), ?_⟩
  refine for_it (walk_enum (K := K) (a := c) (xs := ws.map V.int)) (fun i σ H3 => ∃ (y3 y4 : Option V) (zs : List Int), σ = [some (.ref a), some (.int (m : Int)), some (.ref p), y3, y4] ∧ Same H H3 ∧ H3 c = some (.lst (ws.map V.int)) ∧ H3 p = some (.lst (zs.map V.int)) ∧ zs.length = min ns.length m)
    ⟨none, none, ns.take m, rfl, s2, upd_same, ?_, ?_⟩ (fun i σ H3 _ ⟨_, _, _, _, _, e, _⟩ => .inl (.inl e)) ?_ ?_
  · rw [upd_ne nec.symm]
    exact upd_same
  · rw [List.length_take, Nat.min_comm]
  · rintro i v σ H3 H4 hi ⟨y3, y4, zs, rfl, s3, ec, ep, el⟩ ⟨T, x, y, rfl, nT, rfl, e1, e2⟩
    cases e1
    obtain ⟨z, _, rfl⟩ := int_at e2
    rw [List.length_map] at hi
    have npT : p ≠ T := ne_of_none ep nT
    have ncT : c ≠ T := ne_of_none ec nT
    have sT : Same H3 (upd H3 T (.tup [.int (i : Nat), .int z])) := same_upd nT
    refine ⟨T, _, rfl, .inl (.inl upd_same), rfl, _, _, rfl, _, _, rfl, rfl, ?_⟩
    have lm : (i : Int) % (m : Int) = ((i % m : Nat) : Int) := rfl
    have hl : i % m < zs.length := by
      have := Nat.mod_lt i (show 0 < m by omega)
      omega
    have ev : (zs.map V.int)[i % m]? = some (.int zs[i % m]) := by
      rw [List.getElem?_map, List.getElem?_eq_getElem hl]
      rfl
    refine ⟨_, rfl, _, rfl, _, rfl, _, _, rfl, rfl, (by show (0 : Int) < (m : Int); omega), p, _, _, _, rfl, rfl, SqL.of (sT _ _ ep), (by rw [lm]; exact atI_nat ev), _, rfl, _, rfl, _, _, rfl, rfl, _, _, rfl, rfl, .inr ⟨by omega, by omega⟩, _, _, rfl, rfl, ?_⟩
    refine ⟨_, rfl, _, rfl, _, rfl, _, _, rfl, rfl, (by show (0 : Int) < (m : Int); omega), p, _, _, i % m, rfl, rfl, sT _ _ ep, (by rw [lm, List.length_map]; exact ixN_nat hl), ?_⟩
    refine ⟨_, _, zs.set (i % m) (zs[i % m] + z * ((i : Int) + 2)), rfl, fun b o e => ?_, ?_, ?_, ?_⟩
    · rw [upd_ne (ne_of_none e npH)]
      exact sT _ _ (s3 _ _ e)
    · rw [upd_ne nec]
      exact sT _ _ ec
    · rw [upd_same, map_set]
    · rw [List.length_set]
      exact el
  · rintro σ H3 ⟨y3, y4, zs, rfl, s3, ec, ep, el⟩
    exact ⟨_, rfl, q p H3 zs npH s3 ep el⟩
/-! ### _law_same: of two things of one kind and worth -/
theorem scSame : FnScope ["_law_found", "_law_due", "_law_one", "_law_other"] ["_law_found", "_law_due"] (defScope sSame) := ⟨rfl, rfl, rfl, by decide +kernel, rfl, by decide +kernel, by decide +kernel⟩
def Lv : Nat → PyData → Prop
  | _, .none => True
  | _, .bool _ => True
  | _, .int _ => True
  | _, .str _ => True
  | n + 1, .list ds => ds.length ≤ 1000000 ∧ ∀ d ∈ ds, Lv n d
  | n + 1, .tuple ds => ds.length ≤ 1000000 ∧ ∀ d ∈ ds, Lv n d
  | _, _ => False
mutual
theorem Dp.same {H H' : Hp} (s : Same H H') : ∀ (d : PyData) (v : V), Dp K H v d → Dp K H' v d
  | .none, _, h => by
    cases h
    exact .non
  | .bool b, _, h => by
    cases h
    exact .bl b
  | .int i, _, h => by
    cases h
    exact .int i
  | .str x, _, h => by
    cases h
    exact .str x
  | .list ds, _, h => by
    cases h with
    | lst hs ha => exact .lst (s.seq hs) (Dp.sameAll s ds _ ha)
  | .tuple ds, _, h => by
    cases h with
    | tup hs ha => exact .tup (Same.seqT s hs) (Dp.sameAll s ds _ ha)
  | .dict _, _, h => by cases h
theorem Dp.sameAll {H H' : Hp} (s : Same H H') : ∀ (ds : List PyData) (vs : List V), DpAll K H vs ds → DpAll K H' vs ds
  | [], _, h => by
    cases h
    exact .nil
  | d :: ds, _, h => by
    cases h with
    | cons h1 h2 => exact .cons (Dp.same s d _ h1) (Dp.sameAll s ds _ h2)
end
theorem DpAll.len {H : Hp} : ∀ {ds : List PyData} {vs : List V}, DpAll K H vs ds → vs.length = ds.length
  | [], _, h => by
    cases h
    rfl
  | d :: ds, _, h => by
    cases h with
    | cons h1 h2 => rw [List.length_cons, List.length_cons, DpAll.len h2]
theorem DpAll.get {H : Hp} : ∀ {ds : List PyData} {vs : List V} {i : Nat} {x : V}, DpAll K H vs ds → vs[i]? = some x → ∃ d, ds[i]? = some d ∧ Dp K H x d
  | [], _, i, x, h, e => by
    cases h
    cases e
  | d :: ds, _, 0, x, h, e => by
    cases h with
    | cons h1 h2 =>
      cases e
      exact ⟨d, rfl, h1⟩
  | d :: ds, _, i + 1, x, h, e => by
    cases h with
    | @cons _ vs _ _ h1 h2 => exact DpAll.get (ds := ds) (vs := vs) h2 (show vs[i]? = some x from e)
theorem walk_zipT {a b : Addr} {xs ys : List V} {n : Nat} (hn : n = min xs.length ys.length) : Walk (RZ.ItzT K a b) n (fun H => SqT K H a xs ∧ SqT K H b ys) (YPair (fun i => xs[i]?) (fun i => ys[i]?)) := by
  subst hn
  refine ⟨fun i _ hi q => ?_, fun _ q => ⟨xs, ys, q.1, q.2, by omega⟩, fun i H v H' _ q y => ?_⟩
  · have h1 : i < xs.length := by omega
    have h2 : i < ys.length := by omega
    exact ⟨xs, ys, xs[i], ys[i], q.1, q.2, by simp [h1], by simp [h2]⟩
  · obtain ⟨T, x, z, h1, h2, h3, h4, h5⟩ := y
    exact ⟨T, x, z, h1, h2, h3, h4 xs q.1, h5 ys q.2⟩
theorem ty_lst {H : Hp} {a : Addr} {xs : List V} (h : SqL K H a xs) : TyX K H (.ref a) (.type "list") := by
  rcases h with (h | ⟨o, h⟩) | ⟨o, its, n, h1, h2, _⟩
  · exact .base (.lst h)
  · exact .base (.frz h)
  · exact .kList h1 h2
theorem ty_tup {H : Hp} {a : Addr} {xs : List V} (h : SqT K H a xs) : TyX K H (.ref a) (.type "tuple") := by
  rcases h with (h | ⟨o, h⟩) | ⟨o, its, n, h1, h2, _⟩
  · exact .base (.tup h)
  · exact .fTuple h
  · exact .kTuple h1 h2
def spSame (K : PySem.W.Frag) (k : Nat) : Sp := fun vs H Q _ => ∃ (x y : V) (d : PyData) (j : Nat), vs = [x, y] ∧ k = j + 1 ∧ Lv j d ∧ Dp K H x d ∧ Dp K H y d ∧ ∀ H', Same H H' → Q (.bl true) H'
theorem same_none {f : Addr} {fd : FuncData} : FnOk P w K mg base CX0 0 f fd ["_law_found", "_law_due"] (spSame K 0) := by
  have no : ∀ vs H Q E, ¬ spSame K 0 vs H Q E := fun vs H Q E h => by
    obtain ⟨x, y, d, j, _, h0, _⟩ := h
    omega
  exact ⟨fun vs H Q E h => absurd h (no vs H Q E), fun A outer s H args us vs Q E _ _ _ _ h => absurd h (no vs H Q E)⟩
theorem yesT {σ : L2.St} {H : Hp} {R S : Hp → Prop} (h : R H) : tYes σ H fun b H3 => if b = true then R H3 else S H3 := h
theorem repl_snoc {α : Type} (i : Nat) (x : α) : List.replicate i x ++ [x] = List.replicate (i + 1) x := List.replicate_succ'.symm
theorem all_repl (n : Nat) : (List.replicate n true).all id = true := by
  rw [List.all_eq_true]
  intro x hx
  rw [List.eq_of_mem_replicate hx]
  rfl
theorem kitLT {t : String} {r1 r2 : Bool} (h1 : kitB t "list" = some r1) (h2 : kitB t "tuple" = some r2) : PySem.W.kitAny K (.type t) [.type "list", .type "tuple"] = some (r1 || r2) := by
  refine kitAny_cons (kit_ty h1) (fun e => ?_) (fun e => by rw [e]; rfl)
  rw [e, Bool.false_or]
  refine kitAny_cons (kit_ty h2) (fun e => ?_) (fun e => e)
  rw [e]
  rfl
theorem ok_same1 {f : Addr} {fd : FuncData} {k : Nat} (F : Fun K "_law_same" "_law_same" sSame f fd) (G : FnOk P w K mg base CX0 k f fd ["_law_found", "_law_due"] (spSame K k)) (bf : Binds K fd ["_law_found", "_law_due"] []) (mf : mg "_law_same" = some (.ref f)) (B : Bl mg) :
    FnOk P w K mg base CX0 (k + 1) f fd ["_law_found", "_law_due"] (spSame K (k + 1)) := by
  refine F.ok scSame (fun vs H Q E h => ?_) (fun cdv A outer s H vs Q E hr h => ?_)
  · obtain ⟨x, y, d, j, rfl, _⟩ := h
    rfl
  obtain ⟨x, y, d, j, rfl, ej, lv, dx, dy, q⟩ := h
  obtain rfl : k = j := by omega
  refine ⟨_, pss_cons (ps_if (pt_val (pe_callB call_isiT (by rfl) B.isinstance boot_isinstance (pa_cons (pv 1) (pa_cons (pe_tup (pa_cons (pe_bltn (v := .ty "list") (by rfl) B.list PyProof.Rows.boot_list rfl) (pa_cons (pe_bltn (v := .ty "tuple") (by rfl) B.tuple PyProof.Rows.boot_tuple rfl) pa_nil))) pa_nil))))
      (pss_cons (ps_if (PW.pt (pw_or (pt_cmpR op_ne (pe_callB call_isi (by rfl) B.isinstance boot_isinstance (pa_cons (pv 0) (pa_cons (pe_bltn (v := .ty "list") (by rfl) B.list PyProof.Rows.boot_list rfl) pa_nil))) (pe_callB call_isi (by rfl) B.isinstance boot_isinstance (pa_cons (pv 1) (pa_cons (pe_bltn (v := .ty "list") (by rfl) B.list PyProof.Rows.boot_list rfl) pa_nil))) (nomark _))
          (pw_or1 (pt_cmpR op_ne (pe_callB call_isi (by rfl) B.isinstance boot_isinstance (pa_cons (pv 0) (pa_cons (pe_bltn (v := .ty "tuple") (by rfl) B.tuple PyProof.Rows.boot_tuple rfl) pa_nil))) (pe_callB call_isi (by rfl) B.isinstance boot_isinstance (pa_cons (pv 1) (pa_cons (pe_bltn (v := .ty "tuple") (by rfl) B.tuple PyProof.Rows.boot_tuple rfl) pa_nil))) (nomark _)))))
          (pss_one (ps_ret pe_bl)) pss_nil)
        (pss_one (ps_ret (pe_and (pe_cmpR op_eq (pe_callB call_len_seq (by rfl) B.len PySem.boot_len (pa_cons (pv 0) pa_nil)) (pe_callB call_len_seq (by rfl) B.len PySem.boot_len (pa_cons (pv 1) pa_nil)) (nomark _))
          (pe_one (pe_callB (cr_all rfl) (by rfl) B.all boot_all (pa_cons (pe_lc (own := [("_law_one", 2), ("_law_other", 3)]) (g := gTup K 2 (gCons (gName 2) (gCons (gName 3) gNil))) (by rfl) scSame.nd (RZ.pi_zipA (by rfl) B.zip (pa_cons (pv 0) (pa_cons (pv 1) pa_nil)))
            (blkOk_by (own := [("_law_one", 2), ("_law_other", 3)]) (N := ["_law_found", "_law_due", "_law_one", "_law_other"]) (sc := defScope sSame) (by decide +kernel))
            (fun _ _ _ _ _ => pg_tup rfl (pgs_cons (pg_name (i := 2) scSame.nd rfl (Or.inl rfl) (.inr rfl)) (pgs_cons (pg_name (i := 3) scSame.nd rfl (Or.inl rfl) (.inr rfl)) pgs_nil))) (fun _ _ _ _ _ => pts_nil)
            (fun _ _ _ _ _ => pe_call G hr (by rfl) mf F.kp bf .nil pass0 (pa_cons (pv 2) (pa_cons (pv 3) pa_nil)))) pa_nil))))))) pss_nil)
    (pss_cons (ps_if (PW.pt (pw_or (pt_cmpR op_isN (pv 1) pe_non (nomark _)) (pw_or1 (pt_val (pe_callB call_isi (by rfl) B.isinstance boot_isinstance (pa_cons (pv 1) (pa_cons (pe_bltn (v := .ty "str") (by rfl) B.str PyProof.Rows.boot_str rfl) pa_nil)))))))
      (pss_one (ps_ret (pe_and (pe_cmpR op_eq (pv 0) (pv 1) (nomark _)) (pe_one (pe_cmpR op_eq (pe_callB call_isi (by rfl) B.isinstance boot_isinstance (pa_cons (pv 0) (pa_cons (pe_bltn (v := .ty "str") (by rfl) B.str PyProof.Rows.boot_str rfl) pa_nil))) (pe_callB call_isi (by rfl) B.isinstance boot_isinstance (pa_cons (pv 1) (pa_cons (pe_bltn (v := .ty "str") (by rfl) B.str PyProof.Rows.boot_str rfl) pa_nil))) (nomark _)))))) pss_nil)
    (pss_one (ps_ret (pe_and (pe_callB call_isi (by rfl) B.isinstance boot_isinstance (pa_cons (pv 0) (pa_cons (pe_bltn (v := .ty "int") (by rfl) B.int PyProof.Rows.boot_int rfl) pa_nil))) (pe_and (pe_cmpR op_eq (pe_callB call_isi (by rfl) B.isinstance boot_isinstance (pa_cons (pv 0) (pa_cons (pe_bltn (v := .ty "bool") (by rfl) B.bool PyProof.Rows.boot_bool rfl) pa_nil))) (pe_callB call_isi (by rfl) B.isinstance boot_isinstance (pa_cons (pv 1) (pa_cons (pe_bltn (v := .ty "bool") (by rfl) B.bool PyProof.Rows.boot_bool rfl) pa_nil))) (nomark _))
      (pe_one (pe_cmpR op_eq (pv 0) (pv 1) (nomark _)))))))), ?_⟩
  have pr : Paired ClsV [.ty "list", .ty "tuple"] [.type "list", .type "tuple"] := .cons (.ty _) (.cons (.ty _) .nil)
  refine ⟨_, rfl, (by show 2 ≤ sizeLine; decide), fun tp ntp => ?_⟩
  have s0 : Same H (upd H tp (.tup [.ty "list", .ty "tuple"])) := same_upd ntp
  cases d with
  | none =>
    cases dx
    cases dy
    refine ⟨_, tp, _, _, _, _, rfl, upd_same, pr, .base .non, kitLT (t := "NoneType") (r1 := false) (r2 := false) (by decide +kernel) (by decide +kernel), _, rfl, iteF ?_⟩
    refine ⟨_, rfl, rfl, _, rfl, iteT (iteT ?_)⟩
    refine ⟨_, rfl, _, rfl, rfl, _, rfl, iteT ?_⟩
    refine ⟨_, rfl, _, _, _, _, _, rfl, .ty _, .base .non, kit_ty (by decide +kernel : kitB "NoneType" "str" = some false), _, rfl, _, _, _, _, _, rfl, .ty _, .base .non, kit_ty (by decide +kernel : kitB "NoneType" "str" = some false), rfl, q _ s0⟩
  | bool b =>
    cases dx
    cases dy
    refine ⟨_, tp, _, _, _, _, rfl, upd_same, pr, .base (.bl _), kitLT (t := "bool") (r1 := false) (r2 := false) (by decide +kernel) (by decide +kernel), _, rfl, iteF ?_⟩
    refine ⟨_, rfl, rfl, _, rfl, iteF ?_⟩
    refine ⟨_, rfl, _, _, _, _, _, rfl, .ty _, .base (.bl _), kit_ty (by decide +kernel : kitB "bool" "str" = some false), _, rfl, iteF ?_⟩
    refine ⟨_, rfl, _, _, _, _, _, rfl, .ty _, .base (.bl _), kit_ty (by decide +kernel : kitB "bool" "int" = some true), _, rfl, iteT ?_⟩
    refine ⟨_, rfl, _, _, _, _, _, rfl, .ty _, .base (.bl _), kit_ty (by decide +kernel : kitB "bool" "bool" = some true), _, rfl, _, _, _, _, _, rfl, .ty _, .base (.bl _), kit_ty (by decide +kernel : kitB "bool" "bool" = some true), rfl, _, rfl, iteT ?_⟩
    refine ⟨_, rfl, _, rfl, rfl, ?_⟩
    rw [decide_eq_true rfl]
    exact q _ s0
  | int i =>
    cases dx
    cases dy
    refine ⟨_, tp, _, _, _, _, rfl, upd_same, pr, .base (.int _), kitLT (t := "int") (r1 := false) (r2 := false) (by decide +kernel) (by decide +kernel), _, rfl, iteF ?_⟩
    refine ⟨_, rfl, rfl, _, rfl, iteF ?_⟩
    refine ⟨_, rfl, _, _, _, _, _, rfl, .ty _, .base (.int _), kit_ty (by decide +kernel : kitB "int" "str" = some false), _, rfl, iteF ?_⟩
    refine ⟨_, rfl, _, _, _, _, _, rfl, .ty _, .base (.int _), kit_ty (by decide +kernel : kitB "int" "int" = some true), _, rfl, iteT ?_⟩
    refine ⟨_, rfl, _, _, _, _, _, rfl, .ty _, .base (.int _), kit_ty (by decide +kernel : kitB "int" "bool" = some false), _, rfl, _, _, _, _, _, rfl, .ty _, .base (.int _), kit_ty (by decide +kernel : kitB "int" "bool" = some false), rfl, _, rfl, iteT ?_⟩
    refine ⟨_, rfl, _, rfl, rfl, ?_⟩
    rw [decide_eq_true rfl]
    exact q _ s0
  | str z =>
    cases dx
    cases dy
    refine ⟨_, tp, _, _, _, _, rfl, upd_same, pr, .base (.str _), kitLT (t := "str") (r1 := false) (r2 := false) (by decide +kernel) (by decide +kernel), _, rfl, iteF ?_⟩
    refine ⟨_, rfl, rfl, _, rfl, iteF ?_⟩
    refine ⟨_, rfl, _, _, _, _, _, rfl, .ty _, .base (.str _), kit_ty (by decide +kernel : kitB "str" "str" = some true), _, rfl, iteT ?_⟩
    refine ⟨_, rfl, _, rfl, rfl, ?_⟩
    rw [decide_eq_true rfl]
    refine ⟨_, rfl, iteT ?_⟩
    exact ⟨_, rfl, _, _, _, _, _, rfl, .ty _, .base (.str _), kit_ty (by decide +kernel : kitB "str" "str" = some true), _, rfl, _, _, _, _, _, rfl, .ty _, .base (.str _), kit_ty (by decide +kernel : kitB "str" "str" = some true), rfl, q _ s0⟩
  | list ds =>
    cases dx with
    | @lst a xs _ hx ax =>
    cases dy with
    | @lst b ys _ hy ay =>
    obtain ⟨i, rfl⟩ : ∃ i, k = i + 1 := by
      cases k with
      | zero => exact absurd lv id
      | succ i => exact ⟨i, rfl⟩
    have lx := DpAll.len ax
    have ly := DpAll.len ay
    have hx1 := s0.seq hx
    have hy1 := s0.seq hy
    refine ⟨_, tp, _, _, _, _, rfl, upd_same, pr, ty_lst hy1, kitLT (t := "list") (r1 := true) (r2 := false) (by decide +kernel) (by decide +kernel), _, rfl, iteT ?_⟩
    refine ⟨_, rfl, _, _, _, _, _, rfl, .ty _, ty_lst hx1, kit_ty (by decide +kernel : kitB "list" "list" = some true), _, rfl, _, _, _, _, _, rfl, .ty _, ty_lst hy1, kit_ty (by decide +kernel : kitB "list" "list" = some true), rfl, _, rfl, iteF ?_⟩
    refine ⟨_, rfl, _, _, _, _, _, rfl, .ty _, ty_lst hx1, kit_ty (by decide +kernel : kitB "list" "tuple" = some false), _, rfl, _, _, _, _, _, rfl, .ty _, ty_lst hy1, kit_ty (by decide +kernel : kitB "list" "tuple" = some false), rfl, _, rfl, iteF ?_⟩
    refine ⟨_, rfl, a, _, rfl, .inl hx1, _, rfl, b, _, rfl, .inl hy1, rfl, ?_⟩
    rw [decide_eq_true (by rw [lx, ly])]
    refine ⟨_, rfl, iteT ?_⟩
    refine ⟨_, rfl, _, rfl, a, b, xs, ys, rfl, .inl ⟨hx1, hy1, fun D nD => ?_⟩⟩
    have sD := s0.trans (same_upd (o := .lst []) nD)
    refine lc_it (walk_zip (K := K) (a := a) (b := b) (xs := xs) (ys := ys) rfl) (fun i H3 => Same H H3 ∧ H3 D = some (.lst (List.replicate i (.bl true)))) ⟨sD, upd_same⟩ (fun i H3 _ ⟨s3, _⟩ => ⟨s3.seq hx, s3.seq hy⟩) ?_ ?_
    · rintro i v H3 H4 hi ⟨s3, eD⟩ ⟨T, x, y, rfl, nT, rfl, e1, e2⟩
      obtain ⟨d1, g1, p1⟩ := DpAll.get ax e1
      obtain ⟨d2, g2, p2⟩ := DpAll.get ay e2
      obtain rfl : d1 = d2 := Option.some.inj (g1.symm.trans g2)
      have s4 := s3.trans (same_upd (o := .tup [x, y]) nT)
      refine ⟨T, _, rfl, .inl (.inl upd_same), rfl, _, _, rfl, _, _, rfl, rfl, rfl, ?_⟩
      refine yesT ?_
      refine ⟨_, rfl, _, rfl, x, y, d1, _, rfl, rfl, lv.2 d1 (List.mem_of_getElem? g1), Dp.same s4 _ _ p1, Dp.same s4 _ _ p2, fun H5 s5 => ?_⟩
      refine ⟨_, s5 _ _ (by rw [upd_ne (ne_of_none eD nT)]; exact eD), ?_, fun p o e => ?_, ?_⟩
      · rw [List.length_replicate]
        have := lv.1
        refine Nat.lt_of_lt_of_le (show i < 1000000 by omega) (by decide)
      · rw [upd_ne (ne_of_none e (s0.free nD))]
        exact s5 _ _ (s4 _ _ e)
      · rw [upd_same, repl_snoc]
    · rintro H3 ⟨s3, eD⟩
      refine ⟨D, List.replicate (min xs.length ys.length) true, rfl, .inl (.inl (by rw [List.map_replicate]; exact eD)), ?_⟩
      rw [all_repl]
      exact q _ s3
  | tuple ds =>
    cases dx with
    | @tup a xs _ hx ax =>
    cases dy with
    | @tup b ys _ hy ay =>
    obtain ⟨i, rfl⟩ : ∃ i, k = i + 1 := by
      cases k with
      | zero => exact absurd lv id
      | succ i => exact ⟨i, rfl⟩
    have lx := DpAll.len ax
    have ly := DpAll.len ay
    have hx1 := Same.seqT s0 hx
    have hy1 := Same.seqT s0 hy
    refine ⟨_, tp, _, _, _, _, rfl, upd_same, pr, ty_tup hy1, kitLT (t := "tuple") (r1 := false) (r2 := true) (by decide +kernel) (by decide +kernel), _, rfl, iteT ?_⟩
    refine ⟨_, rfl, _, _, _, _, _, rfl, .ty _, ty_tup hx1, kit_ty (by decide +kernel : kitB "tuple" "list" = some false), _, rfl, _, _, _, _, _, rfl, .ty _, ty_tup hy1, kit_ty (by decide +kernel : kitB "tuple" "list" = some false), rfl, _, rfl, iteF ?_⟩
    refine ⟨_, rfl, _, _, _, _, _, rfl, .ty _, ty_tup hx1, kit_ty (by decide +kernel : kitB "tuple" "tuple" = some true), _, rfl, _, _, _, _, _, rfl, .ty _, ty_tup hy1, kit_ty (by decide +kernel : kitB "tuple" "tuple" = some true), rfl, _, rfl, iteF ?_⟩
    refine ⟨_, rfl, a, _, rfl, .inr hx1, _, rfl, b, _, rfl, .inr hy1, rfl, ?_⟩
    rw [decide_eq_true (by rw [lx, ly])]
    refine ⟨_, rfl, iteT ?_⟩
    refine ⟨_, rfl, _, rfl, a, b, xs, ys, rfl, .inr ⟨hx1, hy1, fun D nD => ?_⟩⟩
    have sD := s0.trans (same_upd (o := .lst []) nD)
    refine lc_it (walk_zipT (K := K) (a := a) (b := b) (xs := xs) (ys := ys) rfl) (fun i H3 => Same H H3 ∧ H3 D = some (.lst (List.replicate i (.bl true)))) ⟨sD, upd_same⟩ (fun i H3 _ ⟨s3, _⟩ => ⟨Same.seqT s3 hx, Same.seqT s3 hy⟩) ?_ ?_
    · rintro i v H3 H4 hi ⟨s3, eD⟩ ⟨T, x, y, rfl, nT, rfl, e1, e2⟩
      obtain ⟨d1, g1, p1⟩ := DpAll.get ax e1
      obtain ⟨d2, g2, p2⟩ := DpAll.get ay e2
      obtain rfl : d1 = d2 := Option.some.inj (g1.symm.trans g2)
      have s4 := s3.trans (same_upd (o := .tup [x, y]) nT)
      refine ⟨T, _, rfl, .inl (.inl upd_same), rfl, _, _, rfl, _, _, rfl, rfl, rfl, ?_⟩
      refine yesT ?_
      refine ⟨_, rfl, _, rfl, x, y, d1, _, rfl, rfl, lv.2 d1 (List.mem_of_getElem? g1), Dp.same s4 _ _ p1, Dp.same s4 _ _ p2, fun H5 s5 => ?_⟩
      refine ⟨_, s5 _ _ (by rw [upd_ne (ne_of_none eD nT)]; exact eD), ?_, fun p o e => ?_, ?_⟩
      · rw [List.length_replicate]
        have := lv.1
        refine Nat.lt_of_lt_of_le (show i < 1000000 by omega) (by decide)
      · rw [upd_ne (ne_of_none e (s0.free nD))]
        exact s5 _ _ (s4 _ _ e)
      · rw [upd_same, repl_snoc]
    · rintro H3 ⟨s3, eD⟩
      refine ⟨D, List.replicate (min xs.length ys.length) true, rfl, .inl (.inl (by rw [List.map_replicate]; exact eD)), ?_⟩
      rw [all_repl]
      exact q _ s3
  | dict _ => cases dx
theorem ok_same {f : Addr} {fd : FuncData} (F : Fun K "_law_same" "_law_same" sSame f fd) (bf : Binds K fd ["_law_found", "_law_due"] []) (mf : mg "_law_same" = some (.ref f)) (B : Bl mg) : ∀ k : Nat, FnOk P w K mg base CX0 k f fd ["_law_found", "_law_due"] (spSame K k)
  | 0 => same_none
  | k + 1 => ok_same1 F (ok_same F bf mf B k) bf mf B
end
end GZ
namespace GM
theorem pow_pos' (n : Nat) : (0 : Int) < 2 ^ n := Int.pow_pos (by decide)
theorem pow_s (n : Nat) : (2 : Int) ^ (n + 1) = 2 ^ n * 2 := Int.pow_succ 2 n
theorem pow_le' {m n : Nat} (h : m ≤ n) : (2 : Int) ^ m ≤ 2 ^ n := by
  induction n with
  | zero =>
    have : m = 0 := by omega
    rw [this]
    exact Int.le_refl _
  | succ n ih =>
    by_cases e : m = n + 1
    · rw [e]
      exact Int.le_refl _
    · have := ih (by omega)
      have := pow_s n
      have := pow_pos' n
      omega
theorem pow_add' (m n : Nat) : (2 : Int) ^ (m + n) = 2 ^ m * 2 ^ n := Int.pow_add 2 m n
theorem bits_pow {x : Nat} {e : Nat} (h : x < 2 ^ e) : PySem.Builtin.Int.intBits (x : Int) ≤ e := PyProof.Rows.intBits_le (by rw [Int.natAbs_natCast]; exact h)
theorem bits_le_pow {x : Nat} {e : Nat} (h : 2 ^ e ≤ x) : e + 1 ≤ PySem.Builtin.Int.intBits (x : Int) := by
  have hx : x ≠ 0 := by
    have := Nat.two_pow_pos e
    omega
  unfold PySem.Builtin.Int.intBits
  rw [if_neg (by simpa using hx), Int.natAbs_natCast]
  have := (Nat.le_log2 hx).mpr h
  omega
theorem bits_unique {x e : Nat} (h1 : 2 ^ e ≤ x) (h2 : x < 2 ^ (e + 1)) : PySem.Builtin.Int.intBits (x : Int) = e + 1 := by
  have := bits_pow h2
  have := bits_le_pow h1
  omega
theorem bits_ex {x : Nat} (h : 0 < x) : ∃ e, 2 ^ e ≤ x ∧ x < 2 ^ (e + 1) := ⟨x.log2, Nat.log2_self_le (by omega), Nat.lt_log2_self⟩
theorem bits_half {x : Nat} (h : 0 < x) : PySem.Builtin.Int.intBits (x : Int) = PySem.Builtin.Int.intBits ((x / 2 : Nat) : Int) + 1 := by
  obtain ⟨e, h1, h2⟩ := bits_ex h
  rw [bits_unique h1 h2]
  cases e with
  | zero =>
    have : x = 1 := by
      simp at h1 h2
      omega
    rw [this]
    rfl
  | succ e =>
    rw [bits_unique (x := x / 2) (e := e)]
    · rw [Nat.pow_succ] at h1
      omega
    · rw [Nat.pow_succ] at h2
      omega
theorem bits_double {x m : Nat} (h : 0 < x) (hm : m ≤ 1) : PySem.Builtin.Int.intBits ((2 * x + m : Nat) : Int) = PySem.Builtin.Int.intBits (x : Int) + 1 := by
  rw [bits_half (x := 2 * x + m) (by omega), show (2 * x + m) / 2 = x by omega]
theorem shr_lt {x : Int} {a b : Nat} (h0 : 0 ≤ x) (h : x < 2 ^ (a + b)) : 0 ≤ x / 2 ^ b ∧ x / 2 ^ b < 2 ^ a := by
  have hb := pow_pos' b
  refine ⟨Int.ediv_nonneg h0 (by omega), ?_⟩
  rw [pow_add'] at h
  exact Int.ediv_lt_of_lt_mul hb h
end GM
namespace GM
/-! ### words: a sign, a scale of m bits, a tail of t bits -/
def bit (a : Int) (n : Nat) : Int := a / 2 ^ n % 2
def blr (a : Int) : Nat → List Int
  | 0 => []
  | n + 1 => bit a n :: blr a n
def wv : List Int → Int
  | [] => 0
  | d :: r => d * 2 ^ r.length + wv r
theorem blr_len (a : Int) : ∀ n, (blr a n).length = n
  | 0 => rfl
  | n + 1 => by
    show (blr a n).length + 1 = n + 1
    rw [blr_len a n]
theorem div_div (w : Int) (t m : Nat) : w / 2 ^ t / 2 ^ m = w / 2 ^ (t + m) := by
  rw [pow_add', Int.ediv_ediv_of_nonneg (Int.le_of_lt (pow_pos' t))]
theorem bit_div (w : Int) (t m : Nat) : bit (w / 2 ^ t) m = bit w (m + t) := by
  unfold bit
  rw [div_div, Nat.add_comm t m]
theorem blr_take (w : Int) (t : Nat) : ∀ m, (blr w (m + t)).take m = blr (w / 2 ^ t) m
  | 0 => rfl
  | m + 1 => by
    show (blr w ((m + 1) + t)).take (m + 1) = bit (w / 2 ^ t) m :: blr (w / 2 ^ t) m
    rw [show m + 1 + t = (m + t) + 1 by omega]
    show bit w (m + t) :: (blr w (m + t)).take m = _
    rw [blr_take w t m, bit_div]
theorem blr_drop (w : Int) (t : Nat) : ∀ m, (blr w (m + t)).drop m = blr w t
  | 0 => by rw [Nat.zero_add]; rfl
  | m + 1 => by
    rw [show m + 1 + t = (m + t) + 1 by omega]
    show (blr w (m + t)).drop m = _
    exact blr_drop w t m
theorem mod_step (a : Int) (n : Nat) : bit a n * 2 ^ n + a % 2 ^ n = a % 2 ^ (n + 1) := by
  unfold bit
  have hp := pow_pos' n
  have e1 := Int.emod_add_mul_ediv a (2 ^ n)
  have e2 := Int.emod_add_mul_ediv (a / 2 ^ n) 2
  have h1 := Int.emod_nonneg a (show (2 : Int) ^ n ≠ 0 by omega)
  have h2 := Int.emod_lt_of_pos a hp
  have e3 : 2 ^ n * (a / 2 ^ n) = a / 2 ^ n % 2 * 2 ^ n + a / 2 ^ n / 2 * (2 ^ n * 2) := by
    conv => lhs; rw [← e2]
    rw [Int.mul_add, Int.mul_comm (2 ^ n) (a / 2 ^ n % 2), ← Int.mul_assoc, Int.mul_comm (2 ^ n * 2) _]
  have key : (a / 2 ^ n % 2 * 2 ^ n + a % 2 ^ n) + a / 2 ^ n / 2 * 2 ^ (n + 1) = a := by
    rw [pow_s]
    omega
  have hb : 0 ≤ a / 2 ^ n % 2 * 2 ^ n + a % 2 ^ n ∧ a / 2 ^ n % 2 * 2 ^ n + a % 2 ^ n < 2 ^ (n + 1) := by
    rw [pow_s]
    have : a / 2 ^ n % 2 = 0 ∨ a / 2 ^ n % 2 = 1 := by omega
    rcases this with z | z <;> rw [z] <;> omega
  have em := Int.add_mul_emod_self_right (a / 2 ^ n % 2 * 2 ^ n + a % 2 ^ n) (a / 2 ^ n / 2) (2 ^ (n + 1))
  rw [key, Int.emod_eq_of_lt hb.1 hb.2] at em
  exact em.symm
theorem wv_blr (a : Int) : ∀ n, wv (blr a n) = a % 2 ^ n
  | 0 => by
    show (0 : Int) = a % 1
    omega
  | n + 1 => by
    show bit a n * 2 ^ (blr a n).length + wv (blr a n) = _
    rw [blr_len, wv_blr a n, ← mod_step a n]
theorem fold2 : ∀ (ds : List Int) (w : Int), ds.foldl (fun a b => a * 2 + b) w = w * 2 ^ ds.length + wv ds
  | [], w => by
    show w = w * 2 ^ 0 + 0
    rw [Int.pow_zero]
    omega
  | d :: r, w => by
    show r.foldl (fun a b => a * 2 + b) (w * 2 + d) = w * 2 ^ (r.length + 1) + (d * 2 ^ r.length + wv r)
    rw [fold2 r, pow_s, Int.add_mul, Int.mul_assoc, Int.mul_comm 2 (2 ^ r.length)]
    omega
theorem wv_ones : ∀ k, wv (List.replicate k 1) = 2 ^ k - 1
  | 0 => rfl
  | k + 1 => by
    rw [List.replicate_succ]
    show 1 * 2 ^ (List.replicate k (1 : Int)).length + wv (List.replicate k 1) = _
    rw [List.length_replicate, wv_ones k, pow_s]
    omega
/-- sign, scale, tail of a word -/
def sgn (m t : Nat) (w : Int) : Int := w / 2 ^ (m + t) % 2
def scl (m t : Nat) (w : Int) : Int := w / 2 ^ t % 2 ^ m
def tlp (t : Nat) (w : Int) : Int := w % 2 ^ t
theorem scl_tlp (m t : Nat) (w : Int) : scl m t w * 2 ^ t + tlp t w = w % 2 ^ (m + t) := by
  induction m with
  | zero =>
    unfold scl tlp
    rw [Int.pow_zero, Int.emod_one, Int.zero_mul, Int.zero_add, Nat.zero_add]
  | succ m ih =>
    have e := mod_step (w / 2 ^ t) m
    have e2 := mod_step w (m + t)
    rw [bit_div] at e
    unfold scl at ih ⊢
    rw [← e, Int.add_mul, show m + 1 + t = (m + t) + 1 by omega, ← e2, ← ih, Int.mul_assoc, ← pow_add']
    omega
theorem sgn_01 {m t : Nat} {w : Int} : sgn m t w = 0 ∨ sgn m t w = 1 := by
  unfold sgn
  omega
theorem word_eq {m t : Nat} {w : Int} (h0 : 0 ≤ w) (h1 : w < 2 ^ (1 + m + t)) : sgn m t w * 2 ^ (m + t) + w % 2 ^ (m + t) = w := by
  have e := mod_step w (m + t)
  rw [show m + t + 1 = 1 + m + t by omega, Int.emod_eq_of_lt h0 h1] at e
  exact e
theorem scl_nn (m t : Nat) (w : Int) : 0 ≤ scl m t w ∧ scl m t w < 2 ^ m := ⟨Int.emod_nonneg _ (by have := pow_pos' m; omega), Int.emod_lt_of_pos _ (pow_pos' m)⟩
theorem tlp_nn (t : Nat) (w : Int) : 0 ≤ tlp t w ∧ tlp t w < 2 ^ t := ⟨Int.emod_nonneg _ (by have := pow_pos' t; omega), Int.emod_lt_of_pos _ (pow_pos' t)⟩
/-- with the other sign -/
def trn (m t : Nat) (w : Int) : Int := (1 - sgn m t w) * 2 ^ (m + t) + w % 2 ^ (m + t)
theorem mk_parts {m t : Nat} {s r : Int} (hs : s = 0 ∨ s = 1) (h0 : 0 ≤ r) (h1 : r < 2 ^ (m + t)) : 0 ≤ s * 2 ^ (m + t) + r ∧ s * 2 ^ (m + t) + r < 2 ^ (1 + m + t) ∧ sgn m t (s * 2 ^ (m + t) + r) = s ∧ (s * 2 ^ (m + t) + r) % 2 ^ (m + t) = r := by
  have hp := pow_pos' (m + t)
  have e : (2 : Int) ^ (1 + m + t) = 2 ^ (m + t) * 2 := by rw [← pow_s]; congr 1; omega
  have em : (s * 2 ^ (m + t) + r) % 2 ^ (m + t) = r := by
    rw [Int.add_comm, Int.add_mul_emod_self_right, Int.emod_eq_of_lt h0 h1]
  have ed : (s * 2 ^ (m + t) + r) / 2 ^ (m + t) = s := by
    rw [Int.add_comm, Int.add_mul_ediv_right _ _ (by omega), Int.ediv_eq_zero_of_lt h0 h1, Int.zero_add]
  refine ⟨?_, ?_, ?_, em⟩
  · rcases hs with z | z <;> subst z <;> omega
  · rw [e]
    rcases hs with z | z <;> subst z <;> omega
  · unfold sgn
    rw [ed]
    omega
theorem trn_trn {m t : Nat} {w : Int} (h0 : 0 ≤ w) (h1 : w < 2 ^ (1 + m + t)) : trn m t (trn m t w) = w ∧ 0 ≤ trn m t w ∧ trn m t w < 2 ^ (1 + m + t) := by
  have hp := pow_pos' (m + t)
  have hs : 1 - sgn m t w = 0 ∨ 1 - sgn m t w = 1 := by
    have := sgn_01 (m := m) (t := t) (w := w)
    omega
  obtain ⟨a, b, c, d⟩ := mk_parts (m := m) (t := t) hs (Int.emod_nonneg w (show (2 : Int) ^ (m + t) ≠ 0 by omega)) (Int.emod_lt_of_pos w hp)
  refine ⟨?_, a, b⟩
  show (1 - sgn m t (trn m t w)) * 2 ^ (m + t) + trn m t w % 2 ^ (m + t) = w
  rw [show sgn m t (trn m t w) = 1 - sgn m t w from c, show trn m t w % 2 ^ (m + t) = w % 2 ^ (m + t) from d, show 1 - (1 - sgn m t w) = sgn m t w by omega]
  exact word_eq h0 h1
end GM
namespace GR
open PySem
/-! ### the rounding, as a function -/
def bl (n : Int) : Int := (Builtin.Int.intBits n : Nat)
def cutQ (n b : Int) : Int := if b < 0 then n * 2 ^ (-b).toNat else n / 2 ^ b.toNat
def cutR (n b : Int) : Bool := if b < 0 then false else !decide (n / 2 ^ b.toNat * 2 ^ b.toNat = n)
def lea (sc tl : Nat) : Int := 1 - (2 ^ (sc - 1) - 1) - (tl : Int)
def lap (sc tl : Nat) (n p : Int) : Int := if lea sc tl > bl n + p - 1 - (tl : Int) then lea sc tl else bl n + p - 1 - (tl : Int)
def prQ (n b : Int) : Int := cutQ n (b - 1) / 2 ^ 1
def prR (n b : Int) (more : Bool) : Int := 2 * (cutQ n (b - 1) % 2 ^ 1) + (if cutR n (b - 1) || more then 1 else 0)
def away (way : Str) (s : Int) : Bool := if way = "cut" then false else decide (s = if way = "up" then 0 else 1)
def gup (way : Str) (s many rest : Int) : Bool := if way = "near" then decide (rest = 3) || (decide (rest = 2) && decide (many % 2 = 1)) else !decide (rest = 0) && away way s
def wrd (sc tl : Nat) (s m t : Int) : Int := s * 2 ^ (sc + tl) + (m * 2 ^ tl + t)
def bey (sc tl : Nat) (s : Int) (way : Str) : Int := if (decide (way = "near") || away way s) = true then wrd sc tl s (2 ^ sc - 1) 0 else wrd sc tl s (2 ^ sc - 1 - 1) (2 ^ tl - 1)
def flg (sc : Nat) (n p rest : Int) : List Str := if rest = 0 then [] else if bl n + p ≤ 1 - (2 ^ (sc - 1) - 1) then ["under", "rounded"] else ["rounded"]
def mny (sc tl : Nat) (s n p : Int) (way : Str) (more : Bool) : Int := if gup way s (prQ n (lap sc tl n p - p)) (prR n (lap sc tl n p - p) more) = true then prQ n (lap sc tl n p - p) + 1 else prQ n (lap sc tl n p - p)
def siz (sc tl : Nat) (s n p : Int) (way : Str) (more : Bool) : Int := (lap sc tl n p - lea sc tl) * 2 ^ tl + mny sc tl s n p way more
def rnd (sc tl : Nat) (s n p : Int) (way : Str) (more : Bool) : Int × List Str :=
  if n = 0 then (wrd sc tl s 0 0, [])
  else if siz sc tl s n p way more > wrd sc tl 0 (2 ^ sc - 1 - 1) (2 ^ tl - 1) then (bey sc tl s way, ["over", "rounded"])
  else (wrd sc tl s 0 0 + siz sc tl s n p way more, flg sc n p (prR n (lap sc tl n p - p) more))
theorem lap_ge (sc tl : Nat) (n p : Int) : lea sc tl ≤ lap sc tl n p := by
  unfold lap
  split <;> omega
end GR
namespace GM
/-! ### sizes and their worths -/
def topS (m t : Nat) : Int := (2 ^ m - 1) * 2 ^ t
def num (t : Nat) (s : Int) : Int := if s / 2 ^ t = 0 then s % 2 ^ t else 2 ^ t + s % 2 ^ t
def ex (t : Nat) (s : Int) : Nat := (s / 2 ^ t).toNat - 1
def numE (m t : Nat) (s : Int) : Int := if s = topS m t then 1 else num t s
def exE (m t : Nat) (s : Int) : Nat := if s = topS m t then 1998 + 2 ^ (m - 1) + t else ex t s
def Vv (m t : Nat) (s : Int) : Int := numE m t s * 2 ^ exE m t s
theorem sz_parts (t : Nat) (s : Int) : s / 2 ^ t * 2 ^ t + s % 2 ^ t = s := by
  have := Int.emod_add_mul_ediv s (2 ^ t)
  rw [Int.mul_comm] at this
  omega
theorem num_nn {t : Nat} {s : Int} (h : 0 ≤ s) : 0 ≤ num t s := by
  have hp := pow_pos' t
  have := Int.emod_nonneg s (show (2 : Int) ^ t ≠ 0 by omega)
  unfold num
  split <;> omega
/-- below 2 ^ t times 2 ^ h -/
theorem num_lt {t : Nat} {s : Int} (h0 : 0 ≤ s) : num t s * 2 ^ ex t s < 2 ^ t * 2 ^ (s / 2 ^ t).toNat := by
  have hp := pow_pos' t
  have hl := Int.emod_lt_of_pos s hp
  have hd := Int.ediv_nonneg h0 (Int.le_of_lt hp)
  unfold num ex
  split
  · rename_i e
    rw [e]
    show s % 2 ^ t * 2 ^ 0 < 2 ^ t * 2 ^ 0
    rw [Int.pow_zero]
    omega
  · rename_i e
    obtain ⟨k, hk⟩ : ∃ k : Nat, (s / 2 ^ t).toNat = k + 1 := ⟨(s / 2 ^ t).toNat - 1, by omega⟩
    rw [hk, Nat.add_sub_cancel, pow_s, ← Int.mul_assoc]
    have hk2 := pow_pos' k
    have : (2 ^ t + s % 2 ^ t) * 2 ^ k < (2 ^ t * 2) * 2 ^ k := Int.mul_lt_mul_of_pos_right (by omega) hk2
    rw [show (2 : Int) ^ t * 2 ^ k * 2 = 2 ^ t * 2 * 2 ^ k by rw [Int.mul_assoc, Int.mul_assoc, Int.mul_comm (2 ^ k) 2]]
    exact this
theorem num_ge {t : Nat} {s : Int} {k : Nat} (h : (s / 2 ^ t).toNat = k + 1) : 2 ^ t * 2 ^ k ≤ num t s * 2 ^ ex t s := by
  have hp := pow_pos' t
  have := Int.emod_nonneg s (show (2 : Int) ^ t ≠ 0 by omega)
  have hk2 := pow_pos' k
  unfold num ex
  rw [if_neg (by omega), h, Nat.add_sub_cancel]
  exact Int.mul_le_mul_of_nonneg_right (by omega) (by omega)
theorem num_mono {t : Nat} {a b : Int} (h0 : 0 ≤ a) (h : a < b) : num t a * 2 ^ ex t a < num t b * 2 ^ ex t b := by
  have hp := pow_pos' t
  have ea := sz_parts t a
  have eb := sz_parts t b
  have la := Int.emod_lt_of_pos a hp
  have na := Int.emod_nonneg a (show (2 : Int) ^ t ≠ 0 by omega)
  have nb := Int.emod_nonneg b (show (2 : Int) ^ t ≠ 0 by omega)
  have lb := Int.emod_lt_of_pos b hp
  have hle : a / 2 ^ t ≤ b / 2 ^ t := Int.ediv_le_ediv hp (by omega)
  have hd := Int.ediv_nonneg h0 (Int.le_of_lt hp)
  by_cases e : a / 2 ^ t = b / 2 ^ t
  · have hl : a % 2 ^ t < b % 2 ^ t := by
      rw [e] at ea
      omega
    have hx : ex t a = ex t b := by unfold ex; rw [e]
    rw [hx]
    refine Int.mul_lt_mul_of_pos_right ?_ (pow_pos' _)
    unfold num
    rw [e]
    split <;> omega
  · obtain ⟨k, hk⟩ : ∃ k : Nat, (b / 2 ^ t).toNat = k + 1 := ⟨(b / 2 ^ t).toNat - 1, by omega⟩
    have h1 := num_lt (t := t) h0
    have h2 := num_ge hk
    have h3 : (2 : Int) ^ t * 2 ^ (a / 2 ^ t).toNat ≤ 2 ^ t * 2 ^ k := Int.mul_le_mul_of_nonneg_left (pow_le' (by omega)) (by omega)
    omega
theorem Vv_mono {m t : Nat} (hm : m ≤ 8) {a b : Int} (h0 : 0 ≤ a) (h : a < b) (hb : b ≤ topS m t) : Vv m t a < Vv m t b := by
  unfold Vv numE exE
  rw [if_neg (by omega), if_neg (by omega)]
  by_cases e : b = topS m t
  · rw [if_pos e, if_pos e, Int.one_mul]
    have h1 := num_lt (t := t) h0
    have hp := pow_pos' t
    have hq : a / 2 ^ t < 2 ^ m := by
      refine Int.ediv_lt_of_lt_mul hp ?_
      have : topS m t ≤ 2 ^ m * 2 ^ t := Int.mul_le_mul_of_nonneg_right (by omega) (by omega)
      omega
    have h8 : (2 : Int) ^ m ≤ 2 ^ 8 := pow_le' hm
    rw [← pow_add'] at h1
    have h3 : (a / 2 ^ t).toNat ≤ 256 := by omega
    have h2 : (2 : Int) ^ (t + (a / 2 ^ t).toNat) ≤ 2 ^ (1998 + 2 ^ (m - 1) + t) := pow_le' (by
      generalize 2 ^ (m - 1) = zz
      omega)
    omega
  · rw [if_neg e, if_neg e]
    exact num_mono h0 h
theorem Vv_zero (m t : Nat) (h : 0 < topS m t) : Vv m t 0 = 0 := by
  unfold Vv numE num
  rw [if_neg (by omega), Int.zero_ediv, if_pos rfl, Int.zero_emod, Int.zero_mul]
/-- how two words stand to each other, by worths and by sizes -/
theorem cmp_eq {m t : Nat} (hm : m ≤ 8) {a b : Int} (a0 : 0 ≤ a) (a1 : a ≤ topS m t) (b0 : 0 ≤ b) (b1 : b ≤ topS m t) (hT : 0 < topS m t) (g h : Bool) :
    ((if g then 0 - numE m t a else numE m t a) * 2 ^ (exE m t a - min (exE m t a) (exE m t b)) = (if h then 0 - numE m t b else numE m t b) * 2 ^ (exE m t b - min (exE m t a) (exE m t b)) ↔ (if g then -a else a) = (if h then -b else b)) ∧
    ((if g then 0 - numE m t a else numE m t a) * 2 ^ (exE m t a - min (exE m t a) (exE m t b)) < (if h then 0 - numE m t b else numE m t b) * 2 ^ (exE m t b - min (exE m t a) (exE m t b)) ↔ (if g then -a else a) < (if h then -b else b)) := by
  have pm := pow_pos' (min (exE m t a) (exE m t b))
  have ea : (if g then 0 - numE m t a else numE m t a) * 2 ^ (exE m t a - min (exE m t a) (exE m t b)) * 2 ^ min (exE m t a) (exE m t b) = (if g then -Vv m t a else Vv m t a) := by
    rw [Int.mul_assoc, ← pow_add', show exE m t a - min (exE m t a) (exE m t b) + min (exE m t a) (exE m t b) = exE m t a by omega]
    unfold Vv
    cases g
    · rfl
    · show (0 - numE m t a) * 2 ^ exE m t a = -(numE m t a * 2 ^ exE m t a)
      rw [Int.zero_sub, Int.neg_mul]
  have eb : (if h then 0 - numE m t b else numE m t b) * 2 ^ (exE m t b - min (exE m t a) (exE m t b)) * 2 ^ min (exE m t a) (exE m t b) = (if h then -Vv m t b else Vv m t b) := by
    rw [Int.mul_assoc, ← pow_add', show exE m t b - min (exE m t a) (exE m t b) + min (exE m t a) (exE m t b) = exE m t b by omega]
    unfold Vv
    cases h
    · rfl
    · show (0 - numE m t b) * 2 ^ exE m t b = -(numE m t b * 2 ^ exE m t b)
      rw [Int.zero_sub, Int.neg_mul]
  generalize (if g then 0 - numE m t a else numE m t a) * 2 ^ (exE m t a - min (exE m t a) (exE m t b)) = x at *
  generalize (if h then 0 - numE m t b else numE m t b) * 2 ^ (exE m t b - min (exE m t a) (exE m t b)) = y at *
  have exy : (x = y ↔ (if g then -Vv m t a else Vv m t a) = (if h then -Vv m t b else Vv m t b)) ∧ (x < y ↔ (if g then -Vv m t a else Vv m t a) < (if h then -Vv m t b else Vv m t b)) := by
    rw [← ea, ← eb]
    generalize (2 : Int) ^ min (exE m t a) (exE m t b) = d at *
    refine ⟨⟨fun z => by rw [z], fun z => Int.eq_of_mul_eq_mul_right (by omega) z⟩, ⟨fun z => Int.mul_lt_mul_of_pos_right z pm, fun z => Int.lt_of_mul_lt_mul_right z (by omega)⟩⟩
  rw [exy.1, exy.2]
  have z := Vv_zero m t hT
  have pa : a = 0 ∨ 0 < Vv m t a := by
    rcases Int.lt_or_eq_of_le a0 with q | q
    · have := Vv_mono hm (Int.le_refl 0) q a1
      omega
    · exact .inl q.symm
  have pb : b = 0 ∨ 0 < Vv m t b := by
    rcases Int.lt_or_eq_of_le b0 with q | q
    · have := Vv_mono hm (Int.le_refl 0) q b1
      omega
    · exact .inl q.symm
  have za : a = 0 → Vv m t a = 0 := fun q => by rw [q]; exact z
  have zb : b = 0 → Vv m t b = 0 := fun q => by rw [q]; exact z
  have lt1 : a < b → Vv m t a < Vv m t b := fun q => Vv_mono hm a0 q b1
  have lt2 : b < a → Vv m t b < Vv m t a := fun q => Vv_mono hm b0 q a1
  have eqq : a = b → Vv m t a = Vv m t b := fun q => by rw [q]
  generalize Vv m t a = u at *
  generalize Vv m t b = v at *
  have tri : a < b ∨ a = b ∨ b < a := by omega
  cases g <;> cases h <;> simp only [if_true, if_false, Bool.false_eq_true] <;>
    (rcases tri with q | q | q
     · have := lt1 q; rcases pa with w | w <;> rcases pb with w2 | w2 <;> (try have := za w) <;> (try have := zb w2) <;> constructor <;> omega
     · have := eqq q; rcases pa with w | w <;> rcases pb with w2 | w2 <;> (try have := za w) <;> (try have := zb w2) <;> constructor <;> omega
     · have := lt2 q; rcases pa with w | w <;> rcases pb with w2 | w2 <;> (try have := za w) <;> (try have := zb w2) <;> constructor <;> omega)
end GM
namespace GM
theorem div_s (x : Int) (k : Nat) : x / 2 ^ (k + 1) = x / 2 ^ k / 2 := by
  rw [pow_s, Int.ediv_ediv_of_nonneg (Int.le_of_lt (pow_pos' k))]
end GM
namespace GR
open PySem GM
/-! ### where a worth stands between two words -/
def cmpM (N Mo V : Int) (more : Bool) : Int := if N = V then (if more then 1 else 0) else if N > V then 1 else if N + (if more then 1 else 0) * Mo ≤ V then -1 else 1
theorem cmp_scale {c N Mo V : Int} {more : Bool} (h : 0 < c) : cmpM (N * c) (Mo * c) (V * c) more = cmpM N Mo V more := by
  unfold cmpM
  have e1 : N * c = V * c ↔ N = V := ⟨fun z => Int.eq_of_mul_eq_mul_right (by omega) z, fun z => by rw [z]⟩
  have e2 : N * c > V * c ↔ N > V := ⟨fun z => Int.lt_of_mul_lt_mul_right z (by omega), fun z => Int.mul_lt_mul_of_pos_right z h⟩
  have e3 : N * c + (if more then 1 else 0) * (Mo * c) ≤ V * c ↔ N + (if more then 1 else 0) * Mo ≤ V := by
    rw [← Int.mul_assoc, ← Int.add_mul]
    exact ⟨fun z => Int.le_of_mul_le_mul_right z h, fun z => Int.mul_le_mul_of_nonneg_right z (by omega)⟩
  by_cases c1 : N = V
  · rw [if_pos c1, if_pos (e1.mpr c1)]
  · rw [if_neg c1, if_neg (fun z => c1 (e1.mp z))]
    by_cases c2 : N > V
    · rw [if_pos c2, if_pos (e2.mpr c2)]
    · rw [if_neg c2, if_neg (fun z => c2 (e2.mp z))]
      by_cases c3 : N + (if more then 1 else 0) * Mo ≤ V
      · rw [if_pos c3, if_pos (e3.mpr c3)]
      · rw [if_neg c3, if_neg (fun z => c3 (e3.mp z))]
theorem cmp_ge {N Mo V : Int} {more : Bool} (h : V ≤ N) : 0 ≤ cmpM N Mo V more := by
  unfold cmpM
  split
  · split <;> decide
  · rw [if_pos (by omega)]
    decide
theorem cmp_lt {N Mo V : Int} {more : Bool} (h : N < V) (hm : more = true → N + Mo ≤ V) : cmpM N Mo V more = -1 := by
  unfold cmpM
  rw [if_neg (by omega), if_neg (by omega), if_pos ?_]
  cases more with
  | true =>
    have := hm rfl
    rw [if_pos rfl]
    omega
  | false =>
    rw [if_neg (by decide)]
    omega
/-! ### cutting off, on one scale -/
theorem cut_scale {n : Int} {a D : Nat} {b : Int} (hb : (D : Int) = a + b) : cutQ n b = n * 2 ^ a / 2 ^ D ∧ cutR n b = !decide (n * 2 ^ a % 2 ^ D = 0) := by
  have hD := pow_pos' D
  have ha := pow_pos' a
  unfold cutQ cutR
  by_cases c : b < 0
  · rw [if_pos c, if_pos c]
    have e : (2 : Int) ^ a = 2 ^ (-b).toNat * 2 ^ D := by rw [← pow_add']; congr 1; omega
    rw [e, ← Int.mul_assoc]
    refine ⟨(Int.mul_ediv_cancel _ (by omega)).symm, ?_⟩
    rw [Int.mul_emod_left, decide_eq_true rfl]
    rfl
  · rw [if_neg c, if_neg c]
    have e : (2 : Int) ^ D = 2 ^ b.toNat * 2 ^ a := by rw [← pow_add']; congr 1; omega
    have hp := pow_pos' b.toNat
    rw [e, Int.mul_ediv_mul_of_pos_left _ _ ha]
    refine ⟨rfl, ?_⟩
    rw [show n * 2 ^ a % (2 ^ b.toNat * 2 ^ a) = n % 2 ^ b.toNat * 2 ^ a by rw [Int.mul_comm n, Int.mul_comm (2 ^ b.toNat), Int.mul_emod_mul_of_pos _ _ ha, Int.mul_comm]]
    have e2 := Int.emod_add_mul_ediv n (2 ^ b.toNat)
    rw [Int.mul_comm] at e2
    by_cases d : n % 2 ^ b.toNat = 0
    · rw [d, Int.zero_mul, decide_eq_true rfl, decide_eq_true (by omega)]
    · have d2 : ¬ n % 2 ^ b.toNat * 2 ^ a = 0 := fun z => by
        rcases Int.mul_eq_zero.mp z with y | y
        · exact d y
        · omega
      rw [decide_eq_false d2, decide_eq_false (by omega)]
/-! ### the worth of a size -/
def W (t : Nat) (u : Int) : Int := num t u * 2 ^ ex t u
theorem W_at {t : Nat} {d : Nat} {m : Int} (h0 : 0 ≤ m) (h1 : m ≤ 2 ^ t * 2) (h2 : d = 0 ∨ 2 ^ t ≤ m) : W t (d * 2 ^ t + m) = m * 2 ^ d := by
  have hp := pow_pos' t
  unfold W
  by_cases c : m < 2 ^ t
  · have hd : d = 0 := by omega
    subst hd
    have e : ((0 : Nat) : Int) * 2 ^ t + m = m := by omega
    rw [e]
    unfold num ex
    rw [Int.ediv_eq_zero_of_lt h0 c, if_pos rfl, Int.emod_eq_of_lt h0 c]
    rfl
  · by_cases c2 : m < 2 ^ t * 2
    · have ed : ((d : Int) * 2 ^ t + m) / 2 ^ t = (d : Int) + 1 := by
        rw [show (d : Int) * 2 ^ t + m = (m - 2 ^ t) + ((d : Int) + 1) * 2 ^ t by rw [Int.add_mul]; omega, Int.add_mul_ediv_right _ _ (by omega), Int.ediv_eq_zero_of_lt (by omega) (by omega)]
        omega
      have em : ((d : Int) * 2 ^ t + m) % 2 ^ t = m - 2 ^ t := by
        rw [show (d : Int) * 2 ^ t + m = (m - 2 ^ t) + ((d : Int) + 1) * 2 ^ t by rw [Int.add_mul]; omega, Int.add_mul_emod_self_right, Int.emod_eq_of_lt (by omega) (by omega)]
      unfold num ex
      rw [ed, em, if_neg (by omega), show ((d : Int) + 1).toNat - 1 = d by omega, show 2 ^ t + (m - 2 ^ t) = m by omega]
    · have hm : m = 2 ^ t * 2 := by omega
      have ed : ((d : Int) * 2 ^ t + m) / 2 ^ t = (d : Int) + 2 := by
        rw [show (d : Int) * 2 ^ t + m = 0 + ((d : Int) + 2) * 2 ^ t by rw [Int.add_mul]; omega, Int.add_mul_ediv_right _ _ (by omega), Int.zero_ediv]
        omega
      have em : ((d : Int) * 2 ^ t + m) % 2 ^ t = 0 := by
        rw [show (d : Int) * 2 ^ t + m = 0 + ((d : Int) + 2) * 2 ^ t by rw [Int.add_mul]; omega, Int.add_mul_emod_self_right, Int.zero_emod]
      unfold num ex
      rw [ed, em, if_neg (by omega), show ((d : Int) + 2).toNat - 1 = d + 1 by omega, hm, pow_s, Int.add_zero, Int.mul_assoc, Int.mul_comm 2 (2 ^ d)]
theorem W_mono {t : Nat} {a b : Int} (h0 : 0 ≤ a) (h : a < b) : W t a < W t b := num_mono h0 h
theorem W_le {t : Nat} {a b : Int} (h0 : 0 ≤ a) (h : a ≤ b) : W t a ≤ W t b := by
  rcases Int.lt_or_eq_of_le h with c | c
  · exact Int.le_of_lt (W_mono h0 c)
  · rw [c]
    exact Int.le_refl _
theorem bl_in {n : Int} (h : 0 < n) : ∃ k : Nat, bl n = (k : Int) + 1 ∧ 2 ^ k ≤ n ∧ n < 2 ^ (k + 1) := by
  obtain ⟨e, h1, h2⟩ := bits_ex (x := n.toNat) (by omega)
  have hb := bits_unique h1 h2
  have c1 : ((2 ^ e : Nat) : Int) = (2 : Int) ^ e := PySem.W.kbt_cast _
  have c2 : ((2 ^ (e + 1) : Nat) : Int) = (2 : Int) ^ (e + 1) := PySem.W.kbt_cast _
  rw [show ((n.toNat : Nat) : Int) = n by omega] at hb
  refine ⟨e, ?_, by omega, by omega⟩
  unfold bl
  rw [hb]
  omega
/-- what the search meets, and what the rounding reckons -/
structure Fl (sc tl : Nat) (n p : Int) (more : Bool) (N Mo bq low0 : Int) : Prop where
  lo0 : 0 ≤ low0
  le : ∀ u, 0 ≤ u → u ≤ low0 → 0 ≤ cmpM N Mo (W tl u * bq) more
  gt : ∀ u, low0 < u → cmpM N Mo (W tl u * bq) more = -1
  just : cmpM N Mo (W tl low0 * bq) more = 0 ↔ prR n (lap sc tl n p - p) more = 0
  half : cmpM (N * 2) (Mo * 2) (W tl low0 * bq + W tl (low0 + 1) * bq) more = (if prR n (lap sc tl n p - p) more = 3 then 1 else if prR n (lap sc tl n p - p) more = 2 then 0 else -1)
  rest : 0 ≤ prR n (lap sc tl n p - p) more ∧ prR n (lap sc tl n p - p) more ≤ 3
  odd : low0 % 2 = prQ n (lap sc tl n p - p) % 2
  und : cmpM N Mo (W tl (2 ^ tl) * bq) more < 0 ↔ bl n + p ≤ 1 - (2 ^ (sc - 1) - 1)
theorem floor_facts {sc tl : Nat} {n p : Int} {more : Bool} (htl : 1 ≤ tl) (hn : 0 < n) (hm : more = true → p < lap sc tl n p) {a b : Nat} {B : Int} (ha : p - B = a) (hb : lea sc tl - B = (b : Int) + 1) :
    Fl sc tl n p more (n * 2 ^ a) (2 ^ a) (2 ^ (b + 1)) ((lap sc tl n p - lea sc tl) * 2 ^ tl + prQ n (lap sc tl n p - p)) := by
  obtain ⟨k, hk, hk1, hk2⟩ := bl_in hn
  have hge := lap_ge sc tl n p
  obtain ⟨d, hd⟩ : ∃ d : Nat, lap sc tl n p - lea sc tl = (d : Int) := ⟨(lap sc tl n p - lea sc tl).toNat, by omega⟩
  have hcase : (d = 0 ∧ bl n + p - 1 - tl ≤ lap sc tl n p) ∨ lap sc tl n p = bl n + p - 1 - tl := by
    unfold lap at hd ⊢
    split
    · rename_i c
      rw [if_pos c] at hd
      exact .inl ⟨by omega, by omega⟩
    · exact .inr rfl
  have hle : bl n + p - 1 - tl ≤ lap sc tl n p := by omega
  -- the scale
  obtain ⟨hQ, hR⟩ := cut_scale (n := n) (a := a) (D := d + b) (b := lap sc tl n p - p - 1) (by omega)
  have pD := pow_pos' (d + b)
  have pa := pow_pos' a
  have pt := pow_pos' tl
  have pD1 : (2 : Int) ^ (d + b + 1) = 2 ^ (d + b) * 2 := pow_s _
  have eq : prQ n (lap sc tl n p - p) = n * 2 ^ a / 2 ^ (d + b + 1) := by
    show cutQ n (lap sc tl n p - p - 1) / 2 ^ 1 = _
    rw [hQ, GM.div_div]
  have er : prR n (lap sc tl n p - p) more = 2 * (n * 2 ^ a / 2 ^ (d + b) % 2) + (if (!decide (n * 2 ^ a % 2 ^ (d + b) = 0)) || more then 1 else 0) := by
    show 2 * (cutQ n (lap sc tl n p - p - 1) % 2 ^ 1) + (if cutR n (lap sc tl n p - p - 1) || more then 1 else 0) = _
    rw [hQ, hR]
    rfl
  have hN0 : 0 < n * 2 ^ a := Int.mul_pos hn pa
  have moreD : more = true → ∃ f : Nat, (2 : Int) ^ (d + b) = 2 ^ f * 2 ^ a := fun z => by
    have := hm z
    refine ⟨d + b - a, ?_⟩
    rw [← pow_add']
    congr 1
    omega
  -- sizes of the number
  have hNlt : n * 2 ^ a < 2 ^ (k + 1 + a) := by
    rw [pow_add']
    exact Int.mul_lt_mul_of_pos_right hk2 pa
  have hNge : 2 ^ (k + a) ≤ n * 2 ^ a := by
    rw [pow_add']
    exact Int.mul_le_mul_of_nonneg_right hk1 (by omega)
  have hkd : k + 1 + a ≤ tl + 1 + (d + b + 1) := by omega
  have hm1 : n * 2 ^ a / 2 ^ (d + b + 1) < 2 ^ tl * 2 := by
    refine Int.ediv_lt_of_lt_mul (by omega) ?_
    rw [← pow_s, ← pow_add']
    exact Int.lt_of_lt_of_le hNlt (pow_le' hkd)
  have hm0 : 0 ≤ n * 2 ^ a / 2 ^ (d + b + 1) := Int.ediv_nonneg (by omega) (by omega)
  have hm2 : d = 0 ∨ 2 ^ tl ≤ n * 2 ^ a / 2 ^ (d + b + 1) := by
    rcases hcase with h | h
    · exact .inl h.1
    · right
      refine (Int.le_ediv_iff_mul_le (by omega)).mpr ?_
      rw [← pow_add']
      exact Int.le_trans (pow_le' (by omega)) hNge
  rw [eq, hd]
  have eN := Int.emod_add_mul_ediv (n * 2 ^ a) (2 ^ (d + b + 1))
  have r0 := Int.emod_nonneg (n * 2 ^ a) (show (2 : Int) ^ (d + b + 1) ≠ 0 by omega)
  have r1 := Int.emod_lt_of_pos (n * 2 ^ a) (show (0 : Int) < 2 ^ (d + b + 1) by omega)
  have fN := Int.emod_add_mul_ediv (n * 2 ^ a) (2 ^ (d + b))
  have s0 := Int.emod_nonneg (n * 2 ^ a) (show (2 : Int) ^ (d + b) ≠ 0 by omega)
  have s1 := Int.emod_lt_of_pos (n * 2 ^ a) pD
  have hh : n * 2 ^ a / 2 ^ (d + b + 1) = n * 2 ^ a / 2 ^ (d + b) / 2 := GM.div_s _ _
  have pt2 : (2 : Int) ^ tl = 2 ^ (tl - 1) * 2 := by rw [← pow_s]; congr 1; omega
  have bb : (2 : Int) ^ d * 2 ^ (b + 1) = 2 ^ (d + b) * 2 := by rw [← pow_add', show d + (b + 1) = d + b + 1 by omega, pow_s]
  have v0 : W tl ((d : Int) * 2 ^ tl + n * 2 ^ a / 2 ^ (d + b + 1)) * 2 ^ (b + 1) = n * 2 ^ a / 2 ^ (d + b + 1) * (2 ^ (d + b) * 2) := by
    rw [W_at hm0 (by omega) hm2, Int.mul_assoc, bb]
  have v1 : W tl ((d : Int) * 2 ^ tl + n * 2 ^ a / 2 ^ (d + b + 1) + 1) * 2 ^ (b + 1) = (n * 2 ^ a / 2 ^ (d + b + 1) + 1) * (2 ^ (d + b) * 2) := by
    rw [show (d : Int) * 2 ^ tl + n * 2 ^ a / 2 ^ (d + b + 1) + 1 = (d : Int) * 2 ^ tl + (n * 2 ^ a / 2 ^ (d + b + 1) + 1) by omega, W_at (by omega) (by omega) (by omega), Int.mul_assoc, bb]
  have lo0 : 0 ≤ (d : Int) * 2 ^ tl + n * 2 ^ a / 2 ^ (d + b + 1) := by
    have := Int.mul_nonneg (show (0 : Int) ≤ (d : Int) by omega) (Int.le_of_lt pt)
    omega
  have pb := pow_pos' (b + 1)
  rw [pD1] at eN r0 r1
  have vt : W tl (2 ^ tl) * 2 ^ (b + 1) = 2 ^ (tl + (b + 1)) := by
    have := W_at (t := tl) (d := 0) (m := 2 ^ tl) (by omega) (by omega) (.inl rfl)
    rw [show ((0 : Nat) : Int) * 2 ^ tl + 2 ^ tl = 2 ^ tl by omega, Int.pow_zero, Int.mul_one] at this
    rw [this, ← pow_add']
  have ho : ((d : Int) * 2 ^ tl + n * 2 ^ a / 2 ^ (d + b + 1)) % 2 = n * 2 ^ a / 2 ^ (d + b + 1) % 2 := by
    rw [pt2, ← Int.mul_assoc]
    generalize (d : Int) * 2 ^ (tl - 1) = z
    omega
  have lea1 : 1 - ((2 : Int) ^ (sc - 1) - 1) = lea sc tl + tl := by
    unfold lea
    omega
  -- multiples of what more stands for
  have stepM : more = true → ∀ X : Int, n * 2 ^ a < X * 2 ^ (d + b) → n * 2 ^ a + 2 ^ a ≤ X * 2 ^ (d + b) := fun z X hX => by
    obtain ⟨f, hf⟩ := moreD z
    rw [hf, ← Int.mul_assoc] at hX ⊢
    have h1 : n < X * 2 ^ f := Int.lt_of_mul_lt_mul_right hX (by omega)
    have h2 : (n + 1) * 2 ^ a ≤ X * 2 ^ f * 2 ^ a := Int.mul_le_mul_of_nonneg_right (by omega) (by omega)
    rw [Int.add_mul, Int.one_mul] at h2
    exact h2
  have X1 : more = true → n * 2 ^ a < 2 * (2 ^ (d + b) * (n * 2 ^ a / 2 ^ (d + b + 1))) + 2 ^ (d + b) → n * 2 ^ a + 2 ^ a ≤ 2 * (2 ^ (d + b) * (n * 2 ^ a / 2 ^ (d + b + 1))) + 2 ^ (d + b) := fun z => by
    have := stepM z (2 * (n * 2 ^ a / 2 ^ (d + b + 1)) + 1)
    rw [show (2 * (n * 2 ^ a / 2 ^ (d + b + 1)) + 1) * 2 ^ (d + b) = 2 * (2 ^ (d + b) * (n * 2 ^ a / 2 ^ (d + b + 1))) + 2 ^ (d + b) by rw [Int.add_mul, Int.one_mul, Int.mul_assoc, Int.mul_comm (2 ^ (d + b))]] at this
    exact this
  have X2 : more = true → n * 2 ^ a < 2 * (2 ^ (d + b) * (n * 2 ^ a / 2 ^ (d + b + 1))) + 2 * 2 ^ (d + b) → n * 2 ^ a + 2 ^ a ≤ 2 * (2 ^ (d + b) * (n * 2 ^ a / 2 ^ (d + b + 1))) + 2 * 2 ^ (d + b) := fun z => by
    have := stepM z (2 * (n * 2 ^ a / 2 ^ (d + b + 1)) + 2)
    rw [show (2 * (n * 2 ^ a / 2 ^ (d + b + 1)) + 2) * 2 ^ (d + b) = 2 * (2 ^ (d + b) * (n * 2 ^ a / 2 ^ (d + b + 1))) + 2 * 2 ^ (d + b) by rw [Int.add_mul, Int.mul_assoc, Int.mul_comm (2 ^ (d + b))]] at this
    exact this
  rw [show n * 2 ^ a / 2 ^ (d + b + 1) * (2 ^ (d + b) * 2) = 2 * (2 ^ (d + b) * (n * 2 ^ a / 2 ^ (d + b + 1))) by rw [← Int.mul_assoc, Int.mul_comm _ (2 ^ (d + b)), Int.mul_comm]] at v0
  rw [show (n * 2 ^ a / 2 ^ (d + b + 1) + 1) * (2 ^ (d + b) * 2) = 2 * (2 ^ (d + b) * (n * 2 ^ a / 2 ^ (d + b + 1))) + 2 * 2 ^ (d + b) by rw [Int.add_mul, ← Int.mul_assoc, Int.mul_comm _ (2 ^ (d + b)), Int.mul_comm _ 2]; omega] at v1
  have hb2 : n * 2 ^ a / 2 ^ (d + b) % 2 = 0 ∨ n * 2 ^ a / 2 ^ (d + b) % 2 = 1 := by omega
  have hNN : n * 2 ^ a = n * 2 ^ a % 2 ^ (d + b) + 2 * (2 ^ (d + b) * (n * 2 ^ a / 2 ^ (d + b + 1))) + n * 2 ^ a / 2 ^ (d + b) % 2 * 2 ^ (d + b) := by
    have e1 : n * 2 ^ a / 2 ^ (d + b) = 2 * (n * 2 ^ a / 2 ^ (d + b + 1)) + n * 2 ^ a / 2 ^ (d + b) % 2 := by omega
    have e2 : 2 ^ (d + b) * (n * 2 ^ a / 2 ^ (d + b)) = 2 * (2 ^ (d + b) * (n * 2 ^ a / 2 ^ (d + b + 1))) + n * 2 ^ a / 2 ^ (d + b) % 2 * 2 ^ (d + b) := by
      conv => lhs; rw [e1]
      rw [Int.mul_add, ← Int.mul_assoc, Int.mul_comm _ 2, Int.mul_assoc, Int.mul_comm (2 ^ (d + b)) (n * 2 ^ a / 2 ^ (d + b) % 2)]
    omega
  have hund : (n * 2 ^ a < 2 ^ (tl + (b + 1))) ↔ bl n + p ≤ 1 - (2 ^ (sc - 1) - 1) := by
    constructor
    · intro h
      have : (2 : Int) ^ (k + a) < 2 ^ (tl + (b + 1)) := by omega
      have : k + a < tl + (b + 1) := by
        rcases Nat.lt_or_ge (k + a) (tl + (b + 1)) with c | c
        · exact c
        · have := pow_le' c
          omega
      omega
    · intro h
      have : (2 : Int) ^ (k + 1 + a) ≤ 2 ^ (tl + (b + 1)) := pow_le' (by omega)
      omega
  clear eN r0 r1 fN hh stepM moreD hNlt hNge hkd hm1 hm2 hQ hR hk hk1 hk2 pt2 bb hcase
  have wle : ∀ u v : Int, 0 ≤ u → u ≤ v → W tl u * 2 ^ (b + 1) ≤ W tl v * 2 ^ (b + 1) := fun u v h1 h2 => Int.mul_le_mul_of_nonneg_right (W_le h1 h2) (by omega)
  generalize 2 ^ (d + b) * (n * 2 ^ a / 2 ^ (d + b + 1)) = z at *
  generalize n * 2 ^ a / 2 ^ (d + b) % 2 = hb' at *
  generalize n * 2 ^ a % 2 ^ (d + b) = rem at *
  generalize (d : Int) * 2 ^ tl + n * 2 ^ a / 2 ^ (d + b + 1) = lo at *
  generalize (2 : Int) ^ (d + b) = q at *
  generalize (2 : Int) ^ (b + 1) = bq at *
  generalize n * 2 ^ a = N at *
  generalize (2 : Int) ^ a = Mo at *
  have hgt : ∀ u, lo < u → cmpM N Mo (W tl u * bq) more = -1 := fun u hu => by
    have h1 := wle (lo + 1) u (by omega) (by omega)
    rw [v1] at h1
    have h2 : N < 2 * z + 2 * q := by rcases hb2 with c | c <;> rw [c] at hNN <;> omega
    exact cmp_lt (by omega) fun c => by
      have := X2 c h2
      omega
  refine ⟨lo0, fun u u0 u1 => cmp_ge ?_, hgt, ?_, ?_, ?_, by rw [eq]; exact ho, ?_⟩
  · have h1 := wle u lo u0 u1
    rw [v0] at h1
    rcases hb2 with c | c <;> rw [c] at hNN <;> omega
  · rw [v0, er]
    unfold cmpM
    rcases hb2 with c | c <;> rw [c] at hNN ⊢
    · by_cases c2 : rem = 0
      · rw [if_pos (by omega), c2]
        cases more <;> decide
      · rw [if_neg (by omega), if_pos (by omega), decide_eq_false c2]
        constructor
        · intro h; omega
        · intro h
          revert h
          cases more <;> decide
    · rw [if_neg (by omega), if_pos (by omega)]
      constructor
      · intro h; omega
      · intro h
        split at h <;> omega
  · rw [v0, v1, er]
    rcases hb2 with c | c <;> rw [c] at hNN ⊢
    · have h1 : cmpM (N * 2) (Mo * 2) (2 * z + (2 * z + 2 * q)) more = -1 := cmp_lt (by omega) fun c => by
        have := X1 c (by omega)
        omega
      rw [h1]
      split <;> rfl
    · unfold cmpM
      by_cases c2 : rem = 0
      · rw [if_pos (by omega), c2]
        cases more <;> decide
      · rw [if_neg (by omega), if_pos (by omega), decide_eq_false c2]
        rfl
  · rw [er]
    rcases hb2 with c | c <;> rw [c]
    · split <;> omega
    · split <;> omega
  · rw [vt, ← hund]
    constructor
    · intro h
      rcases Int.lt_or_le N (2 ^ (tl + (b + 1))) with c | c
      · exact c
      · have := cmp_ge (N := N) (Mo := Mo) (more := more) c
        omega
    · intro h
      have h1 : lo < 2 ^ tl := by
        rcases Int.lt_or_le lo (2 ^ tl) with c | c
        · exact c
        · have := wle (2 ^ tl) lo (by omega) c
          rw [vt, v0] at this
          rcases hb2 with c | c <;> rw [c] at hNN <;> omega
      have := hgt _ h1
      rw [vt] at this
      rw [this]
      decide
end GR
namespace GR
open PySem GM
/-! ### what is cut off, and kept as a bit more -/
theorem bl_div {n : Int} {j : Nat} (h : 0 < n / 2 ^ j) : bl (n / 2 ^ j) + j = bl n := by
  have pj := pow_pos' j
  have hm0 := Int.emod_nonneg n (show (2 : Int) ^ j ≠ 0 by omega)
  have hm1 := Int.emod_lt_of_pos n pj
  have dm := Int.emod_add_mul_ediv n (2 ^ j)
  have hpos : 0 < n := by
    have := Int.mul_pos pj h
    omega
  obtain ⟨k, hk, hk1, hk2⟩ := bl_in hpos
  obtain ⟨m, hm, g1, g2⟩ := bl_in h
  have l1 : (2 : Int) ^ (m + j) ≤ n := by
    rw [pow_add' m j]
    have := Int.mul_le_mul_of_nonneg_right g1 (Int.le_of_lt pj)
    rw [Int.mul_comm (n / 2 ^ j)] at this
    omega
  have l2 : n < (2 : Int) ^ (m + 1 + j) := by
    rw [pow_add' (m + 1) j]
    have := Int.mul_le_mul_of_nonneg_right (show n / 2 ^ j + 1 ≤ 2 ^ (m + 1) by omega) (Int.le_of_lt pj)
    rw [Int.add_mul, Int.one_mul, Int.mul_comm (n / 2 ^ j)] at this
    omega
  have e : k = m + j := by
    rcases Nat.lt_trichotomy k (m + j) with c | c | c
    · have := pow_le' (show k + 1 ≤ m + j by omega)
      omega
    · exact c
    · have := pow_le' (show m + 1 + j ≤ k by omega)
      omega
  omega
theorem mod_two {n : Int} {j c : Nat} : n % 2 ^ (c + j) = 0 ↔ (n % 2 ^ j = 0 ∧ n / 2 ^ j % 2 ^ c = 0) := by
  have pj := pow_pos' j
  have pc := pow_pos' c
  have r0 := Int.emod_nonneg n (show (2 : Int) ^ j ≠ 0 by omega)
  have r1 := Int.emod_lt_of_pos n pj
  have R0 := Int.emod_nonneg (n / 2 ^ j) (show (2 : Int) ^ c ≠ 0 by omega)
  have R1 := Int.emod_lt_of_pos (n / 2 ^ j) pc
  have d1 := Int.emod_add_mul_ediv n (2 ^ j)
  have d2 := Int.emod_add_mul_ediv (n / 2 ^ j) (2 ^ c)
  have pcj : (2 : Int) ^ (c + j) = 2 ^ c * 2 ^ j := pow_add' c j
  generalize n % 2 ^ j = r at *
  generalize n / 2 ^ j % 2 ^ c = R at *
  generalize n / 2 ^ j / 2 ^ c = Q at *
  generalize n / 2 ^ j = q at *
  have hlt : 2 ^ j * R + r < 2 ^ (c + j) := by
    have := Int.mul_le_mul_of_nonneg_right (show R + 1 ≤ 2 ^ c by omega) (Int.le_of_lt pj)
    rw [Int.add_mul, Int.one_mul, ← pcj, Int.mul_comm R] at this
    omega
  have hnn : 0 ≤ 2 ^ j * R := Int.mul_nonneg (Int.le_of_lt pj) R0
  have en : n = (2 ^ j * R + r) + Q * 2 ^ (c + j) := by
    rw [← d1, ← d2, pcj, Int.mul_add, ← Int.mul_assoc, Int.mul_comm (2 ^ j) (2 ^ c), Int.mul_comm (2 ^ c * 2 ^ j) Q]
    omega
  rw [en, Int.add_mul_emod_self_right, Int.emod_eq_of_lt (by omega) hlt]
  constructor
  · intro h
    have hz : 2 ^ j * R = 0 := by omega
    exact ⟨by omega, (Int.mul_eq_zero.mp hz).resolve_left (by omega)⟩
  · intro h
    rw [h.2, h.1]
    omega
theorem rnd_cut {sc tl : Nat} {s n p : Int} {w : Str} {more : Bool} (j : Nat) (h0 : 0 < n / 2 ^ j) (hp : p + j < lap sc tl (n / 2 ^ j) (p + j)) :
    rnd sc tl s n p w more = rnd sc tl s (n / 2 ^ j) (p + j) w (!decide (n % 2 ^ j = 0) || more) := by
  have pj := pow_pos' j
  have hb := bl_div h0
  have hb' : bl (n / 2 ^ j) + (p + j) = bl n + p := by omega
  have hl : lap sc tl (n / 2 ^ j) (p + j) = lap sc tl n p := by
    unfold lap
    rw [hb']
  rw [hl] at hp
  have hn : n ≠ 0 := fun z => by
    rw [z, Int.zero_ediv] at h0
    omega
  obtain ⟨c, hc⟩ : ∃ c : Nat, lap sc tl n p - (p + j) - 1 = (c : Int) := ⟨(lap sc tl n p - (p + j) - 1).toNat, by omega⟩
  obtain ⟨q1, r1⟩ := cut_scale (n := n / 2 ^ j) (a := 0) (D := c) (b := lap sc tl n p - (p + j) - 1) (by omega)
  obtain ⟨q2, r2⟩ := cut_scale (n := n) (a := 0) (D := c + j) (b := lap sc tl n p - p - 1) (by omega)
  rw [show (2 : Int) ^ 0 = 1 from rfl, Int.mul_one] at q1 r1 q2 r2
  have eQ : cutQ n (lap sc tl n p - p - 1) = cutQ (n / 2 ^ j) (lap sc tl n p - (p + j) - 1) := by
    rw [q1, q2, pow_add' c j, Int.mul_comm, Int.ediv_ediv_of_nonneg (Int.le_of_lt pj)]
  have eR : (cutR n (lap sc tl n p - p - 1) || more) = (cutR (n / 2 ^ j) (lap sc tl n p - (p + j) - 1) || (!decide (n % 2 ^ j = 0) || more)) := by
    rw [r1, r2, ← Bool.or_assoc]
    congr 1
    rw [Bool.eq_iff_iff, Bool.or_eq_true, Bool.not_eq_true', Bool.not_eq_true', Bool.not_eq_true', decide_eq_false_iff_not, decide_eq_false_iff_not, decide_eq_false_iff_not, mod_two]
    constructor
    · intro h
      by_cases z : n % 2 ^ j = 0
      · exact .inl (fun y => h ⟨z, y⟩)
      · exact .inr z
    · intro h y
      exact h.elim (fun z => z y.2) (fun z => z y.1)
  have ePQ : prQ n (lap sc tl n p - p) = prQ (n / 2 ^ j) (lap sc tl n p - (p + j)) := by
    unfold prQ
    rw [eQ]
  have ePR : prR n (lap sc tl n p - p) more = prR (n / 2 ^ j) (lap sc tl n p - (p + j)) (!decide (n % 2 ^ j = 0) || more) := by
    unfold prR
    rw [eQ, eR]
  unfold rnd siz mny flg
  rw [if_neg hn, if_neg (show ¬ n / 2 ^ j = 0 by omega), hl, hb', ePQ, ePR]
end GR
namespace GR
open PySem GM
/-! ### the same worth told by a lesser power; a word's own worth -/
theorem bl_mul {n : Int} {k : Nat} (h : 0 < n) : bl (n * 2 ^ k) = bl n + k := by
  have pk := pow_pos' k
  have e : n * 2 ^ k / 2 ^ k = n := Int.mul_ediv_cancel _ (by omega)
  have := bl_div (n := n * 2 ^ k) (j := k) (by rw [e]; exact h)
  rw [e] at this
  omega
theorem rnd_scale {sc tl : Nat} {s n p : Int} {w : Str} {m : Bool} (k : Nat) (hn : 0 < n) : rnd sc tl s (n * 2 ^ k) (p - k) w m = rnd sc tl s n p w m := by
  have pk := pow_pos' k
  have hb : bl (n * 2 ^ k) + (p - k) = bl n + p := by
    rw [bl_mul hn]
    omega
  have hl : lap sc tl (n * 2 ^ k) (p - k) = lap sc tl n p := by
    unfold lap
    rw [hb]
  have hz : 0 < n * 2 ^ k := Int.mul_pos hn pk
  obtain ⟨D, hD⟩ : ∃ D : Nat, (D : Int) = (k : Int) + ((p - lap sc tl n p + 1).toNat : Nat) + (lap sc tl n p - p - 1) := ⟨((k : Int) + ((p - lap sc tl n p + 1).toNat : Nat) + (lap sc tl n p - p - 1)).toNat, by omega⟩
  obtain ⟨q1, r1⟩ := cut_scale (n := n) (a := k + (p - lap sc tl n p + 1).toNat) (D := D) (b := lap sc tl n p - p - 1) (by omega)
  obtain ⟨q2, r2⟩ := cut_scale (n := n * 2 ^ k) (a := (p - lap sc tl n p + 1).toNat) (D := D) (b := lap sc tl n p - (p - k) - 1) (by omega)
  have e : n * 2 ^ k * 2 ^ (p - lap sc tl n p + 1).toNat = n * 2 ^ (k + (p - lap sc tl n p + 1).toNat) := by rw [pow_add', Int.mul_assoc]
  rw [e] at q2 r2
  have eQ : cutQ (n * 2 ^ k) (lap sc tl n p - (p - k) - 1) = cutQ n (lap sc tl n p - p - 1) := by rw [q1, q2]
  have eR : cutR (n * 2 ^ k) (lap sc tl n p - (p - k) - 1) = cutR n (lap sc tl n p - p - 1) := by rw [r1, r2]
  have ePQ : prQ (n * 2 ^ k) (lap sc tl n p - (p - k)) = prQ n (lap sc tl n p - p) := by
    unfold prQ
    rw [eQ]
  have ePR : prR (n * 2 ^ k) (lap sc tl n p - (p - k)) m = prR n (lap sc tl n p - p) m := by
    unfold prR
    rw [eQ, eR]
  unfold rnd siz mny flg
  rw [if_neg (show ¬ n * 2 ^ k = 0 by omega), if_neg (show ¬ n = 0 by omega), hl, hb, ePQ, ePR]
theorem rnd_word {sc tl : Nat} {s u : Int} {w : Str} (htl : 1 ≤ tl) (h0 : 0 < u) (h1 : u < (2 ^ sc - 1) * 2 ^ tl) : rnd sc tl s (num tl u) (lea sc tl + (ex tl u : Nat)) w false = (s * 2 ^ (sc + tl) + u, []) := by
  have pt := pow_pos' tl
  have hn : 0 < num tl u := by
    have n := Int.emod_nonneg u (show (2 : Int) ^ tl ≠ 0 by omega)
    have d := Int.emod_add_mul_ediv u (2 ^ tl)
    unfold num
    by_cases c : u / 2 ^ tl = 0
    · rw [if_pos c]
      rw [c, Int.mul_zero, Int.add_zero] at d
      omega
    · rw [if_neg c]
      omega
  have F := floor_facts (sc := sc) (tl := tl) (n := num tl u) (p := lea sc tl + (ex tl u : Nat)) (more := false) htl hn (fun z => nomatch z) (a := ex tl u + 1) (b := 0) (B := lea sc tl - 1) (by omega) (by omega)
  have eN : num tl u * 2 ^ (ex tl u + 1) = W tl u * 2 ^ (0 + 1) := by
    unfold W
    rw [pow_s, ← Int.mul_assoc]
    rfl
  have c0 : cmpM (num tl u * 2 ^ (ex tl u + 1)) (2 ^ (ex tl u + 1)) (W tl u * 2 ^ (0 + 1)) false = 0 := by
    unfold cmpM
    rw [if_pos eN]
    rfl
  have key : (lap sc tl (num tl u) (lea sc tl + (ex tl u : Nat)) - lea sc tl) * 2 ^ tl + prQ (num tl u) (lap sc tl (num tl u) (lea sc tl + (ex tl u : Nat)) - (lea sc tl + (ex tl u : Nat))) = u := by
    have L0 := F.lo0
    rcases Int.lt_trichotomy ((lap sc tl (num tl u) (lea sc tl + (ex tl u : Nat)) - lea sc tl) * 2 ^ tl + prQ (num tl u) (lap sc tl (num tl u) (lea sc tl + (ex tl u : Nat)) - (lea sc tl + (ex tl u : Nat)))) u with c | c | c
    · have := F.gt u c
      rw [c0] at this
      cases this
    · exact c
    · have g := F.le _ L0 (Int.le_refl _)
      have hm := W_mono (t := tl) (Int.le_of_lt h0) c
      have := cmp_lt (N := num tl u * 2 ^ (ex tl u + 1)) (Mo := 2 ^ (ex tl u + 1)) (V := W tl ((lap sc tl (num tl u) (lea sc tl + (ex tl u : Nat)) - lea sc tl) * 2 ^ tl + prQ (num tl u) (lap sc tl (num tl u) (lea sc tl + (ex tl u : Nat)) - (lea sc tl + (ex tl u : Nat)))) * 2 ^ (0 + 1)) (more := false) (by rw [eN]; exact Int.mul_lt_mul_of_pos_right hm (pow_pos' _)) (fun z => nomatch z)
      rw [this] at g
      omega
  have rest := F.just.mp (by rw [key]; exact c0)
  have hg : ∀ x, gup w s x 0 = false := fun x => by
    unfold gup
    split
    · rfl
    · rfl
  have hs : siz sc tl s (num tl u) (lea sc tl + (ex tl u : Nat)) w false = u := by
    unfold siz mny
    rw [rest, hg, if_neg Bool.false_ne_true]
    exact key
  have e1 : wrd sc tl 0 (2 ^ sc - 1 - 1) (2 ^ tl - 1) = (2 ^ sc - 1) * 2 ^ tl - 1 := by
    unfold wrd
    rw [Int.sub_mul (2 ^ sc - 1) 1, Int.one_mul]
    omega
  unfold rnd
  rw [if_neg (show ¬ num tl u = 0 by omega), hs, if_neg (by rw [e1]; omega), rest]
  unfold flg wrd
  rw [if_pos rfl, Int.zero_mul, Int.add_zero, Int.add_zero]
end GR
namespace GZ
open PySem PySem.Spec PyProof.Rows L2
section
variable {X : Cx} {pos : Pos}
/-! ### a field as one of several targets; keyword-only parameters that are all written -/
def gFld (K : PySem.W.Frag) (to : TE) (f : Str) : TG := fun y σ H Q => to σ H fun x H2 => ∃ a C dx fs, x = .ref a ∧ H2 a = some (.ins C dx fs) ∧ Cls K C ∧ NoAttr K C f ∧ fs.length < 1000 ∧ Q σ (upd H2 a (.ins C dx (putF f y fs)))
theorem pg_attr {o : Expr} {f : Str} {to : TE} (ho : PE X o to)
    (hd : ∀ y, assign (.Attribute o f pos) X.env y = (do
      let ov ← holding [y] (eval o X.env)
      standAt pos.atName
      holding [y, ov] (setAttr ov f y)
      release [y, ov] []) := by intro _; rfl) : PG X (.Attribute o f pos) (gFld X.K to f) := by
  refine ⟨fun pins s σ H y u Q I ry h => ?_⟩
  rw [hd]
  refine wpAny_bind (wpAny_holding (thn (ho.run pins s σ H _ I h) fun ov s1 hh => ?_))
  obtain ⟨x, H1, I1, rx, a, C, dx, fs, ex, ea, c, n, l, q⟩ := hh
  subst ex
  have eov : ov = Value.ref a := rx
  subst eov
  refine wpAny_bind (wpAny_standAt (wpAny_bind (wpAny_holding (setattr_ok I1 ea c n l ry fun s2 I2 => ?_))))
  exact wpAny_release ⟨σ, _, I2, q⟩
end
theorem kbn_full {K : PySem.W.Frag} {x qual : Str} {st : Stmt} {kV doc pm cdv ct : Value} {an : Option Addr} {ps ks : List Str} {n : Nat}
    (h : ∀ us ws : List Value, us.length = n → ws.length = ks.length → bindArgs (PySem.W.fnOf x qual (defArgs st) (defBody st) (defScope st) .none kV doc pm an cdv ct) ⟨us, ks.zip ws⟩ = pure (ps.zip (us ++ ws))) :
    KBn K (PySem.W.fnOf x qual (defArgs st) (defBody st) (defScope st) .none kV doc pm an cdv ct) ps n ks (fun us ws => us ++ ws) (fun vs zs => vs ++ zs) where
  to := fun s us ws _ l1 l2 => .of_eq (h us ws l1 l2)
  rel := fun r1 r2 => r1.append r2
theorem val0 (t : Tok) : Vals [V.int 0] [Value.int 0 t] := .cons ⟨_, rfl⟩ .nil
/-! ### keyword-only parameters -/
theorem kbn_of {K : PySem.W.Frag} {x qual : Str} {st : Stmt} {D : Addr} {an : Option Addr} {doc pm cdv ct : Value} {ps ks : List Str} {n : Nat} {ml : List (Str × Value)} {g : List Value → List Value → List Value} {gV : List V → List V → List V} (hml : ∀ q ∈ ml, PySem.W.nsIn K D q.1 = some (some q.2))
    (h : ∀ us ws : List Value, us.length = n → ws.length = ks.length → KwChain D ml (bindArgs (PySem.W.fnOf x qual (defArgs st) (defBody st) (defScope st) .none (.ref D) doc pm an cdv ct) ⟨us, ks.zip ws⟩) (ps.zip (g us ws)))
    (rel : ∀ {vs : List V} {us : List Value} {zs : List V} {ws : List Value}, vs.length = n → zs.length = ks.length → Vals vs us → Vals zs ws → Vals (gV vs zs) (g us ws)) :
    ∀ (s : Shared) (us ws : List Value), K.In s.heap → us.length = n → ws.length = ks.length → BindsTo s (PySem.W.fnOf x qual (defArgs st) (defBody st) (defScope st) .none (.ref D) doc pm an cdv ct) ⟨us, ks.zip ws⟩ (ps.zip (g us ws)) :=
  fun s us ws X l1 l2 => BindsTo.of_looks fun M => KwChain.looks X hml (h us ws l1 l2)
theorem bnd_of {K : PySem.W.Frag} {x qual : Str} {st : Stmt} {D : Addr} {an : Option Addr} {doc pm cdv ct : Value} {ps : List Str} {ml : List (Str × Value)} {ds : List Value} (hml : ∀ q ∈ ml, PySem.W.nsIn K D q.1 = some (some q.2))
    (h : ∀ us : List Value, us.length + ds.length = ps.length → KwChain D ml (bindArgs (PySem.W.fnOf x qual (defArgs st) (defBody st) (defScope st) .none (.ref D) doc pm an cdv ct) ⟨us, []⟩) (ps.zip (us ++ ds))) :
    Binds K (PySem.W.fnOf x qual (defArgs st) (defBody st) (defScope st) .none (.ref D) doc pm an cdv ct) ps ds := fun s us X hl => by
  rw [List.length_append] at hl
  exact BindsTo.of_looks fun M => KwChain.looks X hml (h us hl)
/-! ### a def whose defaults aren't asked for -/
structure FunA (K : PySem.W.Frag) (x qual : Str) (st : Stmt) (f : Addr) (fd : FuncData) : Prop where
  ex : ∃ (oc : Value) (od : Option Addr) (dV kV doc pm : Value) (an : Option Addr) (cdv ct : Value) (osl : Array (Option Value)),
    fd = PySem.W.fnOf x qual (defArgs st) (defBody st) (defScope st) dV kV doc pm an cdv ct ∧ K.lookup f = some ⟨oc, od, .func fd, osl⟩ ∧ PySem.W.codeIn K cdv qual = true
  kp : PySem.W.keepIn K (.ref f) = true
theorem FunA.ok {P : Program} {w : World} {K : PySem.W.Frag} {mg : Str → Option Value} {base : Heap} {x qual : Str} {st : Stmt} {f : Addr} {fd : FuncData} {N ps : List Str} {k : Nat} {sp : Sp} (F : FunA K x qual st f fd) (S : FnScope N ps (defScope st)) (len : ∀ vs H Q E, sp vs H Q E → vs.length = ps.length)
    (hbody : ∀ (cdv : Value) (A : Around) (outer : List Env) (s : Shared) (H : Hp) (vs : List V) (Q : VK) (E : XK), Room k (A.deeper (envOfC qual (defScope st) s.heap.objs.size f cdv)) → sp vs H Q E →
      ∃ t, PSs (cxOf CX0 P w K mg base N qual (defScope st) f cdv A outer s H E).nox (defBody st) t ∧ t { nx := fun _ H' => Q .non H', rt := Q } (start N vs) H) : FnOk P w K mg base CX0 (k + 1) f fd ps sp := by
  obtain ⟨oc, od, dV, kV, doc, pm, an, cdv, ct, osl, rfl, lk, hcd⟩ := F.ex
  refine fn_of lk hcd S len fun A outer s H vs Q E hr hsp => ?_
  obtain ⟨t, h, q⟩ := hbody cdv A outer s H vs Q E hr hsp
  exact ⟨t, h.nox, q⟩
theorem bindsA {K : PySem.W.Frag} {x qual : Str} {st : Stmt} {f T : Addr} {oc oT vT : Value} {od an dT : Option Addr} {osl sT : Array (Option Value)} {kV doc pm cdv ct : Value} {nT : Nat} {ps : List Str} (l : K.lookup f = some ⟨oc, od, .func (PySem.W.fnOf x qual (defArgs st) (defBody st) (defScope st) (.ref T) kV doc pm an cdv ct), osl⟩)
    (lT : K.lookup T = some ⟨oT, dT, .seq #[vT] nT, sT⟩)
    (h : ∀ (kV doc pm : Value) (an : Option Addr) (cdv ct : Value) (us : List Value), us.length = ps.length → ∃ k, bindArgs (PySem.W.fnOf x qual (defArgs st) (defBody st) (defScope st) (.ref T) kV doc pm an cdv ct) ⟨us, []⟩ = seqItems? (.ref T) >>= k ∧ k (some #[vT]) = pure (ps.zip us)) : Binds K (PySem.W.fnOf x qual (defArgs st) (defBody st) (defScope st) (.ref T) kV doc pm an cdv ct) ps [] := by
  intro s us X hl
  rw [List.append_nil] at hl ⊢
  obtain ⟨k, e1, e2⟩ := h kV doc pm an cdv ct us hl
  refine BindsTo.of_looks fun M => ?_
  rw [e1]
  exact looks_items X lT rfl (.of_pure e2)
theorem bindsAD {K : PySem.W.Frag} {x qual : Str} {st : Stmt} {f T : Addr} {oc oT vT : Value} {od an dT : Option Addr} {osl sT : Array (Option Value)} {kV doc pm cdv ct : Value} {nT : Nat} {ps : List Str} (l : K.lookup f = some ⟨oc, od, .func (PySem.W.fnOf x qual (defArgs st) (defBody st) (defScope st) (.ref T) kV doc pm an cdv ct), osl⟩)
    (lT : K.lookup T = some ⟨oT, dT, .seq #[vT] nT, sT⟩)
    (h : ∀ (kV doc pm : Value) (an : Option Addr) (cdv ct : Value) (us : List Value), us.length + 1 = ps.length → ∃ k, bindArgs (PySem.W.fnOf x qual (defArgs st) (defBody st) (defScope st) (.ref T) kV doc pm an cdv ct) ⟨us, []⟩ = seqItems? (.ref T) >>= k ∧ k (some #[vT]) = pure (ps.zip (us ++ [vT]))) : Binds K (PySem.W.fnOf x qual (defArgs st) (defBody st) (defScope st) (.ref T) kV doc pm an cdv ct) ps [vT] := by
  intro s us X hl
  rw [List.length_append] at hl
  obtain ⟨k, e1, e2⟩ := h kV doc pm an cdv ct us hl
  refine BindsTo.of_looks fun M => ?_
  rw [e1]
  exact looks_items X lT rfl (.of_pure e2)
theorem kbindsA {x1 : Str} {K : PySem.W.Frag} {x qual : Str} {st : Stmt} {f T : Addr} {oc oT vT : Value} {od an dT : Option Addr} {osl sT : Array (Option Value)} {kV doc pm cdv ct : Value} {nT : Nat} {ps : List Str} (l : K.lookup f = some ⟨oc, od, .func (PySem.W.fnOf x qual (defArgs st) (defBody st) (defScope st) (.ref T) kV doc pm an cdv ct), osl⟩)
    (lT : K.lookup T = some ⟨oT, dT, .seq #[vT] nT, sT⟩)
    (h : ∀ (kV doc pm : Value) (an : Option Addr) (cdv ct u w : Value), ∃ k, bindArgs (PySem.W.fnOf x qual (defArgs st) (defBody st) (defScope st) (.ref T) kV doc pm an cdv ct) ⟨[u], [(x1, w)]⟩ = seqItems? (.ref T) >>= k ∧ k (some #[vT]) = pure (ps.zip [u, w])) : KBn K (PySem.W.fnOf x qual (defArgs st) (defBody st) (defScope st) (.ref T) kV doc pm an cdv ct) ps 1 [x1] (fun us ws => us ++ ws) (fun us ws => us ++ ws) := by
  refine ⟨fun s us ws X l1 l2 => ?_, fun r1 r2 => r1.append r2⟩
  match us, ws, l1, l2 with
  | [u], [w], _, _ =>
    obtain ⟨k, e1, e2⟩ := h kV doc pm an cdv ct u w
    refine BindsTo.of_looks fun M => ?_
    show PySem.W.Looks M s.heap (bindArgs (PySem.W.fnOf x qual (defArgs st) (defBody st) (defScope st) (.ref T) kV doc pm an cdv ct) ⟨[u], [(x1, w)]⟩) (ps.zip [u, w])
    rw [e1]
    exact looks_items X lT rfl (.of_pure e2)
theorem funA_mk {K : PySem.W.Frag} {x qual : Str} {st : Stmt} {f : Addr} {oc : Value} {od an : Option Addr} {osl : Array (Option Value)} {dV kV doc pm cdv ct : Value} (l : K.lookup f = some ⟨oc, od, .func (PySem.W.fnOf x qual (defArgs st) (defBody st) (defScope st) dV kV doc pm an cdv ct), osl⟩)
    (c : PySem.W.codeIn K cdv qual = true) (k : PySem.W.keepIn K (.ref f) = true) : FunA K x qual st f (PySem.W.fnOf x qual (defArgs st) (defBody st) (defScope st) dV kV doc pm an cdv ct) := ⟨⟨oc, od, dV, kV, doc, pm, an, cdv, ct, osl, rfl, l, c⟩, k⟩
section
variable {P : Program} {w : World} {K : PySem.W.Frag} {mg : Str → Option Value} {base : Heap}
theorem cutG {Cd A : Int → Int → Hp → Prop} {B : Prop} (h1 : ∀ n p H, Cd n p H → A n p H) (h2 : (∀ n p H, Cd n p H → A n p H) → B) : B := h2 h1
theorem cutA {Cd A : Addr → Hp → Prop} {B : Prop} (h1 : ∀ a H, Cd a H → A a H) (h2 : (∀ a H, Cd a H → A a H) → B) : B := h2 h1
theorem cutH {H : Hp} {A : Hp → Prop} {B : Prop} (h1 : ∀ H', Same H H' → A H') (h2 : (∀ H', Same H H' → A H') → B) : B := h2 h1
theorem cutP {A B : Prop} (h1 : A) (h2 : A → B) : B := h2 h1
theorem gB {i : Nat} {v u : Bool} {σ : L2.St} {H : Hp} {D : L2.St → Hp → Prop} (e : v = u) (h : gName i (V.bl u) σ H D) : gName i (V.bl v) σ H D := e ▸ h
theorem gI {i : Nat} {v u : Int} {σ : L2.St} {H : Hp} {D : L2.St → Hp → Prop} (e : v = u) (h : gName i (V.int u) σ H D) : gName i (V.int v) σ H D := e ▸ h
theorem dvi (a b : Int) : decide (V.int a = V.int b) = decide (a = b) := by
  by_cases c : a = b
  · rw [decide_eq_true c, decide_eq_true (congrArg V.int c)]
  · rw [decide_eq_false c, decide_eq_false (fun z => c (V.int.inj z))]
theorem dvs (a b : Str) : decide (V.str a = V.str b) = decide (a = b) := by
  by_cases c : a = b
  · rw [decide_eq_true c, decide_eq_true (congrArg V.str c)]
  · rw [decide_eq_false c, decide_eq_false (fun z => c (V.str.inj z))]
theorem bx1 {c : Int} {H : Hp} {b : Addr} (h : BoxAt (c + 2 ^ (1 - 1)) H b) : BoxAt (c + 1) H b := h
theorem Keep.none {b p : Addr} {H H' : Hp} (k : Keep b H H') (n : p ≠ b) (h : H' p = none) : H p = none := by
  cases q : H p with
  | none => rfl
  | some o =>
    rw [k p o q n] at h
    cases h
theorem dp_ints {H : Hp} : ∀ ds : List Int, DpAll K H (ds.map V.int) (ds.map PyData.int)
  | [] => .nil
  | d :: ds => .cons (.int d) (dp_ints ds)
theorem lv_ints {n : Nat} (ds : List Int) (h : ds.length ≤ 1000) : Lv (n + 1) (.list (ds.map PyData.int)) := by
  refine ⟨by rw [List.length_map]; omega, fun d hd => ?_⟩
  obtain ⟨x, _, rfl⟩ := List.mem_map.mp hd
  cases n <;> trivial
theorem eqv_ints (ds : List Int) : PyData.eqv (.list (ds.map PyData.int)) (.list (ds.map PyData.int)) = true := PySem.SeqAt.eqv_refl _ (PySem.SeqAt.canLay_of_shaped (PySem.W.shaped_ints ds))
/-! ### a form -/
/-- at x stands a Form of these two -/
def FAt (C : Addr) (H : Hp) (x : Addr) (sc tl : Nat) : Prop := ∃ dx, H x = some (.ins C dx [("scale", .int (sc : Int)), ("tail", .int (tl : Int))]) ∧ 2 ≤ sc ∧ sc ≤ 8 ∧ 1 ≤ tl ∧ tl ≤ 24
theorem FAt.keep {C : Addr} {b : Addr} {H H' : Hp} {x : Addr} {sc tl : Nat} (h : FAt C H x sc tl) (k : Keep b H H') (n : x ≠ b) : FAt C H' x sc tl := by
  obtain ⟨dx, e, r⟩ := h
  exact ⟨dx, k _ _ e n, r⟩
theorem FAt.same {C : Addr} {H H' : Hp} {x : Addr} {sc tl : Nat} (h : FAt C H x sc tl) (s : Same H H') : FAt C H' x sc tl := by
  obtain ⟨dx, e, r⟩ := h
  exact ⟨dx, s _ _ e, r⟩
structure FT (K : PySem.W.Frag) (mg : Str → Option Value) (C : Addr) : Prop where
  cl : Cls K C
  ns : NoAttr K C "scale"
  nt : NoAttr K C "tail"
  mgC : mg "Form" = some (.ref C)
theorem fl_s (a b : V) : List.lookup ("scale" : Str) ([("scale", a), ("tail", b)] : List (Str × V)) = some a := rfl
theorem fl_t (a b : V) : List.lookup ("tail" : Str) ([("scale", a), ("tail", b)] : List (Str × V)) = some b := rfl
/-- Form(scale, tail) makes one -/
theorem made {C : Addr} {H : Hp} {x dx : Addr} (nx : H x = none) (nd : H dx = none) (ne : dx ≠ x) {H' : Hp} (k : ∀ p o, (upd (upd H dx (.own x)) x (.ins C dx [])) p = some o → p ≠ x → H' p = some o) : Same H H' := fun p o e =>
  k p o (by rw [upd_ne (ne_of_none e nx), upd_ne (ne_of_none e nd)]; exact e) (ne_of_none e nx)
structure CT2 (K : PySem.W.Frag) (mg : Str → Option Value) (CD : Addr) : Prop where
  cl : Cls K CD
  n_form : NoAttr K CD "form"
  n_one : NoAttr K CD "one"
  n_two : NoAttr K CD "two"
  n_way : NoAttr K CD "way"
  n_signed : NoAttr K CD "signed"
  n_told : NoAttr K CD "told"
  n_due : NoAttr K CD "due"
  n_over : NoAttr K CD "over"
  n_by : NoAttr K CD "by"
  n_power : NoAttr K CD "power"
  mgC : mg "Divider" = some (.ref CD)
structure LL (K : PySem.W.Frag) (mg : Str → Option Value) (C : Addr) (CD : Addr) (a1 a2 a3 a4 a5 a6 a7 a8 a9 a10 a11 a12 a13 a14 a15 a16 a17 a18 a19 a20 a21 a22 a23 a24 a25 a26 a27 a28 a29 a30 a31 a32 a33 a34 a35 a36 a37 a38 a39 a40 a41 a42 a43 a44 a45 a46 a47 a48 : Addr) (l1 l2 l3 l4 l5 l6 l7 l8 l9 l10 l11 l12 l13 l14 l15 l16 l17 l18 l19 l20 l21 l22 l23 l24 l25 l26 l27 l28 l29 l30 l31 l32 l33 l34 l35 l36 l37 l38 l39 l40 l41 l42 l43 l44 l45 l46 l47 l48 : FuncData) (t34 t35 t36 tg_NEAR tg_CUT tg_UP : Tok) : Prop where
  F_worth_of : Fun K "worth_of" "worth_of" s_worth_of a1 l1
  m_worth_of : mg "worth_of" = some (.ref a1)
  b_worth_of : Binds K l1 ["digits"] []
  F_is_number : Fun K "is_number" "is_number" s_is_number a2 l2
  m_is_number : mg "is_number" = some (.ref a2)
  b_is_number : Binds K l2 ["thing"] []
  F_is_number_in : Fun K "is_number_in" "is_number_in" s_is_number_in a3 l3
  m_is_number_in : mg "is_number_in" = some (.ref a3)
  b_is_number_in : Binds K l3 ["least", "greatest", "thing"] []
  F_cut_off : Fun K "cut_off" "cut_off" s_cut_off a4 l4
  m_cut_off : mg "cut_off" = some (.ref a4)
  b_cut_off : Binds K l4 ["number", "by"] []
  F_last_power : Fun K "last_power" "last_power" s_last_power a5 l5
  m_last_power : mg "last_power" = some (.ref a5)
  b_last_power : Binds K l5 ["form", "number", "power"] []
  F_least_power : Fun K "least_power" "least_power" s_least_power a6 l6
  m_least_power : mg "least_power" = some (.ref a6)
  b_least_power : Binds K l6 ["form"] []
  F_rounded : Fun K "rounded" "rounded" s_rounded a7 l7
  m_rounded : mg "rounded" = some (.ref a7)
  kb_rounded_way : ∃ g, KBn K l7 ["form", "sign", "number", "power", "way", "more"] 4 ["way"] g (fun vs zs => vs ++ (zs ++ [.bl false]))
  kb_rounded_way_more : ∃ g, KBn K l7 ["form", "sign", "number", "power", "way", "more"] 4 ["way", "more"] g (fun vs zs => vs ++ zs)
  F_parted : Fun K "parted" "parted" s_parted a8 l8
  m_parted : mg "parted" = some (.ref a8)
  b_parted : Binds K l8 ["number", "by", "more"] []
  F_goes_up : Fun K "goes_up" "goes_up" s_goes_up a9 l9
  m_goes_up : mg "goes_up" = some (.ref a9)
  b_goes_up : Binds K l9 ["way", "sign", "many", "rest"] []
  F_goes_away : Fun K "goes_away" "goes_away" s_goes_away a10 l10
  m_goes_away : mg "goes_away" = some (.ref a10)
  b_goes_away : Binds K l10 ["way", "sign"] []
  F_word_beyond : Fun K "word_beyond" "word_beyond" s_word_beyond a11 l11
  m_word_beyond : mg "word_beyond" = some (.ref a11)
  b_word_beyond : Binds K l11 ["form", "sign", "way"] []
  F_flags_of_rest : Fun K "flags_of_rest" "flags_of_rest" s_flags_of_rest a12 l12
  m_flags_of_rest : mg "flags_of_rest" = some (.ref a12)
  b_flags_of_rest : Binds K l12 ["form", "number", "power", "rest"] []
  F_divided : Fun K "divided" "divided" s_divided a13 l13
  m_divided : mg "divided" = some (.ref a13)
  kb_divided_way : ∃ g, KBn K l13 ["form", "a", "b", "way"] 3 ["way"] g (fun vs zs => vs ++ zs)
  F_has_none : Fun K "has_none" "has_none" s_has_none a14 l14
  m_has_none : mg "has_none" = some (.ref a14)
  b_has_none : Binds K l14 ["form", "words"] []
  F_bad : Fun K "bad" "bad" s_bad a15 l15
  m_bad : mg "bad" = some (.ref a15)
  b_bad : Binds K l15 ["form"] []
  F_sign_of : Fun K "sign_of" "sign_of" s_sign_of a16 l16
  m_sign_of : mg "sign_of" = some (.ref a16)
  b_sign_of : Binds K l16 ["form", "word"] []
  F_unlike_sign : Fun K "unlike_sign" "unlike_sign" s_unlike_sign a17 l17
  m_unlike_sign : mg "unlike_sign" = some (.ref a17)
  b_unlike_sign : Binds K l17 ["form", "a", "b"] []
  F_quotient_rounded : Fun K "quotient_rounded" "quotient_rounded" s_quotient_rounded a18 l18
  m_quotient_rounded : mg "quotient_rounded" = some (.ref a18)
  b_quotient_rounded : Binds K l18 ["form", "sign", "one", "other", "way"] []
  F_have_heads : Fun K "have_heads" "have_heads" s_have_heads a19 l19
  m_have_heads : mg "have_heads" = some (.ref a19)
  b_have_heads : Binds K l19 ["form", "words"] []
  F_head_of : Fun K "head_of" "head_of" s_head_of a20 l20
  m_head_of : mg "head_of" = some (.ref a20)
  b_head_of : Binds K l20 ["form", "word"] []
  F_full_head : Fun K "full_head" "full_head" s_full_head a21 l21
  m_full_head : mg "full_head" = some (.ref a21)
  b_full_head : Binds K l21 ["form", "word"] []
  F__law_box : Fun K "_law_box" "_law_box" sBox a22 l22
  m__law_box : mg "_law_box" = some (.ref a22)
  b__law_box : Binds K l22 ["_law_script", "_law_k"] []
  F__law_take : Fun K "_law_take" "_law_take" sTake a23 l23
  m__law_take : mg "_law_take" = some (.ref a23)
  b__law_take : Binds K l23 ["_law_box_here", "_law_size"] []
  F__law_folded : Fun K "_law_folded" "_law_folded" sFolded a24 l24
  m__law_folded : mg "_law_folded" = some (.ref a24)
  b__law_folded : Binds K l24 ["_law_script", "_law_size"] []
  F__law_same : Fun K "_law_same" "_law_same" sSame a25 l25
  m__law_same : mg "_law_same" = some (.ref a25)
  b__law_same : Binds K l25 ["_law_found", "_law_due"] []
  F__law_known : Fun K "_law_known" "_law_known" s__law_known a26 l26
  m__law_known : mg "_law_known" = some (.ref a26)
  b__law_known : Binds K l26 [] []
  F__law_division_right : Fun K "_law_division_right" "_law_division_right" s__law_division_right a27 l27
  m__law_division_right : mg "_law_division_right" = some (.ref a27)
  b__law_division_right : Binds K l27 ["_law_row", "_law_signs", "_law_mode"] []
  T : FT K mg C
  M : Mk K C a28
  F_Form___init__ : Fun K "__init__" "Form.__init__" s_Form___init__ a28 l28
  b_Form___init__ : Binds K l28 ["self", "scale", "tail"] []
  F_Form_bias : Fun K "bias" "Form.bias" s_Form_bias a29 l29
  b_Form_bias : Binds K l29 ["self"] []
  M_Form_bias : Meth K C "bias" a29
  F_Form_top : Fun K "top" "Form.top" s_Form_top a30 l30
  b_Form_top : Binds K l30 ["self"] []
  M_Form_top : Meth K C "top" a30
  F_Form_parts : Fun K "parts" "Form.parts" s_Form_parts a31 l31
  b_Form_parts : Binds K l31 ["self", "word"] []
  M_Form_parts : Meth K C "parts" a31
  F_Form_word_of : Fun K "word_of" "Form.word_of" s_Form_word_of a32 l32
  b_Form_word_of : Binds K l32 ["self", "sign", "scale", "tail"] []
  M_Form_word_of : Meth K C "word_of" a32
  F_Form_sort_of : Fun K "sort_of" "Form.sort_of" s_Form_sort_of a33 l33
  b_Form_sort_of : Binds K l33 ["self", "word"] []
  M_Form_sort_of : Meth K C "sort_of" a33
  F_Form_nought : FunA K "nought" "Form.nought" s_Form_nought a34 l34
  b_Form_nought : Binds K l34 ["self", "sign"] []
  M_Form_nought : Meth K C "nought" a34
  d_Form_nought : Binds K l34 ["self", "sign"] [.int 0 t34]
  F_Form_endless : FunA K "endless" "Form.endless" s_Form_endless a35 l35
  b_Form_endless : Binds K l35 ["self", "sign"] []
  M_Form_endless : Meth K C "endless" a35
  d_Form_endless : Binds K l35 ["self", "sign"] [.int 0 t35]
  F_Form_greatest : FunA K "greatest" "Form.greatest" s_Form_greatest a36 l36
  b_Form_greatest : Binds K l36 ["self", "sign"] []
  M_Form_greatest : Meth K C "greatest" a36
  d_Form_greatest : Binds K l36 ["self", "sign"] [.int 0 t36]
  F_Form_none_word : Fun K "none_word" "Form.none_word" s_Form_none_word a37 l37
  b_Form_none_word : Binds K l37 ["self"] []
  M_Form_none_word : Meth K C "none_word" a37
  F_Form_worth : Fun K "worth" "Form.worth" s_Form_worth a38 l38
  b_Form_worth : Binds K l38 ["self", "word"] []
  M_Form_worth : Meth K C "worth" a38
  T2 : CT2 K mg CD
  M2 : Mk K CD a39
  F_Divider___init__ : Fun K "__init__" "Divider.__init__" s_Divider___init__ a39 l39
  kb_Divider___init__ : ∃ g, KBn K l39 ["self", "form", "a", "b", "way", "signed"] 4 ["way", "signed"] g (fun vs zs => vs ++ zs)
  F_Divider_begin : Fun K "begin" "Divider.begin" s_Divider_begin a40 l40
  b_Divider_begin : Binds K l40 ["self"] []
  M_Divider_begin : Meth K CD "begin" a40
  F_Divider_step : Fun K "step" "Divider.step" s_Divider_step a41 l41
  b_Divider_step : Binds K l41 ["self"] []
  M_Divider_step : Meth K CD "step" a41
  F_Divider_digit_by : Fun K "digit_by" "Divider.digit_by" s_Divider_digit_by a42 l42
  b_Divider_digit_by : Binds K l42 ["self", "rest"] []
  M_Divider_digit_by : Meth K CD "digit_by" a42
  F_Divider_digits : Fun K "digits" "Divider.digits" s_Divider_digits a43 l43
  b_Divider_digits : Binds K l43 ["self"] []
  M_Divider_digits : Meth K CD "digits" a43
  F_Divider_quotient : Fun K "quotient" "Divider.quotient" s_Divider_quotient a44 l44
  b_Divider_quotient : Binds K l44 ["self"] []
  M_Divider_quotient : Meth K CD "quotient" a44
  F_Divider_rest : Fun K "rest" "Divider.rest" s_Divider_rest a45 l45
  b_Divider_rest : Binds K l45 ["self"] []
  M_Divider_rest : Meth K CD "rest" a45
  F_Divider_divisor : Fun K "divisor" "Divider.divisor" s_Divider_divisor a46 l46
  b_Divider_divisor : Binds K l46 ["self"] []
  M_Divider_divisor : Meth K CD "divisor" a46
  F_Divider_left : Fun K "left" "Divider.left" s_Divider_left a47 l47
  b_Divider_left : Binds K l47 ["self"] []
  M_Divider_left : Meth K CD "left" a47
  F_Divider_outcome : Fun K "outcome" "Divider.outcome" s_Divider_outcome a48 l48
  b_Divider_outcome : Binds K l48 ["self"] []
  M_Divider_outcome : Meth K CD "outcome" a48
  g_NEAR : mg "NEAR" = some (.str "near" tg_NEAR)
  g_CUT : mg "CUT" = some (.str "cut" tg_CUT)
  g_UP : mg "UP" = some (.str "up" tg_UP)
variable {C : Addr} {CD : Addr} {a1 a2 a3 a4 a5 a6 a7 a8 a9 a10 a11 a12 a13 a14 a15 a16 a17 a18 a19 a20 a21 a22 a23 a24 a25 a26 a27 a28 a29 a30 a31 a32 a33 a34 a35 a36 a37 a38 a39 a40 a41 a42 a43 a44 a45 a46 a47 a48 : Addr} {l1 l2 l3 l4 l5 l6 l7 l8 l9 l10 l11 l12 l13 l14 l15 l16 l17 l18 l19 l20 l21 l22 l23 l24 l25 l26 l27 l28 l29 l30 l31 l32 l33 l34 l35 l36 l37 l38 l39 l40 l41 l42 l43 l44 l45 l46 l47 l48 : FuncData} {t34 t35 t36 tg_NEAR tg_CUT tg_UP : Tok}

/-! ### is_number, is_number_in -/
inductive Th (K : PySem.W.Frag) (H : Hp) : V → Prop
  | non : Th K H .non
  | bl (b : Bool) : Th K H (.bl b)
  | int (i : Int) : Th K H (.int i)
  | str (x : Str) : Th K H (.str x)
def isI : V → Bool
  | .int _ => true
  | _ => false
def numIn (a b : Int) : V → Bool
  | .int z => decide (a ≤ z) && decide (z ≤ b)
  | _ => false
def spNum (K : PySem.W.Frag) : Sp := fun vs H Q _ => ∃ x : V, vs = [x] ∧ Th K H x ∧ Q (.bl (isI x)) H
theorem ok_is_number (B : Bl mg) (L : LL K mg C CD a1 a2 a3 a4 a5 a6 a7 a8 a9 a10 a11 a12 a13 a14 a15 a16 a17 a18 a19 a20 a21 a22 a23 a24 a25 a26 a27 a28 a29 a30 a31 a32 a33 a34 a35 a36 a37 a38 a39 a40 a41 a42 a43 a44 a45 a46 a47 a48 l1 l2 l3 l4 l5 l6 l7 l8 l9 l10 l11 l12 l13 l14 l15 l16 l17 l18 l19 l20 l21 l22 l23 l24 l25 l26 l27 l28 l29 l30 l31 l32 l33 l34 l35 l36 l37 l38 l39 l40 l41 l42 l43 l44 l45 l46 l47 l48 t34 t35 t36 tg_NEAR tg_CUT tg_UP) : FnOk P w K mg base CX0 1 a2 l2 ["thing"] (spNum K) := by
  refine L.F_is_number.ok sc_is_number (fun vs H Q E h => ?_) (fun cdv A outer s H vs Q E hr h => ?_)
  · obtain ⟨x, rfl, _⟩ := h
    rfl
  obtain ⟨x, rfl, hx, q⟩ := h
  refine ⟨_, (pss_one (ps_ret (pe_and (pe_callB call_isi (by rfl) B.isinstance boot_isinstance (pa_cons (pv 0) (pa_cons (pe_bltn (v := .ty "int") (by rfl) B.int PyProof.Rows.boot_int rfl) pa_nil))) (pe_one (pe_not (pe_callB call_isi (by rfl) B.isinstance boot_isinstance (pa_cons (pv 0) (pa_cons (pe_bltn (v := .ty "bool") (by rfl) B.bool PyProof.Rows.boot_bool rfl) pa_nil)))))))), ?_⟩
  cases hx with
  | non => exact ⟨_, rfl, _, _, _, _, _, rfl, .ty _, .base .non, kit_ty (by decide +kernel : kitB "NoneType" "int" = some false), _, rfl, iteF q⟩
  | bl b =>
    refine ⟨_, rfl, _, _, _, _, _, rfl, .ty _, .base (.bl _), kit_ty (by decide +kernel : kitB "bool" "int" = some true), _, rfl, iteT ?_⟩
    exact ⟨_, rfl, _, _, _, _, _, rfl, .ty _, .base (.bl _), kit_ty (by decide +kernel : kitB "bool" "bool" = some true), _, rfl, q⟩
  | int i =>
    refine ⟨_, rfl, _, _, _, _, _, rfl, .ty _, .base (.int _), kit_ty (by decide +kernel : kitB "int" "int" = some true), _, rfl, iteT ?_⟩
    exact ⟨_, rfl, _, _, _, _, _, rfl, .ty _, .base (.int _), kit_ty (by decide +kernel : kitB "int" "bool" = some false), _, rfl, q⟩
  | str z => exact ⟨_, rfl, _, _, _, _, _, rfl, .ty _, .base (.str _), kit_ty (by decide +kernel : kitB "str" "int" = some false), _, rfl, iteF q⟩
def spNumIn (K : PySem.W.Frag) : Sp := fun vs H Q _ => ∃ (a b : Int) (x : V), vs = [.int a, .int b, x] ∧ Th K H x ∧ Q (.bl (numIn a b x)) H
theorem ok_is_number_in (B : Bl mg) (L : LL K mg C CD a1 a2 a3 a4 a5 a6 a7 a8 a9 a10 a11 a12 a13 a14 a15 a16 a17 a18 a19 a20 a21 a22 a23 a24 a25 a26 a27 a28 a29 a30 a31 a32 a33 a34 a35 a36 a37 a38 a39 a40 a41 a42 a43 a44 a45 a46 a47 a48 l1 l2 l3 l4 l5 l6 l7 l8 l9 l10 l11 l12 l13 l14 l15 l16 l17 l18 l19 l20 l21 l22 l23 l24 l25 l26 l27 l28 l29 l30 l31 l32 l33 l34 l35 l36 l37 l38 l39 l40 l41 l42 l43 l44 l45 l46 l47 l48 t34 t35 t36 tg_NEAR tg_CUT tg_UP) : FnOk P w K mg base CX0 2 a3 l3 ["least", "greatest", "thing"] (spNumIn K) := by
  have G_is_number : FnOk P w K mg base CX0 1 a2 l2 ["thing"] (spNum K) := (ok_is_number B L).mono (by decide)
  refine L.F_is_number_in.ok sc_is_number_in (fun vs H Q E h => ?_) (fun cdv A outer s H vs Q E hr h => ?_)
  · obtain ⟨a, b, x, rfl, _⟩ := h
    rfl
  obtain ⟨a, b, x, rfl, hx, q⟩ := h
  refine ⟨_, (pss_one (ps_ret (pe_and (pe_call G_is_number hr (by rfl) L.m_is_number L.F_is_number.kp L.b_is_number .nil pass0 (pa_cons (pv 2) pa_nil)) (pe_one (pe_chain op_le op_le (pv 0) (pv 2) (pv 1)))))), ?_⟩
  refine ⟨_, rfl, _, rfl, hx, _, rfl, ?_⟩
  cases hx with
  | non => exact iteF q
  | bl b => exact iteF q
  | str z => exact iteF q
  | int z =>
    refine iteT ?_
    refine ⟨_, rfl, _, rfl, _, _, rfl, rfl, _, rfl, ite2 (fun c => ?_) (fun c => ?_)⟩
    · refine ⟨_, rfl, _, _, rfl, rfl, ?_⟩
      rw [show numIn a b (.int z) = decide (z ≤ b) by show (decide (a ≤ z) && decide (z ≤ b)) = _; rw [c]; rfl] at q
      exact q
    · rw [show numIn a b (.int z) = false by show (decide (a ≤ z) && decide (z ≤ b)) = _; rw [Bool.eq_false_iff.mpr c]; rfl] at q
      exact q
/-! ### Form(scale, tail) and its words -/
def spInit (C : Addr) : Sp := fun vs H Q _ => ∃ (x dx : Addr) (sc tl : Nat), vs = [.ref x, .int (sc : Int), .int (tl : Int)] ∧ H x = some (.ins C dx []) ∧ 2 ≤ sc ∧ sc ≤ 8 ∧ 1 ≤ tl ∧ tl ≤ 24 ∧
  ∀ H', FAt C H' x sc tl → (∀ p o, H p = some o → p ≠ x → H' p = some o) → Q .non H'
theorem numIn_t {a b z : Int} (h1 : a ≤ z) (h2 : z ≤ b) : numIn a b (.int z) = true := by
  show (decide (a ≤ z) && decide (z ≤ b)) = true
  rw [decide_eq_true h1, decide_eq_true h2]
  rfl
theorem ok_Form___init__ (B : Bl mg) (L : LL K mg C CD a1 a2 a3 a4 a5 a6 a7 a8 a9 a10 a11 a12 a13 a14 a15 a16 a17 a18 a19 a20 a21 a22 a23 a24 a25 a26 a27 a28 a29 a30 a31 a32 a33 a34 a35 a36 a37 a38 a39 a40 a41 a42 a43 a44 a45 a46 a47 a48 l1 l2 l3 l4 l5 l6 l7 l8 l9 l10 l11 l12 l13 l14 l15 l16 l17 l18 l19 l20 l21 l22 l23 l24 l25 l26 l27 l28 l29 l30 l31 l32 l33 l34 l35 l36 l37 l38 l39 l40 l41 l42 l43 l44 l45 l46 l47 l48 t34 t35 t36 tg_NEAR tg_CUT tg_UP) : FnOk P w K mg base CX0 3 a28 l28 ["self", "scale", "tail"] (spInit C) := by
  have G_is_number_in : FnOk P w K mg base CX0 2 a3 l3 ["least", "greatest", "thing"] (spNumIn K) := (ok_is_number_in B L).mono (by decide)
  refine L.F_Form___init__.ok sc_Form___init__ (fun vs H Q E h => ?_) (fun cdv A outer s H vs Q E hr h => ?_)
  · obtain ⟨x, dx, sc, tl, rfl, _⟩ := h
    rfl
  obtain ⟨x, dx, sc, tl, rfl, hx, h1, h2, h3, h4, q⟩ := h
  refine ⟨_, (pss_cons (ps_if (pt_not (pt_val (pe_call G_is_number_in hr (by rfl) L.m_is_number_in L.F_is_number_in.kp L.b_is_number_in .nil pass0 (pa_cons pe_int (pa_cons pe_int (pa_cons (pv 1) pa_nil)))))) (pss_one ps_never) pss_nil)
    (pss_cons (ps_if (pt_not (pt_val (pe_call G_is_number_in hr (by rfl) L.m_is_number_in L.F_is_number_in.kp L.b_is_number_in .nil pass0 (pa_cons pe_int (pa_cons pe_int (pa_cons (pv 2) pa_nil)))))) (pss_one ps_never) pss_nil)
    (pss_cons (ps_fld (pv 0) (pv 1) rfl)
    (pss_one (ps_fld (pv 0) (pv 2) rfl))))), ?_⟩
  refine ⟨_, rfl, _, _, _, rfl, .int _, ?_⟩
  rw [numIn_t (by omega) (by omega)]
  refine ⟨_, rfl, iteF ?_⟩
  refine ⟨_, rfl, _, _, _, rfl, .int _, ?_⟩
  rw [numIn_t (by omega) (by omega)]
  refine ⟨_, rfl, iteF ?_⟩
  refine ⟨_, rfl, _, rfl, x, C, dx, _, rfl, hx, L.T.cl, L.T.ns, (by decide), ?_⟩
  refine ⟨_, rfl, _, rfl, x, C, dx, _, rfl, upd_same, L.T.cl, L.T.nt, (by show 1 < 1000; decide), ?_⟩
  refine q _ ⟨dx, upd_same, h1, h2, h3, h4⟩ fun p o e n => ?_
  rw [upd_ne n, upd_ne n]
  exact e
def spBias (C : Addr) : Sp := fun vs H Q _ => ∃ (x : Addr) (sc tl : Nat), vs = [.ref x] ∧ FAt C H x sc tl ∧ Q (.int (2 ^ (sc - 1) - 1)) H
theorem ok_Form_bias (B : Bl mg) (L : LL K mg C CD a1 a2 a3 a4 a5 a6 a7 a8 a9 a10 a11 a12 a13 a14 a15 a16 a17 a18 a19 a20 a21 a22 a23 a24 a25 a26 a27 a28 a29 a30 a31 a32 a33 a34 a35 a36 a37 a38 a39 a40 a41 a42 a43 a44 a45 a46 a47 a48 l1 l2 l3 l4 l5 l6 l7 l8 l9 l10 l11 l12 l13 l14 l15 l16 l17 l18 l19 l20 l21 l22 l23 l24 l25 l26 l27 l28 l29 l30 l31 l32 l33 l34 l35 l36 l37 l38 l39 l40 l41 l42 l43 l44 l45 l46 l47 l48 t34 t35 t36 tg_NEAR tg_CUT tg_UP) : FnOk P w K mg base CX0 1 a29 l29 ["self"] (spBias C) := by
  refine L.F_Form_bias.ok sc_Form_bias (fun vs H Q E h => ?_) (fun cdv A outer s H vs Q E hr h => ?_)
  · obtain ⟨x, sc, tl, rfl, _⟩ := h
    rfl
  obtain ⟨x, sc, tl, rfl, ⟨dx, hx, h1, h2, h3, h4⟩, q⟩ := h
  refine ⟨_, (pss_one (ps_ret (pe_op op_sub (pe_op op_oneShl pe_int (pe_op op_sub (pe_fld (pv 0) rfl) pe_int)) pe_int))), ?_⟩
  exact ⟨_, rfl, x, C, dx, _, _, rfl, hx, L.T.cl, L.T.ns, fl_s _ _, _, _, rfl, rfl, sc - 1, rfl, congrArg V.int (by omega), by omega, _, _, rfl, rfl, q⟩
def spTop (C : Addr) : Sp := fun vs H Q _ => ∃ (x : Addr) (sc tl : Nat), vs = [.ref x] ∧ FAt C H x sc tl ∧ Q (.int (2 ^ sc - 1)) H
theorem ok_Form_top (B : Bl mg) (L : LL K mg C CD a1 a2 a3 a4 a5 a6 a7 a8 a9 a10 a11 a12 a13 a14 a15 a16 a17 a18 a19 a20 a21 a22 a23 a24 a25 a26 a27 a28 a29 a30 a31 a32 a33 a34 a35 a36 a37 a38 a39 a40 a41 a42 a43 a44 a45 a46 a47 a48 l1 l2 l3 l4 l5 l6 l7 l8 l9 l10 l11 l12 l13 l14 l15 l16 l17 l18 l19 l20 l21 l22 l23 l24 l25 l26 l27 l28 l29 l30 l31 l32 l33 l34 l35 l36 l37 l38 l39 l40 l41 l42 l43 l44 l45 l46 l47 l48 t34 t35 t36 tg_NEAR tg_CUT tg_UP) : FnOk P w K mg base CX0 1 a30 l30 ["self"] (spTop C) := by
  refine L.F_Form_top.ok sc_Form_top (fun vs H Q E h => ?_) (fun cdv A outer s H vs Q E hr h => ?_)
  · obtain ⟨x, sc, tl, rfl, _⟩ := h
    rfl
  obtain ⟨x, sc, tl, rfl, ⟨dx, hx, h1, h2, h3, h4⟩, q⟩ := h
  refine ⟨_, (pss_one (ps_ret (pe_op op_sub (pe_op op_oneShl pe_int (pe_fld (pv 0) rfl)) pe_int))), ?_⟩
  exact ⟨_, rfl, x, C, dx, _, _, rfl, hx, L.T.cl, L.T.ns, fl_s _ _, sc, rfl, rfl, by omega, _, _, rfl, rfl, q⟩
def spWordOf (C : Addr) : Sp := fun vs H Q _ => ∃ (x : Addr) (sc tl : Nat) (s m t : Int), vs = [.ref x, .int s, .int m, .int t] ∧ FAt C H x sc tl ∧ (s = 0 ∨ s = 1) ∧ 0 ≤ m ∧ m < 2 ^ sc ∧ 0 ≤ t ∧ t < 2 ^ tl ∧ Q (.int (s * 2 ^ (sc + tl) + (m * 2 ^ tl + t))) H
theorem ok_Form_word_of (B : Bl mg) (L : LL K mg C CD a1 a2 a3 a4 a5 a6 a7 a8 a9 a10 a11 a12 a13 a14 a15 a16 a17 a18 a19 a20 a21 a22 a23 a24 a25 a26 a27 a28 a29 a30 a31 a32 a33 a34 a35 a36 a37 a38 a39 a40 a41 a42 a43 a44 a45 a46 a47 a48 l1 l2 l3 l4 l5 l6 l7 l8 l9 l10 l11 l12 l13 l14 l15 l16 l17 l18 l19 l20 l21 l22 l23 l24 l25 l26 l27 l28 l29 l30 l31 l32 l33 l34 l35 l36 l37 l38 l39 l40 l41 l42 l43 l44 l45 l46 l47 l48 t34 t35 t36 tg_NEAR tg_CUT tg_UP) : FnOk P w K mg base CX0 1 a32 l32 ["self", "sign", "scale", "tail"] (spWordOf C) := by
  refine L.F_Form_word_of.ok sc_Form_word_of (fun vs H Q E h => ?_) (fun cdv A outer s H vs Q E hr h => ?_)
  · obtain ⟨x, sc, tl, s, m, t, rfl, _⟩ := h
    rfl
  obtain ⟨x, sc, tl, s, m, t, rfl, ⟨dx, hx, h1, h2, h3, h4⟩, hs, m0, m1, t0, t1, q⟩ := h
  refine ⟨_, (pss_one (ps_ret (pe_op op_orL (pe_op op_orL (pe_op op_shlN (pv 1) (pe_op op_add (pe_fld (pv 0) rfl) (pe_fld (pv 0) rfl))) (pe_op op_shlN (pv 2) (pe_fld (pv 0) rfl))) (pv 3)))), ?_⟩
  have p8 : (2 : Int) ^ sc ≤ 2 ^ 8 := GM.pow_le' h2
  have hp := GM.pow_pos' tl
  have hms : m * 2 ^ tl < 2 ^ (sc + tl) := by
    rw [GM.pow_add']
    exact Int.mul_lt_mul_of_pos_right m1 hp
  refine ⟨_, rfl, _, rfl, x, C, dx, _, _, rfl, hx, L.T.cl, L.T.ns, fl_s _ _, _, rfl, x, C, dx, _, _, rfl, hx, L.T.cl, L.T.nt, fl_t _ _, _, _, rfl, rfl, _, sc + tl, rfl, rfl, shl_ok (n := 1) (by omega) (by omega), ?_⟩
  refine ⟨_, rfl, _, rfl, x, C, dx, _, _, rfl, hx, L.T.cl, L.T.nt, fl_t _ _, _, tl, rfl, rfl, shl_ok (n := 9) (by omega) (by omega), ?_⟩
  refine ⟨s, _, sc + tl, rfl, rfl, ⟨by omega, Int.mul_nonneg m0 (by omega), hms⟩, ?_⟩
  have e : s * 2 ^ (sc + tl) + m * 2 ^ tl = (s * 2 ^ sc + m) * 2 ^ tl := by
    rw [GM.pow_add', Int.add_mul, Int.mul_assoc]
  refine ⟨_, rfl, s * 2 ^ sc + m, t, tl, congrArg V.int e, rfl, ⟨?_, t0, t1⟩, ?_⟩
  · have := GM.pow_pos' sc
    rcases hs with z | z <;> subst z <;> omega
  rw [← e, Int.add_assoc]
  exact q
/-- a named word: its sign, scale and tail -/
def spNm (C : Addr) (m t : Nat → Nat → Int) : Sp := fun vs H Q _ => ∃ (x : Addr) (sc tl : Nat) (g : Int), vs = [.ref x, .int g] ∧ FAt C H x sc tl ∧ (g = 0 ∨ g = 1) ∧ Q (.int (g * 2 ^ (sc + tl) + (m sc tl * 2 ^ tl + t sc tl))) H
def mNo : Nat → Nat → Int := fun _ _ => 0
def mEn : Nat → Nat → Int := fun sc _ => 2 ^ sc - 1
def mGr : Nat → Nat → Int := fun sc _ => 2 ^ sc - 1 - 1
def tGr : Nat → Nat → Int := fun _ tl => 2 ^ tl - 1
theorem ok_Form_nought (B : Bl mg) (L : LL K mg C CD a1 a2 a3 a4 a5 a6 a7 a8 a9 a10 a11 a12 a13 a14 a15 a16 a17 a18 a19 a20 a21 a22 a23 a24 a25 a26 a27 a28 a29 a30 a31 a32 a33 a34 a35 a36 a37 a38 a39 a40 a41 a42 a43 a44 a45 a46 a47 a48 l1 l2 l3 l4 l5 l6 l7 l8 l9 l10 l11 l12 l13 l14 l15 l16 l17 l18 l19 l20 l21 l22 l23 l24 l25 l26 l27 l28 l29 l30 l31 l32 l33 l34 l35 l36 l37 l38 l39 l40 l41 l42 l43 l44 l45 l46 l47 l48 t34 t35 t36 tg_NEAR tg_CUT tg_UP) : FnOk P w K mg base CX0 2 a34 l34 ["self", "sign"] (spNm C mNo mNo) := by
  have G_Form_word_of : FnOk P w K mg base CX0 1 a32 l32 ["self", "sign", "scale", "tail"] (spWordOf C) := (ok_Form_word_of B L).mono (by decide)
  refine L.F_Form_nought.ok sc_Form_nought (fun vs H Q E h => ?_) (fun cdv A outer s H vs Q E hr h => ?_)
  · obtain ⟨x, sc, tl, v, rfl, _⟩ := h
    rfl
  obtain ⟨x, sc, tl, g, rfl, hF, hg, q⟩ := h
  obtain ⟨dx, hx, h1, h2, h3, h4⟩ := id hF
  have pS := GM.pow_pos' sc
  have pT := GM.pow_pos' tl
  refine ⟨_, (pss_one (ps_ret (pe_meth (pv 0) L.T.cl L.M_Form_word_of G_Form_word_of hr L.b_Form_word_of .nil pass0 (pa_cons (pv 1) (pa_cons pe_int (pa_cons pe_int pa_nil)))))), ?_⟩
  exact ⟨_, rfl, x, dx, _, rfl, hx, rfl, _, rfl, x, sc, tl, _, _, _, rfl, hF, hg, by decide, pS, by decide, pT, q⟩
theorem ok_Form_endless (B : Bl mg) (L : LL K mg C CD a1 a2 a3 a4 a5 a6 a7 a8 a9 a10 a11 a12 a13 a14 a15 a16 a17 a18 a19 a20 a21 a22 a23 a24 a25 a26 a27 a28 a29 a30 a31 a32 a33 a34 a35 a36 a37 a38 a39 a40 a41 a42 a43 a44 a45 a46 a47 a48 l1 l2 l3 l4 l5 l6 l7 l8 l9 l10 l11 l12 l13 l14 l15 l16 l17 l18 l19 l20 l21 l22 l23 l24 l25 l26 l27 l28 l29 l30 l31 l32 l33 l34 l35 l36 l37 l38 l39 l40 l41 l42 l43 l44 l45 l46 l47 l48 t34 t35 t36 tg_NEAR tg_CUT tg_UP) : FnOk P w K mg base CX0 2 a35 l35 ["self", "sign"] (spNm C mEn mNo) := by
  have G_Form_word_of : FnOk P w K mg base CX0 1 a32 l32 ["self", "sign", "scale", "tail"] (spWordOf C) := (ok_Form_word_of B L).mono (by decide)
  have G_Form_top : FnOk P w K mg base CX0 1 a30 l30 ["self"] (spTop C) := (ok_Form_top B L).mono (by decide)
  refine L.F_Form_endless.ok sc_Form_endless (fun vs H Q E h => ?_) (fun cdv A outer s H vs Q E hr h => ?_)
  · obtain ⟨x, sc, tl, v, rfl, _⟩ := h
    rfl
  obtain ⟨x, sc, tl, g, rfl, hF, hg, q⟩ := h
  obtain ⟨dx, hx, h1, h2, h3, h4⟩ := id hF
  have pS := GM.pow_pos' sc
  have pT := GM.pow_pos' tl
  refine ⟨_, (pss_one (ps_ret (pe_meth (pv 0) L.T.cl L.M_Form_word_of G_Form_word_of hr L.b_Form_word_of .nil pass0 (pa_cons (pv 1) (pa_cons (pe_meth0 (pv 0) L.T.cl L.M_Form_top G_Form_top hr L.b_Form_top .nil pass0) (pa_cons pe_int pa_nil)))))), ?_⟩
  exact ⟨_, rfl, x, dx, _, rfl, hx, rfl, _, rfl, _, rfl, x, dx, _, rfl, hx, rfl, x, sc, tl, rfl, hF, x, sc, tl, _, _, _, rfl, hF, hg, by omega, by omega, by decide, pT, q⟩
theorem ok_Form_greatest (B : Bl mg) (L : LL K mg C CD a1 a2 a3 a4 a5 a6 a7 a8 a9 a10 a11 a12 a13 a14 a15 a16 a17 a18 a19 a20 a21 a22 a23 a24 a25 a26 a27 a28 a29 a30 a31 a32 a33 a34 a35 a36 a37 a38 a39 a40 a41 a42 a43 a44 a45 a46 a47 a48 l1 l2 l3 l4 l5 l6 l7 l8 l9 l10 l11 l12 l13 l14 l15 l16 l17 l18 l19 l20 l21 l22 l23 l24 l25 l26 l27 l28 l29 l30 l31 l32 l33 l34 l35 l36 l37 l38 l39 l40 l41 l42 l43 l44 l45 l46 l47 l48 t34 t35 t36 tg_NEAR tg_CUT tg_UP) : FnOk P w K mg base CX0 2 a36 l36 ["self", "sign"] (spNm C mGr tGr) := by
  have G_Form_word_of : FnOk P w K mg base CX0 1 a32 l32 ["self", "sign", "scale", "tail"] (spWordOf C) := (ok_Form_word_of B L).mono (by decide)
  have G_Form_top : FnOk P w K mg base CX0 1 a30 l30 ["self"] (spTop C) := (ok_Form_top B L).mono (by decide)
  refine L.F_Form_greatest.ok sc_Form_greatest (fun vs H Q E h => ?_) (fun cdv A outer s H vs Q E hr h => ?_)
  · obtain ⟨x, sc, tl, v, rfl, _⟩ := h
    rfl
  obtain ⟨x, sc, tl, g, rfl, hF, hg, q⟩ := h
  obtain ⟨dx, hx, h1, h2, h3, h4⟩ := id hF
  have pS : (2 : Int) ^ 2 ≤ 2 ^ sc := GM.pow_le' h1
  have pT := GM.pow_pos' tl
  refine ⟨_, (pss_one (ps_ret (pe_meth (pv 0) L.T.cl L.M_Form_word_of G_Form_word_of hr L.b_Form_word_of .nil pass0 (pa_cons (pv 1) (pa_cons (pe_op op_sub (pe_meth0 (pv 0) L.T.cl L.M_Form_top G_Form_top hr L.b_Form_top .nil pass0) pe_int) (pa_cons (pe_op op_sub (pe_op op_oneShl pe_int (pe_fld (pv 0) rfl)) pe_int) pa_nil)))))), ?_⟩
  refine ⟨_, rfl, x, dx, _, rfl, hx, rfl, _, rfl, _, rfl, x, dx, _, rfl, hx, rfl, x, sc, tl, rfl, hF, _, _, rfl, rfl, ?_⟩
  exact ⟨_, rfl, x, C, dx, _, _, rfl, hx, L.T.cl, L.T.nt, fl_t _ _, tl, rfl, rfl, by omega, _, _, rfl, rfl, x, sc, tl, _, _, _, rfl, hF, hg, by omega, by omega, by omega, by omega, q⟩
end
section
variable {P : Program} {w : World} {K : PySem.W.Frag} {mg : Str → Option Value} {base : Heap}
variable {C : Addr} {CD : Addr} {a1 a2 a3 a4 a5 a6 a7 a8 a9 a10 a11 a12 a13 a14 a15 a16 a17 a18 a19 a20 a21 a22 a23 a24 a25 a26 a27 a28 a29 a30 a31 a32 a33 a34 a35 a36 a37 a38 a39 a40 a41 a42 a43 a44 a45 a46 a47 a48 : Addr} {l1 l2 l3 l4 l5 l6 l7 l8 l9 l10 l11 l12 l13 l14 l15 l16 l17 l18 l19 l20 l21 l22 l23 l24 l25 l26 l27 l28 l29 l30 l31 l32 l33 l34 l35 l36 l37 l38 l39 l40 l41 l42 l43 l44 l45 l46 l47 l48 : FuncData} {t34 t35 t36 tg_NEAR tg_CUT tg_UP : Tok}
/-! ### numbers of no more than 4000 bits -/
def Fit (n : Int) : Prop := 0 ≤ n ∧ Builtin.Int.intBits n ≤ 4000
theorem fit_shl {n : Int} {j : Nat} (h : Fit n) (hj : j ≤ 100000) : CShl n (j : Int) := by
  refine shl_ok (n := 4000) ?_ (by omega)
  exact Nat.lt_of_lt_of_le (PyProof.Rows.natAbs_lt_pow_bits n) (Nat.pow_le_pow_right (by decide) h.2)
theorem fit_div {n : Int} {j : Nat} (h : Fit n) : Fit (n / 2 ^ j) := by
  have hp := GM.pow_pos' j
  have h0 : 0 ≤ n / 2 ^ j := Int.ediv_nonneg h.1 (by omega)
  have h1 : n / 2 ^ j ≤ n := Int.ediv_le_self _ h.1
  refine ⟨h0, ?_⟩
  refine Nat.le_trans (PyProof.Rows.intBits_le (k := Builtin.Int.intBits n) ?_) h.2
  have := PyProof.Rows.natAbs_lt_pow_bits n
  exact Nat.lt_of_le_of_lt (by omega) this
/-! ### cut_off -/
def spCut : Sp := fun vs H Q _ => ∃ n b : Int, vs = [.int n, .int b] ∧ Fit n ∧ -10000 ≤ b ∧ b ≤ 10000 ∧
  ∀ p, H p = none → Q (.ref p) (upd H p (.tup [.int (GR.cutQ n b), .bl (GR.cutR n b)]))
theorem ok_cut_off (B : Bl mg) (L : LL K mg C CD a1 a2 a3 a4 a5 a6 a7 a8 a9 a10 a11 a12 a13 a14 a15 a16 a17 a18 a19 a20 a21 a22 a23 a24 a25 a26 a27 a28 a29 a30 a31 a32 a33 a34 a35 a36 a37 a38 a39 a40 a41 a42 a43 a44 a45 a46 a47 a48 l1 l2 l3 l4 l5 l6 l7 l8 l9 l10 l11 l12 l13 l14 l15 l16 l17 l18 l19 l20 l21 l22 l23 l24 l25 l26 l27 l28 l29 l30 l31 l32 l33 l34 l35 l36 l37 l38 l39 l40 l41 l42 l43 l44 l45 l46 l47 l48 t34 t35 t36 tg_NEAR tg_CUT tg_UP) : FnOk P w K mg base CX0 1 a4 l4 ["number", "by"] spCut := by
  refine L.F_cut_off.ok sc_cut_off (fun vs H Q E h => ?_) (fun cdv A outer s H vs Q E hr h => ?_)
  · obtain ⟨n, b, rfl, _⟩ := h
    rfl
  obtain ⟨n, b, rfl, hf, h1, h2, q⟩ := h
  refine ⟨_, (pss_cons (ps_if (pt_cmpR op_lt (pv 1) pe_int (nomark _)) (pss_one (ps_ret (pe_tup (pa_cons (pe_op op_shlN (pv 0) (pe_un un_neg (pv 1))) (pa_cons pe_bl pa_nil))))) pss_nil)
    (pss_cons (ps_set (i := 2) sc_cut_off.nd rfl (.inl rfl) (pe_op op_shrN (pv 0) (pv 1)))
    (pss_one (ps_ret (pe_tup (pa_cons (pv 2) (pa_cons (pe_cmpR op_ne (pe_op op_shlN (pv 2) (pv 1)) (pv 0) (nomark _)) pa_nil))))))), ?_⟩
  refine ⟨_, rfl, _, _, rfl, rfl, _, rfl, ite2 (fun c => ?_) (fun c => ?_)⟩
  · have c1 : b < 0 := of_decide_eq_true c
    unfold GR.cutQ GR.cutR at q
    rw [if_pos c1, if_pos c1] at q
    refine ⟨_, rfl, _, rfl, _, rfl, _, (-b).toNat, rfl, congrArg V.int (by omega), fit_shl hf (by omega), (by show 2 ≤ sizeLine; decide), fun p np => ?_⟩
    exact q p np
  · have c1 : ¬ b < 0 := of_decide_eq_false (Bool.eq_false_iff.mpr c)
    unfold GR.cutQ GR.cutR at q
    rw [if_neg c1, if_neg c1] at q
    refine ⟨_, rfl, _, rfl, _, b.toNat, rfl, congrArg V.int (by omega), ?_⟩
    refine ⟨_, rfl, _, rfl, _, rfl, _, b.toNat, rfl, congrArg V.int (by omega), fit_shl (fit_div hf) (by omega), _, rfl, rfl, (by show 2 ≤ sizeLine; decide), fun p np => ?_⟩
    rw [dvi]
    exact q p np
/-! ### least_power, last_power -/
def spLea (C : Addr) : Sp := fun vs H Q _ => ∃ (x : Addr) (sc tl : Nat), vs = [.ref x] ∧ FAt C H x sc tl ∧ Q (.int (GR.lea sc tl)) H
theorem ok_least_power (B : Bl mg) (L : LL K mg C CD a1 a2 a3 a4 a5 a6 a7 a8 a9 a10 a11 a12 a13 a14 a15 a16 a17 a18 a19 a20 a21 a22 a23 a24 a25 a26 a27 a28 a29 a30 a31 a32 a33 a34 a35 a36 a37 a38 a39 a40 a41 a42 a43 a44 a45 a46 a47 a48 l1 l2 l3 l4 l5 l6 l7 l8 l9 l10 l11 l12 l13 l14 l15 l16 l17 l18 l19 l20 l21 l22 l23 l24 l25 l26 l27 l28 l29 l30 l31 l32 l33 l34 l35 l36 l37 l38 l39 l40 l41 l42 l43 l44 l45 l46 l47 l48 t34 t35 t36 tg_NEAR tg_CUT tg_UP) : FnOk P w K mg base CX0 2 a6 l6 ["form"] (spLea C) := by
  have G_Form_bias : FnOk P w K mg base CX0 1 a29 l29 ["self"] (spBias C) := (ok_Form_bias B L).mono (by decide)
  refine L.F_least_power.ok sc_least_power (fun vs H Q E h => ?_) (fun cdv A outer s H vs Q E hr h => ?_)
  · obtain ⟨x, sc, tl, rfl, _⟩ := h
    rfl
  obtain ⟨x, sc, tl, rfl, hF, q⟩ := h
  obtain ⟨dx, hx, h1, h2, h3, h4⟩ := id hF
  refine ⟨_, (pss_one (ps_ret (pe_op op_sub (pe_op op_sub pe_int (pe_meth0 (pv 0) L.T.cl L.M_Form_bias G_Form_bias hr L.b_Form_bias .nil pass0)) (pe_fld (pv 0) rfl)))), ?_⟩
  exact ⟨_, rfl, x, dx, _, rfl, hx, rfl, x, sc, tl, rfl, hF, _, _, rfl, rfl, _, rfl, x, C, dx, _, _, rfl, hx, L.T.cl, L.T.nt, fl_t _ _, _, _, rfl, rfl, q⟩
def spLap (C : Addr) : Sp := fun vs H Q _ => ∃ (x : Addr) (sc tl : Nat) (n p : Int), vs = [.ref x, .int n, .int p] ∧ FAt C H x sc tl ∧ Q (.int (GR.lap sc tl n p)) H
theorem ok_last_power (B : Bl mg) (L : LL K mg C CD a1 a2 a3 a4 a5 a6 a7 a8 a9 a10 a11 a12 a13 a14 a15 a16 a17 a18 a19 a20 a21 a22 a23 a24 a25 a26 a27 a28 a29 a30 a31 a32 a33 a34 a35 a36 a37 a38 a39 a40 a41 a42 a43 a44 a45 a46 a47 a48 l1 l2 l3 l4 l5 l6 l7 l8 l9 l10 l11 l12 l13 l14 l15 l16 l17 l18 l19 l20 l21 l22 l23 l24 l25 l26 l27 l28 l29 l30 l31 l32 l33 l34 l35 l36 l37 l38 l39 l40 l41 l42 l43 l44 l45 l46 l47 l48 t34 t35 t36 tg_NEAR tg_CUT tg_UP) : FnOk P w K mg base CX0 3 a5 l5 ["form", "number", "power"] (spLap C) := by
  have G_least_power : FnOk P w K mg base CX0 2 a6 l6 ["form"] (spLea C) := (ok_least_power B L).mono (by decide)
  refine L.F_last_power.ok sc_last_power (fun vs H Q E h => ?_) (fun cdv A outer s H vs Q E hr h => ?_)
  · obtain ⟨x, sc, tl, n, p, rfl, _⟩ := h
    rfl
  obtain ⟨x, sc, tl, n, p, rfl, hF, q⟩ := h
  obtain ⟨dx, hx, h1, h2, h3, h4⟩ := id hF
  refine ⟨_, (pss_one (ps_ret (pe_callB (call_max2 rfl) (by rfl) B.max boot_max (pa_cons (pe_op op_sub (pe_op op_sub (pe_op op_add (pe_bits (pv 1)) (pv 2)) pe_int) (pe_fld (pv 0) rfl)) (pa_cons (pe_call G_least_power hr (by rfl) L.m_least_power L.F_least_power.kp L.b_least_power .nil pass0 (pa_cons (pv 0) pa_nil)) pa_nil))))), ?_⟩
  exact ⟨_, rfl, _, rfl, _, rfl, _, _, rfl, rfl, _, _, rfl, rfl, _, rfl, x, C, dx, _, _, rfl, hx, L.T.cl, L.T.nt, fl_t _ _, _, _, rfl, rfl, _, rfl, x, sc, tl, rfl, hF, _, _, rfl, q⟩
/-! ### parted -/
def spPart : Sp := fun vs H Q _ => ∃ (n b : Int) (m : Bool), vs = [.int n, .int b, .bl m] ∧ Fit n ∧ -9999 ≤ b ∧ b ≤ 9999 ∧
  ∀ p H', H p = none → Same H H' → H' p = some (.tup [.int (GR.prQ n b), .int (GR.prR n b m)]) → Q (.ref p) H'
theorem ok_parted (B : Bl mg) (L : LL K mg C CD a1 a2 a3 a4 a5 a6 a7 a8 a9 a10 a11 a12 a13 a14 a15 a16 a17 a18 a19 a20 a21 a22 a23 a24 a25 a26 a27 a28 a29 a30 a31 a32 a33 a34 a35 a36 a37 a38 a39 a40 a41 a42 a43 a44 a45 a46 a47 a48 l1 l2 l3 l4 l5 l6 l7 l8 l9 l10 l11 l12 l13 l14 l15 l16 l17 l18 l19 l20 l21 l22 l23 l24 l25 l26 l27 l28 l29 l30 l31 l32 l33 l34 l35 l36 l37 l38 l39 l40 l41 l42 l43 l44 l45 l46 l47 l48 t34 t35 t36 tg_NEAR tg_CUT tg_UP) : FnOk P w K mg base CX0 2 a8 l8 ["number", "by", "more"] spPart := by
  have G_cut_off : FnOk P w K mg base CX0 1 a4 l4 ["number", "by"] spCut := (ok_cut_off B L).mono (by decide)
  refine L.F_parted.ok sc_parted (fun vs H Q E h => ?_) (fun cdv A outer s H vs Q E hr h => ?_)
  · obtain ⟨n, b, m, rfl, _⟩ := h
    rfl
  obtain ⟨n, b, m, rfl, hf, h1, h2, q⟩ := h
  refine ⟨_, (pss_cons (ps_asg (pe_call G_cut_off hr (by rfl) L.m_cut_off L.F_cut_off.kp L.b_cut_off .nil pass0 (pa_cons (pv 0) (pa_cons (pe_op op_sub (pv 1) pe_int) pa_nil))) (pg_tup (by rfl) (pgs_cons (pg_name (i := 3) sc_parted.nd rfl (.inl rfl)) (pgs_cons (pg_name (i := 4) sc_parted.nd rfl (.inl rfl)) pgs_nil))))
    (pss_one (ps_ret (pe_tup (pa_cons (pe_op op_shrN (pv 3) pe_int) (pa_cons (pe_op op_add (pe_op op_mul pe_int (pe_op op_andM (pv 3) pe_int)) (pe_ifExp (PW.pt (pw_or (pt_val (pv 4)) (pw_or1 (pt_val (pv 2))))) pe_int pe_int)) pa_nil)))))), ?_⟩
  refine ⟨_, rfl, _, rfl, _, _, rfl, rfl, n, b - 1, rfl, hf, by omega, by omega, fun t nt => ?_⟩
  have st := same_upd (o := .tup [.int (GR.cutQ n (b - 1)), .bl (GR.cutR n (b - 1))]) nt
  refine ⟨t, _, rfl, .inl (.inl upd_same), rfl, _, _, rfl, _, _, rfl, rfl, ?_⟩
  refine ⟨_, rfl, _, 1, rfl, rfl, _, rfl, _, 1, rfl, rfl, _, _, rfl, rfl, .inl ⟨by decide, by decide⟩, ?_⟩
  have fin : ∀ v : Int, (if (GR.cutR n (b - 1) || m) = true then (1 : Int) else 0) = v → ∀ p, (upd H t (.tup [.int (GR.cutQ n (b - 1)), .bl (GR.cutR n (b - 1))])) p = none →
      Q (.ref p) (upd (upd H t (.tup [.int (GR.cutQ n (b - 1)), .bl (GR.cutR n (b - 1))])) p (.tup [.int (GR.cutQ n (b - 1) / 2 ^ 1), .int (2 * (GR.cutQ n (b - 1) % 2 ^ 1) + v)])) := fun v hv p np => by
    refine q p _ (st.free np) (st.trans (same_upd np)) ?_
    rw [upd_same, ← hv]
    rfl
  refine ⟨_, rfl, _, rfl, ite2 (fun c => ?_) (fun c => ?_)⟩
  · refine ⟨_, _, rfl, rfl, (by show 2 ≤ sizeLine; decide), fun p np => fin 1 ?_ p np⟩
    rw [c]
    rfl
  · have c1 : GR.cutR n (b - 1) = false := Bool.eq_false_iff.mpr c
    refine ⟨_, rfl, _, rfl, ite2 (fun d => ?_) (fun d => ?_)⟩
    · refine ⟨_, _, rfl, rfl, (by show 2 ≤ sizeLine; decide), fun p np => fin 1 ?_ p np⟩
      rw [c1, d]
      rfl
    · refine ⟨_, _, rfl, rfl, (by show 2 ≤ sizeLine; decide), fun p np => fin 0 ?_ p np⟩
      rw [c1, Bool.eq_false_iff.mpr d]
      rfl
/-! ### goes_away, goes_up -/
def spAway : Sp := fun vs H Q _ => ∃ (w : Str) (s : Int), vs = [.str w, .int s] ∧ Q (.bl (GR.away w s)) H
theorem ok_goes_away (B : Bl mg) (L : LL K mg C CD a1 a2 a3 a4 a5 a6 a7 a8 a9 a10 a11 a12 a13 a14 a15 a16 a17 a18 a19 a20 a21 a22 a23 a24 a25 a26 a27 a28 a29 a30 a31 a32 a33 a34 a35 a36 a37 a38 a39 a40 a41 a42 a43 a44 a45 a46 a47 a48 l1 l2 l3 l4 l5 l6 l7 l8 l9 l10 l11 l12 l13 l14 l15 l16 l17 l18 l19 l20 l21 l22 l23 l24 l25 l26 l27 l28 l29 l30 l31 l32 l33 l34 l35 l36 l37 l38 l39 l40 l41 l42 l43 l44 l45 l46 l47 l48 t34 t35 t36 tg_NEAR tg_CUT tg_UP) : FnOk P w K mg base CX0 1 a10 l10 ["way", "sign"] spAway := by
  refine L.F_goes_away.ok sc_goes_away (fun vs H Q E h => ?_) (fun cdv A outer s H vs Q E hr h => ?_)
  · obtain ⟨w, s, rfl, _⟩ := h
    rfl
  obtain ⟨w, s, rfl, q⟩ := h
  refine ⟨_, (pss_cons (ps_if (pt_cmpR op_eq (pv 0) (pe_glob (v := .str "cut") rfl L.g_CUT ⟨_, rfl⟩) (nomark _)) (pss_one (ps_ret pe_bl)) pss_nil)
    (pss_one (ps_ret (pe_cmpR op_eq (pv 1) (pe_ifExp (pt_cmpR op_eq (pv 0) (pe_glob (v := .str "up") rfl L.g_UP ⟨_, rfl⟩) (nomark _)) pe_int pe_int) (nomark _))))), ?_⟩
  unfold GR.away at q
  refine ⟨_, rfl, rfl, _, rfl, ite2 (fun c => ?_) (fun c => ?_)⟩
  · have c1 : w = "cut" := V.str.inj (of_decide_eq_true c)
    rw [if_pos c1] at q
    exact q
  · have c1 : ¬ w = "cut" := fun z => c (decide_eq_true (by rw [z]))
    rw [if_neg c1] at q
    refine ⟨_, rfl, _, rfl, rfl, _, rfl, ite2 (fun d => ?_) (fun d => ?_)⟩
    · have d1 : w = "up" := V.str.inj (of_decide_eq_true d)
      rw [if_pos d1, ← dvi] at q
      exact ⟨rfl, q⟩
    · have d1 : ¬ w = "up" := fun z => d (decide_eq_true (by rw [z]))
      rw [if_neg d1, ← dvi] at q
      exact ⟨rfl, q⟩
def spUp : Sp := fun vs H Q _ => ∃ (w : Str) (s m r : Int), vs = [.str w, .int s, .int m, .int r] ∧ Q (.bl (GR.gup w s m r)) H
theorem ok_goes_up (B : Bl mg) (L : LL K mg C CD a1 a2 a3 a4 a5 a6 a7 a8 a9 a10 a11 a12 a13 a14 a15 a16 a17 a18 a19 a20 a21 a22 a23 a24 a25 a26 a27 a28 a29 a30 a31 a32 a33 a34 a35 a36 a37 a38 a39 a40 a41 a42 a43 a44 a45 a46 a47 a48 l1 l2 l3 l4 l5 l6 l7 l8 l9 l10 l11 l12 l13 l14 l15 l16 l17 l18 l19 l20 l21 l22 l23 l24 l25 l26 l27 l28 l29 l30 l31 l32 l33 l34 l35 l36 l37 l38 l39 l40 l41 l42 l43 l44 l45 l46 l47 l48 t34 t35 t36 tg_NEAR tg_CUT tg_UP) : FnOk P w K mg base CX0 2 a9 l9 ["way", "sign", "many", "rest"] spUp := by
  have G_goes_away : FnOk P w K mg base CX0 1 a10 l10 ["way", "sign"] spAway := (ok_goes_away B L).mono (by decide)
  refine L.F_goes_up.ok sc_goes_up (fun vs H Q E h => ?_) (fun cdv A outer s H vs Q E hr h => ?_)
  · obtain ⟨w, s, m, r, rfl, _⟩ := h
    rfl
  obtain ⟨w, s, m, r, rfl, q⟩ := h
  refine ⟨_, (pss_cons (ps_if (pt_cmpR op_eq (pv 0) (pe_glob (v := .str "near") rfl L.g_NEAR ⟨_, rfl⟩) (nomark _)) (pss_one (ps_ret (pe_or (pe_cmpR op_eq (pv 3) pe_int (nomark _)) (pe_one (pe_and (pe_cmpR op_eq (pv 3) pe_int (nomark _)) (pe_one (pe_cmpR op_eq (pe_op op_mod (pv 2) pe_int) pe_int (nomark _)))))))) pss_nil)
    (pss_one (ps_ret (pe_and (pe_cmpR op_ne (pv 3) pe_int (nomark _)) (pe_one (pe_call G_goes_away hr (by rfl) L.m_goes_away L.F_goes_away.kp L.b_goes_away .nil pass0 (pa_cons (pv 0) (pa_cons (pv 1) pa_nil)))))))), ?_⟩
  unfold GR.gup at q
  refine ⟨_, rfl, rfl, _, rfl, ite2 (fun c => ?_) (fun c => ?_)⟩
  · have c1 : w = "near" := V.str.inj (of_decide_eq_true c)
    rw [if_pos c1] at q
    refine ⟨_, rfl, rfl, _, rfl, ?_⟩
    by_cases d : r = 3
    · rw [decide_eq_true d, Bool.true_or] at q
      rw [dvi, decide_eq_true d]
      exact iteT q
    · rw [decide_eq_false d, Bool.false_or] at q
      rw [dvi, decide_eq_false d]
      refine iteF ?_
      refine ⟨_, rfl, rfl, _, rfl, ?_⟩
      by_cases e : r = 2
      · rw [decide_eq_true e, Bool.true_and, ← dvi] at q
        rw [dvi, decide_eq_true e]
        exact iteT ⟨_, rfl, _, _, rfl, rfl, (by show (0 : Int) < 2; decide), rfl, q⟩
      · rw [decide_eq_false e, Bool.false_and] at q
        rw [dvi, decide_eq_false e]
        exact iteF q
  · have c1 : ¬ w = "near" := fun z => c (decide_eq_true (by rw [z]))
    rw [if_neg c1] at q
    refine ⟨_, rfl, rfl, _, rfl, ?_⟩
    by_cases d : r = 0
    · rw [decide_eq_true d] at q
      rw [dvi, decide_eq_true d]
      exact iteF q
    · rw [decide_eq_false d] at q
      rw [dvi, decide_eq_false d]
      exact iteT ⟨_, rfl, _, rfl, _, _, rfl, q⟩
/-! ### word_beyond, flags_of_rest -/
def spBey (C : Addr) : Sp := fun vs H Q _ => ∃ (x : Addr) (sc tl : Nat) (s : Int) (w : Str), vs = [.ref x, .int s, .str w] ∧ FAt C H x sc tl ∧ (s = 0 ∨ s = 1) ∧ Q (.int (GR.bey sc tl s w)) H
theorem ok_word_beyond (B : Bl mg) (L : LL K mg C CD a1 a2 a3 a4 a5 a6 a7 a8 a9 a10 a11 a12 a13 a14 a15 a16 a17 a18 a19 a20 a21 a22 a23 a24 a25 a26 a27 a28 a29 a30 a31 a32 a33 a34 a35 a36 a37 a38 a39 a40 a41 a42 a43 a44 a45 a46 a47 a48 l1 l2 l3 l4 l5 l6 l7 l8 l9 l10 l11 l12 l13 l14 l15 l16 l17 l18 l19 l20 l21 l22 l23 l24 l25 l26 l27 l28 l29 l30 l31 l32 l33 l34 l35 l36 l37 l38 l39 l40 l41 l42 l43 l44 l45 l46 l47 l48 t34 t35 t36 tg_NEAR tg_CUT tg_UP) : FnOk P w K mg base CX0 3 a11 l11 ["form", "sign", "way"] (spBey C) := by
  have G_goes_away : FnOk P w K mg base CX0 2 a10 l10 ["way", "sign"] spAway := (ok_goes_away B L).mono (by decide)
  have G_Form_endless : FnOk P w K mg base CX0 2 a35 l35 ["self", "sign"] (spNm C mEn mNo) := (ok_Form_endless B L).mono (by decide)
  have G_Form_greatest : FnOk P w K mg base CX0 2 a36 l36 ["self", "sign"] (spNm C mGr tGr) := (ok_Form_greatest B L).mono (by decide)
  refine L.F_word_beyond.ok sc_word_beyond (fun vs H Q E h => ?_) (fun cdv A outer s H vs Q E hr h => ?_)
  · obtain ⟨x, sc, tl, s, w, rfl, _⟩ := h
    rfl
  obtain ⟨x, sc, tl, s, w, rfl, hF, hs, q⟩ := h
  obtain ⟨dx, hx, h1, h2, h3, h4⟩ := id hF
  refine ⟨_, (pss_cons (ps_if (PW.pt (pw_or (pt_cmpR op_eq (pv 2) (pe_glob (v := .str "near") rfl L.g_NEAR ⟨_, rfl⟩) (nomark _)) (pw_or1 (pt_val (pe_call G_goes_away hr (by rfl) L.m_goes_away L.F_goes_away.kp L.b_goes_away .nil pass0 (pa_cons (pv 2) (pa_cons (pv 1) pa_nil))))))) (pss_one (ps_ret (pe_meth (pv 0) L.T.cl L.M_Form_endless G_Form_endless hr L.b_Form_endless .nil pass0 (pa_cons (pv 1) pa_nil)))) pss_nil)
    (pss_one (ps_ret (pe_meth (pv 0) L.T.cl L.M_Form_greatest G_Form_greatest hr L.b_Form_greatest .nil pass0 (pa_cons (pv 1) pa_nil))))), ?_⟩
  unfold GR.bey at q
  have e1 : (decide (w = "near") || GR.away w s) = true → Q (.int (GR.wrd sc tl s (2 ^ sc - 1) 0)) H := fun z => by
    rw [if_pos z] at q
    exact q
  have e2 : ¬ (decide (w = "near") || GR.away w s) = true → Q (.int (GR.wrd sc tl s (2 ^ sc - 1 - 1) (2 ^ tl - 1))) H := fun z => by
    rw [if_neg z] at q
    exact q
  refine ⟨_, rfl, rfl, _, rfl, ite2 (fun c => ?_) (fun c => ?_)⟩
  · rw [dvs] at c
    exact ⟨_, rfl, x, dx, _, rfl, hx, rfl, _, rfl, x, sc, tl, s, rfl, hF, hs, e1 (by rw [c]; rfl)⟩
  · rw [dvs] at c
    refine ⟨_, rfl, _, rfl, _, _, rfl, _, rfl, ite2 (fun d => ?_) (fun d => ?_)⟩
    · exact ⟨_, rfl, x, dx, _, rfl, hx, rfl, _, rfl, x, sc, tl, s, rfl, hF, hs, e1 (by rw [d, Bool.or_true])⟩
    · exact ⟨_, rfl, x, dx, _, rfl, hx, rfl, _, rfl, x, sc, tl, s, rfl, hF, hs, e2 (by rw [Bool.eq_false_iff.mpr c, Bool.eq_false_iff.mpr d]; decide)⟩
def spFlg (C : Addr) : Sp := fun vs H Q _ => ∃ (x : Addr) (sc tl : Nat) (n p r : Int), vs = [.ref x, .int n, .int p, .int r] ∧ FAt C H x sc tl ∧
  ∀ t H', H t = none → Same H H' → H' t = some (.tup ((GR.flg sc n p r).map V.str)) → Q (.ref t) H'
theorem ok_flags_of_rest (B : Bl mg) (L : LL K mg C CD a1 a2 a3 a4 a5 a6 a7 a8 a9 a10 a11 a12 a13 a14 a15 a16 a17 a18 a19 a20 a21 a22 a23 a24 a25 a26 a27 a28 a29 a30 a31 a32 a33 a34 a35 a36 a37 a38 a39 a40 a41 a42 a43 a44 a45 a46 a47 a48 l1 l2 l3 l4 l5 l6 l7 l8 l9 l10 l11 l12 l13 l14 l15 l16 l17 l18 l19 l20 l21 l22 l23 l24 l25 l26 l27 l28 l29 l30 l31 l32 l33 l34 l35 l36 l37 l38 l39 l40 l41 l42 l43 l44 l45 l46 l47 l48 t34 t35 t36 tg_NEAR tg_CUT tg_UP) : FnOk P w K mg base CX0 2 a12 l12 ["form", "number", "power", "rest"] (spFlg C) := by
  have G_Form_bias : FnOk P w K mg base CX0 1 a29 l29 ["self"] (spBias C) := (ok_Form_bias B L).mono (by decide)
  refine L.F_flags_of_rest.ok sc_flags_of_rest (fun vs H Q E h => ?_) (fun cdv A outer s H vs Q E hr h => ?_)
  · obtain ⟨x, sc, tl, n, p, r, rfl, _⟩ := h
    rfl
  obtain ⟨x, sc, tl, n, p, r, rfl, hF, q⟩ := h
  obtain ⟨dx, hx, h1, h2, h3, h4⟩ := id hF
  refine ⟨_, (pss_cons (ps_if (pt_cmpR op_eq (pv 3) pe_int (nomark _)) (pss_one (ps_ret (pe_tup pa_nil))) pss_nil)
    (pss_cons (ps_if (pt_cmpR op_le (pe_op op_add (pe_bits (pv 1)) (pv 2)) (pe_op op_sub pe_int (pe_meth0 (pv 0) L.T.cl L.M_Form_bias G_Form_bias hr L.b_Form_bias .nil pass0)) (nomark _)) (pss_one (ps_ret (pe_tup (pa_cons pe_str (pa_cons pe_str pa_nil))))) pss_nil)
    (pss_one (ps_ret (pe_tup (pa_cons pe_str pa_nil)))))), ?_⟩
  unfold GR.flg at q
  refine ⟨_, rfl, rfl, _, rfl, ite2 (fun c => ?_) (fun c => ?_)⟩
  · rw [dvi] at c
    rw [if_pos (of_decide_eq_true c)] at q
    exact ⟨Nat.zero_le _, fun t nt => q t _ nt (same_upd nt) upd_same⟩
  · rw [dvi] at c
    rw [if_neg (of_decide_eq_false (Bool.eq_false_iff.mpr c))] at q
    refine ⟨_, rfl, _, rfl, _, rfl, _, _, rfl, rfl, _, rfl, x, dx, _, rfl, hx, rfl, x, sc, tl, rfl, hF, _, _, rfl, rfl, _, _, rfl, rfl, _, rfl, ite2 (fun d => ?_) (fun d => ?_)⟩
    · have d1 := of_decide_eq_true d
      unfold GR.bl at q
      rw [if_pos d1] at q
      exact ⟨(by show 2 ≤ sizeLine; decide), fun t nt => q t _ nt (same_upd nt) upd_same⟩
    · have d1 := of_decide_eq_false (Bool.eq_false_iff.mpr d)
      unfold GR.bl at q
      rw [if_neg d1] at q
      exact ⟨(by show 1 ≤ sizeLine; decide), fun t nt => q t _ nt (same_upd nt) upd_same⟩
/-! ### rounded -/
/-- at p stands a pair of a word and its flags -/
def PairAt (H : Hp) (p : Addr) (r : Int × List Str) : Prop := ∃ f, H p = some (.tup [.int r.1, .ref f]) ∧ H f = some (.tup (r.2.map V.str))
def spRnd (C : Addr) : Sp := fun vs H Q _ => ∃ (x : Addr) (sc tl : Nat) (s n p : Int) (w : Str) (m : Bool), vs = [.ref x, .int s, .int n, .int p, .str w, .bl m] ∧ FAt C H x sc tl ∧ (s = 0 ∨ s = 1) ∧ Fit n ∧ -4000 ≤ p ∧ p ≤ 4000 ∧ (m = true → n ≠ 0 ∧ p < GR.lap sc tl n p) ∧
  ∀ t H', H t = none → Same H H' → PairAt H' t (GR.rnd sc tl s n p w m) → Q (.ref t) H'
theorem lap_in {sc tl : Nat} {n p : Int} (hf : Fit n) (h1 : -4000 ≤ p) (h2 : p ≤ 4000) (hs : sc ≤ 8) (ht : tl ≤ 24) : -300 ≤ GR.lap sc tl n p ∧ GR.lap sc tl n p ≤ 8000 ∧ GR.lap sc tl n p - p ≤ 5000 ∧ -300 ≤ GR.lea sc tl ∧ GR.lea sc tl ≤ 2 ∧ GR.lea sc tl ≤ GR.lap sc tl n p := by
  have p8 : (2 : Int) ^ (sc - 1) ≤ 2 ^ 7 := GM.pow_le' (by omega)
  have p0 := GM.pow_pos' (sc - 1)
  have hb : GR.bl n ≤ 4000 := by
    have := hf.2
    unfold GR.bl
    omega
  have hb0 : 0 ≤ GR.bl n := by
    unfold GR.bl
    omega
  unfold GR.lap GR.lea
  split <;> omega
theorem cutQ_nn {n b : Int} (h : 0 ≤ n) : 0 ≤ GR.cutQ n b := by
  unfold GR.cutQ
  split
  · exact Int.mul_nonneg h (by have := GM.pow_pos' (-b).toNat; omega)
  · exact Int.ediv_nonneg h (by have := GM.pow_pos' b.toNat; omega)
theorem ok_rounded (B : Bl mg) (L : LL K mg C CD a1 a2 a3 a4 a5 a6 a7 a8 a9 a10 a11 a12 a13 a14 a15 a16 a17 a18 a19 a20 a21 a22 a23 a24 a25 a26 a27 a28 a29 a30 a31 a32 a33 a34 a35 a36 a37 a38 a39 a40 a41 a42 a43 a44 a45 a46 a47 a48 l1 l2 l3 l4 l5 l6 l7 l8 l9 l10 l11 l12 l13 l14 l15 l16 l17 l18 l19 l20 l21 l22 l23 l24 l25 l26 l27 l28 l29 l30 l31 l32 l33 l34 l35 l36 l37 l38 l39 l40 l41 l42 l43 l44 l45 l46 l47 l48 t34 t35 t36 tg_NEAR tg_CUT tg_UP) : FnOk P w K mg base CX0 4 a7 l7 ["form", "sign", "number", "power", "way", "more"] (spRnd C) := by
  have G_last_power : FnOk P w K mg base CX0 3 a5 l5 ["form", "number", "power"] (spLap C) := (ok_last_power B L).mono (by decide)
  have G_Form_nought : FnOk P w K mg base CX0 3 a34 l34 ["self", "sign"] (spNm C mNo mNo) := (ok_Form_nought B L).mono (by decide)
  have G_parted : FnOk P w K mg base CX0 3 a8 l8 ["number", "by", "more"] spPart := (ok_parted B L).mono (by decide)
  have G_goes_up : FnOk P w K mg base CX0 3 a9 l9 ["way", "sign", "many", "rest"] spUp := (ok_goes_up B L).mono (by decide)
  have G_least_power : FnOk P w K mg base CX0 3 a6 l6 ["form"] (spLea C) := (ok_least_power B L).mono (by decide)
  have G_Form_greatest : FnOk P w K mg base CX0 3 a36 l36 ["self", "sign"] (spNm C mGr tGr) := (ok_Form_greatest B L).mono (by decide)
  have G_word_beyond : FnOk P w K mg base CX0 3 a11 l11 ["form", "sign", "way"] (spBey C) := (ok_word_beyond B L).mono (by decide)
  have G_flags_of_rest : FnOk P w K mg base CX0 3 a12 l12 ["form", "number", "power", "rest"] (spFlg C) := (ok_flags_of_rest B L).mono (by decide)
  refine L.F_rounded.ok sc_rounded (fun vs H Q E h => ?_) (fun cdv A outer s H vs Q E hr h => ?_)
  · obtain ⟨x, sc, tl, s, n, p, w, m, rfl, _⟩ := h
    rfl
  obtain ⟨x, sc, tl, s, n, p, w, m, rfl, hF, hs, hf, hp1, hp2, hm, q⟩ := h
  obtain ⟨dx, hx, h1, h2, h3, h4⟩ := id hF
  refine ⟨_, (pss_cons (ps_if (PW.pt (pw_and (pt_val (pv 5)) (pw_and1 (PW.pt (pw_or (pt_cmpR op_eq (pv 2) pe_int (nomark _)) (pw_or1 (pt_cmpR op_ge (pv 3) (pe_call G_last_power hr (by rfl) L.m_last_power L.F_last_power.kp L.b_last_power .nil pass0 (pa_cons (pv 0) (pa_cons (pv 2) (pa_cons (pv 3) pa_nil)))) (nomark _)))))))) (pss_one ps_never) pss_nil)
    (pss_cons (ps_if (pt_cmpR op_eq (pv 2) pe_int (nomark _)) (pss_one (ps_ret (pe_tup (pa_cons (pe_meth (pv 0) L.T.cl L.M_Form_nought G_Form_nought hr L.b_Form_nought .nil pass0 (pa_cons (pv 1) pa_nil)) (pa_cons (pe_tup pa_nil) pa_nil))))) pss_nil)
    (pss_cons (ps_set (i := 6) sc_rounded.nd rfl (.inl rfl) (pe_call G_last_power hr (by rfl) L.m_last_power L.F_last_power.kp L.b_last_power .nil pass0 (pa_cons (pv 0) (pa_cons (pv 2) (pa_cons (pv 3) pa_nil)))))
    (pss_cons (ps_asg (pe_call G_parted hr (by rfl) L.m_parted L.F_parted.kp L.b_parted .nil pass0 (pa_cons (pv 2) (pa_cons (pe_op op_sub (pv 6) (pv 3)) (pa_cons (pv 5) pa_nil)))) (pg_tup (by rfl) (pgs_cons (pg_name (i := 7) sc_rounded.nd rfl (.inl rfl)) (pgs_cons (pg_name (i := 8) sc_rounded.nd rfl (.inl rfl)) pgs_nil))))
    (pss_cons (ps_if (pt_val (pe_call G_goes_up hr (by rfl) L.m_goes_up L.F_goes_up.kp L.b_goes_up .nil pass0 (pa_cons (pv 4) (pa_cons (pv 1) (pa_cons (pv 7) (pa_cons (pv 8) pa_nil)))))) (pss_one (ps_aug (i := 7) sc_rounded.nd rfl (.inl rfl) pe_int iop_add)) pss_nil)
    (pss_cons (ps_set (i := 9) sc_rounded.nd rfl (.inl rfl) (pe_op op_add (pe_op op_shlN (pe_op op_sub (pv 6) (pe_call G_least_power hr (by rfl) L.m_least_power L.F_least_power.kp L.b_least_power .nil pass0 (pa_cons (pv 0) pa_nil))) (pe_fld (pv 0) rfl)) (pv 7)))
    (pss_cons (ps_if (pt_cmpR op_gt (pv 9) (pe_meth0 (pv 0) L.T.cl L.M_Form_greatest G_Form_greatest hr L.d_Form_greatest (val0 _) pass0) (nomark _)) (pss_one (ps_ret (pe_tup (pa_cons (pe_call G_word_beyond hr (by rfl) L.m_word_beyond L.F_word_beyond.kp L.b_word_beyond .nil pass0 (pa_cons (pv 0) (pa_cons (pv 1) (pa_cons (pv 4) pa_nil)))) (pa_cons (pe_tup (pa_cons pe_str (pa_cons pe_str pa_nil))) pa_nil))))) pss_nil)
    (pss_one (ps_ret (pe_tup (pa_cons (pe_op op_add (pe_meth (pv 0) L.T.cl L.M_Form_nought G_Form_nought hr L.b_Form_nought .nil pass0 (pa_cons (pv 1) pa_nil)) (pv 9)) (pa_cons (pe_call G_flags_of_rest hr (by rfl) L.m_flags_of_rest L.F_flags_of_rest.kp L.b_flags_of_rest .nil pass0 (pa_cons (pv 0) (pa_cons (pv 2) (pa_cons (pv 3) (pa_cons (pv 8) pa_nil))))) pa_nil)))))))))))), ?_⟩
  obtain ⟨i1, i2, i3, i4, i5, i6⟩ := lap_in (sc := sc) (tl := tl) hf hp1 hp2 h2 h4
  -- no refusal
  apply cutP
  case h2 =>
    intro rest
    refine ⟨_, rfl, _, rfl, ite2 (fun c => ?_) (fun c => rest)⟩
    obtain ⟨m1, m2⟩ := hm c
    refine ⟨_, rfl, rfl, _, rfl, ?_⟩
    rw [dvi, decide_eq_false m1]
    refine iteF ?_
    refine ⟨_, rfl, _, rfl, _, rfl, _, rfl, x, sc, tl, n, p, rfl, hF, _, _, rfl, rfl, _, rfl, ?_⟩
    rw [decide_eq_false (by omega)]
    exact iteF rest
  unfold GR.rnd at q
  refine ⟨_, rfl, rfl, _, rfl, ite2 (fun c => ?_) (fun c => ?_)⟩
  · rw [dvi] at c
    rw [if_pos (of_decide_eq_true c)] at q
    refine ⟨_, rfl, x, dx, _, rfl, hx, rfl, _, rfl, x, sc, tl, s, rfl, hF, hs, Nat.zero_le _, fun e ne => ?_⟩
    refine ⟨(by show 2 ≤ sizeLine; decide), fun t nt => ?_⟩
    have se := same_upd (o := .tup []) ne
    have st := same_upd (o := .tup [.int (GR.wrd sc tl s 0 0), .ref e]) nt
    exact q t _ (se.free nt) (se.trans st) ⟨e, upd_same, st _ _ upd_same⟩
  rw [dvi] at c
  rw [if_neg (of_decide_eq_false (Bool.eq_false_iff.mpr c))] at q
  refine ⟨_, rfl, _, rfl, _, rfl, x, sc, tl, n, p, rfl, hF, ?_⟩
  refine ⟨_, rfl, _, rfl, _, rfl, _, _, rfl, rfl, _, rfl, n, _, m, rfl, hf, by omega, by omega, fun pr H1 npr s1 epr => ?_⟩
  refine ⟨pr, _, rfl, .inl (.inl epr), rfl, _, _, rfl, _, _, rfl, rfl, ?_⟩
  have hF1 := hF.same s1
  have hx1 := s1 _ _ hx
  -- behind the step up
  apply cutP
  case h2 =>
    intro rest
    refine ⟨_, rfl, _, rfl, _, rfl, _, rfl, w, s, _, _, rfl, _, rfl, ite2 (fun c2 => ?_) (fun c2 => ?_)⟩
    · refine ⟨_, rfl, _, _, rfl, rfl, ?_⟩
      have e : GR.prQ n (GR.lap sc tl n p - p) + 1 = GR.mny sc tl s n p w m := by
        unfold GR.mny
        rw [if_pos c2]
      dsimp only
      rw [e]
      exact rest
    · have e : GR.prQ n (GR.lap sc tl n p - p) = GR.mny sc tl s n p w m := by
        unfold GR.mny
        rw [if_neg c2]
      dsimp only
      rw [e]
      exact rest
  refine ⟨_, rfl, _, rfl, x, sc, tl, rfl, hF1, _, _, rfl, rfl, _, rfl, x, C, dx, _, _, rfl, hx1, L.T.cl, L.T.nt, fl_t _ _, _, tl, rfl, rfl, shl_ok (n := 14) (by omega) (by omega), _, rfl, _, _, rfl, rfl, ?_⟩
  refine ⟨_, rfl, _, rfl, x, dx, _, rfl, hx1, rfl, x, sc, tl, 0, rfl, hF1, .inl rfl, _, _, rfl, rfl, _, rfl, ite2 (fun c3 => ?_) (fun c3 => ?_)⟩
  · have c4 : GR.siz sc tl s n p w m > GR.wrd sc tl 0 (2 ^ sc - 1 - 1) (2 ^ tl - 1) := of_decide_eq_true c3
    rw [if_pos c4] at q
    refine ⟨_, rfl, _, rfl, _, rfl, x, sc, tl, s, w, rfl, hF1, hs, (by show 2 ≤ sizeLine; decide), fun e ne => ?_⟩
    refine ⟨(by show 2 ≤ sizeLine; decide), fun t nt => ?_⟩
    have se := same_upd (o := .tup [.str "over", .str "rounded"]) ne
    have st := same_upd (o := .tup [.int (GR.bey sc tl s w), .ref e]) nt
    exact q t _ (s1.free (se.free nt)) (s1.trans (se.trans st)) ⟨e, upd_same, st _ _ upd_same⟩
  · have c4 : ¬ GR.siz sc tl s n p w m > GR.wrd sc tl 0 (2 ^ sc - 1 - 1) (2 ^ tl - 1) := of_decide_eq_false (Bool.eq_false_iff.mpr c3)
    rw [if_neg c4] at q
    refine ⟨_, rfl, x, dx, _, rfl, hx1, rfl, _, rfl, x, sc, tl, s, rfl, hF1, hs, _, rfl, _, _, rfl, rfl, ?_⟩
    refine ⟨_, rfl, _, rfl, _, rfl, _, rfl, x, sc, tl, n, p, _, rfl, hF1, fun e H2 ne s2 ee => ?_⟩
    refine ⟨(by show 2 ≤ sizeLine; decide), fun t nt => ?_⟩
    have st := same_upd (o := .tup [.int (GR.wrd sc tl s 0 0 + GR.siz sc tl s n p w m), .ref e]) nt
    exact q t _ (s1.free (s2.free nt)) (s1.trans (s2.trans st)) ⟨e, upd_same, st _ _ ee⟩
end
section
variable {P : Program} {w : World} {K : PySem.W.Frag} {mg : Str → Option Value} {base : Heap}
variable {C : Addr} {CD : Addr} {a1 a2 a3 a4 a5 a6 a7 a8 a9 a10 a11 a12 a13 a14 a15 a16 a17 a18 a19 a20 a21 a22 a23 a24 a25 a26 a27 a28 a29 a30 a31 a32 a33 a34 a35 a36 a37 a38 a39 a40 a41 a42 a43 a44 a45 a46 a47 a48 : Addr} {l1 l2 l3 l4 l5 l6 l7 l8 l9 l10 l11 l12 l13 l14 l15 l16 l17 l18 l19 l20 l21 l22 l23 l24 l25 l26 l27 l28 l29 l30 l31 l32 l33 l34 l35 l36 l37 l38 l39 l40 l41 l42 l43 l44 l45 l46 l47 l48 : FuncData} {t34 t35 t36 tg_NEAR tg_CUT tg_UP : Tok}
/-! ### parts, sorts and worths of words -/
def spParts (C : Addr) : Sp := fun vs H Q _ => ∃ (x : Addr) (sc tl : Nat) (v : Int), vs = [.ref x, .int v] ∧ FAt C H x sc tl ∧
  ∀ p, H p = none → Q (.ref p) (upd H p (.tup [.int (GM.sgn sc tl v), .int (GM.scl sc tl v), .int (GM.tlp tl v)]))
theorem ok_Form_parts (B : Bl mg) (L : LL K mg C CD a1 a2 a3 a4 a5 a6 a7 a8 a9 a10 a11 a12 a13 a14 a15 a16 a17 a18 a19 a20 a21 a22 a23 a24 a25 a26 a27 a28 a29 a30 a31 a32 a33 a34 a35 a36 a37 a38 a39 a40 a41 a42 a43 a44 a45 a46 a47 a48 l1 l2 l3 l4 l5 l6 l7 l8 l9 l10 l11 l12 l13 l14 l15 l16 l17 l18 l19 l20 l21 l22 l23 l24 l25 l26 l27 l28 l29 l30 l31 l32 l33 l34 l35 l36 l37 l38 l39 l40 l41 l42 l43 l44 l45 l46 l47 l48 t34 t35 t36 tg_NEAR tg_CUT tg_UP) : FnOk P w K mg base CX0 2 a31 l31 ["self", "word"] (spParts C) := by
  have G_Form_top : FnOk P w K mg base CX0 1 a30 l30 ["self"] (spTop C) := (ok_Form_top B L).mono (by decide)
  refine L.F_Form_parts.ok sc_Form_parts (fun vs H Q E h => ?_) (fun cdv A outer s H vs Q E hr h => ?_)
  · obtain ⟨x, sc, tl, v, rfl, _⟩ := h
    rfl
  obtain ⟨x, sc, tl, v, rfl, hF, q⟩ := h
  obtain ⟨dx, hx, h1, h2, h3, h4⟩ := id hF
  refine ⟨_, (pss_cons (ps_set (i := 2) sc_Form_parts.nd rfl (.inl rfl) (pe_op op_andM (pe_op op_shrN (pv 1) (pe_op op_add (pe_fld (pv 0) rfl) (pe_fld (pv 0) rfl))) pe_int))
    (pss_cons (ps_set (i := 3) sc_Form_parts.nd rfl (.inl rfl) (pe_op op_andM (pe_op op_shrN (pv 1) (pe_fld (pv 0) rfl)) (pe_meth0 (pv 0) L.T.cl L.M_Form_top G_Form_top hr L.b_Form_top .nil pass0)))
    (pss_cons (ps_set (i := 4) sc_Form_parts.nd rfl (.inl rfl) (pe_op op_andM (pv 1) (pe_op op_sub (pe_op op_oneShl pe_int (pe_fld (pv 0) rfl)) pe_int)))
    (pss_one (ps_ret (pe_tup (pa_cons (pv 2) (pa_cons (pv 3) (pa_cons (pv 4) pa_nil))))))))), ?_⟩
  refine ⟨_, rfl, _, rfl, x, C, dx, _, _, rfl, hx, L.T.cl, L.T.ns, fl_s _ _, _, rfl, x, C, dx, _, _, rfl, hx, L.T.cl, L.T.nt, fl_t _ _, _, _, rfl, rfl, _, sc + tl, rfl, rfl, _, 1, rfl, rfl, ?_⟩
  refine ⟨_, rfl, _, rfl, x, C, dx, _, _, rfl, hx, L.T.cl, L.T.nt, fl_t _ _, _, tl, rfl, rfl, _, rfl, x, dx, _, rfl, hx, rfl, x, sc, tl, rfl, hF, _, sc, rfl, rfl, ?_⟩
  refine ⟨_, rfl, _, rfl, x, C, dx, _, _, rfl, hx, L.T.cl, L.T.nt, fl_t _ _, tl, rfl, rfl, by omega, _, _, rfl, rfl, _, tl, rfl, rfl, ?_⟩
  refine ⟨_, rfl, _, rfl, _, rfl, (by show 3 ≤ sizeLine; decide), fun p np => ?_⟩
  exact q p np
def srt (m t : Nat) (s : Int) : Str := if GM.topS m t ≤ s then (if s = GM.topS m t then "endless" else "none") else if s = 0 then "nought" else if s / 2 ^ t = 0 then "small" else "plain"
theorem str_ne {a b : Str} (h : decide (a = b) = false) : a ≠ b := of_decide_eq_false h
theorem srt_none (m t : Nat) (s : Int) : srt m t s = "none" ↔ GM.topS m t < s := by
  unfold srt
  constructor
  · intro h
    by_cases c : GM.topS m t ≤ s
    · rw [if_pos c] at h
      by_cases e : s = GM.topS m t
      · rw [if_pos e] at h
        exact absurd h (by decide +kernel)
      · omega
    · rw [if_neg c] at h
      by_cases e : s = 0
      · rw [if_pos e] at h
        exact absurd h (by decide +kernel)
      · rw [if_neg e] at h
        by_cases e2 : s / 2 ^ t = 0
        · rw [if_pos e2] at h
          exact absurd h (by decide +kernel)
        · rw [if_neg e2] at h
          exact absurd h (by decide +kernel)
  · intro h
    rw [if_pos (by omega), if_neg (by omega)]
theorem srt_endless {m t : Nat} {s : Int} (h : ¬ GM.topS m t < s) : srt m t s = "endless" ↔ s = GM.topS m t := by
  unfold srt
  constructor
  · intro q
    by_cases c : GM.topS m t ≤ s
    · omega
    · rw [if_neg c] at q
      by_cases e : s = 0
      · rw [if_pos e] at q
        exact absurd q (by decide +kernel)
      · rw [if_neg e] at q
        by_cases e2 : s / 2 ^ t = 0
        · rw [if_pos e2] at q
          exact absurd q (by decide +kernel)
        · rw [if_neg e2] at q
          exact absurd q (by decide +kernel)
  · intro q
    rw [if_pos (by omega), if_pos q]
theorem srt_parts {m t : Nat} (hm : 1 ≤ m) {q r : Int} (q0 : 0 ≤ q) (q1 : q < 2 ^ m) (r0 : 0 ≤ r) (r1 : r < 2 ^ t) :
    srt m t (q * 2 ^ t + r) = if q = 0 then (if r = 0 then ("nought" : Str) else ("small" : Str)) else if q = 2 ^ m - 1 then (if r = 0 then ("endless" : Str) else ("none" : Str)) else ("plain" : Str) := by
  have hp := GM.pow_pos' t
  have hm2 : (2 : Int) ^ 1 ≤ 2 ^ m := GM.pow_le' hm
  have hd : (q * 2 ^ t + r) / 2 ^ t = q := by
    rw [Int.add_comm, Int.add_mul_ediv_right _ _ (by omega), Int.ediv_eq_zero_of_lt r0 r1, Int.zero_add]
  have hT : GM.topS m t = 2 ^ m * 2 ^ t - 2 ^ t := by
    unfold GM.topS
    rw [Int.sub_mul, Int.one_mul]
  have hqt : q = 2 ^ m - 1 ∨ (q + 1) * 2 ^ t ≤ (2 ^ m - 1) * 2 ^ t := by
    by_cases e : q = 2 ^ m - 1
    · exact .inl e
    · exact .inr (Int.mul_le_mul_of_nonneg_right (by omega) (by omega))
  unfold srt
  rw [hd]
  by_cases e : q = 2 ^ m - 1
  · have et : q * 2 ^ t = GM.topS m t := by rw [e]; rfl
    rw [if_pos (show GM.topS m t ≤ q * 2 ^ t + r by omega), if_neg (show ¬ q = 0 by omega), if_pos e]
    by_cases z : r = 0
    · rw [if_pos z, if_pos (by omega)]
    · rw [if_neg z, if_neg (by omega)]
  · have hlt : (q + 1) * 2 ^ t ≤ GM.topS m t := by
      rcases hqt with z | z
      · exact absurd z e
      · exact z
    rw [Int.add_mul, Int.one_mul] at hlt
    rw [if_neg (show ¬ GM.topS m t ≤ q * 2 ^ t + r by omega)]
    by_cases z : q = 0
    · rw [if_pos z, if_pos z]
      subst z
      rw [Int.zero_mul, Int.zero_add]
    · have : 1 * 2 ^ t ≤ q * 2 ^ t := Int.mul_le_mul_of_nonneg_right (by omega) (by omega)
      rw [if_neg (show ¬ q * 2 ^ t + r = 0 by omega), if_neg z, if_neg z, if_neg e]
def sz (m t : Nat) (v : Int) : Int := v % 2 ^ (m + t)
def spSort (C : Addr) : Sp := fun vs H Q _ => ∃ (x : Addr) (sc tl : Nat) (v : Int), vs = [.ref x, .int v] ∧ FAt C H x sc tl ∧ ∀ H', Same H H' → Q (.str (srt sc tl (sz sc tl v))) H'
theorem ok_Form_sort_of (B : Bl mg) (L : LL K mg C CD a1 a2 a3 a4 a5 a6 a7 a8 a9 a10 a11 a12 a13 a14 a15 a16 a17 a18 a19 a20 a21 a22 a23 a24 a25 a26 a27 a28 a29 a30 a31 a32 a33 a34 a35 a36 a37 a38 a39 a40 a41 a42 a43 a44 a45 a46 a47 a48 l1 l2 l3 l4 l5 l6 l7 l8 l9 l10 l11 l12 l13 l14 l15 l16 l17 l18 l19 l20 l21 l22 l23 l24 l25 l26 l27 l28 l29 l30 l31 l32 l33 l34 l35 l36 l37 l38 l39 l40 l41 l42 l43 l44 l45 l46 l47 l48 t34 t35 t36 tg_NEAR tg_CUT tg_UP) : FnOk P w K mg base CX0 3 a33 l33 ["self", "word"] (spSort C) := by
  have G_Form_parts : FnOk P w K mg base CX0 2 a31 l31 ["self", "word"] (spParts C) := (ok_Form_parts B L).mono (by decide)
  have G_Form_top : FnOk P w K mg base CX0 2 a30 l30 ["self"] (spTop C) := (ok_Form_top B L).mono (by decide)
  refine L.F_Form_sort_of.ok sc_Form_sort_of (fun vs H Q E h => ?_) (fun cdv A outer s H vs Q E hr h => ?_)
  · obtain ⟨x, sc, tl, v, rfl, _⟩ := h
    rfl
  obtain ⟨x, sc, tl, v, rfl, hF, q⟩ := h
  obtain ⟨dx, hx, h1, h2, h3, h4⟩ := id hF
  refine ⟨_, (pss_cons (ps_asg (pe_meth (pv 0) L.T.cl L.M_Form_parts G_Form_parts hr L.b_Form_parts .nil pass0 (pa_cons (pv 1) pa_nil)) (pg_tup (by rfl) (pgs_cons (pg_name (i := 2) sc_Form_sort_of.nd rfl (.inl rfl)) (pgs_cons (pg_name (i := 3) sc_Form_sort_of.nd rfl (.inl rfl)) (pgs_cons (pg_name (i := 4) sc_Form_sort_of.nd rfl (.inl rfl)) pgs_nil)))))
    (pss_cons (ps_if (pt_cmpR op_eq (pv 3) pe_int (nomark _)) (pss_one (ps_ret (pe_ifExp (pt_cmpR op_eq (pv 4) pe_int (nomark _)) pe_str pe_str))) pss_nil)
    (pss_cons (ps_if (pt_cmpR op_eq (pv 3) (pe_meth0 (pv 0) L.T.cl L.M_Form_top G_Form_top hr L.b_Form_top .nil pass0) (nomark _)) (pss_one (ps_ret (pe_ifExp (pt_cmpR op_eq (pv 4) pe_int (nomark _)) pe_str pe_str))) pss_nil)
    (pss_one (ps_ret pe_str))))), ?_⟩
  refine ⟨_, rfl, x, dx, _, rfl, hx, rfl, _, rfl, x, sc, tl, v, rfl, hF, fun p np => ?_⟩
  have sp := same_upd (o := .tup [.int (GM.sgn sc tl v), .int (GM.scl sc tl v), .int (GM.tlp tl v)]) np
  refine ⟨p, _, rfl, .inl (.inl upd_same), rfl, _, _, rfl, _, _, rfl, _, _, rfl, rfl, ?_⟩
  have hs := GM.scl_nn sc tl v
  have ht := GM.tlp_nn tl v
  have q' := q _ sp
  rw [show sz sc tl v = GM.scl sc tl v * 2 ^ tl + GM.tlp tl v from (GM.scl_tlp sc tl v).symm, srt_parts (by omega) hs.1 hs.2 ht.1 ht.2] at q'
  refine ⟨_, rfl, rfl, _, rfl, ite2 (fun c => ?_) (fun c => ?_)⟩
  · have c1 : GM.scl sc tl v = 0 := V.int.inj (of_decide_eq_true c)
    rw [if_pos c1] at q'
    refine ⟨_, rfl, rfl, _, rfl, ite2 (fun d => ?_) (fun d => ?_)⟩
    · have d1 : GM.tlp tl v = 0 := V.int.inj (of_decide_eq_true d)
      rw [if_pos d1] at q'
      exact q'
    · have d1 : ¬ GM.tlp tl v = 0 := fun z => d (decide_eq_true (by rw [z]))
      rw [if_neg d1] at q'
      exact q'
  have c1 : ¬ GM.scl sc tl v = 0 := fun z => c (decide_eq_true (by rw [z]))
  rw [if_neg c1] at q'
  refine ⟨_, rfl, _, rfl, x, dx, _, rfl, sp _ _ hx, rfl, x, sc, tl, rfl, hF.same sp, rfl, _, rfl, ite2 (fun c2 => ?_) (fun c2 => ?_)⟩
  · have c3 : GM.scl sc tl v = 2 ^ sc - 1 := V.int.inj (of_decide_eq_true c2)
    rw [if_pos c3] at q'
    refine ⟨_, rfl, rfl, _, rfl, ite2 (fun d => ?_) (fun d => ?_)⟩
    · have d1 : GM.tlp tl v = 0 := V.int.inj (of_decide_eq_true d)
      rw [if_pos d1] at q'
      exact q'
    · have d1 : ¬ GM.tlp tl v = 0 := fun z => d (decide_eq_true (by rw [z]))
      rw [if_neg d1] at q'
      exact q'
  · have c3 : ¬ GM.scl sc tl v = 2 ^ sc - 1 := fun z => c2 (decide_eq_true (by rw [z]))
    rw [if_neg c3] at q'
    exact q'
theorem in_two (x a b : Str) : inV (.str x) [.str a, .str b] = decide (a = x ∨ b = x) := by
  show ((a == x) || ((b == x) || false)) = _
  rw [Bool.or_false, Bool.eq_iff_iff, Bool.or_eq_true, beq_iff_eq, beq_iff_eq, decide_eq_true_iff]
/-! ### sizes by their parts -/
theorem sz_div (m t : Nat) (v : Int) : sz m t v / 2 ^ t = GM.scl m t v := by
  have ht := GM.tlp_nn t v
  have hp := GM.pow_pos' t
  unfold sz
  rw [← GM.scl_tlp, Int.add_comm, Int.add_mul_ediv_right _ _ (by omega), Int.ediv_eq_zero_of_lt ht.1 ht.2, Int.zero_add]
theorem sz_mod (m t : Nat) (v : Int) : sz m t v % 2 ^ t = GM.tlp t v := by
  have ht := GM.tlp_nn t v
  unfold sz
  rw [← GM.scl_tlp, Int.add_comm, Int.add_mul_emod_self_right, Int.emod_eq_of_lt ht.1 ht.2]
theorem top_iff (m t : Nat) (v : Int) : GM.topS m t ≤ sz m t v ↔ GM.scl m t v = 2 ^ m - 1 := by
  have hs := GM.scl_nn m t v
  have ht := GM.tlp_nn t v
  have hp := GM.pow_pos' t
  have e : sz m t v = GM.scl m t v * 2 ^ t + GM.tlp t v := (GM.scl_tlp m t v).symm
  rw [e]
  unfold GM.topS
  constructor
  · intro h
    by_cases c : GM.scl m t v = 2 ^ m - 1
    · exact c
    · have : (GM.scl m t v + 1) * 2 ^ t ≤ (2 ^ m - 1) * 2 ^ t := Int.mul_le_mul_of_nonneg_right (by omega) (by omega)
      rw [Int.add_mul, Int.one_mul] at this
      omega
  · intro h
    rw [h]
    omega
theorem srt_top (m t : Nat) (s : Int) : (srt m t s = "endless" ∨ srt m t s = "none") ↔ GM.topS m t ≤ s := by
  constructor
  · intro h
    by_cases c : GM.topS m t < s
    · omega
    · rcases h with h | h
      · have := (srt_endless c).mp h
        omega
      · have := (srt_none m t s).mp h
        omega
  · intro h
    by_cases c : GM.topS m t < s
    · exact .inr ((srt_none m t s).mpr c)
    · exact .inl ((srt_endless c).mpr (by omega))
def P0 (sc tl : Nat) : Int := 1 - (2 ^ (sc - 1) - 1) - tl
def wn (sc tl : Nat) (v : Int) : Int := if GM.sgn sc tl v = 1 then -(GM.num tl (sz sc tl v)) else GM.num tl (sz sc tl v)
def wp (sc tl : Nat) (v : Int) : Int := P0 sc tl + (GM.ex tl (sz sc tl v) : Nat)
def spNamed0 (C : Addr) : Sp := fun vs H Q _ => ∃ (x : Addr) (sc tl : Nat), vs = [.ref x] ∧ FAt C H x sc tl ∧ Q (.int (0 * 2 ^ (sc + tl) + ((2 ^ sc - 1) * 2 ^ tl + 2 ^ (tl - 1)))) H
theorem ok_Form_none_word (B : Bl mg) (L : LL K mg C CD a1 a2 a3 a4 a5 a6 a7 a8 a9 a10 a11 a12 a13 a14 a15 a16 a17 a18 a19 a20 a21 a22 a23 a24 a25 a26 a27 a28 a29 a30 a31 a32 a33 a34 a35 a36 a37 a38 a39 a40 a41 a42 a43 a44 a45 a46 a47 a48 l1 l2 l3 l4 l5 l6 l7 l8 l9 l10 l11 l12 l13 l14 l15 l16 l17 l18 l19 l20 l21 l22 l23 l24 l25 l26 l27 l28 l29 l30 l31 l32 l33 l34 l35 l36 l37 l38 l39 l40 l41 l42 l43 l44 l45 l46 l47 l48 t34 t35 t36 tg_NEAR tg_CUT tg_UP) : FnOk P w K mg base CX0 2 a37 l37 ["self"] (spNamed0 C) := by
  have G_Form_word_of : FnOk P w K mg base CX0 1 a32 l32 ["self", "sign", "scale", "tail"] (spWordOf C) := (ok_Form_word_of B L).mono (by decide)
  have G_Form_top : FnOk P w K mg base CX0 1 a30 l30 ["self"] (spTop C) := (ok_Form_top B L).mono (by decide)
  refine L.F_Form_none_word.ok sc_Form_none_word (fun vs H Q E h => ?_) (fun cdv A outer s H vs Q E hr h => ?_)
  · obtain ⟨x, sc, tl, rfl, _⟩ := h
    rfl
  obtain ⟨x, sc, tl, rfl, hF, q⟩ := h
  obtain ⟨dx, hx, h1, h2, h3, h4⟩ := id hF
  have pS := GM.pow_pos' sc
  have pT := GM.pow_pos' tl
  have pT1 := GM.pow_pos' (tl - 1)
  have pTT : (2 : Int) ^ tl = 2 ^ (tl - 1) * 2 := by rw [← GM.pow_s]; congr 1; omega
  refine ⟨_, (pss_one (ps_ret (pe_meth (pv 0) L.T.cl L.M_Form_word_of G_Form_word_of hr L.b_Form_word_of .nil pass0 (pa_cons pe_int (pa_cons (pe_meth0 (pv 0) L.T.cl L.M_Form_top G_Form_top hr L.b_Form_top .nil pass0) (pa_cons (pe_op op_oneShl pe_int (pe_op op_sub (pe_fld (pv 0) rfl) pe_int)) pa_nil)))))), ?_⟩
  exact ⟨_, rfl, x, dx, _, rfl, hx, rfl, _, rfl, x, dx, _, rfl, hx, rfl, x, sc, tl, rfl, hF, _, rfl, x, C, dx, _, _, rfl, hx, L.T.cl, L.T.nt, fl_t _ _, _, _, rfl, rfl, tl - 1, rfl, congrArg V.int (by omega), by omega, x, sc, tl, _, _, _, rfl, hF, .inl rfl, by omega, by omega, by omega, by omega, q⟩

/-! ### worth -/
theorem if_ev {t : TT} {ta tb : TE} {σ : L2.St} {H : Hp} {Q : VK} (R : V → Hp → Prop) (h : ∀ Q : VK, (∀ z H', R z H' → Q z H') → tIf t ta tb σ H Q) (q : ∀ z H', R z H' → Q z H') : tIf t ta tb σ H Q := h Q q
def WorthQ (H : Hp) (Q : VK) (sc tl : Nat) (v : Int) : Prop := (∀ H', Same H H' → GM.topS sc tl ≤ sz sc tl v → Q .non H') ∧ ∀ H' p, Same H H' → ¬ GM.topS sc tl ≤ sz sc tl v → H' p = some (.tup [.int (wn sc tl v), .int (wp sc tl v)]) → Q (.ref p) H'
def spWorth (C : Addr) : Sp := fun vs H Q _ => ∃ (x : Addr) (sc tl : Nat) (v : Int), vs = [.ref x, .int v] ∧ FAt C H x sc tl ∧ WorthQ H Q sc tl v
theorem ok_Form_worth (B : Bl mg) (L : LL K mg C CD a1 a2 a3 a4 a5 a6 a7 a8 a9 a10 a11 a12 a13 a14 a15 a16 a17 a18 a19 a20 a21 a22 a23 a24 a25 a26 a27 a28 a29 a30 a31 a32 a33 a34 a35 a36 a37 a38 a39 a40 a41 a42 a43 a44 a45 a46 a47 a48 l1 l2 l3 l4 l5 l6 l7 l8 l9 l10 l11 l12 l13 l14 l15 l16 l17 l18 l19 l20 l21 l22 l23 l24 l25 l26 l27 l28 l29 l30 l31 l32 l33 l34 l35 l36 l37 l38 l39 l40 l41 l42 l43 l44 l45 l46 l47 l48 t34 t35 t36 tg_NEAR tg_CUT tg_UP) : FnOk P w K mg base CX0 3 a38 l38 ["self", "word"] (spWorth C) := by
  have G_Form_parts : FnOk P w K mg base CX0 2 a31 l31 ["self", "word"] (spParts C) := (ok_Form_parts B L).mono (by decide)
  have G_Form_top : FnOk P w K mg base CX0 2 a30 l30 ["self"] (spTop C) := (ok_Form_top B L).mono (by decide)
  have G_Form_bias : FnOk P w K mg base CX0 2 a29 l29 ["self"] (spBias C) := (ok_Form_bias B L).mono (by decide)
  refine L.F_Form_worth.ok sc_Form_worth (fun vs H Q E h => ?_) (fun cdv A outer s H vs Q E hr h => ?_)
  · obtain ⟨x, sc, tl, v, rfl, _⟩ := h
    rfl
  obtain ⟨x, sc, tl, v, rfl, hF, qn, qt⟩ := h
  obtain ⟨dx, hx, h1, h2, h3, h4⟩ := id hF
  refine ⟨_, (pss_cons (ps_asg (pe_meth (pv 0) L.T.cl L.M_Form_parts G_Form_parts hr L.b_Form_parts .nil pass0 (pa_cons (pv 1) pa_nil)) (pg_tup (by rfl) (pgs_cons (pg_name (i := 2) sc_Form_worth.nd rfl (.inl rfl)) (pgs_cons (pg_name (i := 3) sc_Form_worth.nd rfl (.inl rfl)) (pgs_cons (pg_name (i := 4) sc_Form_worth.nd rfl (.inl rfl)) pgs_nil)))))
    (pss_cons (ps_if (pt_cmpR op_eq (pv 3) (pe_meth0 (pv 0) L.T.cl L.M_Form_top G_Form_top hr L.b_Form_top .nil pass0) (nomark _)) (pss_one (ps_ret pe_non)) pss_nil)
    (pss_cons (ps_set (i := 5) sc_Form_worth.nd rfl (.inl rfl) (pe_ifExp (pt_cmpR op_eq (pv 3) pe_int (nomark _)) (pv 4) (pe_op op_add (pe_op op_oneShl pe_int (pe_fld (pv 0) rfl)) (pv 4))))
    (pss_cons (ps_set (i := 6) sc_Form_worth.nd rfl (.inl rfl) (pe_op op_sub (pe_op op_sub (pe_callB (call_max2 rfl) (by rfl) B.max boot_max (pa_cons (pv 3) (pa_cons pe_int pa_nil))) (pe_meth0 (pv 0) L.T.cl L.M_Form_bias G_Form_bias hr L.b_Form_bias .nil pass0)) (pe_fld (pv 0) rfl)))
    (pss_one (ps_ret (pe_tup (pa_cons (pe_ifExp (pt_cmpR op_eq (pv 2) pe_int (nomark _)) (pe_un un_neg (pv 5)) (pv 5)) (pa_cons (pv 6) pa_nil))))))))), ?_⟩
  refine ⟨_, rfl, x, dx, _, rfl, hx, rfl, _, rfl, x, sc, tl, v, rfl, hF, fun p np => ?_⟩
  have sp := same_upd (o := .tup [.int (GM.sgn sc tl v), .int (GM.scl sc tl v), .int (GM.tlp tl v)]) np
  refine ⟨p, _, rfl, .inl (.inl upd_same), rfl, _, _, rfl, _, _, rfl, _, _, rfl, rfl, ?_⟩
  have hs := GM.scl_nn sc tl v
  refine ⟨_, rfl, _, rfl, x, dx, _, rfl, sp _ _ hx, rfl, x, sc, tl, rfl, hF.same sp, rfl, _, rfl, ite2 (fun c => ?_) (fun c => ?_)⟩
  · have c1 : GM.scl sc tl v = 2 ^ sc - 1 := V.int.inj (of_decide_eq_true c)
    exact qn _ sp ((top_iff sc tl v).mpr c1)
  have c1 : ¬ GM.scl sc tl v = 2 ^ sc - 1 := fun z => c (decide_eq_true (by rw [z]))
  have c2 : ¬ GM.topS sc tl ≤ sz sc tl v := fun z => c1 ((top_iff sc tl v).mp z)
  try dsimp only [tNext, tSeq, tAsg]
  refine if_ev (fun z H' => z = .int (GM.num tl (sz sc tl v)) ∧ H' = upd H p (.tup [.int (GM.sgn sc tl v), .int (GM.scl sc tl v), .int (GM.tlp tl v)])) (fun Q' q' => ?_) ?_
  · refine ⟨_, rfl, rfl, _, rfl, ite2 (fun d => ?_) (fun d => ?_)⟩
    · have d1 : GM.scl sc tl v = 0 := V.int.inj (of_decide_eq_true d)
      refine ⟨_, rfl, q' _ _ ⟨congrArg V.int ?_, rfl⟩⟩
      unfold GM.num
      rw [sz_div, sz_mod, if_pos d1]
    · have d1 : ¬ GM.scl sc tl v = 0 := fun z => d (decide_eq_true (by rw [z]))
      refine ⟨_, rfl, x, C, dx, _, _, rfl, sp _ _ hx, L.T.cl, L.T.nt, fl_t _ _, tl, rfl, rfl, by omega, _, rfl, _, _, rfl, rfl, q' _ _ ⟨congrArg V.int ?_, rfl⟩⟩
      unfold GM.num
      rw [sz_div, sz_mod, if_neg d1]
  rintro z H' ⟨rfl, rfl⟩
  refine ⟨_, rfl, _, _, rfl, _, rfl, x, dx, _, rfl, sp _ _ hx, rfl, x, sc, tl, rfl, hF.same sp, _, _, rfl, rfl, _, rfl, x, C, dx, _, _, rfl, sp _ _ hx, L.T.cl, L.T.nt, fl_t _ _, _, _, rfl, rfl, ?_⟩
  have ep : (if (1 : Int) > GM.scl sc tl v then 1 else GM.scl sc tl v) - (2 ^ (sc - 1) - 1) - (tl : Int) = wp sc tl v := by
    unfold wp P0 GM.ex
    rw [sz_div]
    split <;> omega
  dsimp only
  rw [ep]
  try dsimp only [gName, tRet, tTup, tCons]
  refine if_ev (fun z H' => z = .int (wn sc tl v) ∧ H' = upd H p (.tup [.int (GM.sgn sc tl v), .int (GM.scl sc tl v), .int (GM.tlp tl v)])) (fun Q' q' => ?_) ?_
  · refine ⟨_, rfl, rfl, _, rfl, ite2 (fun d => ?_) (fun d => ?_)⟩
    · have d1 : GM.sgn sc tl v = 1 := V.int.inj (of_decide_eq_true d)
      refine ⟨_, rfl, _, rfl, q' _ _ ⟨congrArg V.int ?_, rfl⟩⟩
      unfold wn
      rw [if_pos d1]
    · have d1 : ¬ GM.sgn sc tl v = 1 := fun z => d (decide_eq_true (by rw [z]))
      refine ⟨_, rfl, q' _ _ ⟨congrArg V.int ?_, rfl⟩⟩
      unfold wn
      rw [if_neg d1]
  rintro z H' ⟨rfl, rfl⟩
  refine ⟨_, rfl, (by show 2 ≤ sizeLine; decide), fun t nt => ?_⟩
  exact qt _ t (sp.trans (same_upd nt)) c2 upd_same
end
section
variable {P : Program} {w : World} {K : PySem.W.Frag} {mg : Str → Option Value} {base : Heap}
variable {C : Addr} {CD : Addr} {a1 a2 a3 a4 a5 a6 a7 a8 a9 a10 a11 a12 a13 a14 a15 a16 a17 a18 a19 a20 a21 a22 a23 a24 a25 a26 a27 a28 a29 a30 a31 a32 a33 a34 a35 a36 a37 a38 a39 a40 a41 a42 a43 a44 a45 a46 a47 a48 : Addr} {l1 l2 l3 l4 l5 l6 l7 l8 l9 l10 l11 l12 l13 l14 l15 l16 l17 l18 l19 l20 l21 l22 l23 l24 l25 l26 l27 l28 l29 l30 l31 l32 l33 l34 l35 l36 l37 l38 l39 l40 l41 l42 l43 l44 l45 l46 l47 l48 : FuncData} {t34 t35 t36 tg_NEAR tg_CUT tg_UP : Tok}
/-! ### signs and products -/
def sx (sc tl : Nat) (a b : Int) : Int := if GM.sgn sc tl a = GM.sgn sc tl b then 0 else 1
def spSgn (C : Addr) : Sp := fun vs H Q _ => ∃ (x : Addr) (sc tl : Nat) (v : Int), vs = [.ref x, .int v] ∧ FAt C H x sc tl ∧ ∀ H', Same H H' → Q (.int (GM.sgn sc tl v)) H'
theorem ok_sign_of (B : Bl mg) (L : LL K mg C CD a1 a2 a3 a4 a5 a6 a7 a8 a9 a10 a11 a12 a13 a14 a15 a16 a17 a18 a19 a20 a21 a22 a23 a24 a25 a26 a27 a28 a29 a30 a31 a32 a33 a34 a35 a36 a37 a38 a39 a40 a41 a42 a43 a44 a45 a46 a47 a48 l1 l2 l3 l4 l5 l6 l7 l8 l9 l10 l11 l12 l13 l14 l15 l16 l17 l18 l19 l20 l21 l22 l23 l24 l25 l26 l27 l28 l29 l30 l31 l32 l33 l34 l35 l36 l37 l38 l39 l40 l41 l42 l43 l44 l45 l46 l47 l48 t34 t35 t36 tg_NEAR tg_CUT tg_UP) : FnOk P w K mg base CX0 3 a16 l16 ["form", "word"] (spSgn C) := by
  have G_Form_parts : FnOk P w K mg base CX0 2 a31 l31 ["self", "word"] (spParts C) := (ok_Form_parts B L).mono (by decide)
  refine L.F_sign_of.ok sc_sign_of (fun vs H Q E h => ?_) (fun cdv A outer s H vs Q E hr h => ?_)
  · obtain ⟨x, sc, tl, v, rfl, _⟩ := h
    rfl
  obtain ⟨x, sc, tl, v, rfl, hF, q⟩ := h
  obtain ⟨dx, hx, h1, h2, h3, h4⟩ := id hF
  refine ⟨_, (pss_one (ps_ret (pe_ix ix_tup (pe_meth (pv 0) L.T.cl L.M_Form_parts G_Form_parts hr L.b_Form_parts .nil pass0 (pa_cons (pv 1) pa_nil)) pe_int (fun _ _ => rfl)))), ?_⟩
  refine ⟨_, rfl, x, dx, _, rfl, hx, rfl, _, rfl, x, sc, tl, v, rfl, hF, fun p np => ?_⟩
  refine ⟨p, _, _, _, rfl, rfl, .inl (.inl upd_same), rfl, ?_⟩
  exact q _ (same_upd np)
def spUnl (C : Addr) : Sp := fun vs H Q _ => ∃ (x : Addr) (sc tl : Nat) (a b : Int), vs = [.ref x, .int a, .int b] ∧ FAt C H x sc tl ∧ ∀ H', Same H H' → Q (.int (sx sc tl a b)) H'
theorem sx_xor (sc tl : Nat) (a b : Int) : Builtin.bitXor (GM.sgn sc tl a) (GM.sgn sc tl b) = sx sc tl a b := by
  have ha := GM.sgn_01 (m := sc) (t := tl) (w := a)
  have hb := GM.sgn_01 (m := sc) (t := tl) (w := b)
  unfold sx
  rcases ha with ha | ha <;> rcases hb with hb | hb <;> rw [ha, hb] <;> decide
theorem ok_unlike_sign (B : Bl mg) (L : LL K mg C CD a1 a2 a3 a4 a5 a6 a7 a8 a9 a10 a11 a12 a13 a14 a15 a16 a17 a18 a19 a20 a21 a22 a23 a24 a25 a26 a27 a28 a29 a30 a31 a32 a33 a34 a35 a36 a37 a38 a39 a40 a41 a42 a43 a44 a45 a46 a47 a48 l1 l2 l3 l4 l5 l6 l7 l8 l9 l10 l11 l12 l13 l14 l15 l16 l17 l18 l19 l20 l21 l22 l23 l24 l25 l26 l27 l28 l29 l30 l31 l32 l33 l34 l35 l36 l37 l38 l39 l40 l41 l42 l43 l44 l45 l46 l47 l48 t34 t35 t36 tg_NEAR tg_CUT tg_UP) : FnOk P w K mg base CX0 4 a17 l17 ["form", "a", "b"] (spUnl C) := by
  have G_sign_of : FnOk P w K mg base CX0 3 a16 l16 ["form", "word"] (spSgn C) := (ok_sign_of B L).mono (by decide)
  refine L.F_unlike_sign.ok sc_unlike_sign (fun vs H Q E h => ?_) (fun cdv A outer s H vs Q E hr h => ?_)
  · obtain ⟨x, sc, tl, a, b, rfl, _⟩ := h
    rfl
  obtain ⟨x, sc, tl, a, b, rfl, hF, q⟩ := h
  refine ⟨_, (pss_one (ps_ret (pe_op op_xor (pe_call G_sign_of hr (by rfl) L.m_sign_of L.F_sign_of.kp L.b_sign_of .nil pass0 (pa_cons (pv 0) (pa_cons (pv 1) pa_nil))) (pe_call G_sign_of hr (by rfl) L.m_sign_of L.F_sign_of.kp L.b_sign_of .nil pass0 (pa_cons (pv 0) (pa_cons (pv 2) pa_nil)))))), ?_⟩
  refine ⟨_, rfl, _, rfl, x, sc, tl, a, rfl, hF, fun H1 s1 => ?_⟩
  refine ⟨_, rfl, _, rfl, x, sc, tl, b, rfl, hF.same s1, fun H2 s2 => ?_⟩
  have q' := q _ (s1.trans s2)
  rw [← sx_xor] at q'
  exact ⟨_, _, rfl, rfl, q'⟩
def noneW (sc tl : Nat) : Int := (2 ^ sc - 1) * 2 ^ tl + 2 ^ (tl - 1)
def spBad (C : Addr) : Sp := fun vs H Q _ => ∃ (x : Addr) (sc tl : Nat), vs = [.ref x] ∧ FAt C H x sc tl ∧ ∀ t H', H t = none → Same H H' → PairAt H' t (noneW sc tl, ["bad"]) → Q (.ref t) H'
theorem ok_bad (B : Bl mg) (L : LL K mg C CD a1 a2 a3 a4 a5 a6 a7 a8 a9 a10 a11 a12 a13 a14 a15 a16 a17 a18 a19 a20 a21 a22 a23 a24 a25 a26 a27 a28 a29 a30 a31 a32 a33 a34 a35 a36 a37 a38 a39 a40 a41 a42 a43 a44 a45 a46 a47 a48 l1 l2 l3 l4 l5 l6 l7 l8 l9 l10 l11 l12 l13 l14 l15 l16 l17 l18 l19 l20 l21 l22 l23 l24 l25 l26 l27 l28 l29 l30 l31 l32 l33 l34 l35 l36 l37 l38 l39 l40 l41 l42 l43 l44 l45 l46 l47 l48 t34 t35 t36 tg_NEAR tg_CUT tg_UP) : FnOk P w K mg base CX0 3 a15 l15 ["form"] (spBad C) := by
  have G_Form_none_word : FnOk P w K mg base CX0 2 a37 l37 ["self"] (spNamed0 C) := (ok_Form_none_word B L).mono (by decide)
  refine L.F_bad.ok sc_bad (fun vs H Q E h => ?_) (fun cdv A outer s H vs Q E hr h => ?_)
  · obtain ⟨x, sc, tl, rfl, _⟩ := h
    rfl
  obtain ⟨x, sc, tl, rfl, hF, q⟩ := h
  obtain ⟨dx, hx, h1, h2, h3, h4⟩ := id hF
  refine ⟨_, (pss_one (ps_ret (pe_tup (pa_cons (pe_meth0 (pv 0) L.T.cl L.M_Form_none_word G_Form_none_word hr L.b_Form_none_word .nil pass0) (pa_cons (pe_tup (pa_cons pe_str pa_nil)) pa_nil))))), ?_⟩
  refine ⟨_, rfl, x, dx, _, rfl, hx, rfl, x, sc, tl, rfl, hF, ?_⟩
  refine ⟨(by show 1 ≤ sizeLine; decide), fun e ne => ⟨(by show 2 ≤ sizeLine; decide), fun t nt => ?_⟩⟩
  have se := same_upd (o := .tup [.str "bad"]) ne
  rw [show (0 * 2 ^ (sc + tl) + ((2 ^ sc - 1) * 2 ^ tl + 2 ^ (tl - 1)) : Int) = noneW sc tl by unfold noneW; omega]
  exact q t _ (se.free nt) (se.trans (same_upd nt)) ⟨e, upd_same, same_upd nt _ _ upd_same⟩
theorem wn_25 (sc : Nat) {tl : Nat} (v : Int) (h : tl ≤ 24) : -(2 ^ 25) < wn sc tl v ∧ wn sc tl v < 2 ^ 25 := by
  have hp := GM.pow_pos' tl
  have h24 : (2 : Int) ^ tl ≤ 2 ^ 24 := GM.pow_le' h
  have l := Int.emod_lt_of_pos (sz sc tl v) hp
  have n := Int.emod_nonneg (sz sc tl v) (show (2 : Int) ^ tl ≠ 0 by omega)
  unfold wn GM.num
  constructor <;> split <;> split <;> omega
theorem wn_64 (sc : Nat) {tl : Nat} (v : Int) (h : tl ≤ 24) : -(2 ^ 64) < wn sc tl v ∧ wn sc tl v < 2 ^ 64 := by
  have := wn_25 sc v h
  omega
theorem snoc_take {α β : Type} (xs : List α) (f : α → β) {i : Nat} {a : α} (h : xs[i]? = some a) : (xs.take (i + 1)).map f = (xs.take i).map f ++ [f a] := by
  rw [List.take_add_one, h, List.map_append]
  rfl
theorem len_take {α β : Type} (xs : List α) (f : α → β) (i : Nat) (h : xs.length ≤ 900) : ((xs.take i).map f).length < sizeLine := by
  rw [List.length_map, List.length_take]
  exact small1000 (by omega)
theorem at_int' {xs : List Int} {i : Nat} {x : V} (h : (xs.map V.int)[i]? = some x) : ∃ v, xs[i]? = some v ∧ x = .int v := by
  rw [List.getElem?_map] at h
  cases e : xs[i]? with
  | none => rw [e] at h; cases h
  | some z => rw [e] at h; exact ⟨z, rfl, (Option.some.inj h).symm⟩
def spHN (K : PySem.W.Frag) (C : Addr) : Sp := fun vs H Q _ => ∃ (x t : Addr) (sc tl : Nat) (xs : List Int), vs = [.ref x, .ref t] ∧ FAt C H x sc tl ∧ SqT K H t (xs.map V.int) ∧ xs.length ≤ 900 ∧ ∀ (r : Bool) H', Same H H' → (r = true ↔ ∃ v ∈ xs, srt sc tl (sz sc tl v) = "none") → Q (.bl r) H'
theorem in_strs (x : Str) (ys : List Str) : inV (.str x) (ys.map V.str) = true ↔ x ∈ ys := by
  induction ys with
  | nil => exact ⟨fun z => Bool.noConfusion z, fun z => nomatch z⟩
  | cons y ys ih =>
    show ((y == x) || inV (.str x) (ys.map V.str)) = true ↔ _
    rw [Bool.or_eq_true, beq_iff_eq, ih, List.mem_cons]
    exact ⟨fun z => z.imp Eq.symm id, fun z => z.imp Eq.symm id⟩
theorem flat_strs (ys : List Str) : (ys.map V.str).all flatV = true := by
  induction ys with
  | nil => rfl
  | cons y ys ih => exact ih
theorem ok_has_none (B : Bl mg) (L : LL K mg C CD a1 a2 a3 a4 a5 a6 a7 a8 a9 a10 a11 a12 a13 a14 a15 a16 a17 a18 a19 a20 a21 a22 a23 a24 a25 a26 a27 a28 a29 a30 a31 a32 a33 a34 a35 a36 a37 a38 a39 a40 a41 a42 a43 a44 a45 a46 a47 a48 l1 l2 l3 l4 l5 l6 l7 l8 l9 l10 l11 l12 l13 l14 l15 l16 l17 l18 l19 l20 l21 l22 l23 l24 l25 l26 l27 l28 l29 l30 l31 l32 l33 l34 l35 l36 l37 l38 l39 l40 l41 l42 l43 l44 l45 l46 l47 l48 t34 t35 t36 tg_NEAR tg_CUT tg_UP) : FnOk P w K mg base CX0 4 a14 l14 ["form", "words"] (spHN K C) := by
  have G_Form_sort_of : FnOk P w K mg base CX0 3 a33 l33 ["self", "word"] (spSort C) := (ok_Form_sort_of B L).mono (by decide)
  refine L.F_has_none.ok sc_has_none (fun vs H Q E h => ?_) (fun cdv A outer s H vs Q E hr h => ?_)
  · obtain ⟨x, t, sc, tl, xs, rfl, _⟩ := h
    rfl
  obtain ⟨x, t, sc, tl, xs, rfl, hF, hT, hl, q⟩ := h
  obtain ⟨dx, hx, h1, h2, h3, h4⟩ := id hF
  refine ⟨_, (pss_one (ps_ret (pe_cmpR op_in_seq pe_str (pe_lc (own := [("word", 2)]) (by rfl) sc_has_none.nd (pi_tup (pv 1)) (blkOk_by (own := [("word", 2)]) (N := ["form", "words", "word"]) (sc := defScope s_has_none) (by decide +kernel)) (fun _ _ _ _ _ => pg_name (i := 2) sc_has_none.nd rfl (Or.inl rfl)) (fun _ _ _ _ _ => pts_nil) (fun _ _ _ _ _ => (pe_meth (pv 0) L.T.cl L.M_Form_sort_of G_Form_sort_of hr L.b_Form_sort_of .nil pass0 (pa_cons (pv 2) pa_nil)))) (by rfl)))), ?_⟩
  refine ⟨_, rfl, t, rfl, ⟨_, hT⟩, fun D nD => ?_⟩
  refine lc_it (walk_tup (K := K) (a := t) (xs := xs.map V.int)) (fun i H9 => Same H H9 ∧ H9 D = some (.lst ((xs.take i).map fun v => V.str (srt sc tl (sz sc tl v))))) ⟨same_upd nD, upd_same⟩ (fun i H9 _ ⟨s9, _⟩ => Same.seqT s9 hT) ?_ ?_
  · rintro j z H9 H10 hj ⟨s9, eD3⟩ ⟨rfl, hz⟩
    obtain ⟨v, hv, rfl⟩ := at_int' hz
    refine ⟨rfl, yesT ?_⟩
    refine ⟨_, rfl, x, dx, _, rfl, s9 _ _ hx, rfl, _, rfl, x, sc, tl, v, rfl, hF.same s9, fun H11 s11 => ?_⟩
    refine ⟨_, s11 _ _ eD3, len_take _ _ _ hl, fun y u e => ?_, ?_⟩
    · rw [upd_ne (ne_of_none e nD)]
      exact s11 _ _ (s9 _ _ e)
    · rw [upd_same, snoc_take _ _ hv]
  rintro H9 ⟨s9, eD⟩
  rw [List.length_map, List.take_length] at eD
  have eD' : H9 D = some (.lst ((xs.map fun v => srt sc tl (sz sc tl v)).map V.str)) := by
    rw [eD, List.map_map]
    rfl
  refine ⟨D, _, rfl, .inl (SqL.of eD'), rfl, flat_strs _, ?_⟩
  refine q _ _ s9 ?_
  show inV (.str "none") _ = true ↔ _
  rw [in_strs, List.mem_map]
end
section
variable {P : Program} {w : World} {K : PySem.W.Frag} {mg : Str → Option Value} {base : Heap}
variable {C : Addr} {CD : Addr} {a1 a2 a3 a4 a5 a6 a7 a8 a9 a10 a11 a12 a13 a14 a15 a16 a17 a18 a19 a20 a21 a22 a23 a24 a25 a26 a27 a28 a29 a30 a31 a32 a33 a34 a35 a36 a37 a38 a39 a40 a41 a42 a43 a44 a45 a46 a47 a48 : Addr} {l1 l2 l3 l4 l5 l6 l7 l8 l9 l10 l11 l12 l13 l14 l15 l16 l17 l18 l19 l20 l21 l22 l23 l24 l25 l26 l27 l28 l29 l30 l31 l32 l33 l34 l35 l36 l37 l38 l39 l40 l41 l42 l43 l44 l45 l46 l47 l48 : FuncData} {t34 t35 t36 tg_NEAR tg_CUT tg_UP : Tok}
theorem bx2 {c : Int} {H : Hp} {b : Addr} (h : BoxAt (c + 2 ^ (2 - 1)) H b) : BoxAt (c + 2) H b := h
end
def WL : List Str := ["near", "cut", "up", "down"]
section
variable {P : Program} {w : World} {K : PySem.W.Frag} {mg : Str → Option Value} {base : Heap}
variable {C : Addr} {CD : Addr} {a1 a2 a3 a4 a5 a6 a7 a8 a9 a10 a11 a12 a13 a14 a15 a16 a17 a18 a19 a20 a21 a22 a23 a24 a25 a26 a27 a28 a29 a30 a31 a32 a33 a34 a35 a36 a37 a38 a39 a40 a41 a42 a43 a44 a45 a46 a47 a48 : Addr} {l1 l2 l3 l4 l5 l6 l7 l8 l9 l10 l11 l12 l13 l14 l15 l16 l17 l18 l19 l20 l21 l22 l23 l24 l25 l26 l27 l28 l29 l30 l31 l32 l33 l34 l35 l36 l37 l38 l39 l40 l41 l42 l43 l44 l45 l46 l47 l48 : FuncData} {t34 t35 t36 tg_NEAR tg_CUT tg_UP : Tok}
def UU (sc tl : Nat) : Int := (2 ^ sc - 1) * 2 ^ tl
theorem gup_zero (how : Str) (s m : Int) : GR.gup how s m 0 = false := by
  unfold GR.gup
  split
  · show (false || (false && decide (m % 2 = 1))) = false
    rfl
  · rfl
theorem wrd_U (sc tl : Nat) (s : Int) : GR.wrd sc tl s (2 ^ sc - 1) 0 = s * 2 ^ (sc + tl) + UU sc tl ∧ GR.wrd sc tl s (2 ^ sc - 1 - 1) (2 ^ tl - 1) = s * 2 ^ (sc + tl) + (UU sc tl - 1) ∧ GR.wrd sc tl s 0 0 = s * 2 ^ (sc + tl) := by
  unfold GR.wrd UU
  refine ⟨by omega, ?_, by omega⟩
  rw [Int.sub_mul (2 ^ sc - 1) 1, Int.one_mul]
  omega
end
section
variable {P : Program} {w : World} {K : PySem.W.Frag} {mg : Str → Option Value} {base : Heap}
variable {C : Addr} {CD : Addr} {a1 a2 a3 a4 a5 a6 a7 a8 a9 a10 a11 a12 a13 a14 a15 a16 a17 a18 a19 a20 a21 a22 a23 a24 a25 a26 a27 a28 a29 a30 a31 a32 a33 a34 a35 a36 a37 a38 a39 a40 a41 a42 a43 a44 a45 a46 a47 a48 : Addr} {l1 l2 l3 l4 l5 l6 l7 l8 l9 l10 l11 l12 l13 l14 l15 l16 l17 l18 l19 l20 l21 l22 l23 l24 l25 l26 l27 l28 l29 l30 l31 l32 l33 l34 l35 l36 l37 l38 l39 l40 l41 l42 l43 l44 l45 l46 l47 l48 : FuncData} {t34 t35 t36 tg_NEAR tg_CUT tg_UP : Tok}
theorem fit_lt {x : Int} {k : Nat} (h0 : 0 ≤ x) (h : x < 2 ^ k) (hk : k ≤ 4000) : Fit x := by
  have c : ((2 ^ k : Nat) : Int) = (2 : Int) ^ k := PySem.W.kbt_cast _
  exact ⟨h0, Nat.le_trans (PyProof.Rows.intBits_le (k := k) (by omega)) hk⟩
theorem num_in {tl : Nat} {u : Int} (h : 0 ≤ u) (ht : tl ≤ 24) : 0 ≤ GM.num tl u ∧ GM.num tl u < 2 ^ 25 := by
  have hp := GM.pow_pos' tl
  have h24 : (2 : Int) ^ tl ≤ 2 ^ 24 := GM.pow_le' ht
  have l := Int.emod_lt_of_pos u hp
  have n := Int.emod_nonneg u (show (2 : Int) ^ tl ≠ 0 by omega)
  unfold GM.num
  split <;> omega
theorem ex_in {sc tl : Nat} {u : Int} (hs : sc ≤ 8) (h : u ≤ UU sc tl) : GM.ex tl u ≤ 256 := by
  have hp := GM.pow_pos' tl
  have h8 : (2 : Int) ^ sc ≤ 2 ^ 8 := GM.pow_le' hs
  have : u / 2 ^ tl ≤ 2 ^ sc - 1 := by
    have := Int.ediv_le_ediv hp h
    unfold UU at this
    rw [Int.mul_ediv_cancel _ (by omega)] at this
    exact this
  unfold GM.ex
  omega
theorem UU_pos {sc tl : Nat} (h : 2 ≤ sc) : 0 < UU sc tl ∧ 2 ^ tl ≤ UU sc tl := by
  have hp := GM.pow_pos' tl
  have h4 : (2 : Int) ^ 2 ≤ 2 ^ sc := GM.pow_le' h
  have : 1 * 2 ^ tl ≤ UU sc tl := Int.mul_le_mul_of_nonneg_right (by omega) (by omega)
  omega
end
section
variable {P : Program} {w : World} {K : PySem.W.Frag} {mg : Str → Option Value} {base : Heap}
variable {C : Addr} {CD : Addr} {a1 a2 a3 a4 a5 a6 a7 a8 a9 a10 a11 a12 a13 a14 a15 a16 a17 a18 a19 a20 a21 a22 a23 a24 a25 a26 a27 a28 a29 a30 a31 a32 a33 a34 a35 a36 a37 a38 a39 a40 a41 a42 a43 a44 a45 a46 a47 a48 : Addr} {l1 l2 l3 l4 l5 l6 l7 l8 l9 l10 l11 l12 l13 l14 l15 l16 l17 l18 l19 l20 l21 l22 l23 l24 l25 l26 l27 l28 l29 l30 l31 l32 l33 l34 l35 l36 l37 l38 l39 l40 l41 l42 l43 l44 l45 l46 l47 l48 : FuncData} {t34 t35 t36 tg_NEAR tg_CUT tg_UP : Tok}
/-! ### quotients -/
def ab (z : Int) : Int := if z < 0 then -z else z
theorem ab_nn (n : Int) : 0 ≤ ab n := by
  unfold ab
  split <;> omega
theorem sx_01 (sc tl : Nat) (a b : Int) : sx sc tl a b = 0 ∨ sx sc tl a b = 1 := by
  unfold sx
  split <;> simp
theorem wp_in {sc tl : Nat} {v : Int} (h1 : 2 ≤ sc) (h2 : sc ≤ 8) (h4 : tl ≤ 24) (h : ¬ GM.topS sc tl ≤ sz sc tl v) : -400 ≤ wp sc tl v ∧ wp sc tl v ≤ 400 := by
  have e : GM.ex tl (sz sc tl v) ≤ 256 := ex_in (sc := sc) h2 (by show _ ≤ GM.topS sc tl; omega)
  have p8 : (2 : Int) ^ (sc - 1) ≤ 2 ^ 7 := GM.pow_le' (by omega)
  have p0 := GM.pow_pos' (sc - 1)
  unfold wp P0
  omega
def endW (sc tl : Nat) (s : Int) : Int := s * 2 ^ (sc + tl) + ((2 ^ sc - 1) * 2 ^ tl + 0)
theorem quo_ok {sc tl k : Nat} {x y p : Int} (hx : 0 < x) (hy : 0 < y) (hy2 : y < 2 ^ (tl + 1)) (hk : 2 * tl + 2 ≤ k) : 0 < x * 2 ^ k / y ∧ p < GR.lap sc tl (x * 2 ^ k / y) p := by
  have pk := GM.pow_pos' k
  have p1 := GM.pow_pos' (tl + 1)
  have l1 : (2 : Int) ^ (tl + 1) * 2 ^ (tl + 1) ≤ x * 2 ^ k := by
    rw [← GM.pow_add']
    have a : (2 : Int) ^ (tl + 1 + (tl + 1)) ≤ 2 ^ k := GM.pow_le' (by omega)
    have b : 1 * 2 ^ k ≤ x * 2 ^ k := Int.mul_le_mul_of_nonneg_right (by omega) (by omega)
    omega
  have hq : (2 : Int) ^ (tl + 1) ≤ x * 2 ^ k / y := by
    refine (Int.le_ediv_iff_mul_le hy).mpr ?_
    have : (2 : Int) ^ (tl + 1) * y ≤ 2 ^ (tl + 1) * 2 ^ (tl + 1) := Int.mul_le_mul_of_nonneg_left (by omega) (by omega)
    omega
  have h0 : 0 < x * 2 ^ k / y := by omega
  refine ⟨h0, ?_⟩
  generalize x * 2 ^ k / y = q at *
  obtain ⟨m, hm, g1, g2⟩ := GR.bl_in h0
  have hm1 : tl + 1 ≤ m := by
    rcases Nat.lt_or_ge m (tl + 1) with c | c
    · have := GM.pow_le' (show m + 1 ≤ tl + 1 by omega)
      omega
    · exact c
  unfold GR.lap
  split <;> omega
def quoR (sc tl k : Nat) (s x p y e : Int) (w : Str) : Int × List Str := GR.rnd sc tl s (x * 2 ^ k / y) (p - e - k) w (!decide (x * 2 ^ k % y = 0))
theorem quo_eq {sc tl : Nat} {s x p y e : Int} {w : Str} (j : Nat) (hx : 0 < x) (hy : 0 < y) (hy2 : y < 2 ^ (tl + 1)) : quoR sc tl (2 * tl + 2 + j) s x p y e w = quoR sc tl (2 * tl + 2) s x p y e w := by
  have pj := GM.pow_pos' j
  have pk := GM.pow_pos' (2 * tl + 2)
  have ek : (2 : Int) ^ (2 * tl + 2 + j) = 2 ^ (2 * tl + 2) * 2 ^ j := GM.pow_add' _ _
  have eq : x * 2 ^ (2 * tl + 2 + j) / y / 2 ^ j = x * 2 ^ (2 * tl + 2) / y := by
    rw [Int.ediv_ediv_of_nonneg (Int.le_of_lt hy), ek, ← Int.mul_assoc, Int.mul_ediv_mul_of_pos_left _ _ pj]
  have ok := quo_ok (sc := sc) (p := p - e - ((2 * tl + 2 : Nat) : Int)) hx hy hy2 (Nat.le_refl (2 * tl + 2))
  have ep : p - e - ((2 * tl + 2 + j : Nat) : Int) + j = p - e - ((2 * tl + 2 : Nat) : Int) := by omega
  unfold quoR
  rw [GR.rnd_cut j (by rw [eq]; exact ok.1) (by rw [eq, ep]; exact ok.2), eq, ep]
  congr 1
  rw [Bool.eq_iff_iff, Bool.or_eq_true, Bool.not_eq_true', Bool.not_eq_true', Bool.not_eq_true', decide_eq_false_iff_not, decide_eq_false_iff_not, decide_eq_false_iff_not]
  have dm1 := Int.emod_add_mul_ediv (x * 2 ^ (2 * tl + 2 + j)) y
  have key : (x * 2 ^ (2 * tl + 2 + j) / y % 2 ^ j = 0 ∧ x * 2 ^ (2 * tl + 2 + j) % y = 0) ↔ x * 2 ^ (2 * tl + 2) % y = 0 := by
    constructor
    · rintro ⟨a, b⟩
      rw [b, Int.zero_add] at dm1
      have dm2 := Int.emod_add_mul_ediv (x * 2 ^ (2 * tl + 2 + j) / y) (2 ^ j)
      rw [a, Int.zero_add, eq] at dm2
      have e3 : (y * (x * 2 ^ (2 * tl + 2) / y)) * 2 ^ j = (x * 2 ^ (2 * tl + 2)) * 2 ^ j := by
        rw [Int.mul_assoc y, Int.mul_comm _ (2 ^ j), dm2, dm1, ek, Int.mul_assoc]
      have := Int.eq_of_mul_eq_mul_right (by omega) e3
      rw [← this, Int.mul_emod_right]
    · intro a
      have dm2 := Int.emod_add_mul_ediv (x * 2 ^ (2 * tl + 2)) y
      rw [a, Int.zero_add] at dm2
      have e2 : x * 2 ^ (2 * tl + 2 + j) = y * (x * 2 ^ (2 * tl + 2) / y * 2 ^ j) := by
        rw [ek, ← Int.mul_assoc, ← Int.mul_assoc, dm2]
      refine ⟨?_, ?_⟩
      · rw [e2, Int.mul_ediv_cancel_left _ (by omega), Int.mul_emod_left]
      · rw [e2, Int.mul_emod_right]
  constructor
  · intro h z
    have := key.mpr z
    exact h.elim (fun y => y this.1) (fun y => y this.2)
  · intro h
    by_cases z : x * 2 ^ (2 * tl + 2 + j) / y % 2 ^ j = 0
    · exact .inr (fun y => h (key.mp ⟨z, y⟩))
    · exact .inl z
theorem ifS_ev {c : TT} {t u : TS} {D : Ends} {σ : L2.St} {H : Hp} (R : Bool → Hp → Prop) (h : ∀ Q : Bool → Hp → Prop, (∀ z H', R z H' → Q z H') → c σ H Q) (q1 : ∀ H', R true H' → t D σ H') (q2 : ∀ H', R false H' → u D σ H') : tIfS c t u D σ H := h _ fun z H' r => by
  cases z with
  | true => exact q1 H' r
  | false => exact q2 H' r
def divR (sc tl : Nat) (a b : Int) (way : Str) : Int × List Str :=
  if srt sc tl (sz sc tl a) = "none" ∨ srt sc tl (sz sc tl b) = "none" then (noneW sc tl, [])
  else if (srt sc tl (sz sc tl a) = "nought" ∧ srt sc tl (sz sc tl b) = "nought") ∨ (srt sc tl (sz sc tl a) = "endless" ∧ srt sc tl (sz sc tl b) = "endless") then (noneW sc tl, ["bad"])
  else if srt sc tl (sz sc tl a) = "endless" then (endW sc tl (sx sc tl a b), [])
  else if srt sc tl (sz sc tl b) = "endless" ∨ srt sc tl (sz sc tl a) = "nought" then (sx sc tl a b * 2 ^ (sc + tl), [])
  else if srt sc tl (sz sc tl b) = "nought" then (endW sc tl (sx sc tl a b), ["bynought"])
  else quoR sc tl (2 * tl + 2) (sx sc tl a b) (ab (wn sc tl a)) (wp sc tl a) (ab (wn sc tl b)) (wp sc tl b) way
theorem sz_nn (sc tl : Nat) (v : Int) : 0 ≤ sz sc tl v := Int.emod_nonneg _ (by have := GM.pow_pos' (sc + tl); omega)
theorem srt_nought (m t : Nat) (s : Int) : srt m t s = "nought" ↔ (¬ GM.topS m t ≤ s ∧ s = 0) := by
  unfold srt
  constructor
  · intro h
    by_cases c : GM.topS m t ≤ s
    · rw [if_pos c] at h
      by_cases e : s = GM.topS m t
      · rw [if_pos e] at h
        exact absurd h (by decide +kernel)
      · rw [if_neg e] at h
        exact absurd h (by decide +kernel)
    · rw [if_neg c] at h
      by_cases e : s = 0
      · exact ⟨c, e⟩
      · rw [if_neg e] at h
        by_cases e2 : s / 2 ^ t = 0
        · rw [if_pos e2] at h
          exact absurd h (by decide +kernel)
        · rw [if_neg e2] at h
          exact absurd h (by decide +kernel)
  · intro h
    rw [if_neg h.1, if_pos h.2]
theorem num_zero {tl : Nat} {u : Int} (h0 : 0 ≤ u) : 0 ≤ GM.num tl u ∧ (GM.num tl u = 0 ↔ u = 0) := by
  have hp := GM.pow_pos' tl
  have n := Int.emod_nonneg u (show (2 : Int) ^ tl ≠ 0 by omega)
  have d := Int.emod_add_mul_ediv u (2 ^ tl)
  unfold GM.num
  by_cases c : u / 2 ^ tl = 0
  · rw [if_pos c]
    rw [c, Int.mul_zero, Int.add_zero] at d
    omega
  · rw [if_neg c]
    refine ⟨by omega, fun z => by omega, fun z => ?_⟩
    rw [z] at c
    exact absurd (Int.zero_ediv _) c
theorem num_in2 {tl : Nat} {u : Int} (h0 : 0 ≤ u) : GM.num tl u < 2 ^ (tl + 1) := by
  have hp := GM.pow_pos' tl
  have p1 : (2 : Int) ^ (tl + 1) = 2 ^ tl * 2 := GM.pow_s _
  have l := Int.emod_lt_of_pos u hp
  unfold GM.num
  split <;> omega
theorem ab_wn {sc tl : Nat} {v : Int} (hn : ¬ srt sc tl (sz sc tl v) = "nought") (ht : ¬ GM.topS sc tl ≤ sz sc tl v) : 0 < ab (wn sc tl v) ∧ ab (wn sc tl v) < 2 ^ (tl + 1) := by
  have h := num_zero (tl := tl) (sz_nn sc tl v)
  have l := num_in2 (tl := tl) (sz_nn sc tl v)
  have nz : ¬ GM.num tl (sz sc tl v) = 0 := fun z => hn ((srt_nought _ _ _).mpr ⟨ht, h.2.mp z⟩)
  unfold wn ab
  split <;> split <;> omega
theorem quo_fit {x y : Int} {k : Nat} (hx : 0 < x) (hx2 : x < 2 ^ 25) (hy : 0 < y) (hk : k ≤ 100) : Fit (x * 2 ^ k / y) := by
  have pk := GM.pow_pos' k
  have a : 0 ≤ x * 2 ^ k := Int.mul_nonneg (by omega) (by omega)
  have b : x * 2 ^ k / y ≤ x * 2 ^ k := Int.ediv_le_self _ a
  have c : x * 2 ^ k < 2 ^ 25 * 2 ^ k := Int.mul_lt_mul_of_pos_right hx2 pk
  have d : (2 : Int) ^ 25 * 2 ^ k ≤ 2 ^ 125 := by
    rw [← GM.pow_add']
    exact GM.pow_le' (by omega)
  exact fit_lt (k := 125) (Int.ediv_nonneg a (by omega)) (by omega) (by decide)
def spQR (K : PySem.W.Frag) (C : Addr) : Sp := fun vs H Q _ => ∃ (x oa ob : Addr) (sc tl : Nat) (s n p m e : Int) (way : Str), vs = [.ref x, .int s, .ref oa, .ref ob, .str way] ∧ FAt C H x sc tl ∧ (s = 0 ∨ s = 1) ∧ SqT K H oa [.int n, .int p] ∧ SqT K H ob [.int m, .int e] ∧ 0 < ab n ∧ ab n < 2 ^ (tl + 1) ∧ 0 < ab m ∧ ab m < 2 ^ (tl + 1) ∧ -400 ≤ p ∧ p ≤ 400 ∧ -400 ≤ e ∧ e ≤ 400 ∧
  ∀ t H', Same H H' → PairAt H' t (quoR sc tl (2 * tl + 2) s (ab n) p (ab m) e way) → Q (.ref t) H'
theorem ok_quotient_rounded (B : Bl mg) (L : LL K mg C CD a1 a2 a3 a4 a5 a6 a7 a8 a9 a10 a11 a12 a13 a14 a15 a16 a17 a18 a19 a20 a21 a22 a23 a24 a25 a26 a27 a28 a29 a30 a31 a32 a33 a34 a35 a36 a37 a38 a39 a40 a41 a42 a43 a44 a45 a46 a47 a48 l1 l2 l3 l4 l5 l6 l7 l8 l9 l10 l11 l12 l13 l14 l15 l16 l17 l18 l19 l20 l21 l22 l23 l24 l25 l26 l27 l28 l29 l30 l31 l32 l33 l34 l35 l36 l37 l38 l39 l40 l41 l42 l43 l44 l45 l46 l47 l48 t34 t35 t36 tg_NEAR tg_CUT tg_UP) : FnOk P w K mg base CX0 6 a18 l18 ["form", "sign", "one", "other", "way"] (spQR K C) := by
  have G_rounded : FnOk P w K mg base CX0 5 a7 l7 ["form", "sign", "number", "power", "way", "more"] (spRnd C) := (ok_rounded B L).mono (by decide)
  refine L.F_quotient_rounded.ok sc_quotient_rounded (fun vs H Q E h => ?_) (fun cdv A outer s H vs Q E hr h => ?_)
  · obtain ⟨x, oa, ob, sc, tl, s, n, p, m, e, way, rfl, _⟩ := h
    rfl
  obtain ⟨x, oa, ob, sc, tl, s, n, p, m, e, way, rfl, hF, hs, hA, hB, n0, n1, m0, m1, p1, p2, e1, e2, q⟩ := h
  obtain ⟨dx, hx, h1, h2, h3, h4⟩ := id hF
  refine ⟨_, (pss_cons (ps_asg (pv 2) (pg_tup (by rfl) (pgs_cons (pg_name (i := 5) sc_quotient_rounded.nd rfl (.inl rfl)) (pgs_cons (pg_name (i := 6) sc_quotient_rounded.nd rfl (.inl rfl)) pgs_nil))))
    (pss_cons (ps_asg (pv 3) (pg_tup (by rfl) (pgs_cons (pg_name (i := 7) sc_quotient_rounded.nd rfl (.inl rfl)) (pgs_cons (pg_name (i := 8) sc_quotient_rounded.nd rfl (.inl rfl)) pgs_nil))))
    (pss_cons (ps_set (i := 9) sc_quotient_rounded.nd rfl (.inl rfl) (pe_op op_add (pe_op op_mul pe_int (pe_fld (pv 0) rfl)) pe_int))
    (pss_cons (ps_asg (pe_callB call_divmodW (by rfl) B.divmod boot_divmod (pa_cons (pe_op op_shlN (pe_callB call_abs (by rfl) B.abs boot_abs (pa_cons (pv 5) pa_nil)) (pv 9)) (pa_cons (pe_callB call_abs (by rfl) B.abs boot_abs (pa_cons (pv 7) pa_nil)) pa_nil))) (pg_tup (by rfl) (pgs_cons (pg_name (i := 10) sc_quotient_rounded.nd rfl (.inl rfl)) (pgs_cons (pg_name (i := 11) sc_quotient_rounded.nd rfl (.inl rfl)) pgs_nil))))
    (pss_one (ps_ret (pe_callN G_rounded hr (by rfl) L.m_rounded L.F_rounded.kp (L.kb_rounded_way_more).choose_spec pass0 (pa_cons (pv 0) (pa_cons (pv 1) (pa_cons (pv 10) (pa_cons (pe_op op_sub (pe_op op_sub (pv 6) (pv 8)) (pv 9)) pa_nil)))) (pk_cons (pv 4) (pk_cons (pe_cmpR op_ne (pv 11) pe_int (nomark _)) pk_nil))))))))), ?_⟩
  have p25 : (2 : Int) ^ (tl + 1) ≤ 2 ^ 25 := GM.pow_le' (by omega)
  refine ⟨_, rfl, oa, _, rfl, hA, rfl, _, _, rfl, _, _, rfl, rfl, ?_⟩
  refine ⟨_, rfl, ob, _, rfl, hB, rfl, _, _, rfl, _, _, rfl, rfl, ?_⟩
  refine ⟨_, rfl, x, C, dx, _, _, rfl, hx, L.T.cl, L.T.nt, fl_t _ _, _, _, rfl, rfl, .inl ⟨by decide, by decide⟩, _, _, rfl, rfl, ?_⟩
  have pk := GM.pow_pos' (2 * tl + 2)
  have pb : ab n * 2 ^ (2 * tl + 2) < 2 ^ 25 * 2 ^ (2 * tl + 2) := Int.mul_lt_mul_of_pos_right (by omega) pk
  refine ⟨_, rfl, n, rfl, _, rfl, _, 2 * tl + 2, rfl, congrArg V.int (by omega), shl_ok (n := 25) (by show (ab n).natAbs < _; omega) (by omega), _, rfl, m, rfl, _, _, rfl, divp_small m0 (by show ab m < 2 ^ 250; omega), fun P np => ?_⟩
  have sP := same_upd (o := .tup [.int (ab n * 2 ^ (2 * tl + 2) / ab m), .int (ab n * 2 ^ (2 * tl + 2) % ab m)]) np
  refine ⟨P, _, rfl, .inl (.inl upd_same), rfl, _, _, rfl, _, _, rfl, rfl, ?_⟩
  have F1 := hF.same sP
  refine ⟨_, rfl, _, rfl, _, rfl, _, rfl, _, rfl, _, _, rfl, rfl, _, rfl, _, _, rfl, rfl, _, rfl, _, rfl, rfl, rfl, rfl, ?_⟩
  have ok := quo_ok (sc := sc) (p := p - e - (2 * (tl : Int) + 2)) n0 m0 m1 (Nat.le_refl (2 * tl + 2))
  refine ⟨x, sc, tl, s, _, _, way, _, rfl, F1, hs, quo_fit (x := ab n) (y := ab m) n0 (by omega) m0 (by omega), by omega, by omega, fun _ => ⟨by have := ok.1; show ¬ ab n * 2 ^ (2 * tl + 2) / ab m = 0; omega, ok.2⟩, fun t3 H4 nt3 s4 P3 => ?_⟩
  refine q t3 _ (sP.trans s4) ?_
  unfold quoR
  rw [dvi] at P3
  rw [show p - e - ((2 * tl + 2 : Nat) : Int) = p - e - (2 * (tl : Int) + 2) by omega]
  exact P3
def spDiv (C : Addr) : Sp := fun vs H Q _ => ∃ (x : Addr) (sc tl : Nat) (a b : Int) (way : Str), vs = [.ref x, .int a, .int b, .str way] ∧ FAt C H x sc tl ∧
  ∀ t H', Same H H' → PairAt H' t (divR sc tl a b way) → Q (.ref t) H'
theorem srt_dif (sc tl : Nat) (s : Int) : ¬ (srt sc tl s = "endless" ∧ srt sc tl s = "nought") := fun h => by
  rw [h.1] at h
  exact absurd h.2 (by decide +kernel)
theorem ok_divided (B : Bl mg) (L : LL K mg C CD a1 a2 a3 a4 a5 a6 a7 a8 a9 a10 a11 a12 a13 a14 a15 a16 a17 a18 a19 a20 a21 a22 a23 a24 a25 a26 a27 a28 a29 a30 a31 a32 a33 a34 a35 a36 a37 a38 a39 a40 a41 a42 a43 a44 a45 a46 a47 a48 l1 l2 l3 l4 l5 l6 l7 l8 l9 l10 l11 l12 l13 l14 l15 l16 l17 l18 l19 l20 l21 l22 l23 l24 l25 l26 l27 l28 l29 l30 l31 l32 l33 l34 l35 l36 l37 l38 l39 l40 l41 l42 l43 l44 l45 l46 l47 l48 t34 t35 t36 tg_NEAR tg_CUT tg_UP) : FnOk P w K mg base CX0 7 a13 l13 ["form", "a", "b", "way"] (spDiv C) := by
  have G_has_none : FnOk P w K mg base CX0 6 a14 l14 ["form", "words"] (spHN K C) := (ok_has_none B L).mono (by decide)
  have G_Form_none_word : FnOk P w K mg base CX0 6 a37 l37 ["self"] (spNamed0 C) := (ok_Form_none_word B L).mono (by decide)
  have G_Form_sort_of : FnOk P w K mg base CX0 6 a33 l33 ["self", "word"] (spSort C) := (ok_Form_sort_of B L).mono (by decide)
  have G_unlike_sign : FnOk P w K mg base CX0 6 a17 l17 ["form", "a", "b"] (spUnl C) := (ok_unlike_sign B L).mono (by decide)
  have G_bad : FnOk P w K mg base CX0 6 a15 l15 ["form"] (spBad C) := (ok_bad B L).mono (by decide)
  have G_Form_endless : FnOk P w K mg base CX0 6 a35 l35 ["self", "sign"] (spNm C mEn mNo) := (ok_Form_endless B L).mono (by decide)
  have G_Form_nought : FnOk P w K mg base CX0 6 a34 l34 ["self", "sign"] (spNm C mNo mNo) := (ok_Form_nought B L).mono (by decide)
  have G_Form_worth : FnOk P w K mg base CX0 6 a38 l38 ["self", "word"] (spWorth C) := (ok_Form_worth B L).mono (by decide)
  have G_quotient_rounded : FnOk P w K mg base CX0 6 a18 l18 ["form", "sign", "one", "other", "way"] (spQR K C) := (ok_quotient_rounded B L).mono (by decide)
  refine L.F_divided.ok sc_divided (fun vs H Q E h => ?_) (fun cdv A outer s H vs Q E hr h => ?_)
  · obtain ⟨x, sc, tl, a, b, way, rfl, _⟩ := h
    rfl
  obtain ⟨x, sc, tl, a, b, way, rfl, hF, q⟩ := h
  obtain ⟨dx, hx, h1, h2, h3, h4⟩ := id hF
  refine ⟨_, (pss_cons (ps_if (pt_val (pe_call G_has_none hr (by rfl) L.m_has_none L.F_has_none.kp L.b_has_none .nil pass0 (pa_cons (pv 0) (pa_cons (pe_tup (pa_cons (pv 1) (pa_cons (pv 2) pa_nil))) pa_nil)))) (pss_one (ps_ret (pe_tup (pa_cons (pe_meth0 (pv 0) L.T.cl L.M_Form_none_word G_Form_none_word hr L.b_Form_none_word .nil pass0) (pa_cons (pe_tup pa_nil) pa_nil))))) pss_nil)
    (pss_cons (ps_set (i := 4) sc_divided.nd rfl (.inl rfl) (pe_meth (pv 0) L.T.cl L.M_Form_sort_of G_Form_sort_of hr L.b_Form_sort_of .nil pass0 (pa_cons (pv 1) pa_nil)))
    (pss_cons (ps_set (i := 5) sc_divided.nd rfl (.inl rfl) (pe_meth (pv 0) L.T.cl L.M_Form_sort_of G_Form_sort_of hr L.b_Form_sort_of .nil pass0 (pa_cons (pv 2) pa_nil)))
    (pss_cons (ps_set (i := 6) sc_divided.nd rfl (.inl rfl) (pe_call G_unlike_sign hr (by rfl) L.m_unlike_sign L.F_unlike_sign.kp L.b_unlike_sign .nil pass0 (pa_cons (pv 0) (pa_cons (pv 1) (pa_cons (pv 2) pa_nil)))))
    (pss_cons (ps_if (PW.pt (pw_and (pt_cmpR op_eq (pv 4) (pv 5) (nomark _)) (pw_and1 (pt_cmpR op_in_seq (pv 4) (pe_tup (pa_cons pe_str (pa_cons pe_str pa_nil))) (by rfl))))) (pss_one (ps_ret (pe_call G_bad hr (by rfl) L.m_bad L.F_bad.kp L.b_bad .nil pass0 (pa_cons (pv 0) pa_nil)))) pss_nil)
    (pss_cons (ps_if (pt_cmpR op_eq (pv 4) pe_str (nomark _)) (pss_one (ps_ret (pe_tup (pa_cons (pe_meth (pv 0) L.T.cl L.M_Form_endless G_Form_endless hr L.b_Form_endless .nil pass0 (pa_cons (pv 6) pa_nil)) (pa_cons (pe_tup pa_nil) pa_nil))))) pss_nil)
    (pss_cons (ps_if (PW.pt (pw_or (pt_cmpR op_eq (pv 5) pe_str (nomark _)) (pw_or1 (pt_cmpR op_eq (pv 4) pe_str (nomark _))))) (pss_one (ps_ret (pe_tup (pa_cons (pe_meth (pv 0) L.T.cl L.M_Form_nought G_Form_nought hr L.b_Form_nought .nil pass0 (pa_cons (pv 6) pa_nil)) (pa_cons (pe_tup pa_nil) pa_nil))))) pss_nil)
    (pss_cons (ps_if (pt_cmpR op_eq (pv 5) pe_str (nomark _)) (pss_one (ps_ret (pe_tup (pa_cons (pe_meth (pv 0) L.T.cl L.M_Form_endless G_Form_endless hr L.b_Form_endless .nil pass0 (pa_cons (pv 6) pa_nil)) (pa_cons (pe_tup (pa_cons pe_str pa_nil)) pa_nil))))) pss_nil)
    (pss_one (ps_ret (pe_call G_quotient_rounded hr (by rfl) L.m_quotient_rounded L.F_quotient_rounded.kp L.b_quotient_rounded .nil pass0 (pa_cons (pv 0) (pa_cons (pv 6) (pa_cons (pe_meth (pv 0) L.T.cl L.M_Form_worth G_Form_worth hr L.b_Form_worth .nil pass0 (pa_cons (pv 1) pa_nil)) (pa_cons (pe_meth (pv 0) L.T.cl L.M_Form_worth G_Form_worth hr L.b_Form_worth .nil pass0 (pa_cons (pv 2) pa_nil)) (pa_cons (pv 3) pa_nil)))))))))))))))), ?_⟩
  refine ⟨_, rfl, _, rfl, _, rfl, (by show 2 ≤ sizeLine; decide), fun t nt => ?_⟩
  have st := same_upd (o := .tup [.int a, .int b]) nt
  refine ⟨x, t, sc, tl, [a, b], rfl, hF.same st, .inl (.inl upd_same), Nat.le_of_ble_eq_true rfl, fun r H1 s1 hr1 => ?_⟩
  have w1 := st.trans s1
  have e1 : r = true ↔ (srt sc tl (sz sc tl a) = "none" ∨ srt sc tl (sz sc tl b) = "none") := by
    rw [hr1]
    simp
  unfold divR at q
  refine ⟨_, rfl, ite2 (fun c => ?_) (fun c => ?_)⟩
  · refine ⟨_, rfl, x, dx, _, rfl, w1 _ _ hx, rfl, x, sc, tl, rfl, hF.same w1, Nat.zero_le _, fun e ne => ⟨(by show 2 ≤ sizeLine; decide), fun u nu => ?_⟩⟩
    have se := same_upd (o := .tup []) ne
    rw [show (0 * 2 ^ (sc + tl) + ((2 ^ sc - 1) * 2 ^ tl + 2 ^ (tl - 1)) : Int) = noneW sc tl by unfold noneW; omega]
    rw [if_pos (e1.mp c)] at q
    exact q u _ ((w1.trans se).trans (same_upd nu)) ⟨e, upd_same, same_upd nu _ _ upd_same⟩
  have n1 := fun z => c (e1.mpr z)
  rw [if_neg n1] at q
  refine ⟨_, rfl, x, dx, _, rfl, w1 _ _ hx, rfl, _, rfl, x, sc, tl, a, rfl, hF.same w1, fun H2 s2 => ?_⟩
  have w2 := w1.trans s2
  refine ⟨_, rfl, x, dx, _, rfl, w2 _ _ hx, rfl, _, rfl, x, sc, tl, b, rfl, hF.same w2, fun H3 s3 => ?_⟩
  have w3 := w2.trans s3
  refine ⟨_, rfl, _, rfl, _, rfl, x, sc, tl, a, b, rfl, hF.same w3, fun H4 s4 => ?_⟩
  have w4 := w3.trans s4
  have tpa := srt_top sc tl (sz sc tl a)
  have tpb := srt_top sc tl (sz sc tl b)
  have wnA := fun hn ht => ab_wn (sc := sc) (tl := tl) (v := a) hn ht
  have wnB := fun hn ht => ab_wn (sc := sc) (tl := tl) (v := b) hn ht
  have s01 := sx_01 sc tl a b
  have sd := srt_dif sc tl (sz sc tl a)
  try dsimp only [tNext, tSeq, gName]
  refine ifS_ev (fun r H' => (r = true ↔ ((srt sc tl (sz sc tl a) = "nought" ∧ srt sc tl (sz sc tl b) = "nought") ∨ (srt sc tl (sz sc tl a) = "endless" ∧ srt sc tl (sz sc tl b) = "endless"))) ∧ Same H4 H') (fun Q' q' => ?_) (fun HX hX => ?_) (fun HX hX => ?_)
  · refine ⟨_, rfl, _, rfl, rfl, _, rfl, ite2 (fun ca => ?_) (fun ca => ?_)⟩
    · have ca1 : srt sc tl (sz sc tl a) = srt sc tl (sz sc tl b) := V.str.inj (of_decide_eq_true ca)
      refine ⟨_, rfl, (by show 2 ≤ sizeLine; decide), fun U nU => ?_⟩
      refine ⟨U, _, rfl, .inr (.inl (.inl upd_same)), rfl, rfl, _, rfl, q' _ _ ⟨?_, same_upd nU⟩⟩
      show inV (.str (srt sc tl (sz sc tl a))) [.str "nought", .str "endless"] = true ↔ _
      rw [in_two, decide_eq_true_iff, ← ca1]
      exact ⟨fun z => z.imp (fun y => ⟨y.symm, y.symm⟩) (fun y => ⟨y.symm, y.symm⟩), fun z => z.imp (fun y => y.1.symm) (fun y => y.1.symm)⟩
    · have ca1 : ¬ srt sc tl (sz sc tl a) = srt sc tl (sz sc tl b) := fun z => ca (decide_eq_true (congrArg V.str z))
      exact q' _ _ ⟨⟨fun z => Bool.noConfusion z, fun z => absurd (z.elim (fun y => y.1.trans y.2.symm) (fun y => y.1.trans y.2.symm)) ca1⟩, Same.refl _⟩
  · have w5 := w4.trans hX.2
    refine ⟨_, rfl, x, sc, tl, rfl, hF.same w5, fun u H6 nu s6 pu => ?_⟩
    rw [if_pos (hX.1.mp rfl)] at q
    exact q u _ (w5.trans s6) pu
  have w5 := w4.trans hX.2
  rw [if_neg (mt hX.1.mpr (by decide))] at q
  have F5 := hF.same w5
  refine ⟨_, rfl, rfl, _, rfl, ite2 (fun ca => ?_) (fun ca => ?_)⟩
  · rw [if_pos (V.str.inj (of_decide_eq_true ca))] at q
    refine ⟨_, rfl, x, dx, _, rfl, w5 _ _ hx, rfl, _, rfl, x, sc, tl, _, rfl, F5, s01, Nat.zero_le _, fun e ne => ⟨(by show 2 ≤ sizeLine; decide), fun u nu => ?_⟩⟩
    exact q u _ ((w5.trans (same_upd ne)).trans (same_upd nu)) ⟨e, upd_same, same_upd nu _ _ upd_same⟩
  have ca1 : ¬ srt sc tl (sz sc tl a) = "endless" := fun z => ca (decide_eq_true (congrArg V.str z))
  rw [if_neg ca1] at q
  have noughtGo : (srt sc tl (sz sc tl b) = "endless" ∨ srt sc tl (sz sc tl a) = "nought") → ∀ e, HX e = none → ∀ u, (upd HX e (.tup [])) u = none → Q (.ref u) (upd (upd HX e (.tup [])) u (.tup [.int (sx sc tl a b * 2 ^ (sc + tl) + (0 * 2 ^ tl + 0)), .ref e])) := fun hc e ne u nu => by
    rw [if_pos hc] at q
    refine q u _ ((w5.trans (same_upd ne)).trans (same_upd nu)) ⟨e, ?_, same_upd nu _ _ upd_same⟩
    rw [upd_same, Int.zero_mul, Int.add_zero, Int.add_zero]
  refine ⟨_, rfl, rfl, _, rfl, ite2 (fun cb => ?_) (fun cb => ?_)⟩
  · have cb1 := V.str.inj (of_decide_eq_true cb)
    refine iteT ?_
    refine ⟨_, rfl, x, dx, _, rfl, w5 _ _ hx, rfl, _, rfl, x, sc, tl, _, rfl, F5, s01, Nat.zero_le _, fun e ne => ⟨(by show 2 ≤ sizeLine; decide), fun u nu => ?_⟩⟩
    exact noughtGo (.inl cb1) e ne u nu
  have cb1 : ¬ srt sc tl (sz sc tl b) = "endless" := fun z => cb (decide_eq_true (congrArg V.str z))
  refine ⟨_, rfl, rfl, _, rfl, ite2 (fun cc => ?_) (fun cc => ?_)⟩
  · have cc1 := V.str.inj (of_decide_eq_true cc)
    refine ⟨_, rfl, x, dx, _, rfl, w5 _ _ hx, rfl, _, rfl, x, sc, tl, _, rfl, F5, s01, Nat.zero_le _, fun e ne => ⟨(by show 2 ≤ sizeLine; decide), fun u nu => ?_⟩⟩
    exact noughtGo (.inr cc1) e ne u nu
  have cc1 : ¬ srt sc tl (sz sc tl a) = "nought" := fun z => cc (decide_eq_true (congrArg V.str z))
  rw [if_neg (fun z => z.elim cb1 cc1)] at q
  refine ⟨_, rfl, rfl, _, rfl, ite2 (fun cd => ?_) (fun cd => ?_)⟩
  · rw [if_pos (V.str.inj (of_decide_eq_true cd))] at q
    refine ⟨_, rfl, x, dx, _, rfl, w5 _ _ hx, rfl, _, rfl, x, sc, tl, _, rfl, F5, s01, (by show 1 ≤ sizeLine; decide), fun e ne => ⟨(by show 2 ≤ sizeLine; decide), fun u nu => ?_⟩⟩
    exact q u _ ((w5.trans (same_upd ne)).trans (same_upd nu)) ⟨e, upd_same, same_upd nu _ _ upd_same⟩
  have cd1 : ¬ srt sc tl (sz sc tl b) = "nought" := fun z => cd (decide_eq_true (congrArg V.str z))
  rw [if_neg cd1] at q
  have na : ¬ GM.topS sc tl ≤ sz sc tl a := fun z => (tpa.mpr z).elim ca1 (fun z => n1 (.inl z))
  have nb : ¬ GM.topS sc tl ≤ sz sc tl b := fun z => (tpb.mpr z).elim cb1 (fun z => n1 (.inr z))
  have ia := wp_in h1 h2 h4 na
  have ib := wp_in h1 h2 h4 nb
  refine ⟨_, rfl, _, rfl, _, rfl, x, dx, _, rfl, w5 _ _ hx, rfl, _, rfl, x, sc, tl, a, rfl, F5, fun H6 s6 z => absurd z na, fun H6 pa s6 _ ea => ?_⟩
  have w6 := w5.trans s6
  refine ⟨_, rfl, x, dx, _, rfl, w6 _ _ hx, rfl, _, rfl, x, sc, tl, b, rfl, hF.same w6, fun H7 s7 z => absurd z nb, fun H7 pb s7 _ eb => ?_⟩
  have w7 := w6.trans s7
  refine ⟨_, rfl, x, pa, pb, sc, tl, _, _, _, _, _, way, rfl, hF.same w7, s01, .inl (.inl (s7 _ _ ea)), .inl (.inl eb), (wnA cc1 na).1, (wnA cc1 na).2, (wnB cd1 nb).1, (wnB cd1 nb).2, ia.1, ia.2, ib.1, ib.2, fun t3 H8 s8 P3 => ?_⟩
  exact q t3 _ (w7.trans s8) P3
end
section
variable {P : Program} {w : World} {K : PySem.W.Frag} {mg : Str → Option Value} {base : Heap}
variable {C : Addr} {CD : Addr} {a1 a2 a3 a4 a5 a6 a7 a8 a9 a10 a11 a12 a13 a14 a15 a16 a17 a18 a19 a20 a21 a22 a23 a24 a25 a26 a27 a28 a29 a30 a31 a32 a33 a34 a35 a36 a37 a38 a39 a40 a41 a42 a43 a44 a45 a46 a47 a48 : Addr} {l1 l2 l3 l4 l5 l6 l7 l8 l9 l10 l11 l12 l13 l14 l15 l16 l17 l18 l19 l20 l21 l22 l23 l24 l25 l26 l27 l28 l29 l30 l31 l32 l33 l34 l35 l36 l37 l38 l39 l40 l41 l42 l43 l44 l45 l46 l47 l48 : FuncData} {t34 t35 t36 tg_NEAR tg_CUT tg_UP : Tok}
theorem dp_pair {H : Hp} {p : Addr} {r : Int × List Str} (h : PairAt H p r) : Dp K H (.ref p) (.tuple [.int r.1, .tuple (r.2.map PyData.str)]) := by
  obtain ⟨f, e1, e2⟩ := h
  refine .tup (.inl (.inl e1)) (.cons (.int _) (.cons (.tup (.inl (.inl e2)) ?_) .nil))
  generalize r.2 = l
  induction l with
  | nil => exact .nil
  | cons x l ih => exact .cons (.str x) ih
theorem lv_pair (r : Int × List Str) (h : r.2.length ≤ 1000) : Lv 2 (.tuple [.int r.1, .tuple (r.2.map PyData.str)]) := by
  refine ⟨by show 2 ≤ 1000000; decide, fun d hd => ?_⟩
  rcases List.mem_cons.mp hd with e | hd
  · rw [e]
    trivial
  · rcases List.mem_cons.mp hd with e | hd
    · rw [e]
      refine ⟨by rw [List.length_map]; omega, fun d hd => ?_⟩
      obtain ⟨x, _, rfl⟩ := List.mem_map.mp hd
      trivial
    · exact nomatch hd
theorem lv_pair3 (r : Int × List Str) (h : r.2.length ≤ 1000) : Lv 3 (.tuple [.int r.1, .tuple (r.2.map PyData.str)]) := by
  refine ⟨by show 2 ≤ 1000000; decide, fun d hd => ?_⟩
  rcases List.mem_cons.mp hd with e | hd
  · rw [e]
    trivial
  · rcases List.mem_cons.mp hd with e | hd
    · rw [e]
      refine ⟨by rw [List.length_map]; omega, fun d hd => ?_⟩
      obtain ⟨x, _, rfl⟩ := List.mem_map.mp hd
      trivial
    · exact nomatch hd
theorem and_ev {ta tb : TE} {σ : L2.St} {H : Hp} {Q : VK} (R : V → Hp → Prop) (h : ∀ Q : VK, (∀ z H', R z H' → Q z H') → tAndV ta tb σ H Q) (q : ∀ z H', R z H' → Q z H') : tAndV ta tb σ H Q := h Q q
theorem or_ev {ta tb : TE} {σ : L2.St} {H : Hp} {Q : VK} (R : V → Hp → Prop) (h : ∀ Q : VK, (∀ z H', R z H' → Q z H') → tOrV ta tb σ H Q) (q : ∀ z H', R z H' → Q z H') : tOrV ta tb σ H Q := h Q q
theorem ab_num (sc tl : Nat) (v : Int) : ab (wn sc tl v) = GM.num tl (sz sc tl v) := by
  have h := (num_zero (tl := tl) (sz_nn sc tl v)).1
  unfold wn ab
  split <;> split <;> omega
/-! ### steps of odd words -/
def hdv (sc tl : Nat) (v : Int) : Bool := decide (("small" : Str) = srt sc tl (sz sc tl v) ∨ ("plain" : Str) = srt sc tl (sz sc tl v))
def spHH (K : PySem.W.Frag) (C : Addr) : Sp := fun vs H Q _ => ∃ (x t : Addr) (sc tl : Nat) (xs : List Int), vs = [.ref x, .ref t] ∧ FAt C H x sc tl ∧ SqT K H t (xs.map V.int) ∧ xs.length ≤ 900 ∧ ∀ H', Same H H' → Q (.bl (xs.all (hdv sc tl))) H'
theorem ok_have_heads (B : Bl mg) (L : LL K mg C CD a1 a2 a3 a4 a5 a6 a7 a8 a9 a10 a11 a12 a13 a14 a15 a16 a17 a18 a19 a20 a21 a22 a23 a24 a25 a26 a27 a28 a29 a30 a31 a32 a33 a34 a35 a36 a37 a38 a39 a40 a41 a42 a43 a44 a45 a46 a47 a48 l1 l2 l3 l4 l5 l6 l7 l8 l9 l10 l11 l12 l13 l14 l15 l16 l17 l18 l19 l20 l21 l22 l23 l24 l25 l26 l27 l28 l29 l30 l31 l32 l33 l34 l35 l36 l37 l38 l39 l40 l41 l42 l43 l44 l45 l46 l47 l48 t34 t35 t36 tg_NEAR tg_CUT tg_UP) : FnOk P w K mg base CX0 4 a19 l19 ["form", "words"] (spHH K C) := by
  have G_Form_sort_of : FnOk P w K mg base CX0 3 a33 l33 ["self", "word"] (spSort C) := (ok_Form_sort_of B L).mono (by decide)
  refine L.F_have_heads.ok sc_have_heads (fun vs H Q E h => ?_) (fun cdv A outer s H vs Q E hr h => ?_)
  · obtain ⟨x, t, sc, tl, xs, rfl, _⟩ := h
    rfl
  obtain ⟨x, t, sc, tl, xs, rfl, hF, hT, hl, q⟩ := h
  obtain ⟨dx, hx, h1, h2, h3, h4⟩ := id hF
  refine ⟨_, (pss_one (ps_ret (pe_callB (cr_all rfl) (by rfl) B.all boot_all (pa_cons (pe_lc (own := [("word", 2)]) (by rfl) sc_have_heads.nd (pi_tup (pv 1)) (blkOk_by (own := [("word", 2)]) (N := ["form", "words", "word"]) (sc := defScope s_have_heads) (by decide +kernel)) (fun _ _ _ _ _ => pg_name (i := 2) sc_have_heads.nd rfl (Or.inl rfl)) (fun _ _ _ _ _ => pts_nil) (fun _ _ _ _ _ => (pe_cmpR (op_in_seqK (K := K)) (pe_meth (pv 0) L.T.cl L.M_Form_sort_of G_Form_sort_of hr L.b_Form_sort_of .nil pass0 (pa_cons (pv 2) pa_nil)) (pe_tup (pa_cons pe_str (pa_cons pe_str pa_nil))) (by rfl)))) pa_nil)))), ?_⟩
  refine ⟨_, rfl, t, rfl, ⟨_, hT⟩, fun D nD => ?_⟩
  refine lc_it (walk_tup (K := K) (a := t) (xs := xs.map V.int)) (fun i H9 => Same H H9 ∧ H9 D = some (.lst ((xs.take i).map fun v => V.bl (hdv sc tl v)))) ⟨same_upd nD, upd_same⟩ (fun i H9 _ ⟨s9, _⟩ => Same.seqT s9 hT) ?_ ?_
  · rintro j z H9 H10 hj ⟨s9, eD3⟩ ⟨rfl, hz⟩
    obtain ⟨v, hv, rfl⟩ := at_int' hz
    refine ⟨rfl, yesT ?_⟩
    refine ⟨_, rfl, x, dx, _, rfl, s9 _ _ hx, rfl, _, rfl, x, sc, tl, v, rfl, hF.same s9, fun H11 s11 => ?_⟩
    refine ⟨(by show 2 ≤ sizeLine; decide), fun U nU => ?_⟩
    have sU := same_upd (o := .tup [.str "small", .str "plain"]) nU
    have eD11 := sU _ _ (s11 _ _ eD3)
    refine ⟨U, _, rfl, .inr (.inl (.inl upd_same)), rfl, rfl, ?_⟩
    refine ⟨_, eD11, len_take _ _ _ hl, fun y u e => ?_, ?_⟩
    · rw [upd_ne (ne_of_none e nD)]
      exact sU _ _ (s11 _ _ (s9 _ _ e))
    · rw [upd_same, snoc_take _ _ hv]
      have : inV (.str (srt sc tl (sz sc tl v))) [.str "small", .str "plain"] = hdv sc tl v := in_two _ _ _
      show some (HO.lst (_ ++ [V.bl (inV (.str (srt sc tl (sz sc tl v))) [.str "small", .str "plain"])])) = _
      rw [this]
  rintro H9 ⟨s9, eD⟩
  rw [List.length_map, List.take_length] at eD
  have eD' : H9 D = some (.lst ((xs.map (hdv sc tl)).map V.bl)) := by
    rw [eD, List.map_map]
    rfl
  refine ⟨D, _, rfl, .inl (.inl eD'), ?_⟩
  have q' := q _ s9
  rw [show xs.all (hdv sc tl) = (xs.map (hdv sc tl)).all id by rw [List.all_map]; rfl] at q'
  exact q'
theorem hdv_real {sc tl : Nat} {v : Int} (h : hdv sc tl v = true) : ¬ GM.topS sc tl ≤ sz sc tl v ∧ ¬ sz sc tl v = 0 := by
  unfold hdv at h
  have h := of_decide_eq_true h
  refine ⟨fun z => ?_, fun z => ?_⟩
  · rcases (srt_top sc tl (sz sc tl v)).mpr z with y | y <;> rw [y] at h <;> exact absurd h (by decide +kernel)
  · by_cases c : GM.topS sc tl ≤ sz sc tl v
    · rcases (srt_top sc tl (sz sc tl v)).mpr c with y | y <;> rw [y] at h <;> exact absurd h (by decide +kernel)
    · rw [(srt_nought sc tl _).mpr ⟨c, z⟩] at h
      exact absurd h (by decide +kernel)
def spHO (C : Addr) : Sp := fun vs H Q _ => ∃ (x : Addr) (sc tl : Nat) (v : Int), vs = [.ref x, .int v] ∧ FAt C H x sc tl ∧ ¬ GM.topS sc tl ≤ sz sc tl v ∧
  ∀ t H', H t = none → Same H H' → H' t = some (.tup [.int (GM.num tl (sz sc tl v)), .int (wp sc tl v)]) → Q (.ref t) H'
theorem ok_head_of (B : Bl mg) (L : LL K mg C CD a1 a2 a3 a4 a5 a6 a7 a8 a9 a10 a11 a12 a13 a14 a15 a16 a17 a18 a19 a20 a21 a22 a23 a24 a25 a26 a27 a28 a29 a30 a31 a32 a33 a34 a35 a36 a37 a38 a39 a40 a41 a42 a43 a44 a45 a46 a47 a48 l1 l2 l3 l4 l5 l6 l7 l8 l9 l10 l11 l12 l13 l14 l15 l16 l17 l18 l19 l20 l21 l22 l23 l24 l25 l26 l27 l28 l29 l30 l31 l32 l33 l34 l35 l36 l37 l38 l39 l40 l41 l42 l43 l44 l45 l46 l47 l48 t34 t35 t36 tg_NEAR tg_CUT tg_UP) : FnOk P w K mg base CX0 4 a20 l20 ["form", "word"] (spHO C) := by
  have G_Form_worth : FnOk P w K mg base CX0 3 a38 l38 ["self", "word"] (spWorth C) := (ok_Form_worth B L).mono (by decide)
  refine L.F_head_of.ok sc_head_of (fun vs H Q E h => ?_) (fun cdv A outer s H vs Q E hr h => ?_)
  · obtain ⟨x, sc, tl, v, rfl, _⟩ := h
    rfl
  obtain ⟨x, sc, tl, v, rfl, hF, nt, q⟩ := h
  obtain ⟨dx, hx, h1, h2, h3, h4⟩ := id hF
  refine ⟨_, (pss_cons (ps_asg (pe_meth (pv 0) L.T.cl L.M_Form_worth G_Form_worth hr L.b_Form_worth .nil pass0 (pa_cons (pv 1) pa_nil)) (pg_tup (by rfl) (pgs_cons (pg_name (i := 2) sc_head_of.nd rfl (.inl rfl)) (pgs_cons (pg_name (i := 3) sc_head_of.nd rfl (.inl rfl)) pgs_nil))))
    (pss_one (ps_ret (pe_tup (pa_cons (pe_callB call_abs (by rfl) B.abs boot_abs (pa_cons (pv 2) pa_nil)) (pa_cons (pv 3) pa_nil)))))), ?_⟩
  refine ⟨_, rfl, x, dx, _, rfl, hx, rfl, _, rfl, x, sc, tl, v, rfl, hF, fun H1 s1 ca => absurd ca nt, fun H1 p s1 ca ep => ?_⟩
  refine ⟨p, _, rfl, .inl (.inl ep), rfl, _, _, rfl, _, _, rfl, rfl, ?_⟩
  refine ⟨_, rfl, _, rfl, _, rfl, (by show 2 ≤ sizeLine; decide), fun t nt => ?_⟩
  refine q t _ (s1.free nt) (s1.trans (same_upd nt)) ?_
  rw [upd_same, ← ab_num]
  rfl
end
section
variable {P : Program} {w : World} {K : PySem.W.Frag} {mg : Str → Option Value} {base : Heap}
variable {C : Addr} {CD : Addr} {a1 a2 a3 a4 a5 a6 a7 a8 a9 a10 a11 a12 a13 a14 a15 a16 a17 a18 a19 a20 a21 a22 a23 a24 a25 a26 a27 a28 a29 a30 a31 a32 a33 a34 a35 a36 a37 a38 a39 a40 a41 a42 a43 a44 a45 a46 a47 a48 : Addr} {l1 l2 l3 l4 l5 l6 l7 l8 l9 l10 l11 l12 l13 l14 l15 l16 l17 l18 l19 l20 l21 l22 l23 l24 l25 l26 l27 l28 l29 l30 l31 l32 l33 l34 l35 l36 l37 l38 l39 l40 l41 l42 l43 l44 l45 l46 l47 l48 : FuncData} {t34 t35 t36 tg_NEAR tg_CUT tg_UP : Tok}
/-! ### full heads -/
def hk (tl : Nat) (n : Int) : Nat := tl + 1 - Builtin.Int.intBits n
def fhN (sc tl : Nat) (v : Int) : Int := GM.num tl (sz sc tl v) * 2 ^ hk tl (GM.num tl (sz sc tl v))
def fhP (sc tl : Nat) (v : Int) : Int := wp sc tl v - (hk tl (GM.num tl (sz sc tl v)) : Nat)
theorem num_lt42 {tl : Nat} {u : Int} (h : 0 ≤ u) : GM.num tl u < 2 * 2 ^ tl := by
  have hp := GM.pow_pos' tl
  have l := Int.emod_lt_of_pos u hp
  unfold GM.num
  split <;> omega
theorem bits_in42 {sc tl : Nat} (v : Int) : Builtin.Int.intBits (GM.num tl (sz sc tl v)) ≤ tl + 1 := by
  have h0 := (num_zero (tl := tl) (sz_nn sc tl v)).1
  have h1 := num_lt42 (tl := tl) (sz_nn sc tl v)
  refine PyProof.Rows.intBits_le ?_
  have e : ((2 ^ (tl + 1) : Nat) : Int) = (2 : Int) ^ (tl + 1) := PySem.W.kbt_cast _
  have e2 : (2 : Int) ^ (tl + 1) = 2 ^ tl * 2 := GM.pow_s tl
  omega
def spFH (C : Addr) : Sp := fun vs H Q _ => ∃ (x : Addr) (sc tl : Nat) (v : Int), vs = [.ref x, .int v] ∧ FAt C H x sc tl ∧ ¬ GM.topS sc tl ≤ sz sc tl v ∧
  ∀ t H', Same H H' → H' t = some (.tup [.int (fhN sc tl v), .int (fhP sc tl v)]) → Q (.ref t) H'
theorem ok_full_head (B : Bl mg) (L : LL K mg C CD a1 a2 a3 a4 a5 a6 a7 a8 a9 a10 a11 a12 a13 a14 a15 a16 a17 a18 a19 a20 a21 a22 a23 a24 a25 a26 a27 a28 a29 a30 a31 a32 a33 a34 a35 a36 a37 a38 a39 a40 a41 a42 a43 a44 a45 a46 a47 a48 l1 l2 l3 l4 l5 l6 l7 l8 l9 l10 l11 l12 l13 l14 l15 l16 l17 l18 l19 l20 l21 l22 l23 l24 l25 l26 l27 l28 l29 l30 l31 l32 l33 l34 l35 l36 l37 l38 l39 l40 l41 l42 l43 l44 l45 l46 l47 l48 t34 t35 t36 tg_NEAR tg_CUT tg_UP) : FnOk P w K mg base CX0 5 a21 l21 ["form", "word"] (spFH C) := by
  have G_head_of : FnOk P w K mg base CX0 4 a20 l20 ["form", "word"] (spHO C) := (ok_head_of B L).mono (by decide)
  refine L.F_full_head.ok sc_full_head (fun vs H Q E h => ?_) (fun cdv A outer s H vs Q E hr h => ?_)
  · obtain ⟨x, sc, tl, v, rfl, _⟩ := h
    rfl
  obtain ⟨x, sc, tl, v, rfl, hF, nt, q⟩ := h
  refine ⟨_, (pss_cons (ps_asg (pe_call G_head_of hr (by rfl) L.m_head_of L.F_head_of.kp L.b_head_of .nil pass0 (pa_cons (pv 0) (pa_cons (pv 1) pa_nil))) (pg_tup (by rfl) (pgs_cons (pg_name (i := 2) sc_full_head.nd rfl (.inl rfl)) (pgs_cons (pg_name (i := 3) sc_full_head.nd rfl (.inl rfl)) pgs_nil))))
    (pss_cons (ps_set (i := 4) sc_full_head.nd rfl (.inl rfl) (pe_op op_sub (pe_op op_add (pe_fld (pv 0) rfl) pe_int) (pe_bits (pv 2))))
    (pss_one (ps_ret (pe_tup (pa_cons (pe_op op_shlN (pv 2) (pv 4)) (pa_cons (pe_op op_sub (pv 3) (pv 4)) pa_nil))))))), ?_⟩
  refine ⟨_, rfl, _, rfl, x, sc, tl, v, rfl, hF, nt, fun t H1 n1 s1 e1 => ?_⟩
  refine ⟨t, _, rfl, .inl (.inl e1), rfl, _, _, rfl, _, _, rfl, rfl, ?_⟩
  obtain ⟨dx, hx, h1, h2, h3, h4⟩ := id (hF.same s1)
  have hb := bits_in42 (sc := sc) (tl := tl) v
  have h0 := (num_zero (tl := tl) (sz_nn sc tl v)).1
  have h5 := num_lt42 (tl := tl) (sz_nn sc tl v)
  have p24 : (2 : Int) ^ tl ≤ 2 ^ 24 := GM.pow_le' h4
  simp only [L2.start, List.map_cons, List.map_nil, List.length_cons, List.length_nil, List.replicate_succ, List.replicate_zero, List.cons_append, List.nil_append, List.set_cons_succ, List.set_cons_zero, Nat.reduceAdd, Nat.reduceSub, Nat.zero_add]
  refine ⟨_, rfl, x, C, dx, _, _, rfl, hx, L.T.cl, L.T.nt, fl_t _ _, _, _, rfl, rfl, _, rfl, GM.num tl (sz sc tl v), rfl, _, _, rfl, rfl, ?_⟩
  refine gI (show _ = ((hk tl (GM.num tl (sz sc tl v)) : Nat) : Int) from ?_) ?_
  · unfold hk
    omega
  simp only [L2.start, List.map_cons, List.map_nil, List.length_cons, List.length_nil, List.replicate_succ, List.replicate_zero, List.cons_append, List.nil_append, List.set_cons_succ, List.set_cons_zero, Nat.reduceAdd, Nat.reduceSub, Nat.zero_add]
  refine ⟨_, rfl, _, rfl, _, hk tl (GM.num tl (sz sc tl v)), rfl, rfl, shl_ok (n := 26) (by omega) (by unfold hk; omega), _, rfl, _, rfl, _, _, rfl, rfl, (by show 2 ≤ sizeLine; decide), fun t2 nt2 => ?_⟩
  exact q t2 _ (s1.trans (same_upd nt2)) upd_same
/-! ### worth_of -/
def wof (ds : List Int) : Int := ds.foldl (fun w d => 2 * w + d) 0
def spWof (K : PySem.W.Frag) : Sp := fun vs H Q _ => ∃ (a : Addr) (ds : List Int), vs = [.ref a] ∧ SqL K H a (ds.map V.int) ∧ Q (.int (wof ds)) H
theorem wof_snoc {ds : List Int} {i : Nat} {d : Int} (h : ds[i]? = some d) : wof (ds.take (i + 1)) = 2 * wof (ds.take i) + d := by
  unfold wof
  rw [List.take_add_one, h, List.foldl_append]
  rfl
theorem ok_worth_of (B : Bl mg) (L : LL K mg C CD a1 a2 a3 a4 a5 a6 a7 a8 a9 a10 a11 a12 a13 a14 a15 a16 a17 a18 a19 a20 a21 a22 a23 a24 a25 a26 a27 a28 a29 a30 a31 a32 a33 a34 a35 a36 a37 a38 a39 a40 a41 a42 a43 a44 a45 a46 a47 a48 l1 l2 l3 l4 l5 l6 l7 l8 l9 l10 l11 l12 l13 l14 l15 l16 l17 l18 l19 l20 l21 l22 l23 l24 l25 l26 l27 l28 l29 l30 l31 l32 l33 l34 l35 l36 l37 l38 l39 l40 l41 l42 l43 l44 l45 l46 l47 l48 t34 t35 t36 tg_NEAR tg_CUT tg_UP) : FnOk P w K mg base CX0 1 a1 l1 ["digits"] (spWof K) := by
  refine L.F_worth_of.ok sc_worth_of (fun vs H Q E h => ?_) (fun cdv A outer s H vs Q E hr h => ?_)
  · obtain ⟨a, ds, rfl, _⟩ := h
    rfl
  obtain ⟨a, ds, rfl, hS, q⟩ := h
  refine ⟨_, (pss_cons (ps_set (i := 1) sc_worth_of.nd rfl (.inl rfl) pe_int)
    (pss_cons (ps_for PassesOwn.never rfl (pi_list (pv 0)) (pg_name (i := 2) sc_worth_of.nd rfl (.inl rfl)) (pss_one (ps_set (i := 1) sc_worth_of.nd rfl (.inl rfl) (pe_op op_add (pe_op op_mul pe_int (pv 1)) (pv 2)))))
    (pss_one (ps_ret (pv 1))))), ?_⟩
  refine ⟨_, rfl, a, rfl, ⟨_, hS⟩, for_list (K := K) (a := a) (xs := ds.map V.int) (fun i σ H3 => ∃ y2 : Option V, σ = [some (.ref a), some (.int (wof (ds.take i))), y2] ∧ H3 = H) ⟨none, rfl, rfl⟩ (fun i σ H3 _ ⟨_, _, e⟩ => by rw [e]; exact hS) ?_ ?_⟩
  · rintro i x σ H3 hx ⟨y2, rfl, rfl⟩
    obtain ⟨z, ez, rfl⟩ := at_int' hx
    refine ⟨_, rfl, _, _, rfl, rfl, .inl ⟨by decide, by decide⟩, _, rfl, _, _, rfl, rfl, some (.int z), ?_, rfl⟩
    rw [wof_snoc ez]
    rfl
  · rintro σ H3 ⟨y2, rfl, rfl⟩
    rw [List.length_map, List.take_length]
    exact ⟨_, rfl, q⟩
/-! ### a division under way -/
def DvF (f : Addr) (a b : Int) (way : Str) (sg : Bool) (l : Addr) (due : Int) (ov bb : V) (pw : Int) : List (Str × V) := [("form", .ref f), ("one", .int a), ("two", .int b), ("way", .str way), ("signed", .bl sg), ("told", .ref l), ("due", .int due), ("over", ov), ("by", bb), ("power", .int pw)]
structure DvAt (C CD : Addr) (H : Hp) (x f l : Addr) (sc tl : Nat) (a b : Int) (way : Str) (sg : Bool) (ds : List Int) (due : Int) (ov bb : V) (pw : Int) : Prop where
  row : ∃ dx, H x = some (.ins CD dx (DvF f a b way sg l due ov bb pw))
  fa : FAt C H f sc tl
  el : H l = some (.lst (ds.map V.int))
def dgt (sg : Bool) (tl : Nat) (y rest : Int) : Int := if sg = true then (if 2 ^ tl ≤ rest then 1 else if rest < -(2 ^ tl) then -1 else 0) else (if y ≤ rest then 1 else 0)
def spDig (C CD : Addr) : Sp := fun vs H Q _ => ∃ (x f l : Addr) (sc tl : Nat) (a b : Int) (way : Str) (sg : Bool) (ds : List Int) (due : Int) (ov : V) (y pw r : Int), vs = [.ref x, .int r] ∧ DvAt C CD H x f l sc tl a b way sg ds due ov (.int y) pw ∧ Q (.int (dgt sg tl y r)) H
theorem ok_Divider_digit_by (B : Bl mg) (L : LL K mg C CD a1 a2 a3 a4 a5 a6 a7 a8 a9 a10 a11 a12 a13 a14 a15 a16 a17 a18 a19 a20 a21 a22 a23 a24 a25 a26 a27 a28 a29 a30 a31 a32 a33 a34 a35 a36 a37 a38 a39 a40 a41 a42 a43 a44 a45 a46 a47 a48 l1 l2 l3 l4 l5 l6 l7 l8 l9 l10 l11 l12 l13 l14 l15 l16 l17 l18 l19 l20 l21 l22 l23 l24 l25 l26 l27 l28 l29 l30 l31 l32 l33 l34 l35 l36 l37 l38 l39 l40 l41 l42 l43 l44 l45 l46 l47 l48 t34 t35 t36 tg_NEAR tg_CUT tg_UP) : FnOk P w K mg base CX0 1 a42 l42 ["self", "rest"] (spDig C CD) := by
  refine L.F_Divider_digit_by.ok sc_Divider_digit_by (fun vs H Q E h => ?_) (fun cdv A outer s H vs Q E hr h => ?_)
  · obtain ⟨x, f, l, sc, tl, a, b, way, sg, ds, due, ov, y, pw, r, rfl, _⟩ := h
    rfl
  obtain ⟨x, f, l, sc, tl, a, b, way, sg, ds, due, ov, y, pw, r, rfl, ⟨⟨dx, hx⟩, ⟨df, hf, h1, h2, h3, h4⟩, el⟩, q⟩ := h
  refine ⟨_, (pss_cons (ps_if (pt_not (pt_val (pe_fld (pv 0) rfl))) (pss_one (ps_ret (pe_ifExp (pt_cmpR op_ge (pv 1) (pe_fld (pv 0) rfl) (nomark _)) pe_int pe_int))) pss_nil)
    (pss_cons (ps_set (i := 2) sc_Divider_digit_by.nd rfl (.inl rfl) (pe_op op_oneShl pe_int (pe_fld (pe_fld (pv 0) rfl) rfl)))
    (pss_cons (ps_if (pt_cmpR op_ge (pv 1) (pv 2) (nomark _)) (pss_one (ps_ret pe_int)) pss_nil)
    (pss_one (ps_ret (pe_ifExp (pt_cmpR op_lt (pv 1) (pe_un un_neg (pv 2)) (nomark _)) (pe_un un_neg pe_int) pe_int)))))), ?_⟩
  unfold dgt at q
  refine ⟨_, rfl, x, CD, dx, _, _, rfl, hx, L.T2.cl, L.T2.n_signed, rfl, ?_⟩
  cases sg with
  | false =>
    refine ⟨_, rfl, iteT ?_⟩
    rw [if_neg (by decide)] at q
    refine ⟨_, rfl, _, rfl, x, CD, dx, _, _, rfl, hx, L.T2.cl, L.T2.n_by, rfl, _, _, rfl, rfl, _, rfl, ite2 (fun c => ?_) (fun c => ?_)⟩
    · rw [if_pos (of_decide_eq_true c)] at q
      exact q
    · rw [if_neg (of_decide_eq_false (Bool.eq_false_iff.mpr c))] at q
      exact q
  | true =>
    refine ⟨_, rfl, iteF ?_⟩
    rw [if_pos rfl] at q
    refine ⟨_, rfl, x, CD, dx, _, _, rfl, hx, L.T2.cl, L.T2.n_form, rfl, f, C, df, _, _, rfl, hf, L.T.cl, L.T.nt, fl_t _ _, tl, rfl, rfl, by omega, ?_⟩
    simp only [L2.start, List.map_cons, List.map_nil, List.length_cons, List.length_nil, List.replicate_succ, List.replicate_zero, List.cons_append, List.nil_append, List.set_cons_succ, List.set_cons_zero, Nat.reduceAdd, Nat.reduceSub, Nat.zero_add]
    refine ⟨_, rfl, _, rfl, _, _, rfl, rfl, _, rfl, ite2 (fun c => ?_) (fun c => ?_)⟩
    · rw [if_pos (of_decide_eq_true c)] at q
      exact q
    rw [if_neg (of_decide_eq_false (Bool.eq_false_iff.mpr c))] at q
    refine ⟨_, rfl, _, rfl, _, rfl, _, _, rfl, rfl, _, rfl, ite2 (fun c => ?_) (fun c => ?_)⟩
    · rw [if_pos (of_decide_eq_true c)] at q
      exact ⟨_, rfl, q⟩
    · rw [if_neg (of_decide_eq_false (Bool.eq_false_iff.mpr c))] at q
      exact q
/-! ### what is told of it -/
def spLeft (C CD : Addr) : Sp := fun vs H Q _ => ∃ (x f l : Addr) (sc tl : Nat) (a b : Int) (way : Str) (sg : Bool) (ds : List Int) (due : Int) (ov bb : V) (pw : Int), vs = [.ref x] ∧ DvAt C CD H x f l sc tl a b way sg ds due ov bb pw ∧ Q (.int (due - (ds.length : Nat))) H
theorem ok_Divider_left (B : Bl mg) (L : LL K mg C CD a1 a2 a3 a4 a5 a6 a7 a8 a9 a10 a11 a12 a13 a14 a15 a16 a17 a18 a19 a20 a21 a22 a23 a24 a25 a26 a27 a28 a29 a30 a31 a32 a33 a34 a35 a36 a37 a38 a39 a40 a41 a42 a43 a44 a45 a46 a47 a48 l1 l2 l3 l4 l5 l6 l7 l8 l9 l10 l11 l12 l13 l14 l15 l16 l17 l18 l19 l20 l21 l22 l23 l24 l25 l26 l27 l28 l29 l30 l31 l32 l33 l34 l35 l36 l37 l38 l39 l40 l41 l42 l43 l44 l45 l46 l47 l48 t34 t35 t36 tg_NEAR tg_CUT tg_UP) : FnOk P w K mg base CX0 1 a47 l47 ["self"] (spLeft C CD) := by
  refine L.F_Divider_left.ok sc_Divider_left (fun vs H Q E h => ?_) (fun cdv A outer s H vs Q E hr h => ?_)
  · obtain ⟨x, f, l, sc, tl, a, b, way, sg, ds, due, ov, bb, pw, rfl, _⟩ := h
    rfl
  obtain ⟨x, f, l, sc, tl, a, b, way, sg, ds, due, ov, bb, pw, rfl, ⟨⟨dx, hx⟩, hF, el⟩, q⟩ := h
  refine ⟨_, (pss_one (ps_ret (pe_op op_sub (pe_fld (pv 0) rfl) (pe_callB call_len_seq (by rfl) B.len PySem.boot_len (pa_cons (pe_fld (pv 0) rfl) pa_nil))))), ?_⟩
  refine ⟨_, rfl, x, CD, dx, _, _, rfl, hx, L.T2.cl, L.T2.n_due, rfl, _, rfl, x, CD, dx, _, _, rfl, hx, L.T2.cl, L.T2.n_told, rfl, l, _, rfl, .inl (SqL.of el), _, _, rfl, rfl, ?_⟩
  rw [List.length_map]
  exact q
def spDigs (C CD : Addr) : Sp := fun vs H Q _ => ∃ (x f l : Addr) (sc tl : Nat) (a b : Int) (way : Str) (sg : Bool) (ds : List Int) (due : Int) (ov bb : V) (pw : Int), vs = [.ref x] ∧ DvAt C CD H x f l sc tl a b way sg ds due ov bb pw ∧ ds.length ≤ 900 ∧ ∀ p H', H p = none → Same H H' → H' p = some (.lst (ds.map V.int)) → Q (.ref p) H'
theorem ok_Divider_digits (B : Bl mg) (L : LL K mg C CD a1 a2 a3 a4 a5 a6 a7 a8 a9 a10 a11 a12 a13 a14 a15 a16 a17 a18 a19 a20 a21 a22 a23 a24 a25 a26 a27 a28 a29 a30 a31 a32 a33 a34 a35 a36 a37 a38 a39 a40 a41 a42 a43 a44 a45 a46 a47 a48 l1 l2 l3 l4 l5 l6 l7 l8 l9 l10 l11 l12 l13 l14 l15 l16 l17 l18 l19 l20 l21 l22 l23 l24 l25 l26 l27 l28 l29 l30 l31 l32 l33 l34 l35 l36 l37 l38 l39 l40 l41 l42 l43 l44 l45 l46 l47 l48 t34 t35 t36 tg_NEAR tg_CUT tg_UP) : FnOk P w K mg base CX0 1 a43 l43 ["self"] (spDigs C CD) := by
  refine L.F_Divider_digits.ok sc_Divider_digits (fun vs H Q E h => ?_) (fun cdv A outer s H vs Q E hr h => ?_)
  · obtain ⟨x, f, l, sc, tl, a, b, way, sg, ds, due, ov, bb, pw, rfl, _⟩ := h
    rfl
  obtain ⟨x, f, l, sc, tl, a, b, way, sg, ds, due, ov, bb, pw, rfl, ⟨⟨dx, hx⟩, hF, el⟩, hl, q⟩ := h
  refine ⟨_, (pss_one (ps_ret (pe_callTy call_list_of (by rfl) B.list PyProof.Rows.boot_list (pa_cons (pe_fld (pv 0) rfl) pa_nil)))), ?_⟩
  refine ⟨_, rfl, x, CD, dx, _, _, rfl, hx, L.T2.cl, L.T2.n_told, rfl, l, _, rfl, .inl (SqL.of el), fun p np => q p _ np (same_upd np) upd_same⟩
def spQuot (C CD : Addr) : Sp := fun vs H Q _ => ∃ (x f l : Addr) (sc tl : Nat) (a b : Int) (way : Str) (sg : Bool) (ds : List Int) (due : Int) (ov bb : V) (pw : Int), vs = [.ref x] ∧ DvAt C CD H x f l sc tl a b way sg ds due ov bb pw ∧ Q (.int (wof ds)) H
theorem ok_Divider_quotient (B : Bl mg) (L : LL K mg C CD a1 a2 a3 a4 a5 a6 a7 a8 a9 a10 a11 a12 a13 a14 a15 a16 a17 a18 a19 a20 a21 a22 a23 a24 a25 a26 a27 a28 a29 a30 a31 a32 a33 a34 a35 a36 a37 a38 a39 a40 a41 a42 a43 a44 a45 a46 a47 a48 l1 l2 l3 l4 l5 l6 l7 l8 l9 l10 l11 l12 l13 l14 l15 l16 l17 l18 l19 l20 l21 l22 l23 l24 l25 l26 l27 l28 l29 l30 l31 l32 l33 l34 l35 l36 l37 l38 l39 l40 l41 l42 l43 l44 l45 l46 l47 l48 t34 t35 t36 tg_NEAR tg_CUT tg_UP) : FnOk P w K mg base CX0 2 a44 l44 ["self"] (spQuot C CD) := by
  have G_worth_of : FnOk P w K mg base CX0 1 a1 l1 ["digits"] (spWof K) := (ok_worth_of B L).mono (by decide)
  refine L.F_Divider_quotient.ok sc_Divider_quotient (fun vs H Q E h => ?_) (fun cdv A outer s H vs Q E hr h => ?_)
  · obtain ⟨x, f, l, sc, tl, a, b, way, sg, ds, due, ov, bb, pw, rfl, _⟩ := h
    rfl
  obtain ⟨x, f, l, sc, tl, a, b, way, sg, ds, due, ov, bb, pw, rfl, ⟨⟨dx, hx⟩, hF, el⟩, q⟩ := h
  refine ⟨_, (pss_one (ps_ret (pe_call G_worth_of hr (by rfl) L.m_worth_of L.F_worth_of.kp L.b_worth_of .nil pass0 (pa_cons (pe_fld (pv 0) rfl) pa_nil)))), ?_⟩
  exact ⟨_, rfl, x, CD, dx, _, _, rfl, hx, L.T2.cl, L.T2.n_told, rfl, l, ds, rfl, SqL.of el, q⟩
def spRest (C CD : Addr) : Sp := fun vs H Q _ => ∃ (x f l : Addr) (sc tl : Nat) (a b : Int) (way : Str) (sg : Bool) (ds : List Int) (due : Int) (ov bb : V) (pw : Int), vs = [.ref x] ∧ DvAt C CD H x f l sc tl a b way sg ds due ov bb pw ∧ Q ov H
theorem ok_Divider_rest (B : Bl mg) (L : LL K mg C CD a1 a2 a3 a4 a5 a6 a7 a8 a9 a10 a11 a12 a13 a14 a15 a16 a17 a18 a19 a20 a21 a22 a23 a24 a25 a26 a27 a28 a29 a30 a31 a32 a33 a34 a35 a36 a37 a38 a39 a40 a41 a42 a43 a44 a45 a46 a47 a48 l1 l2 l3 l4 l5 l6 l7 l8 l9 l10 l11 l12 l13 l14 l15 l16 l17 l18 l19 l20 l21 l22 l23 l24 l25 l26 l27 l28 l29 l30 l31 l32 l33 l34 l35 l36 l37 l38 l39 l40 l41 l42 l43 l44 l45 l46 l47 l48 t34 t35 t36 tg_NEAR tg_CUT tg_UP) : FnOk P w K mg base CX0 1 a45 l45 ["self"] (spRest C CD) := by
  refine L.F_Divider_rest.ok sc_Divider_rest (fun vs H Q E h => ?_) (fun cdv A outer s H vs Q E hr h => ?_)
  · obtain ⟨x, f, l, sc, tl, a, b, way, sg, ds, due, ov, bb, pw, rfl, _⟩ := h
    rfl
  obtain ⟨x, f, l, sc, tl, a, b, way, sg, ds, due, ov, bb, pw, rfl, ⟨⟨dx, hx⟩, hF, el⟩, q⟩ := h
  refine ⟨_, (pss_one (ps_ret (pe_fld (pv 0) rfl))), ?_⟩
  exact ⟨_, rfl, x, CD, dx, _, _, rfl, hx, L.T2.cl, L.T2.n_over, rfl, q⟩
/-! ### one step -/
def Kx (x l : Addr) (H H' : Hp) : Prop := ∀ p u, H p = some u → p ≠ x → p ≠ l → H' p = some u
def rst (ds : List Int) (o : Int) : Int := if ds = [] then o else 2 * o
theorem DvAt.nfx {C CD : Addr} {H : Hp} {x f l : Addr} {sc tl : Nat} {a b : Int} {way : Str} {sg : Bool} {ds : List Int} {due : Int} {ov bb : V} {pw : Int} (h : DvAt C CD H x f l sc tl a b way sg ds due ov bb pw) : f ≠ x ∧ f ≠ l ∧ l ≠ x := by
  obtain ⟨⟨dx, hx⟩, ⟨df, hf, _⟩, el⟩ := h
  refine ⟨fun z => ?_, fun z => ?_, fun z => ?_⟩
  · rw [z, hx] at hf
    cases hf
  · rw [z, el] at hf
    cases hf
  · rw [z, hx] at el
    cases el
theorem dp_ints42 {H : Hp} : ∀ ds : List Int, DpAll K H (ds.map V.int) (ds.map PyData.int)
  | [] => .nil
  | d :: ds => .cons (.int d) (dp_ints42 ds)
theorem lay_ints42 : ∀ ds : List Int, PyData.canLayAll0 (ds.map PyData.int) = true ∧ PyData.depthAll (ds.map PyData.int) ≤ 1
  | [] => by
    refine ⟨rfl, ?_⟩
    show PyData.depthAll [] ≤ 1
    simp [PyData.depthAll]
  | d :: ds => by
    have ih := lay_ints42 ds
    constructor
    · simp [PyData.canLayAll0, PyData.canLay0, ih.1]
    · have := ih.2
      simp only [List.map_cons, PyData.depthAll, PyData.depth]
      omega
theorem shp_ints42 (ds : List Int) : PySem.SeqAt.shaped (.list (ds.map PyData.int)) = true := by
  have c := lay_ints42 ds
  have d : PyData.depth (.list (ds.map PyData.int)) ≤ 64 := by
    have := c.2
    simp only [PyData.depth]
    omega
  show (PyData.canLay0 (.list (ds.map PyData.int)) && decide (PyData.depth (.list (ds.map PyData.int)) ≤ 64)) = true
  rw [Bool.and_eq_true]
  exact ⟨by simp only [PyData.canLay0]; exact c.1, decide_eq_true d⟩
theorem eqv_nil42 (ds : List Int) : PyData.eqv (.list (ds.map PyData.int)) (.list []) = decide (ds = []) := by
  cases ds with
  | nil => decide +kernel
  | cons d ds => simp [PyData.eqv, PyData.eqvAll]
theorem gnext_asg42 {σ : L2.St} {H : Hp} {t : TE} {g : TG} {r : TS} {D : Ends} (h : t σ H (fun x H1 => g x σ H1 ({ D with nx := r D } : Ends).nx)) : tNext ({ D with nx := tSeq (tAsg t g) r D } : Ends) σ H := h
theorem DvAt.same {C CD : Addr} {H H' : Hp} {x f l : Addr} {sc tl : Nat} {a b : Int} {way : Str} {sg : Bool} {ds : List Int} {due : Int} {ov bb : V} {pw : Int} (h : DvAt C CD H x f l sc tl a b way sg ds due ov bb pw) (s : Same H H') : DvAt C CD H' x f l sc tl a b way sg ds due ov bb pw := by
  obtain ⟨⟨dx, hx⟩, hF, el⟩ := h
  exact ⟨⟨dx, s _ _ hx⟩, hF.same s, s _ _ el⟩
theorem dgt_in (sg : Bool) (tl : Nat) (y r : Int) : -1 ≤ dgt sg tl y r ∧ dgt sg tl y r ≤ 1 := by
  unfold dgt
  repeat' split
  all_goals omega
def spStep (C CD : Addr) : Sp := fun vs H Q _ => ∃ (x f l : Addr) (sc tl : Nat) (a b : Int) (way : Str) (sg : Bool) (ds : List Int) (due o y pw : Int), vs = [.ref x] ∧ DvAt C CD H x f l sc tl a b way sg ds due (.int o) (.int y) pw ∧ ¬ due - (ds.length : Nat) = 0 ∧ ds.length ≤ 900 ∧ -(2 ^ 40) ≤ o ∧ o ≤ 2 ^ 40 ∧ 0 ≤ y ∧ y ≤ 2 ^ 40 ∧
  ∀ H', DvAt C CD H' x f l sc tl a b way sg (ds ++ [dgt sg tl y (rst ds o)]) due (.int (rst ds o - dgt sg tl y (rst ds o) * y)) (.int y) pw → Kx x l H H' → Q (.int (dgt sg tl y (rst ds o))) H'
theorem ok_Divider_step (B : Bl mg) (L : LL K mg C CD a1 a2 a3 a4 a5 a6 a7 a8 a9 a10 a11 a12 a13 a14 a15 a16 a17 a18 a19 a20 a21 a22 a23 a24 a25 a26 a27 a28 a29 a30 a31 a32 a33 a34 a35 a36 a37 a38 a39 a40 a41 a42 a43 a44 a45 a46 a47 a48 l1 l2 l3 l4 l5 l6 l7 l8 l9 l10 l11 l12 l13 l14 l15 l16 l17 l18 l19 l20 l21 l22 l23 l24 l25 l26 l27 l28 l29 l30 l31 l32 l33 l34 l35 l36 l37 l38 l39 l40 l41 l42 l43 l44 l45 l46 l47 l48 t34 t35 t36 tg_NEAR tg_CUT tg_UP) : FnOk P w K mg base CX0 3 a41 l41 ["self"] (spStep C CD) := by
  have G_Divider_left : FnOk P w K mg base CX0 2 a47 l47 ["self"] (spLeft C CD) := (ok_Divider_left B L).mono (by decide)
  have G_Divider_digit_by : FnOk P w K mg base CX0 2 a42 l42 ["self", "rest"] (spDig C CD) := (ok_Divider_digit_by B L).mono (by decide)
  refine L.F_Divider_step.ok sc_Divider_step (fun vs H Q E h => ?_) (fun cdv A outer s H vs Q E hr h => ?_)
  · obtain ⟨x, f, l, sc, tl, a, b, way, sg, ds, due, o, y, pw, rfl, _⟩ := h
    rfl
  obtain ⟨x, f, l, sc, tl, a, b, way, sg, ds, due, o, y, pw, rfl, D, hd, hl, o0, o1, y0, y1, q⟩ := h
  refine ⟨_, (pss_cons (ps_if (pt_cmpR op_eq (pe_meth0 (pv 0) L.T2.cl L.M_Divider_left G_Divider_left hr L.b_Divider_left .nil pass0) pe_int (nomark _)) (pss_one ps_never) pss_nil)
    (pss_cons (ps_set (i := 1) sc_Divider_step.nd rfl (.inl rfl) (pe_ifExp (pt_cmpR (op_eqD hr.units) (pe_fld (pv 0) rfl) (pe_lst pa_nil) (nomark _)) (pe_fld (pv 0) rfl) (pe_op op_mul pe_int (pe_fld (pv 0) rfl))))
    (pss_cons (ps_set (i := 2) sc_Divider_step.nd rfl (.inl rfl) (pe_meth (pv 0) L.T2.cl L.M_Divider_digit_by G_Divider_digit_by hr L.b_Divider_digit_by .nil pass0 (pa_cons (pv 1) pa_nil)))
    (pss_cons (ps_fld (pv 0) (pe_op op_sub (pv 1) (pe_op op_mul (pv 2) (pe_fld (pv 0) rfl))) rfl)
    (pss_cons (ps_expr (pe_bm PySem.F.plainAttrs_list PySem.F.slot_list_append PySem.F.type_list_append mt_append (pe_fld (pv 0) rfl) (pa_cons (pv 2) pa_nil)))
    (pss_one (ps_ret (pv 2)))))))), ?_⟩
  obtain ⟨⟨dx, hx⟩, hF, el⟩ := id D
  refine ⟨_, rfl, x, dx, _, rfl, hx, rfl, x, f, l, sc, tl, a, b, way, sg, ds, due, .int o, .int y, pw, rfl, D, rfl, _, rfl, ite2 (fun c => absurd (V.int.inj (of_decide_eq_true c)) hd) (fun _ => ?_)⟩
  refine gnext_asg42 ?_
  refine if_ev (fun z H' => z = .int (rst ds o) ∧ Same H H') (fun Q' q' => ?_) ?_
  · refine ⟨_, rfl, x, CD, dx, _, _, rfl, hx, L.T2.cl, L.T2.n_told, rfl, Nat.zero_le _, fun e ne => ?_⟩
    have se := same_upd (o := .lst []) ne
    refine ⟨.list (ds.map PyData.int), .list [], .lst (SqL.of (se _ _ el)) (dp_ints42 ds), .lst (SqL.of upd_same) .nil, shp_ints42 ds, by decide +kernel, ?_⟩
    rw [eqv_nil42]
    refine ⟨_, rfl, ite2 (fun c => ?_) (fun c => ?_)⟩
    · refine ⟨_, rfl, x, CD, dx, _, _, rfl, se _ _ hx, L.T2.cl, L.T2.n_over, rfl, q' _ _ ⟨?_, se⟩⟩
      unfold rst
      rw [if_pos (of_decide_eq_true c)]
    · refine ⟨_, rfl, x, CD, dx, _, _, rfl, se _ _ hx, L.T2.cl, L.T2.n_over, rfl, _, _, rfl, rfl, .inl ⟨by decide, by omega⟩, q' _ _ ⟨?_, se⟩⟩
      unfold rst
      rw [if_neg (of_decide_eq_false (Bool.eq_false_iff.mpr c))]
  rintro _ H1 ⟨rfl, s1⟩
  simp only [L2.start, List.map_cons, List.map_nil, List.length_cons, List.length_nil, List.replicate_succ, List.replicate_zero, List.cons_append, List.nil_append, List.set_cons_succ, List.set_cons_zero, Nat.reduceAdd, Nat.reduceSub, Nat.zero_add]
  have D1 := D.same s1
  obtain ⟨nfx, nfl, nlx⟩ := D1.nfx
  have dg := dgt_in sg tl y (rst ds o)
  refine ⟨_, rfl, x, dx, _, rfl, s1 _ _ hx, rfl, _, rfl, x, f, l, sc, tl, a, b, way, sg, ds, due, .int o, y, pw, rst ds o, rfl, D1, ?_⟩
  generalize dgt sg tl y (rst ds o) = d at *
  simp only [L2.start, List.map_cons, List.map_nil, List.length_cons, List.length_nil, List.replicate_succ, List.replicate_zero, List.cons_append, List.nil_append, List.set_cons_succ, List.set_cons_zero, Nat.reduceAdd, Nat.reduceSub, Nat.zero_add]
  refine ⟨_, rfl, _, rfl, _, rfl, x, CD, dx, _, _, rfl, s1 _ _ hx, L.T2.cl, L.T2.n_by, rfl, _, _, rfl, rfl, .inl ⟨by omega, by omega⟩, _, _, rfl, rfl, _, rfl, x, CD, dx, _, rfl, s1 _ _ hx, L.T2.cl, L.T2.n_over, (by show 10 < 1000; decide), ?_⟩
  have elx : (upd H1 x (.ins CD dx (DvF f a b way sg l due (.int (rst ds o - d * y)) (.int y) pw))) l = some (.lst (ds.map V.int)) := by
    rw [upd_ne nlx]
    exact s1 _ _ el
  refine ⟨_, rfl, x, CD, dx, _, _, rfl, upd_same, L.T2.cl, L.T2.n_told, rfl, .inl ⟨rfl, _, SqL.of elx⟩, _, rfl, l, _, _, rfl, rfl, elx, (by rw [List.length_map]; exact small1000 (by omega)), ?_⟩
  refine ⟨_, rfl, q _ ⟨⟨dx, ?_⟩, ?_, ?_⟩ ?_⟩
  · rw [upd_ne nlx.symm, upd_same]
    rfl
  · obtain ⟨df, hf, hr4⟩ := D1.fa
    exact ⟨df, by rw [upd_ne nfl, upd_ne nfx]; exact hf, hr4⟩
  · rw [upd_same, List.map_append]
    rfl
  · intro p u e n m
    rw [upd_ne m, upd_ne n]
    exact s1 _ _ e
theorem DvAt.put {C CD : Addr} {H : Hp} {x f l : Addr} {sc tl : Nat} {a b : Int} {way : Str} {sg : Bool} {ds : List Int} {due : Int} {ov bb : V} {pw : Int} (h : DvAt C CD H x f l sc tl a b way sg ds due ov bb pw) (dx : Addr) (due' : Int) (ov' bb' : V) (pw' : Int) : DvAt C CD (upd H x (.ins CD dx (DvF f a b way sg l due' ov' bb' pw'))) x f l sc tl a b way sg ds due' ov' bb' pw' := by
  obtain ⟨nfx, nfl, nlx⟩ := h.nfx
  obtain ⟨_, ⟨df, hf, hr4⟩, el⟩ := h
  exact ⟨⟨dx, upd_same⟩, ⟨df, by rw [upd_ne nfx]; exact hf, hr4⟩, by rw [upd_ne nlx]; exact el⟩
/-! ### begun -/
def spBegin (C CD : Addr) : Sp := fun vs H Q _ => ∃ (x f l : Addr) (sc tl : Nat) (a b : Int) (way : Str) (sg : Bool) (due : Int) (ov bb : V) (pw : Int), vs = [.ref x] ∧ DvAt C CD H x f l sc tl a b way sg [] due ov bb pw ∧ ¬ GM.topS sc tl ≤ sz sc tl a ∧ ¬ GM.topS sc tl ≤ sz sc tl b ∧
  ∀ H', DvAt C CD H' x f l sc tl a b way sg [] ((tl : Int) + 3) (.int (fhN sc tl a)) (.int (fhN sc tl b)) (fhP sc tl a - fhP sc tl b - tl - 2) → (∀ p u, H p = some u → p ≠ x → H' p = some u) → Q .non H'
theorem ok_Divider_begin (B : Bl mg) (L : LL K mg C CD a1 a2 a3 a4 a5 a6 a7 a8 a9 a10 a11 a12 a13 a14 a15 a16 a17 a18 a19 a20 a21 a22 a23 a24 a25 a26 a27 a28 a29 a30 a31 a32 a33 a34 a35 a36 a37 a38 a39 a40 a41 a42 a43 a44 a45 a46 a47 a48 l1 l2 l3 l4 l5 l6 l7 l8 l9 l10 l11 l12 l13 l14 l15 l16 l17 l18 l19 l20 l21 l22 l23 l24 l25 l26 l27 l28 l29 l30 l31 l32 l33 l34 l35 l36 l37 l38 l39 l40 l41 l42 l43 l44 l45 l46 l47 l48 t34 t35 t36 tg_NEAR tg_CUT tg_UP) : FnOk P w K mg base CX0 6 a40 l40 ["self"] (spBegin C CD) := by
  have G_full_head : FnOk P w K mg base CX0 5 a21 l21 ["form", "word"] (spFH C) := (ok_full_head B L).mono (by decide)
  refine L.F_Divider_begin.ok sc_Divider_begin (fun vs H Q E h => ?_) (fun cdv A outer s H vs Q E hr h => ?_)
  · obtain ⟨x, f, l, sc, tl, a, b, way, sg, due, ov, bb, pw, rfl, _⟩ := h
    rfl
  obtain ⟨x, f, l, sc, tl, a, b, way, sg, due, ov, bb, pw, rfl, D, na, nb, q⟩ := h
  refine ⟨_, (pss_cons (ps_asg (pe_call G_full_head hr (by rfl) L.m_full_head L.F_full_head.kp L.b_full_head .nil pass0 (pa_cons (pe_fld (pv 0) rfl) (pa_cons (pe_fld (pv 0) rfl) pa_nil))) (pg_tup (by rfl) (pgs_cons (pg_attr (pv 0)) (pgs_cons (pg_name (i := 1) sc_Divider_begin.nd rfl (.inl rfl)) pgs_nil))))
    (pss_cons (ps_asg (pe_call G_full_head hr (by rfl) L.m_full_head L.F_full_head.kp L.b_full_head .nil pass0 (pa_cons (pe_fld (pv 0) rfl) (pa_cons (pe_fld (pv 0) rfl) pa_nil))) (pg_tup (by rfl) (pgs_cons (pg_attr (pv 0)) (pgs_cons (pg_name (i := 2) sc_Divider_begin.nd rfl (.inl rfl)) pgs_nil))))
    (pss_cons (ps_fld (pv 0) (pe_op op_add (pe_fld (pe_fld (pv 0) rfl) rfl) pe_int) rfl)
    (pss_one (ps_fld (pv 0) (pe_op op_sub (pe_op op_sub (pe_op op_sub (pv 1) (pv 2)) (pe_fld (pe_fld (pv 0) rfl) rfl)) pe_int) rfl))))), ?_⟩
  obtain ⟨⟨dx, hx⟩, hF, el⟩ := id D
  obtain ⟨nfx, nfl, nlx⟩ := D.nfx
  refine ⟨_, rfl, x, CD, dx, _, _, rfl, hx, L.T2.cl, L.T2.n_form, rfl, _, rfl, x, CD, dx, _, _, rfl, hx, L.T2.cl, L.T2.n_one, rfl, f, sc, tl, a, rfl, hF, na, fun t1 H1 s1 e1 => ?_⟩
  refine ⟨t1, _, rfl, .inl (.inl e1), rfl, _, _, rfl, ?_⟩
  refine ⟨_, rfl, x, CD, dx, _, rfl, s1 _ _ hx, L.T2.cl, L.T2.n_over, (by show 10 < 1000; decide), ?_⟩
  refine ⟨_, _, rfl, rfl, ?_⟩
  have D2 := (D.same s1).put dx due (.int (fhN sc tl a)) bb pw
  obtain ⟨H2, hH2⟩ : ∃ H2, H2 = upd H1 x (.ins CD dx (DvF f a b way sg l due (.int (fhN sc tl a)) bb pw)) := ⟨_, rfl⟩
  have k2 : ∀ p u, H p = some u → p ≠ x → H2 p = some u := fun p u e n => by
    rw [hH2, upd_ne n]
    exact s1 _ _ e
  have hx2 : H2 x = some (.ins CD dx (DvF f a b way sg l due (.int (fhN sc tl a)) bb pw)) := by
    rw [hH2]
    exact upd_same
  rw [← hH2] at D2
  show tSeq _ _ _ _ (upd H1 x (.ins CD dx (DvF f a b way sg l due (.int (fhN sc tl a)) bb pw)))
  rw [← hH2]
  simp only [L2.start, List.map_cons, List.map_nil, List.length_cons, List.length_nil, List.replicate_succ, List.replicate_zero, List.cons_append, List.nil_append, List.set_cons_succ, List.set_cons_zero, Nat.reduceAdd, Nat.reduceSub, Nat.zero_add]
  refine ⟨_, rfl, x, CD, dx, _, _, rfl, hx2, L.T2.cl, L.T2.n_form, rfl, _, rfl, x, CD, dx, _, _, rfl, hx2, L.T2.cl, L.T2.n_two, rfl, f, sc, tl, b, rfl, D2.fa, nb, fun t2 H3 s3 e3 => ?_⟩
  refine ⟨t2, _, rfl, .inl (.inl e3), rfl, _, _, rfl, ?_⟩
  refine ⟨_, rfl, x, CD, dx, _, rfl, s3 _ _ hx2, L.T2.cl, L.T2.n_by, (by show 10 < 1000; decide), ?_⟩
  refine ⟨_, _, rfl, rfl, ?_⟩
  have D4 := (D2.same s3).put dx due (.int (fhN sc tl a)) (.int (fhN sc tl b)) pw
  obtain ⟨H4, hH4⟩ : ∃ H4, H4 = upd H3 x (.ins CD dx (DvF f a b way sg l due (.int (fhN sc tl a)) (.int (fhN sc tl b)) pw)) := ⟨_, rfl⟩
  have k4 : ∀ p u, H p = some u → p ≠ x → H4 p = some u := fun p u e n => by
    rw [hH4, upd_ne n]
    exact s3 _ _ (k2 _ _ e n)
  have hx4 : H4 x = some (.ins CD dx (DvF f a b way sg l due (.int (fhN sc tl a)) (.int (fhN sc tl b)) pw)) := by
    rw [hH4]
    exact upd_same
  rw [← hH4] at D4
  show tSeq _ _ _ _ (upd H3 x (.ins CD dx (DvF f a b way sg l due (.int (fhN sc tl a)) (.int (fhN sc tl b)) pw)))
  rw [← hH4]
  simp only [L2.start, List.map_cons, List.map_nil, List.length_cons, List.length_nil, List.replicate_succ, List.replicate_zero, List.cons_append, List.nil_append, List.set_cons_succ, List.set_cons_zero, Nat.reduceAdd, Nat.reduceSub, Nat.zero_add]
  obtain ⟨df, hf, h1, h2, h3, h4⟩ := id D4.fa
  refine ⟨_, rfl, x, CD, dx, _, _, rfl, hx4, L.T2.cl, L.T2.n_form, rfl, f, C, df, _, _, rfl, hf, L.T.cl, L.T.nt, fl_t _ _, _, _, rfl, rfl, ?_⟩
  refine ⟨_, rfl, x, CD, dx, _, rfl, hx4, L.T2.cl, L.T2.n_due, (by show 10 < 1000; decide), ?_⟩
  have D5 := D4.put dx ((tl : Int) + 3) (.int (fhN sc tl a)) (.int (fhN sc tl b)) pw
  obtain ⟨df, hf, h1, h2, h3, h4⟩ := id D5.fa
  refine ⟨_, rfl, _, rfl, _, _, rfl, rfl, _, rfl, x, CD, dx, _, _, rfl, upd_same, L.T2.cl, L.T2.n_form, rfl, f, C, df, _, _, rfl, hf, L.T.cl, L.T.nt, fl_t _ _, _, _, rfl, rfl, _, _, rfl, rfl, ?_⟩
  refine ⟨_, rfl, x, CD, dx, _, rfl, upd_same, L.T2.cl, L.T2.n_power, (by show 10 < 1000; decide), ?_⟩
  refine q _ (D5.put dx ((tl : Int) + 3) (.int (fhN sc tl a)) (.int (fhN sc tl b)) (fhP sc tl a - fhP sc tl b - tl - 2)) fun p u e n => ?_
  rw [upd_ne n, upd_ne n]
  exact k4 _ _ e n
end
section
variable {P : Program} {w : World} {K : PySem.W.Frag} {mg : Str → Option Value} {base : Heap}
variable {C : Addr} {CD : Addr} {a1 a2 a3 a4 a5 a6 a7 a8 a9 a10 a11 a12 a13 a14 a15 a16 a17 a18 a19 a20 a21 a22 a23 a24 a25 a26 a27 a28 a29 a30 a31 a32 a33 a34 a35 a36 a37 a38 a39 a40 a41 a42 a43 a44 a45 a46 a47 a48 : Addr} {l1 l2 l3 l4 l5 l6 l7 l8 l9 l10 l11 l12 l13 l14 l15 l16 l17 l18 l19 l20 l21 l22 l23 l24 l25 l26 l27 l28 l29 l30 l31 l32 l33 l34 l35 l36 l37 l38 l39 l40 l41 l42 l43 l44 l45 l46 l47 l48 : FuncData} {t34 t35 t36 tg_NEAR tg_CUT tg_UP : Tok}
theorem upd_twice {H : Hp} {x : Addr} {o o' : HO} : upd (upd H x o) x o' = upd H x o' := by
  funext y
  by_cases c : y = x
  · rw [c, upd_same, upd_same]
  · rw [upd_ne c, upd_ne c, upd_ne c]
theorem gnx42 {H H' : Hp} {T : L2.St → Hp → Prop} {σ : L2.St} (e : H = H') (h : T σ H') : T σ H := e ▸ h
def dvDue (sc tl : Nat) (a b : Int) : Int := if [a, b].all (hdv sc tl) = true then (tl : Int) + 3 else 0
def dvOv (sc tl : Nat) (a b : Int) : V := if [a, b].all (hdv sc tl) = true then .int (fhN sc tl a) else .non
def dvBy (sc tl : Nat) (a b : Int) : V := if [a, b].all (hdv sc tl) = true then .int (fhN sc tl b) else .non
def dvPw (sc tl : Nat) (a b : Int) : Int := if [a, b].all (hdv sc tl) = true then fhP sc tl a - fhP sc tl b - tl - 2 else 0
def spDvI (C CD : Addr) : Sp := fun vs H Q _ => ∃ (x dx f0 : Addr) (sc tl : Nat) (a b : Int) (way : Str) (sg : Bool), vs = [.ref x, .ref f0, .int a, .int b, .str way, .bl sg] ∧ H x = some (.ins CD dx []) ∧ FAt C H f0 sc tl ∧
  ∀ f l H', DvAt C CD H' x f l sc tl a b way sg [] (dvDue sc tl a b) (dvOv sc tl a b) (dvBy sc tl a b) (dvPw sc tl a b) → H l = none → H f = none → (∀ p u, H p = some u → p ≠ x → H' p = some u) → Q .non H'
theorem ok_Divider___init__ (B : Bl mg) (L : LL K mg C CD a1 a2 a3 a4 a5 a6 a7 a8 a9 a10 a11 a12 a13 a14 a15 a16 a17 a18 a19 a20 a21 a22 a23 a24 a25 a26 a27 a28 a29 a30 a31 a32 a33 a34 a35 a36 a37 a38 a39 a40 a41 a42 a43 a44 a45 a46 a47 a48 l1 l2 l3 l4 l5 l6 l7 l8 l9 l10 l11 l12 l13 l14 l15 l16 l17 l18 l19 l20 l21 l22 l23 l24 l25 l26 l27 l28 l29 l30 l31 l32 l33 l34 l35 l36 l37 l38 l39 l40 l41 l42 l43 l44 l45 l46 l47 l48 t34 t35 t36 tg_NEAR tg_CUT tg_UP) : FnOk P w K mg base CX0 8 a39 l39 ["self", "form", "a", "b", "way", "signed"] (spDvI C CD) := by
  have G_Form___init__ : FnOk P w K mg base CX0 6 a28 l28 ["self", "scale", "tail"] (spInit C) := (ok_Form___init__ B L).mono (by decide)
  have G_have_heads : FnOk P w K mg base CX0 7 a19 l19 ["form", "words"] (spHH K C) := (ok_have_heads B L).mono (by decide)
  have G_Divider_begin : FnOk P w K mg base CX0 7 a40 l40 ["self"] (spBegin C CD) := (ok_Divider_begin B L).mono (by decide)
  refine L.F_Divider___init__.ok sc_Divider___init__ (fun vs H Q E h => ?_) (fun cdv A outer s H vs Q E hr h => ?_)
  · obtain ⟨x, dx, f0, sc, tl, a, b, way, sg, rfl, _⟩ := h
    rfl
  obtain ⟨x, dx, f0, sc, tl, a, b, way, sg, rfl, hx, hF0, q⟩ := h
  refine ⟨_, (pss_cons (ps_fld (pv 0) (pe_make L.M G_Form___init__ hr (by rfl) L.T.mgC L.b_Form___init__ .nil pass0 (pa_cons (pe_fld (pv 1) rfl) (pa_cons (pe_fld (pv 1) rfl) pa_nil))) rfl)
    (pss_cons (ps_fld (pv 0) (pv 2) rfl)
    (pss_cons (ps_fld (pv 0) (pv 3) rfl)
    (pss_cons (ps_fld (pv 0) (pv 4) rfl)
    (pss_cons (ps_fld (pv 0) (pv 5) rfl)
    (pss_cons (ps_fld (pv 0) (pe_lst pa_nil) rfl)
    (pss_cons (ps_fld (pv 0) pe_int rfl)
    (pss_cons (ps_fld (pv 0) pe_non rfl)
    (pss_cons (ps_fld (pv 0) pe_non rfl)
    (pss_cons (ps_fld (pv 0) pe_int rfl)
    (pss_one (ps_if (pt_val (pe_call G_have_heads hr (by rfl) L.m_have_heads L.F_have_heads.kp L.b_have_heads .nil pass0 (pa_cons (pe_fld (pv 0) rfl) (pa_cons (pe_tup (pa_cons (pv 2) (pa_cons (pv 3) pa_nil))) pa_nil)))) (pss_one (ps_expr (pe_meth0 (pv 0) L.T2.cl L.M_Divider_begin G_Divider_begin hr L.b_Divider_begin .nil pass0))) pss_nil)))))))))))), ?_⟩
  obtain ⟨d0, hf0, h1, h2, h3, h4⟩ := id hF0
  refine ⟨_, rfl, f0, C, d0, _, _, rfl, hf0, L.T.cl, L.T.ns, fl_s _ _, _, rfl, f0, C, d0, _, _, rfl, hf0, L.T.cl, L.T.nt, fl_t _ _, fun f df nf ndf ne => ?_⟩
  refine ⟨f, df, sc, tl, rfl, upd_same, h1, h2, h3, h4, fun H1 F1 kp => ⟨rfl, ?_⟩⟩
  have s1 : Same H H1 := made nf ndf ne kp
  have nfx : f ≠ x := (ne_of_none hx nf).symm
  refine ⟨_, rfl, x, CD, dx, _, rfl, s1 _ _ hx, L.T2.cl, L.T2.n_form, (by decide), ?_⟩
  refine ⟨_, rfl, _, rfl, x, CD, dx, _, rfl, upd_same, L.T2.cl, L.T2.n_one, (by show 1 < 1000; decide), ?_⟩
  rw [upd_twice]
  refine ⟨_, rfl, _, rfl, x, CD, dx, _, rfl, upd_same, L.T2.cl, L.T2.n_two, (by show 2 < 1000; decide), ?_⟩
  rw [upd_twice]
  refine ⟨_, rfl, _, rfl, x, CD, dx, _, rfl, upd_same, L.T2.cl, L.T2.n_way, (by show 3 < 1000; decide), ?_⟩
  rw [upd_twice]
  refine ⟨_, rfl, _, rfl, x, CD, dx, _, rfl, upd_same, L.T2.cl, L.T2.n_signed, (by show 4 < 1000; decide), ?_⟩
  rw [upd_twice]
  refine ⟨Nat.zero_le _, fun l nl => ?_⟩
  have nlx : l ≠ x := fun z => by
    rw [z, upd_same] at nl
    cases nl
  have nl1 : H1 l = none := by
    rw [upd_ne nlx] at nl
    exact nl
  have nl0 := s1.free nl1
  have nfl : f ≠ l := fun z => by
    obtain ⟨_, e, _⟩ := F1
    rw [z, nl1] at e
    cases e
  refine ⟨_, rfl, x, CD, dx, _, rfl, (by rw [upd_ne nlx.symm]; exact upd_same), L.T2.cl, L.T2.n_told, (by show 5 < 1000; decide), ?_⟩
  refine ⟨_, rfl, x, CD, dx, _, rfl, upd_same, L.T2.cl, L.T2.n_due, (by show 6 < 1000; decide), ?_⟩
  rw [upd_twice]
  refine ⟨_, rfl, x, CD, dx, _, rfl, upd_same, L.T2.cl, L.T2.n_over, (by show 7 < 1000; decide), ?_⟩
  rw [upd_twice]
  refine ⟨_, rfl, x, CD, dx, _, rfl, upd_same, L.T2.cl, L.T2.n_by, (by show 8 < 1000; decide), ?_⟩
  rw [upd_twice]
  refine ⟨_, rfl, x, CD, dx, _, rfl, upd_same, L.T2.cl, L.T2.n_power, (by show 9 < 1000; decide), ?_⟩
  rw [upd_twice]
  have D0 : DvAt C CD (upd (upd (upd H1 x (.ins CD dx [("form", .ref f), ("one", .int a), ("two", .int b), ("way", .str way), ("signed", .bl sg)])) l (.lst [])) x (.ins CD dx (DvF f a b way sg l 0 .non .non 0))) x f l sc tl a b way sg [] 0 .non .non 0 := by
    obtain ⟨d1, hf1, r1⟩ := F1
    exact ⟨⟨dx, upd_same⟩, ⟨d1, by rw [upd_ne nfx, upd_ne nfl, upd_ne nfx]; exact hf1, r1⟩, by rw [upd_ne nlx, upd_same]; rfl⟩
  have k0 : ∀ p u, H p = some u → p ≠ x → (upd (upd (upd H1 x (.ins CD dx [("form", .ref f), ("one", .int a), ("two", .int b), ("way", .str way), ("signed", .bl sg)])) l (.lst [])) x (.ins CD dx (DvF f a b way sg l 0 .non .non 0))) p = some u := fun p u e n => by
    rw [upd_ne n, upd_ne (ne_of_none e nl0), upd_ne n]
    exact s1 _ _ e
  refine gnx42 (H' := (upd (upd (upd H1 x (.ins CD dx [("form", .ref f), ("one", .int a), ("two", .int b), ("way", .str way), ("signed", .bl sg)])) l (.lst [])) x (.ins CD dx (DvF f a b way sg l 0 .non .non 0)))) rfl ?_
  generalize upd (upd (upd H1 x (.ins CD dx [("form", .ref f), ("one", .int a), ("two", .int b), ("way", .str way), ("signed", .bl sg)])) l (.lst [])) x (.ins CD dx (DvF f a b way sg l 0 .non .non 0)) = H2 at *
  obtain ⟨dx2, hx2⟩ := D0.row
  refine ⟨_, rfl, x, CD, dx2, _, _, rfl, hx2, L.T2.cl, L.T2.n_form, rfl, _, rfl, _, rfl, (by show 2 ≤ sizeLine; decide), fun t nt => ?_⟩
  have st := same_upd (o := .tup [.int a, .int b]) nt
  refine ⟨f, t, sc, tl, [a, b], rfl, D0.fa.same st, .inl (.inl upd_same), Nat.le_of_ble_eq_true rfl, fun H3 s3 => ?_⟩
  have D3 := (D0.same st).same s3
  unfold dvDue dvOv dvBy dvPw at q
  refine ⟨_, rfl, ite2 (fun c => ?_) (fun c => ?_)⟩
  · rw [if_pos c, if_pos c, if_pos c, if_pos c] at q
    have hab := List.all_eq_true.mp c
    obtain ⟨dx3, hx3⟩ := D3.row
    refine ⟨_, rfl, x, dx3, _, rfl, hx3, rfl, x, f, l, sc, tl, a, b, way, sg, 0, .non, .non, 0, rfl, D3, (hdv_real (hab a (by simp))).1, (hdv_real (hab b (by simp))).1, fun H4 D4 k4 => ?_⟩
    exact q f l _ D4 nl0 nf fun p u e n => k4 _ _ (s3 _ _ (st _ _ (k0 _ _ e n))) n
  · rw [if_neg c, if_neg c, if_neg c, if_neg c] at q
    exact q f l _ D3 nl0 nf fun p u e n => s3 _ _ (st _ _ (k0 _ _ e n))
theorem sx_01' (sc tl : Nat) (a b : Int) : sx sc tl a b = 0 ∨ sx sc tl a b = 1 := by
  unfold sx
  split <;> simp
/-! ### the outcome -/
def oQ (ds : List Int) (o : Int) : Int := wof ds - (if o < 0 then 1 else 0)
def spOut (C CD : Addr) : Sp := fun vs H Q _ => ∃ (x f l : Addr) (sc tl : Nat) (a b : Int) (way : Str) (sg : Bool) (ds : List Int) (due o y pw : Int), vs = [.ref x] ∧ DvAt C CD H x f l sc tl a b way sg ds due (.int o) (.int y) pw ∧ due - (ds.length : Nat) ≤ 0 ∧ Fit (oQ ds o) ∧ -4000 ≤ pw ∧ pw ≤ 4000 ∧ (¬ o = 0 → oQ ds o ≠ 0 ∧ pw < GR.lap sc tl (oQ ds o) pw) ∧
  ∀ t H', Same H H' → PairAt H' t (GR.rnd sc tl (sx sc tl a b) (oQ ds o) pw way (!decide (o = 0))) → Q (.ref t) H'
theorem ok_Divider_outcome (B : Bl mg) (L : LL K mg C CD a1 a2 a3 a4 a5 a6 a7 a8 a9 a10 a11 a12 a13 a14 a15 a16 a17 a18 a19 a20 a21 a22 a23 a24 a25 a26 a27 a28 a29 a30 a31 a32 a33 a34 a35 a36 a37 a38 a39 a40 a41 a42 a43 a44 a45 a46 a47 a48 l1 l2 l3 l4 l5 l6 l7 l8 l9 l10 l11 l12 l13 l14 l15 l16 l17 l18 l19 l20 l21 l22 l23 l24 l25 l26 l27 l28 l29 l30 l31 l32 l33 l34 l35 l36 l37 l38 l39 l40 l41 l42 l43 l44 l45 l46 l47 l48 t34 t35 t36 tg_NEAR tg_CUT tg_UP) : FnOk P w K mg base CX0 9 a48 l48 ["self"] (spOut C CD) := by
  have G_Divider_left : FnOk P w K mg base CX0 8 a47 l47 ["self"] (spLeft C CD) := (ok_Divider_left B L).mono (by decide)
  have G_Divider_quotient : FnOk P w K mg base CX0 8 a44 l44 ["self"] (spQuot C CD) := (ok_Divider_quotient B L).mono (by decide)
  have G_divided : FnOk P w K mg base CX0 8 a13 l13 ["form", "a", "b", "way"] (spDiv C) := (ok_divided B L).mono (by decide)
  have G_unlike_sign : FnOk P w K mg base CX0 8 a17 l17 ["form", "a", "b"] (spUnl C) := (ok_unlike_sign B L).mono (by decide)
  have G_rounded : FnOk P w K mg base CX0 8 a7 l7 ["form", "sign", "number", "power", "way", "more"] (spRnd C) := (ok_rounded B L).mono (by decide)
  refine L.F_Divider_outcome.ok sc_Divider_outcome (fun vs H Q E h => ?_) (fun cdv A outer s H vs Q E hr h => ?_)
  · obtain ⟨x, f, l, sc, tl, a, b, way, sg, ds, due, o, y, pw, rfl, _⟩ := h
    rfl
  obtain ⟨x, f, l, sc, tl, a, b, way, sg, ds, due, o, y, pw, rfl, D, hd, hn, p0, p1, hm, q⟩ := h
  refine ⟨_, (pss_cons (ps_if (pt_cmpR op_gt (pe_meth0 (pv 0) L.T2.cl L.M_Divider_left G_Divider_left hr L.b_Divider_left .nil pass0) pe_int (nomark _)) (pss_one ps_never) pss_nil)
    (pss_cons (ps_if (pt_cmpR op_isN (pe_fld (pv 0) rfl) pe_non (nomark _)) (pss_one (ps_ret (pe_callN G_divided hr (by rfl) L.m_divided L.F_divided.kp (L.kb_divided_way).choose_spec pass0 (pa_cons (pe_fld (pv 0) rfl) (pa_cons (pe_fld (pv 0) rfl) (pa_cons (pe_fld (pv 0) rfl) pa_nil))) (pk_cons (pe_fld (pv 0) rfl) pk_nil)))) pss_nil)
    (pss_cons (ps_set (i := 1) sc_Divider_outcome.nd rfl (.inl rfl) (pe_op op_sub (pe_meth0 (pv 0) L.T2.cl L.M_Divider_quotient G_Divider_quotient hr L.b_Divider_quotient .nil pass0) (pe_ifExp (pt_cmpR op_lt (pe_fld (pv 0) rfl) pe_int (nomark _)) pe_int pe_int)))
    (pss_cons (ps_set (i := 2) sc_Divider_outcome.nd rfl (.inl rfl) (pe_cmpR op_ne (pe_fld (pv 0) rfl) pe_int (nomark _)))
    (pss_cons (ps_set (i := 3) sc_Divider_outcome.nd rfl (.inl rfl) (pe_call G_unlike_sign hr (by rfl) L.m_unlike_sign L.F_unlike_sign.kp L.b_unlike_sign .nil pass0 (pa_cons (pe_fld (pv 0) rfl) (pa_cons (pe_fld (pv 0) rfl) (pa_cons (pe_fld (pv 0) rfl) pa_nil)))))
    (pss_one (ps_ret (pe_callN G_rounded hr (by rfl) L.m_rounded L.F_rounded.kp (L.kb_rounded_way_more).choose_spec pass0 (pa_cons (pe_fld (pv 0) rfl) (pa_cons (pv 3) (pa_cons (pv 1) (pa_cons (pe_fld (pv 0) rfl) pa_nil)))) (pk_cons (pe_fld (pv 0) rfl) (pk_cons (pv 2) pk_nil)))))))))), ?_⟩
  obtain ⟨⟨dx, hx⟩, hF, el⟩ := id D
  refine ⟨_, rfl, x, dx, _, rfl, hx, rfl, x, f, l, sc, tl, a, b, way, sg, ds, due, .int o, .int y, pw, rfl, D, _, _, rfl, rfl, _, rfl, ite2 (fun c => ?_) (fun _ => ?_)⟩
  · have := of_decide_eq_true c
    omega
  refine ⟨_, rfl, x, CD, dx, _, _, rfl, hx, L.T2.cl, L.T2.n_by, rfl, rfl, _, rfl, iteF ?_⟩
  refine ⟨_, rfl, x, dx, _, rfl, hx, rfl, x, f, l, sc, tl, a, b, way, sg, ds, due, .int o, .int y, pw, rfl, D, ?_⟩
  refine if_ev (fun z H' => z = .int (if o < 0 then 1 else 0) ∧ H' = H) (fun Q' q' => ?_) ?_
  · refine ⟨_, rfl, x, CD, dx, _, _, rfl, hx, L.T2.cl, L.T2.n_over, rfl, _, _, rfl, rfl, _, rfl, ite2 (fun c => q' _ _ ⟨by rw [if_pos (of_decide_eq_true c)], rfl⟩) (fun c => q' _ _ ⟨by rw [if_neg (of_decide_eq_false (Bool.eq_false_iff.mpr c))], rfl⟩)⟩
  rintro _ _ ⟨rfl, rfl⟩
  refine ⟨_, _, rfl, rfl, ?_⟩
  refine gI (show _ = oQ ds o from rfl) ?_
  simp only [L2.start, List.map_cons, List.map_nil, List.length_cons, List.length_nil, List.replicate_succ, List.replicate_zero, List.cons_append, List.nil_append, List.set_cons_succ, List.set_cons_zero, Nat.reduceAdd, Nat.reduceSub, Nat.zero_add]
  refine ⟨_, rfl, x, CD, dx, _, _, rfl, hx, L.T2.cl, L.T2.n_over, rfl, rfl, ?_⟩
  refine gB (show _ = !decide (o = 0) from by rw [dvi]) ?_
  simp only [L2.start, List.map_cons, List.map_nil, List.length_cons, List.length_nil, List.replicate_succ, List.replicate_zero, List.cons_append, List.nil_append, List.set_cons_succ, List.set_cons_zero, Nat.reduceAdd, Nat.reduceSub, Nat.zero_add]
  refine ⟨_, rfl, x, CD, dx, _, _, rfl, hx, L.T2.cl, L.T2.n_form, rfl, _, rfl, x, CD, dx, _, _, rfl, hx, L.T2.cl, L.T2.n_one, rfl, _, rfl, x, CD, dx, _, _, rfl, hx, L.T2.cl, L.T2.n_two, rfl, f, sc, tl, a, b, rfl, hF, fun H1 s1 => ?_⟩
  simp only [L2.start, List.map_cons, List.map_nil, List.length_cons, List.length_nil, List.replicate_succ, List.replicate_zero, List.cons_append, List.nil_append, List.set_cons_succ, List.set_cons_zero, Nat.reduceAdd, Nat.reduceSub, Nat.zero_add]
  have hx1 := s1 _ _ hx
  refine ⟨_, rfl, x, CD, dx, _, _, rfl, hx1, L.T2.cl, L.T2.n_form, rfl, _, rfl, _, rfl, _, rfl, x, CD, dx, _, _, rfl, hx1, L.T2.cl, L.T2.n_power, rfl, _, rfl, x, CD, dx, _, _, rfl, hx1, L.T2.cl, L.T2.n_way, rfl, _, rfl, rfl, rfl, f, sc, tl, sx sc tl a b, oQ ds o, pw, way, !decide (o = 0), rfl, hF.same s1, sx_01' sc tl a b, hn, p0, p1, fun z => hm (by simpa using z), fun t H2 nt s2 P2 => q t _ (s1.trans s2) P2⟩
end
section
variable {P : Program} {w : World} {K : PySem.W.Frag} {mg : Str → Option Value} {base : Heap}
variable {C : Addr} {CD : Addr} {a1 a2 a3 a4 a5 a6 a7 a8 a9 a10 a11 a12 a13 a14 a15 a16 a17 a18 a19 a20 a21 a22 a23 a24 a25 a26 a27 a28 a29 a30 a31 a32 a33 a34 a35 a36 a37 a38 a39 a40 a41 a42 a43 a44 a45 a46 a47 a48 : Addr} {l1 l2 l3 l4 l5 l6 l7 l8 l9 l10 l11 l12 l13 l14 l15 l16 l17 l18 l19 l20 l21 l22 l23 l24 l25 l26 l27 l28 l29 l30 l31 l32 l33 l34 l35 l36 l37 l38 l39 l40 l41 l42 l43 l44 l45 l46 l47 l48 : FuncData} {t34 t35 t36 tg_NEAR tg_CUT tg_UP : Tok}
/-! ### the known divisions -/
structure Kr where
  a : Int
  b : Int
  d1 : List Int
  r1 : Int
  d2 : List Int
  r2 : Int
  ws : List Int
  fl : List Str
def kr0 : Kr := ⟨56, 68, [0, 1, 0, 1, 0, 1], 4, [1, 0, -1, 0, -1, 0], -8, [43, 42, 43], ["rounded"]⟩
def kr1 : Kr := ⟨76, 68, [1, 0, 0, 0, 0, 0], 0, [1, 0, 0, 0, 0, 0], 0, [64, 64, 64], []⟩
def kr2 : Kr := ⟨1, 64, [1, 0, 0, 0, 0, 0], 0, [1, 0, 0, 0, 0, 0], 0, [0, 0, 1], ["under", "rounded"]⟩
def kr3 : Kr := ⟨56, 1, [1, 0, 0, 0, 0, 0], 0, [1, 0, 0, 0, 0, 0], 0, [120, 119, 120], ["over", "rounded"]⟩
def kr4 : Kr := ⟨63, 56, [1, 1, 1, 1, 0, 0], 0, [1, 1, 1, 1, 0, 0], 0, [63, 63, 63], []⟩
def kr5 : Kr := ⟨56, 63, [0, 1, 0, 0, 0, 1], 1, [1, -1, 0, 0, 1, -1], 1, [49, 48, 49], ["rounded"]⟩
def KR : List Kr := [kr0, kr1, kr2, kr3, kr4, kr5]
def RowAt (H : Hp) (t : Addr) (k : Kr) : Prop := ∃ p1 p2 p3 p4, H t = some (.tup [.int k.a, .int k.b, .ref p1, .int k.r1, .ref p2, .int k.r2, .ref p3, .ref p4]) ∧ H p1 = some (.lst (k.d1.map V.int)) ∧ H p2 = some (.lst (k.d2.map V.int)) ∧ H p3 = some (.lst (k.ws.map V.int)) ∧ H p4 = some (.tup (k.fl.map V.str))
theorem RowAt.same {H H' : Hp} {t : Addr} {k : Kr} (h : RowAt H t k) (s : Same H H') : RowAt H' t k := by
  obtain ⟨p1, p2, p3, p4, e, e1, e2, e3, e4⟩ := h
  exact ⟨p1, p2, p3, p4, s _ _ e, s _ _ e1, s _ _ e2, s _ _ e3, s _ _ e4⟩
def RowP (H : Hp) (t : Addr) (k : Kr) (p1 p2 p3 p4 : Addr) : Prop := H t = some (.tup [.int k.a, .int k.b, .ref p1, .int k.r1, .ref p2, .int k.r2, .ref p3, .ref p4]) ∧ H p1 = some (.lst (k.d1.map V.int)) ∧ H p2 = some (.lst (k.d2.map V.int)) ∧ H p3 = some (.lst (k.ws.map V.int)) ∧ H p4 = some (.tup (k.fl.map V.str))
def KnAt (H0 H : Hp) (l : Addr) (n : Nat) : Prop := ∃ ts : List Addr, H l = some (.lst (ts.map V.ref)) ∧ ts.length = n ∧ ∀ t ∈ ts, ∃ k ∈ KR, ∃ p1 p2 p3 p4, RowP H t k p1 p2 p3 p4 ∧ (H0 p1 = none ∧ H0 p2 = none ∧ H0 p3 = none) ∧ (p1 ≠ l ∧ p2 ≠ l ∧ p3 ≠ l)
theorem RowP.same {H H' : Hp} {t : Addr} {k : Kr} {p1 p2 p3 p4 : Addr} (h : RowP H t k p1 p2 p3 p4) (s : Same H H') : RowP H' t k p1 p2 p3 p4 := ⟨s _ _ h.1, s _ _ h.2.1, s _ _ h.2.2.1, s _ _ h.2.2.2.1, s _ _ h.2.2.2.2⟩
theorem RowP.at {H : Hp} {t : Addr} {k : Kr} {p1 p2 p3 p4 : Addr} (h : RowP H t k p1 p2 p3 p4) : RowAt H t k := ⟨p1, p2, p3, p4, h⟩
theorem gnx42b {H H' : Hp} {T : Hp → Prop} (e : H = H') (h : T H') : T H := e ▸ h
def spKnown : Sp := fun vs H Q _ => vs = [] ∧ ∀ l H', H l = none → Same H H' → KnAt H H' l 6 → Q (.ref l) H'
theorem ok__law_known (B : Bl mg) (L : LL K mg C CD a1 a2 a3 a4 a5 a6 a7 a8 a9 a10 a11 a12 a13 a14 a15 a16 a17 a18 a19 a20 a21 a22 a23 a24 a25 a26 a27 a28 a29 a30 a31 a32 a33 a34 a35 a36 a37 a38 a39 a40 a41 a42 a43 a44 a45 a46 a47 a48 l1 l2 l3 l4 l5 l6 l7 l8 l9 l10 l11 l12 l13 l14 l15 l16 l17 l18 l19 l20 l21 l22 l23 l24 l25 l26 l27 l28 l29 l30 l31 l32 l33 l34 l35 l36 l37 l38 l39 l40 l41 l42 l43 l44 l45 l46 l47 l48 t34 t35 t36 tg_NEAR tg_CUT tg_UP) : FnOk P w K mg base CX0 1 a26 l26 [] spKnown := by
  refine L.F__law_known.ok sc__law_known (fun vs H Q E h => ?_) (fun cdv A outer s H vs Q E hr h => ?_)
  · obtain ⟨rfl, _⟩ := h
    rfl
  obtain ⟨rfl, q⟩ := h
  refine ⟨_, (pss_cons (ps_set (i := 0) sc__law_known.nd rfl (.inl rfl) (pe_tup (pa_cons pe_int (pa_cons pe_int (pa_cons (pe_lst (pa_cons pe_int (pa_cons pe_int (pa_cons pe_int (pa_cons pe_int (pa_cons pe_int (pa_cons pe_int pa_nil))))))) (pa_cons pe_int (pa_cons (pe_lst (pa_cons pe_int (pa_cons pe_int (pa_cons (pe_un un_neg pe_int) (pa_cons pe_int (pa_cons (pe_un un_neg pe_int) (pa_cons pe_int pa_nil))))))) (pa_cons (pe_un un_neg pe_int) (pa_cons (pe_lst (pa_cons pe_int (pa_cons pe_int (pa_cons pe_int pa_nil)))) (pa_cons (pe_tup (pa_cons pe_str pa_nil)) pa_nil))))))))))
    (pss_cons (ps_set (i := 1) sc__law_known.nd rfl (.inl rfl) (pe_tup (pa_cons pe_int (pa_cons pe_int (pa_cons (pe_lst (pa_cons pe_int (pa_cons pe_int (pa_cons pe_int (pa_cons pe_int (pa_cons pe_int (pa_cons pe_int pa_nil))))))) (pa_cons pe_int (pa_cons (pe_lst (pa_cons pe_int (pa_cons pe_int (pa_cons pe_int (pa_cons pe_int (pa_cons pe_int (pa_cons pe_int pa_nil))))))) (pa_cons pe_int (pa_cons (pe_lst (pa_cons pe_int (pa_cons pe_int (pa_cons pe_int pa_nil)))) (pa_cons (pe_tup pa_nil) pa_nil))))))))))
    (pss_cons (ps_set (i := 2) sc__law_known.nd rfl (.inl rfl) (pe_tup (pa_cons pe_int (pa_cons pe_int (pa_cons (pe_lst (pa_cons pe_int (pa_cons pe_int (pa_cons pe_int (pa_cons pe_int (pa_cons pe_int (pa_cons pe_int pa_nil))))))) (pa_cons pe_int (pa_cons (pe_lst (pa_cons pe_int (pa_cons pe_int (pa_cons pe_int (pa_cons pe_int (pa_cons pe_int (pa_cons pe_int pa_nil))))))) (pa_cons pe_int (pa_cons (pe_lst (pa_cons pe_int (pa_cons pe_int (pa_cons pe_int pa_nil)))) (pa_cons (pe_tup (pa_cons pe_str (pa_cons pe_str pa_nil))) pa_nil))))))))))
    (pss_cons (ps_set (i := 3) sc__law_known.nd rfl (.inl rfl) (pe_tup (pa_cons pe_int (pa_cons pe_int (pa_cons (pe_lst (pa_cons pe_int (pa_cons pe_int (pa_cons pe_int (pa_cons pe_int (pa_cons pe_int (pa_cons pe_int pa_nil))))))) (pa_cons pe_int (pa_cons (pe_lst (pa_cons pe_int (pa_cons pe_int (pa_cons pe_int (pa_cons pe_int (pa_cons pe_int (pa_cons pe_int pa_nil))))))) (pa_cons pe_int (pa_cons (pe_lst (pa_cons pe_int (pa_cons pe_int (pa_cons pe_int pa_nil)))) (pa_cons (pe_tup (pa_cons pe_str (pa_cons pe_str pa_nil))) pa_nil))))))))))
    (pss_cons (ps_set (i := 4) sc__law_known.nd rfl (.inl rfl) (pe_tup (pa_cons pe_int (pa_cons pe_int (pa_cons (pe_lst (pa_cons pe_int (pa_cons pe_int (pa_cons pe_int (pa_cons pe_int (pa_cons pe_int (pa_cons pe_int pa_nil))))))) (pa_cons pe_int (pa_cons (pe_lst (pa_cons pe_int (pa_cons pe_int (pa_cons pe_int (pa_cons pe_int (pa_cons pe_int (pa_cons pe_int pa_nil))))))) (pa_cons pe_int (pa_cons (pe_lst (pa_cons pe_int (pa_cons pe_int (pa_cons pe_int pa_nil)))) (pa_cons (pe_tup pa_nil) pa_nil))))))))))
    (pss_cons (ps_set (i := 5) sc__law_known.nd rfl (.inl rfl) (pe_tup (pa_cons pe_int (pa_cons pe_int (pa_cons (pe_lst (pa_cons pe_int (pa_cons pe_int (pa_cons pe_int (pa_cons pe_int (pa_cons pe_int (pa_cons pe_int pa_nil))))))) (pa_cons pe_int (pa_cons (pe_lst (pa_cons pe_int (pa_cons (pe_un un_neg pe_int) (pa_cons pe_int (pa_cons pe_int (pa_cons pe_int (pa_cons (pe_un un_neg pe_int) pa_nil))))))) (pa_cons pe_int (pa_cons (pe_lst (pa_cons pe_int (pa_cons pe_int (pa_cons pe_int pa_nil)))) (pa_cons (pe_tup (pa_cons pe_str pa_nil)) pa_nil))))))))))
    (pss_one (ps_ret (pe_lst (pa_cons (pv 0) (pa_cons (pv 1) (pa_cons (pv 2) (pa_cons (pv 3) (pa_cons (pv 4) (pa_cons (pv 5) pa_nil))))))))))))))), ?_⟩
  refine ⟨(by show 6 ≤ sizeLine; decide), fun p0a np0a => ?_⟩
  refine ⟨_, rfl, _, rfl, (by show 6 ≤ sizeLine; decide), fun p0b np0b => ?_⟩
  refine ⟨_, rfl, (by show 3 ≤ sizeLine; decide), fun p0c np0c => ?_⟩
  refine ⟨(by show 1 ≤ sizeLine; decide), fun p0d np0d => ?_⟩
  refine ⟨(by show 8 ≤ sizeLine; decide), fun t0 nt0 => ?_⟩
  have sp0a := same_upd (o := .lst (kr0.d1.map V.int)) np0a
  have sp0b := same_upd (o := .lst (kr0.d2.map V.int)) np0b
  have sp0c := same_upd (o := .lst (kr0.ws.map V.int)) np0c
  have sp0d := same_upd (o := .tup (kr0.fl.map V.str)) np0d
  have st0 := same_upd (o := .tup [.int kr0.a, .int kr0.b, .ref p0a, .int kr0.r1, .ref p0b, .int kr0.r2, .ref p0c, .ref p0d]) nt0
  have R0 : RowP (upd (upd (upd (upd (upd H p0a (.lst (kr0.d1.map V.int))) p0b (.lst (kr0.d2.map V.int))) p0c (.lst (kr0.ws.map V.int))) p0d (.tup (kr0.fl.map V.str))) t0 (.tup [.int kr0.a, .int kr0.b, .ref p0a, .int kr0.r1, .ref p0b, .int kr0.r2, .ref p0c, .ref p0d])) t0 kr0 p0a p0b p0c p0d := ⟨upd_same, (sp0b.trans (sp0c.trans (sp0d.trans st0))) _ _ upd_same, (sp0c.trans (sp0d.trans st0)) _ _ upd_same, (sp0d.trans st0) _ _ upd_same, st0 _ _ upd_same⟩
  have w0 : Same H (upd (upd (upd (upd (upd H p0a (.lst (kr0.d1.map V.int))) p0b (.lst (kr0.d2.map V.int))) p0c (.lst (kr0.ws.map V.int))) p0d (.tup (kr0.fl.map V.str))) t0 (.tup [.int kr0.a, .int kr0.b, .ref p0a, .int kr0.r1, .ref p0b, .int kr0.r2, .ref p0c, .ref p0d])) := sp0a.trans (sp0b.trans (sp0c.trans (sp0d.trans st0)))
  have fp0a : H p0a = none := np0a
  have fp0b : H p0b = none := (sp0a.free np0b)
  have fp0c : H p0c = none := ((sp0a.trans sp0b).free np0c)
  clear sp0a sp0b sp0c sp0d st0
  refine gnx42b (H' := (upd (upd (upd (upd (upd H p0a (.lst (kr0.d1.map V.int))) p0b (.lst (kr0.d2.map V.int))) p0c (.lst (kr0.ws.map V.int))) p0d (.tup (kr0.fl.map V.str))) t0 (.tup [.int kr0.a, .int kr0.b, .ref p0a, .int kr0.r1, .ref p0b, .int kr0.r2, .ref p0c, .ref p0d]))) rfl ?_
  generalize (upd (upd (upd (upd (upd H p0a (.lst (kr0.d1.map V.int))) p0b (.lst (kr0.d2.map V.int))) p0c (.lst (kr0.ws.map V.int))) p0d (.tup (kr0.fl.map V.str))) t0 (.tup [.int kr0.a, .int kr0.b, .ref p0a, .int kr0.r1, .ref p0b, .int kr0.r2, .ref p0c, .ref p0d])) = G0 at *
  simp only [L2.start, List.map_cons, List.map_nil, List.length_cons, List.length_nil, List.replicate_succ, List.replicate_zero, List.cons_append, List.nil_append, List.set_cons_succ, List.set_cons_zero, Nat.reduceAdd, Nat.reduceSub, Nat.zero_add]
  refine ⟨(by show 6 ≤ sizeLine; decide), fun p1a np1a => ?_⟩
  refine ⟨(by show 6 ≤ sizeLine; decide), fun p1b np1b => ?_⟩
  refine ⟨(by show 3 ≤ sizeLine; decide), fun p1c np1c => ?_⟩
  refine ⟨Nat.zero_le _, fun p1d np1d => ?_⟩
  refine ⟨(by show 8 ≤ sizeLine; decide), fun t1 nt1 => ?_⟩
  have sp1a := same_upd (o := .lst (kr1.d1.map V.int)) np1a
  have sp1b := same_upd (o := .lst (kr1.d2.map V.int)) np1b
  have sp1c := same_upd (o := .lst (kr1.ws.map V.int)) np1c
  have sp1d := same_upd (o := .tup (kr1.fl.map V.str)) np1d
  have st1 := same_upd (o := .tup [.int kr1.a, .int kr1.b, .ref p1a, .int kr1.r1, .ref p1b, .int kr1.r2, .ref p1c, .ref p1d]) nt1
  have R1 : RowP (upd (upd (upd (upd (upd G0 p1a (.lst (kr1.d1.map V.int))) p1b (.lst (kr1.d2.map V.int))) p1c (.lst (kr1.ws.map V.int))) p1d (.tup (kr1.fl.map V.str))) t1 (.tup [.int kr1.a, .int kr1.b, .ref p1a, .int kr1.r1, .ref p1b, .int kr1.r2, .ref p1c, .ref p1d])) t1 kr1 p1a p1b p1c p1d := ⟨upd_same, (sp1b.trans (sp1c.trans (sp1d.trans st1))) _ _ upd_same, (sp1c.trans (sp1d.trans st1)) _ _ upd_same, (sp1d.trans st1) _ _ upd_same, st1 _ _ upd_same⟩
  have w1 : Same G0 (upd (upd (upd (upd (upd G0 p1a (.lst (kr1.d1.map V.int))) p1b (.lst (kr1.d2.map V.int))) p1c (.lst (kr1.ws.map V.int))) p1d (.tup (kr1.fl.map V.str))) t1 (.tup [.int kr1.a, .int kr1.b, .ref p1a, .int kr1.r1, .ref p1b, .int kr1.r2, .ref p1c, .ref p1d])) := sp1a.trans (sp1b.trans (sp1c.trans (sp1d.trans st1)))
  have fp1a : H p1a = none := (w0).free (np1a)
  have fp1b : H p1b = none := (w0).free ((sp1a.free np1b))
  have fp1c : H p1c = none := (w0).free (((sp1a.trans sp1b).free np1c))
  clear sp1a sp1b sp1c sp1d st1
  refine gnx42b (H' := (upd (upd (upd (upd (upd G0 p1a (.lst (kr1.d1.map V.int))) p1b (.lst (kr1.d2.map V.int))) p1c (.lst (kr1.ws.map V.int))) p1d (.tup (kr1.fl.map V.str))) t1 (.tup [.int kr1.a, .int kr1.b, .ref p1a, .int kr1.r1, .ref p1b, .int kr1.r2, .ref p1c, .ref p1d]))) rfl ?_
  generalize (upd (upd (upd (upd (upd G0 p1a (.lst (kr1.d1.map V.int))) p1b (.lst (kr1.d2.map V.int))) p1c (.lst (kr1.ws.map V.int))) p1d (.tup (kr1.fl.map V.str))) t1 (.tup [.int kr1.a, .int kr1.b, .ref p1a, .int kr1.r1, .ref p1b, .int kr1.r2, .ref p1c, .ref p1d])) = G1 at *
  refine ⟨(by show 6 ≤ sizeLine; decide), fun p2a np2a => ?_⟩
  refine ⟨(by show 6 ≤ sizeLine; decide), fun p2b np2b => ?_⟩
  refine ⟨(by show 3 ≤ sizeLine; decide), fun p2c np2c => ?_⟩
  refine ⟨(by show 2 ≤ sizeLine; decide), fun p2d np2d => ?_⟩
  refine ⟨(by show 8 ≤ sizeLine; decide), fun t2 nt2 => ?_⟩
  have sp2a := same_upd (o := .lst (kr2.d1.map V.int)) np2a
  have sp2b := same_upd (o := .lst (kr2.d2.map V.int)) np2b
  have sp2c := same_upd (o := .lst (kr2.ws.map V.int)) np2c
  have sp2d := same_upd (o := .tup (kr2.fl.map V.str)) np2d
  have st2 := same_upd (o := .tup [.int kr2.a, .int kr2.b, .ref p2a, .int kr2.r1, .ref p2b, .int kr2.r2, .ref p2c, .ref p2d]) nt2
  have R2 : RowP (upd (upd (upd (upd (upd G1 p2a (.lst (kr2.d1.map V.int))) p2b (.lst (kr2.d2.map V.int))) p2c (.lst (kr2.ws.map V.int))) p2d (.tup (kr2.fl.map V.str))) t2 (.tup [.int kr2.a, .int kr2.b, .ref p2a, .int kr2.r1, .ref p2b, .int kr2.r2, .ref p2c, .ref p2d])) t2 kr2 p2a p2b p2c p2d := ⟨upd_same, (sp2b.trans (sp2c.trans (sp2d.trans st2))) _ _ upd_same, (sp2c.trans (sp2d.trans st2)) _ _ upd_same, (sp2d.trans st2) _ _ upd_same, st2 _ _ upd_same⟩
  have w2 : Same G1 (upd (upd (upd (upd (upd G1 p2a (.lst (kr2.d1.map V.int))) p2b (.lst (kr2.d2.map V.int))) p2c (.lst (kr2.ws.map V.int))) p2d (.tup (kr2.fl.map V.str))) t2 (.tup [.int kr2.a, .int kr2.b, .ref p2a, .int kr2.r1, .ref p2b, .int kr2.r2, .ref p2c, .ref p2d])) := sp2a.trans (sp2b.trans (sp2c.trans (sp2d.trans st2)))
  have fp2a : H p2a = none := (w0.trans (w1)).free (np2a)
  have fp2b : H p2b = none := (w0.trans (w1)).free ((sp2a.free np2b))
  have fp2c : H p2c = none := (w0.trans (w1)).free (((sp2a.trans sp2b).free np2c))
  clear sp2a sp2b sp2c sp2d st2
  refine gnx42b (H' := (upd (upd (upd (upd (upd G1 p2a (.lst (kr2.d1.map V.int))) p2b (.lst (kr2.d2.map V.int))) p2c (.lst (kr2.ws.map V.int))) p2d (.tup (kr2.fl.map V.str))) t2 (.tup [.int kr2.a, .int kr2.b, .ref p2a, .int kr2.r1, .ref p2b, .int kr2.r2, .ref p2c, .ref p2d]))) rfl ?_
  generalize (upd (upd (upd (upd (upd G1 p2a (.lst (kr2.d1.map V.int))) p2b (.lst (kr2.d2.map V.int))) p2c (.lst (kr2.ws.map V.int))) p2d (.tup (kr2.fl.map V.str))) t2 (.tup [.int kr2.a, .int kr2.b, .ref p2a, .int kr2.r1, .ref p2b, .int kr2.r2, .ref p2c, .ref p2d])) = G2 at *
  refine ⟨(by show 6 ≤ sizeLine; decide), fun p3a np3a => ?_⟩
  refine ⟨(by show 6 ≤ sizeLine; decide), fun p3b np3b => ?_⟩
  refine ⟨(by show 3 ≤ sizeLine; decide), fun p3c np3c => ?_⟩
  refine ⟨(by show 2 ≤ sizeLine; decide), fun p3d np3d => ?_⟩
  refine ⟨(by show 8 ≤ sizeLine; decide), fun t3 nt3 => ?_⟩
  have sp3a := same_upd (o := .lst (kr3.d1.map V.int)) np3a
  have sp3b := same_upd (o := .lst (kr3.d2.map V.int)) np3b
  have sp3c := same_upd (o := .lst (kr3.ws.map V.int)) np3c
  have sp3d := same_upd (o := .tup (kr3.fl.map V.str)) np3d
  have st3 := same_upd (o := .tup [.int kr3.a, .int kr3.b, .ref p3a, .int kr3.r1, .ref p3b, .int kr3.r2, .ref p3c, .ref p3d]) nt3
  have R3 : RowP (upd (upd (upd (upd (upd G2 p3a (.lst (kr3.d1.map V.int))) p3b (.lst (kr3.d2.map V.int))) p3c (.lst (kr3.ws.map V.int))) p3d (.tup (kr3.fl.map V.str))) t3 (.tup [.int kr3.a, .int kr3.b, .ref p3a, .int kr3.r1, .ref p3b, .int kr3.r2, .ref p3c, .ref p3d])) t3 kr3 p3a p3b p3c p3d := ⟨upd_same, (sp3b.trans (sp3c.trans (sp3d.trans st3))) _ _ upd_same, (sp3c.trans (sp3d.trans st3)) _ _ upd_same, (sp3d.trans st3) _ _ upd_same, st3 _ _ upd_same⟩
  have w3 : Same G2 (upd (upd (upd (upd (upd G2 p3a (.lst (kr3.d1.map V.int))) p3b (.lst (kr3.d2.map V.int))) p3c (.lst (kr3.ws.map V.int))) p3d (.tup (kr3.fl.map V.str))) t3 (.tup [.int kr3.a, .int kr3.b, .ref p3a, .int kr3.r1, .ref p3b, .int kr3.r2, .ref p3c, .ref p3d])) := sp3a.trans (sp3b.trans (sp3c.trans (sp3d.trans st3)))
  have fp3a : H p3a = none := (w0.trans (w1.trans (w2))).free (np3a)
  have fp3b : H p3b = none := (w0.trans (w1.trans (w2))).free ((sp3a.free np3b))
  have fp3c : H p3c = none := (w0.trans (w1.trans (w2))).free (((sp3a.trans sp3b).free np3c))
  clear sp3a sp3b sp3c sp3d st3
  refine gnx42b (H' := (upd (upd (upd (upd (upd G2 p3a (.lst (kr3.d1.map V.int))) p3b (.lst (kr3.d2.map V.int))) p3c (.lst (kr3.ws.map V.int))) p3d (.tup (kr3.fl.map V.str))) t3 (.tup [.int kr3.a, .int kr3.b, .ref p3a, .int kr3.r1, .ref p3b, .int kr3.r2, .ref p3c, .ref p3d]))) rfl ?_
  generalize (upd (upd (upd (upd (upd G2 p3a (.lst (kr3.d1.map V.int))) p3b (.lst (kr3.d2.map V.int))) p3c (.lst (kr3.ws.map V.int))) p3d (.tup (kr3.fl.map V.str))) t3 (.tup [.int kr3.a, .int kr3.b, .ref p3a, .int kr3.r1, .ref p3b, .int kr3.r2, .ref p3c, .ref p3d])) = G3 at *
  refine ⟨(by show 6 ≤ sizeLine; decide), fun p4a np4a => ?_⟩
  refine ⟨(by show 6 ≤ sizeLine; decide), fun p4b np4b => ?_⟩
  refine ⟨(by show 3 ≤ sizeLine; decide), fun p4c np4c => ?_⟩
  refine ⟨Nat.zero_le _, fun p4d np4d => ?_⟩
  refine ⟨(by show 8 ≤ sizeLine; decide), fun t4 nt4 => ?_⟩
  have sp4a := same_upd (o := .lst (kr4.d1.map V.int)) np4a
  have sp4b := same_upd (o := .lst (kr4.d2.map V.int)) np4b
  have sp4c := same_upd (o := .lst (kr4.ws.map V.int)) np4c
  have sp4d := same_upd (o := .tup (kr4.fl.map V.str)) np4d
  have st4 := same_upd (o := .tup [.int kr4.a, .int kr4.b, .ref p4a, .int kr4.r1, .ref p4b, .int kr4.r2, .ref p4c, .ref p4d]) nt4
  have R4 : RowP (upd (upd (upd (upd (upd G3 p4a (.lst (kr4.d1.map V.int))) p4b (.lst (kr4.d2.map V.int))) p4c (.lst (kr4.ws.map V.int))) p4d (.tup (kr4.fl.map V.str))) t4 (.tup [.int kr4.a, .int kr4.b, .ref p4a, .int kr4.r1, .ref p4b, .int kr4.r2, .ref p4c, .ref p4d])) t4 kr4 p4a p4b p4c p4d := ⟨upd_same, (sp4b.trans (sp4c.trans (sp4d.trans st4))) _ _ upd_same, (sp4c.trans (sp4d.trans st4)) _ _ upd_same, (sp4d.trans st4) _ _ upd_same, st4 _ _ upd_same⟩
  have w4 : Same G3 (upd (upd (upd (upd (upd G3 p4a (.lst (kr4.d1.map V.int))) p4b (.lst (kr4.d2.map V.int))) p4c (.lst (kr4.ws.map V.int))) p4d (.tup (kr4.fl.map V.str))) t4 (.tup [.int kr4.a, .int kr4.b, .ref p4a, .int kr4.r1, .ref p4b, .int kr4.r2, .ref p4c, .ref p4d])) := sp4a.trans (sp4b.trans (sp4c.trans (sp4d.trans st4)))
  have fp4a : H p4a = none := (w0.trans (w1.trans (w2.trans (w3)))).free (np4a)
  have fp4b : H p4b = none := (w0.trans (w1.trans (w2.trans (w3)))).free ((sp4a.free np4b))
  have fp4c : H p4c = none := (w0.trans (w1.trans (w2.trans (w3)))).free (((sp4a.trans sp4b).free np4c))
  clear sp4a sp4b sp4c sp4d st4
  refine gnx42b (H' := (upd (upd (upd (upd (upd G3 p4a (.lst (kr4.d1.map V.int))) p4b (.lst (kr4.d2.map V.int))) p4c (.lst (kr4.ws.map V.int))) p4d (.tup (kr4.fl.map V.str))) t4 (.tup [.int kr4.a, .int kr4.b, .ref p4a, .int kr4.r1, .ref p4b, .int kr4.r2, .ref p4c, .ref p4d]))) rfl ?_
  generalize (upd (upd (upd (upd (upd G3 p4a (.lst (kr4.d1.map V.int))) p4b (.lst (kr4.d2.map V.int))) p4c (.lst (kr4.ws.map V.int))) p4d (.tup (kr4.fl.map V.str))) t4 (.tup [.int kr4.a, .int kr4.b, .ref p4a, .int kr4.r1, .ref p4b, .int kr4.r2, .ref p4c, .ref p4d])) = G4 at *
  refine ⟨(by show 6 ≤ sizeLine; decide), fun p5a np5a => ?_⟩
  refine ⟨_, rfl, _, rfl, (by show 6 ≤ sizeLine; decide), fun p5b np5b => ?_⟩
  refine ⟨(by show 3 ≤ sizeLine; decide), fun p5c np5c => ?_⟩
  refine ⟨(by show 1 ≤ sizeLine; decide), fun p5d np5d => ?_⟩
  refine ⟨(by show 8 ≤ sizeLine; decide), fun t5 nt5 => ?_⟩
  have sp5a := same_upd (o := .lst (kr5.d1.map V.int)) np5a
  have sp5b := same_upd (o := .lst (kr5.d2.map V.int)) np5b
  have sp5c := same_upd (o := .lst (kr5.ws.map V.int)) np5c
  have sp5d := same_upd (o := .tup (kr5.fl.map V.str)) np5d
  have st5 := same_upd (o := .tup [.int kr5.a, .int kr5.b, .ref p5a, .int kr5.r1, .ref p5b, .int kr5.r2, .ref p5c, .ref p5d]) nt5
  have R5 : RowP (upd (upd (upd (upd (upd G4 p5a (.lst (kr5.d1.map V.int))) p5b (.lst (kr5.d2.map V.int))) p5c (.lst (kr5.ws.map V.int))) p5d (.tup (kr5.fl.map V.str))) t5 (.tup [.int kr5.a, .int kr5.b, .ref p5a, .int kr5.r1, .ref p5b, .int kr5.r2, .ref p5c, .ref p5d])) t5 kr5 p5a p5b p5c p5d := ⟨upd_same, (sp5b.trans (sp5c.trans (sp5d.trans st5))) _ _ upd_same, (sp5c.trans (sp5d.trans st5)) _ _ upd_same, (sp5d.trans st5) _ _ upd_same, st5 _ _ upd_same⟩
  have w5 : Same G4 (upd (upd (upd (upd (upd G4 p5a (.lst (kr5.d1.map V.int))) p5b (.lst (kr5.d2.map V.int))) p5c (.lst (kr5.ws.map V.int))) p5d (.tup (kr5.fl.map V.str))) t5 (.tup [.int kr5.a, .int kr5.b, .ref p5a, .int kr5.r1, .ref p5b, .int kr5.r2, .ref p5c, .ref p5d])) := sp5a.trans (sp5b.trans (sp5c.trans (sp5d.trans st5)))
  have fp5a : H p5a = none := (w0.trans (w1.trans (w2.trans (w3.trans (w4))))).free (np5a)
  have fp5b : H p5b = none := (w0.trans (w1.trans (w2.trans (w3.trans (w4))))).free ((sp5a.free np5b))
  have fp5c : H p5c = none := (w0.trans (w1.trans (w2.trans (w3.trans (w4))))).free (((sp5a.trans sp5b).free np5c))
  clear sp5a sp5b sp5c sp5d st5
  refine gnx42b (H' := (upd (upd (upd (upd (upd G4 p5a (.lst (kr5.d1.map V.int))) p5b (.lst (kr5.d2.map V.int))) p5c (.lst (kr5.ws.map V.int))) p5d (.tup (kr5.fl.map V.str))) t5 (.tup [.int kr5.a, .int kr5.b, .ref p5a, .int kr5.r1, .ref p5b, .int kr5.r2, .ref p5c, .ref p5d]))) rfl ?_
  generalize (upd (upd (upd (upd (upd G4 p5a (.lst (kr5.d1.map V.int))) p5b (.lst (kr5.d2.map V.int))) p5c (.lst (kr5.ws.map V.int))) p5d (.tup (kr5.fl.map V.str))) t5 (.tup [.int kr5.a, .int kr5.b, .ref p5a, .int kr5.r1, .ref p5b, .int kr5.r2, .ref p5c, .ref p5d])) = G5 at *
  simp only [L2.start, List.map_cons, List.map_nil, List.length_cons, List.length_nil, List.replicate_succ, List.replicate_zero, List.cons_append, List.nil_append, List.set_cons_succ, List.set_cons_zero, Nat.reduceAdd, Nat.reduceSub, Nat.zero_add]
  refine ⟨_, rfl, _, rfl, _, rfl, _, rfl, _, rfl, _, rfl, (by show 6 ≤ sizeLine; decide), fun l nl => ?_⟩
  have sl := same_upd (o := .lst ([t0, t1, t2, t3, t4, t5].map V.ref)) nl
  have wA := w0.trans (w1.trans (w2.trans (w3.trans (w4.trans w5))))
  refine q l _ (wA.free nl) (wA.trans sl) ⟨[t0, t1, t2, t3, t4, t5], upd_same, rfl, fun t ht => ?_⟩
  rcases List.mem_cons.mp ht with rfl | ht
  · have r := (R0.same (w1.trans (w2.trans (w3.trans (w4.trans (w5))))))
    exact ⟨kr0, by simp [KR], p0a, p0b, p0c, p0d, r.same sl, ⟨fp0a, fp0b, fp0c⟩, ne_of_none r.2.1 nl, ne_of_none r.2.2.1 nl, ne_of_none r.2.2.2.1 nl⟩
  rcases List.mem_cons.mp ht with rfl | ht
  · have r := (R1.same (w2.trans (w3.trans (w4.trans (w5)))))
    exact ⟨kr1, by simp [KR], p1a, p1b, p1c, p1d, r.same sl, ⟨fp1a, fp1b, fp1c⟩, ne_of_none r.2.1 nl, ne_of_none r.2.2.1 nl, ne_of_none r.2.2.2.1 nl⟩
  rcases List.mem_cons.mp ht with rfl | ht
  · have r := (R2.same (w3.trans (w4.trans (w5))))
    exact ⟨kr2, by simp [KR], p2a, p2b, p2c, p2d, r.same sl, ⟨fp2a, fp2b, fp2c⟩, ne_of_none r.2.1 nl, ne_of_none r.2.2.1 nl, ne_of_none r.2.2.2.1 nl⟩
  rcases List.mem_cons.mp ht with rfl | ht
  · have r := (R3.same (w4.trans (w5)))
    exact ⟨kr3, by simp [KR], p3a, p3b, p3c, p3d, r.same sl, ⟨fp3a, fp3b, fp3c⟩, ne_of_none r.2.1 nl, ne_of_none r.2.2.1 nl, ne_of_none r.2.2.2.1 nl⟩
  rcases List.mem_cons.mp ht with rfl | ht
  · have r := (R4.same (w5))
    exact ⟨kr4, by simp [KR], p4a, p4b, p4c, p4d, r.same sl, ⟨fp4a, fp4b, fp4c⟩, ne_of_none r.2.1 nl, ne_of_none r.2.2.1 nl, ne_of_none r.2.2.2.1 nl⟩
  rcases List.mem_cons.mp ht with rfl | ht
  · have r := R5
    exact ⟨kr5, by simp [KR], p5a, p5b, p5c, p5d, r.same sl, ⟨fp5a, fp5b, fp5c⟩, ne_of_none r.2.1 nl, ne_of_none r.2.2.1 nl, ne_of_none r.2.2.2.1 nl⟩
  exact nomatch ht
/-! ### a known division -/
def stp (sg : Bool) (tl : Nat) (y : Int) (p : List Int × Int) : List Int × Int := (p.1 ++ [dgt sg tl y (rst p.1 p.2)], rst p.1 p.2 - dgt sg tl y (rst p.1 p.2) * y)
def run42 (sg : Bool) (tl : Nat) (y o : Int) : Nat → List Int × Int
  | 0 => ([], o)
  | j + 1 => stp sg tl y (run42 sg tl y o j)
def aw42 (m : Str) (s : Int) : Bool := (decide (m = "up") && decide (s % 3 = 0)) || (decide (m = "down") && decide (0 < s % 3))
def sz42 (k : Kr) (s : Int) (m : Str) : Int := if m = "near" then k.ws.getD 0 0 else if aw42 m s = true then k.ws.getD 2 0 else k.ws.getD 1 0
def wA (k : Kr) (s : Int) : Int := k.a + 128 * (s / 2)
def wB (k : Kr) (s : Int) : Int := k.b + 128 * (s % 2)
def out42 (k : Kr) (s : Int) (m : Str) (ds : List Int) (o : Int) : Int × List Str := GR.rnd 4 3 (sx 4 3 (wA k s) (wB k s)) (oQ ds o) (fhP 4 3 (wA k s) - fhP 4 3 (wB k s) - 3 - 2) m (!decide (o = 0))
def due42 (k : Kr) (s : Int) (m : Str) : Int × List Str := (sz42 k s m + 128 * (if 0 < s % 3 then 1 else 0), k.fl)
def chk42 (k : Kr) (s : Int) (m : Str) (sg : Bool) : Bool :=
  [wA k s, wB k s].all (hdv 4 3) && decide (0 ≤ fhN 4 3 (wB k s) ∧ fhN 4 3 (wB k s) ≤ 2 ^ 40) && (List.range 6).all (fun j => decide (-(2 ^ 40) ≤ (run42 sg 3 (fhN 4 3 (wB k s)) (fhN 4 3 (wA k s)) j).2 ∧ (run42 sg 3 (fhN 4 3 (wB k s)) (fhN 4 3 (wA k s)) j).2 ≤ 2 ^ 40)) &&
  decide (run42 sg 3 (fhN 4 3 (wB k s)) (fhN 4 3 (wA k s)) 6 = (if sg = true then k.d2 else k.d1, if sg = true then k.r2 else k.r1)) &&
  decide (0 ≤ oQ (if sg = true then k.d2 else k.d1) (if sg = true then k.r2 else k.r1) ∧ Builtin.Int.intBits (oQ (if sg = true then k.d2 else k.d1) (if sg = true then k.r2 else k.r1)) ≤ 4000) &&
  decide (-4000 ≤ fhP 4 3 (wA k s) - fhP 4 3 (wB k s) - 3 - 2 ∧ fhP 4 3 (wA k s) - fhP 4 3 (wB k s) - 3 - 2 ≤ 4000) &&
  decide (¬ (if sg = true then k.r2 else k.r1) = 0 → oQ (if sg = true then k.d2 else k.d1) (if sg = true then k.r2 else k.r1) ≠ 0 ∧ fhP 4 3 (wA k s) - fhP 4 3 (wB k s) - 3 - 2 < GR.lap 4 3 (oQ (if sg = true then k.d2 else k.d1) (if sg = true then k.r2 else k.r1)) (fhP 4 3 (wA k s) - fhP 4 3 (wB k s) - 3 - 2)) &&
  decide (out42 k s m (if sg = true then k.d2 else k.d1) (if sg = true then k.r2 else k.r1) = due42 k s m)
theorem chk_all : KR.all (fun k => ([0, 1, 2, 3] : List Int).all fun s => WL.all fun m => [true, false].all fun sg => chk42 k s m sg) = true := by decide +kernel
theorem aw_is (m : Str) (s : Int) : aw42 m s = decide ((m = "up" ∧ s % 3 = 0) ∨ (m = "down" ∧ 0 < s % 3)) := by
  unfold aw42
  by_cases c1 : m = "up" <;> by_cases c2 : s % 3 = 0 <;> by_cases c3 : m = "down" <;> by_cases c4 : 0 < s % 3 <;> simp [c1, c2, c3, c4]
theorem ws3 : ∀ k ∈ KR, k.ws = [k.ws.getD 0 0, k.ws.getD 1 0, k.ws.getD 2 0] ∧ k.fl.length ≤ 3 := by
  intro k hk
  simp only [KR, List.mem_cons, List.not_mem_nil, or_false] at hk
  rcases hk with z | z | z | z | z | z <;> subst z <;> exact ⟨rfl, by decide⟩
theorem seq_asg42 {σ : L2.St} {H : Hp} {t : TE} {g : TG} {r : TS} {D : Ends} (h : t σ H (fun x H1 => g x σ H1 ({ D with nx := r D } : Ends).nx)) : tSeq (tAsg t g) r D σ H := h
theorem PairAt.sameP {H H' : Hp} {p : Addr} {r : Int × List Str} (h : PairAt H p r) (s : Same H H') : PairAt H' p r := by
  obtain ⟨f, e1, e2⟩ := h
  exact ⟨f, s _ _ e1, s _ _ e2⟩
def dd42 (k : Kr) (sg : Bool) : List Int := if sg = true then k.d2 else k.d1
def rr42 (k : Kr) (sg : Bool) : Int := if sg = true then k.r2 else k.r1
structure Ck (k : Kr) (s : Int) (m : Str) (sg : Bool) : Prop where
  hd : [wA k s, wB k s].all (hdv 4 3) = true
  y0 : 0 ≤ fhN 4 3 (wB k s)
  y1 : fhN 4 3 (wB k s) ≤ 2 ^ 40
  ob : ∀ j, j < 6 → -(2 ^ 40) ≤ (run42 sg 3 (fhN 4 3 (wB k s)) (fhN 4 3 (wA k s)) j).2 ∧ (run42 sg 3 (fhN 4 3 (wB k s)) (fhN 4 3 (wA k s)) j).2 ≤ 2 ^ 40
  rn : run42 sg 3 (fhN 4 3 (wB k s)) (fhN 4 3 (wA k s)) 6 = (dd42 k sg, rr42 k sg)
  q0 : Fit (oQ (dd42 k sg) (rr42 k sg))
  p0 : -4000 ≤ fhP 4 3 (wA k s) - fhP 4 3 (wB k s) - 3 - 2
  p1 : fhP 4 3 (wA k s) - fhP 4 3 (wB k s) - 3 - 2 ≤ 4000
  mo : ¬ rr42 k sg = 0 → oQ (dd42 k sg) (rr42 k sg) ≠ 0 ∧ fhP 4 3 (wA k s) - fhP 4 3 (wB k s) - 3 - 2 < GR.lap 4 3 (oQ (dd42 k sg) (rr42 k sg)) (fhP 4 3 (wA k s) - fhP 4 3 (wB k s) - 3 - 2)
  ou : out42 k s m (dd42 k sg) (rr42 k sg) = due42 k s m
theorem ck_of {k : Kr} {s : Int} {m : Str} {sg : Bool} (h : chk42 k s m sg = true) : Ck k s m sg := by
  unfold chk42 at h
  simp only [Bool.and_eq_true, decide_eq_true_eq] at h
  obtain ⟨⟨⟨⟨⟨⟨⟨h1, h2⟩, h3⟩, h4⟩, h5⟩, h6⟩, h7⟩, h8⟩ := h
  exact ⟨h1, h2.1, h2.2, fun j hj => of_decide_eq_true (List.all_eq_true.mp h3 j (List.mem_range.mpr hj)), h4, h5, h6.1, h6.2, h7, h8⟩
theorem run_len (sg : Bool) (tl : Nat) (y o : Int) : ∀ j, (run42 sg tl y o j).1.length = j
  | 0 => rfl
  | j + 1 => by
    show ((run42 sg tl y o j).1 ++ [_]).length = j + 1
    rw [List.length_append, run_len sg tl y o j]
    rfl
theorem DvAt.updR {C CD R : Addr} {o : HO} {H : Hp} {x f l : Addr} {sc tl : Nat} {a b : Int} {way : Str} {sg : Bool} {ds : List Int} {due : Int} {ov bb : V} {pw : Int} (h : DvAt C CD H x f l sc tl a b way sg ds due ov bb pw) (n1 : R ≠ x) (n2 : R ≠ f) (n3 : R ≠ l) : DvAt C CD (upd H R o) x f l sc tl a b way sg ds due ov bb pw := by
  obtain ⟨⟨dx, hx⟩, ⟨df, hf, r⟩, el⟩ := h
  exact ⟨⟨dx, by rw [upd_ne n1.symm]; exact hx⟩, ⟨df, by rw [upd_ne n2.symm]; exact hf, r⟩, by rw [upd_ne n3.symm]; exact el⟩
theorem lv_fnd {ds : List Int} {r w' : Int} (h : ds.length ≤ 900) : Lv 3 (.list [.list (ds.map PyData.int), .int r, .int w']) := by
  refine ⟨by show 3 ≤ 1000000; decide, fun d hd => ?_⟩
  rcases List.mem_cons.mp hd with e | hd
  · rw [e]
    refine ⟨by rw [List.length_map]; omega, fun d hd => ?_⟩
    obtain ⟨x, _, rfl⟩ := List.mem_map.mp hd
    trivial
  rcases List.mem_cons.mp hd with e | hd
  · rw [e]; trivial
  rcases List.mem_cons.mp hd with e | hd
  · rw [e]; trivial
  · exact nomatch hd
theorem at_row (a b : Int) (p1 p2 p3 p4 : Addr) (r1 r2 : Int) (sg : Bool) : atI ([.int a, .int b, .ref p1, .int r1, .ref p2, .int r2, .ref p3, .ref p4] : List V) (2 + 2 * (if sg = true then 1 else 0)) = some (.ref (if sg = true then p2 else p1)) ∧ atI ([.int a, .int b, .ref p1, .int r1, .ref p2, .int r2, .ref p3, .ref p4] : List V) (3 + 2 * (if sg = true then 1 else 0)) = some (.int (if sg = true then r2 else r1)) := by
  cases sg <;> exact ⟨rfl, rfl⟩
theorem dd6 : ∀ k ∈ KR, ∀ sg : Bool, (dd42 k sg).length = 6 := by
  intro k hk sg
  simp only [KR, List.mem_cons, List.not_mem_nil, or_false] at hk
  rcases hk with z | z | z | z | z | z <;> subst z <;> cases sg <;> rfl
def spDR (K : PySem.W.Frag) : Sp := fun vs H Q _ => ∃ (t : Addr) (k : Kr) (s : Int) (m : Str), vs = [.ref t, .int s, .str m] ∧ k ∈ KR ∧ RowAt H t k ∧ 0 ≤ s ∧ s < 4 ∧ m ∈ WL ∧ ∀ H', Same H H' → Q (.bl true) H'
theorem ok__law_division_right (B : Bl mg) (L : LL K mg C CD a1 a2 a3 a4 a5 a6 a7 a8 a9 a10 a11 a12 a13 a14 a15 a16 a17 a18 a19 a20 a21 a22 a23 a24 a25 a26 a27 a28 a29 a30 a31 a32 a33 a34 a35 a36 a37 a38 a39 a40 a41 a42 a43 a44 a45 a46 a47 a48 l1 l2 l3 l4 l5 l6 l7 l8 l9 l10 l11 l12 l13 l14 l15 l16 l17 l18 l19 l20 l21 l22 l23 l24 l25 l26 l27 l28 l29 l30 l31 l32 l33 l34 l35 l36 l37 l38 l39 l40 l41 l42 l43 l44 l45 l46 l47 l48 t34 t35 t36 tg_NEAR tg_CUT tg_UP) : FnOk P w K mg base CX0 11 a27 l27 ["_law_row", "_law_signs", "_law_mode"] (spDR K) := by
  have G_Form___init__ : FnOk P w K mg base CX0 9 a28 l28 ["self", "scale", "tail"] (spInit C) := (ok_Form___init__ B L).mono (by decide)
  have G_Divider___init__ : FnOk P w K mg base CX0 9 a39 l39 ["self", "form", "a", "b", "way", "signed"] (spDvI C CD) := (ok_Divider___init__ B L).mono (by decide)
  have G_Divider_step : FnOk P w K mg base CX0 10 a41 l41 ["self"] (spStep C CD) := (ok_Divider_step B L).mono (by decide)
  have G_Divider_rest : FnOk P w K mg base CX0 10 a45 l45 ["self"] (spRest C CD) := (ok_Divider_rest B L).mono (by decide)
  have G_Divider_quotient : FnOk P w K mg base CX0 10 a44 l44 ["self"] (spQuot C CD) := (ok_Divider_quotient B L).mono (by decide)
  have G_Divider_outcome : FnOk P w K mg base CX0 10 a48 l48 ["self"] (spOut C CD) := (ok_Divider_outcome B L).mono (by decide)
  have G_Divider_digits : FnOk P w K mg base CX0 10 a43 l43 ["self"] (spDigs C CD) := (ok_Divider_digits B L).mono (by decide)
  have G__law_same : FnOk P w K mg base CX0 10 a25 l25 ["_law_found", "_law_due"] (spSame K 4) := (ok_same L.F__law_same L.b__law_same L.m__law_same B 4).mono (by decide)
  refine L.F__law_division_right.ok sc__law_division_right (fun vs H Q E h => ?_) (fun cdv A outer s H vs Q E hr h => ?_)
  · obtain ⟨t, k, s, m, rfl, _⟩ := h
    rfl
  obtain ⟨t, k, sn, m, rfl, hk, R, s0, s4, hm, q⟩ := h
  refine ⟨_, (pss_cons (ps_par (by rfl) sc__law_division_right.nd (i := 3) (j := 4) rfl rfl (by decide) rfl rfl (pa_cons (pe_make L.M G_Form___init__ hr (by rfl) L.T.mgC L.b_Form___init__ .nil pass0 (pa_cons pe_int (pa_cons pe_int pa_nil))) (pa_cons (pe_or (pe_and (pe_cmpR op_eq (pv 2) pe_str (nomark _)) (pe_one (pe_cmpR op_eq (pe_op op_mod (pv 1) pe_int) pe_int (nomark _)))) (pe_one (pe_and (pe_cmpR op_eq (pv 2) pe_str (nomark _)) (pe_one (pe_cmpR op_gt (pe_op op_mod (pv 1) pe_int) pe_int (nomark _)))))) pa_nil)) (by rfl))
    (pss_cons (ps_par (by rfl) sc__law_division_right.nd (i := 5) (j := 6) rfl rfl (by decide) rfl rfl (pa_cons (pe_op op_add (pe_ix ix_tup (pv 0) pe_int (fun _ _ => rfl)) (pe_op op_mul pe_int (pe_op op_fdiv (pv 1) pe_int))) (pa_cons (pe_op op_add (pe_ix ix_tup (pv 0) pe_int (fun _ _ => rfl)) (pe_op op_mul pe_int (pe_op op_mod (pv 1) pe_int))) pa_nil)) (by rfl))
    (pss_cons (ps_set (i := 7) sc__law_division_right.nd rfl (.inl rfl) (pe_ifExp (pt_cmpR op_eq (pv 2) pe_str (nomark _)) (pe_ix ix_list (pe_ix ix_tup (pv 0) pe_int (fun _ _ => rfl)) pe_int (fun _ _ => rfl)) (pe_ix ix_list (pe_ix ix_tup (pv 0) pe_int (fun _ _ => rfl)) (pe_op op_add pe_int (pe_callTy call_int1 (by rfl) B.int PyProof.Rows.boot_int (pa_cons (pv 4) pa_nil))) (fun _ _ => rfl))))
    (pss_cons (ps_set (i := 8) sc__law_division_right.nd rfl (.inl rfl) (pe_tup (pa_cons (pe_op op_add (pv 7) (pe_op op_mul pe_int (pe_callTy call_int1 (by rfl) B.int PyProof.Rows.boot_int (pa_cons (pe_cmpR op_gt (pe_op op_mod (pv 1) pe_int) pe_int (nomark _)) pa_nil)))) (pa_cons (pe_ix ix_tup (pv 0) pe_int (fun _ _ => rfl)) pa_nil))))
    (pss_cons (ps_for PassesOwn.never rfl (pi_tup (pe_tup (pa_cons pe_bl (pa_cons pe_bl pa_nil)))) (pg_name (i := 9) sc__law_division_right.nd rfl (.inl rfl)) (pss_cons (ps_set (i := 10) sc__law_division_right.nd rfl (.inr rfl) (pe_makeK L.M2 G_Divider___init__ hr (by rfl) L.T2.mgC (L.kb_Divider___init__).choose_spec pass0 (pa_cons (pv 3) (pa_cons (pv 5) (pa_cons (pv 6) pa_nil))) (pk_cons (pv 2) (pk_cons (pv 9) pk_nil))))
    (pss_cons (ps_setLc (i := 11) (own := [("_law_turn", 15)]) (by rfl) sc__law_division_right.nd rfl rfl (sw_true rfl rfl rfl (by decide +kernel)) (pi_range1 (by rfl) B.range (pa_cons pe_int pa_nil)) (blkOk_by (own := [("_law_turn", 15)]) (N := ["_law_row", "_law_signs", "_law_mode", "_law_form", "_law_away", "_law_a", "_law_b", "_law_size", "_law_due", "_law_by_signs", "_law_divider", "_law_told", "_law_number", "_law_digit", "_law_found", "_law_turn"]) (sc := defScope s__law_division_right) (by decide +kernel)) (fun _ _ _ _ _ => pg_name (i := 15) sc__law_division_right.nd rfl (Or.inl rfl)) (fun _ _ _ _ _ => pts_nil) (fun _ _ _ _ _ => (pe_meth0 (pv 10) L.T2.cl L.M_Divider_step G_Divider_step hr L.b_Divider_step .nil pass0)))
    (pss_cons (ps_set (i := 12) sc__law_division_right.nd rfl (.inl rfl) pe_int)
    (pss_cons (ps_for PassesOwn.never rfl (pi_list (pv 11)) (pg_name (i := 13) sc__law_division_right.nd rfl (.inl rfl)) (pss_one (ps_set (i := 12) sc__law_division_right.nd rfl (.inl rfl) (pe_op op_add (pe_op op_mul pe_int (pv 12)) (pv 13)))))
    (pss_cons (ps_set (i := 14) sc__law_division_right.nd rfl (.inl rfl) (pe_lst (pa_cons (pv 11) (pa_cons (pe_meth0 (pv 10) L.T2.cl L.M_Divider_rest G_Divider_rest hr L.b_Divider_rest .nil pass0) (pa_cons (pe_meth0 (pv 10) L.T2.cl L.M_Divider_quotient G_Divider_quotient hr L.b_Divider_quotient .nil pass0) pa_nil)))))
    (pss_cons (ps_if (pt_not (pt_val (pe_call G__law_same hr (by rfl) L.m__law_same L.F__law_same.kp L.b__law_same .nil pass0 (pa_cons (pv 14) (pa_cons (pe_lst (pa_cons (pe_ix ix_tup (pv 0) (pe_op op_add pe_int (pe_op op_mul pe_int (pe_callTy call_int1 (by rfl) B.int PyProof.Rows.boot_int (pa_cons (pv 9) pa_nil)))) (fun _ _ => rfl)) (pa_cons (pe_ix ix_tup (pv 0) (pe_op op_add pe_int (pe_op op_mul pe_int (pe_callTy call_int1 (by rfl) B.int PyProof.Rows.boot_int (pa_cons (pv 9) pa_nil)))) (fun _ _ => rfl)) (pa_cons (pv 12) pa_nil)))) pa_nil))))) (pss_one (ps_ret pe_bl)) pss_nil)
    (pss_cons (ps_if (pt_not (pt_val (pe_call G__law_same hr (by rfl) L.m__law_same L.F__law_same.kp L.b__law_same .nil pass0 (pa_cons (pe_meth0 (pv 10) L.T2.cl L.M_Divider_outcome G_Divider_outcome hr L.b_Divider_outcome .nil pass0) (pa_cons (pv 8) pa_nil))))) (pss_one (ps_ret pe_bl)) pss_nil)
    (pss_one (ps_if (pt_not (pt_val (pe_call G__law_same hr (by rfl) L.m__law_same L.F__law_same.kp L.b__law_same .nil pass0 (pa_cons (pe_lst (pa_cons (pe_meth0 (pv 10) L.T2.cl L.M_Divider_digits G_Divider_digits hr L.b_Divider_digits .nil pass0) (pa_cons (pe_meth0 (pv 10) L.T2.cl L.M_Divider_rest G_Divider_rest hr L.b_Divider_rest .nil pass0) (pa_cons (pe_meth0 (pv 10) L.T2.cl L.M_Divider_quotient G_Divider_quotient hr L.b_Divider_quotient .nil pass0) pa_nil)))) (pa_cons (pv 14) pa_nil))))) (pss_one (ps_ret pe_bl)) pss_nil))))))))))
    (pss_one (ps_ret pe_bl))))))), ?_⟩
  obtain ⟨p1, p2, p3, p4, et, e1, e2, e3, e4⟩ := id R
  refine fun x dx nx ndx ne => ?_
  refine ⟨x, dx, 4, 3, rfl, upd_same, by decide, by decide, by decide, by decide, fun H1 F1 kp => ⟨rfl, ?_⟩⟩
  have s1 : Same H H1 := made nx ndx ne kp
  refine or_ev (fun z H' => z = .bl (aw42 m sn) ∧ H' = H1) (fun Q' q' => ?_) ?_
  · rw [aw_is] at q'
    have snd : ¬ (m = "up" ∧ sn % 3 = 0) → tAndV (tOp rEq (tVar 2) (tC (.str "down"))) (tOp (rI0 fun i j => V.bl (decide (j < i))) (tOp (rI (fun _ j => 0 < j) fun i j => V.int (i % j)) (tVar 1) (tC (.int 3))) (tC (.int 0))) (L2.start ["_law_row", "_law_signs", "_law_mode", "_law_form", "_law_away", "_law_a", "_law_b", "_law_size", "_law_due", "_law_by_signs", "_law_divider", "_law_told", "_law_number", "_law_digit", "_law_found", "_law_turn"] [.ref t, .int sn, .str m]) H1 Q' := fun nu => by
      refine ⟨_, rfl, rfl, _, rfl, ite2 (fun c1 => ?_) (fun c1 => ?_)⟩
      · have m1 := V.str.inj (of_decide_eq_true c1)
        refine ⟨_, rfl, _, _, rfl, rfl, (show (0 : Int) < 3 by decide), _, _, rfl, rfl, q' _ _ ⟨?_, rfl⟩⟩
        exact congrArg V.bl (decide_eq_decide.mpr ⟨fun z => .inr ⟨m1, z⟩, fun z => Or.elim z (fun y => absurd y nu) (fun y => y.2)⟩)
      · have m1 : ¬ m = "down" := fun z => c1 (decide_eq_true (congrArg V.str z))
        refine q' _ _ ⟨?_, rfl⟩
        rw [decide_eq_false (fun z => z.elim nu (fun y => m1 y.1))]
    refine ⟨_, rfl, rfl, _, rfl, ite2 (fun c1 => ?_) (fun c1 => ?_)⟩
    · have m1 := V.str.inj (of_decide_eq_true c1)
      refine ⟨_, rfl, _, _, rfl, rfl, (show (0 : Int) < 3 by decide), rfl, _, rfl, ite2 (fun c2 => ?_) (fun c2 => ?_)⟩
      · have z2 : sn % 3 = 0 := V.int.inj (of_decide_eq_true c2)
        exact q' _ _ ⟨by rw [decide_eq_true (.inl ⟨m1, z2⟩)], rfl⟩
      · exact snd (fun z => c2 (decide_eq_true (congrArg V.int z.2)))
    · refine ⟨_, rfl, ite2 (fun c2 => absurd c2 (by decide)) (fun _ => ?_)⟩
      exact snd (fun z => c1 (decide_eq_true (congrArg V.str z.1)))
  rintro _ H1 ⟨rfl, rfl⟩
  refine ⟨.ref x, .bl (aw42 m sn), rfl, ?_⟩
  simp only [L2.start, List.map_cons, List.map_nil, List.length_cons, List.length_nil, List.replicate_succ, List.replicate_zero, List.cons_append, List.nil_append, List.set_cons_succ, List.set_cons_zero, Nat.reduceAdd, Nat.reduceSub, Nat.zero_add]
  have R1 := R.same s1
  obtain ⟨p1, p2, p3, p4, et, e1, e2, e3, e4⟩ := id R1
  refine ⟨_, rfl, t, _, _, _, rfl, rfl, .inl (.inl et), rfl, _, rfl, _, _, rfl, rfl, ⟨by decide, by decide⟩, _, _, rfl, rfl, .inl ⟨by decide, by decide⟩, _, _, rfl, rfl, ?_⟩
  refine ⟨_, rfl, t, _, _, _, rfl, rfl, .inl (.inl et), rfl, _, rfl, _, _, rfl, rfl, (show (0 : Int) < 2 by decide), _, _, rfl, rfl, .inl ⟨by decide, by decide⟩, _, _, rfl, rfl, ?_⟩
  refine ⟨.int (wA k sn), .int (wB k sn), rfl, ?_⟩
  simp only [L2.start, List.map_cons, List.map_nil, List.length_cons, List.length_nil, List.replicate_succ, List.replicate_zero, List.cons_append, List.nil_append, List.set_cons_succ, List.set_cons_zero, Nat.reduceAdd, Nat.reduceSub, Nat.zero_add]
  obtain ⟨hws, hfl⟩ := ws3 k hk
  refine seq_asg42 ?_
  refine if_ev (fun z H' => z = .int (sz42 k sn m) ∧ H' = H1) (fun Q' q' => ?_) ?_
  · unfold sz42 at q'
    refine ⟨_, rfl, rfl, _, rfl, ite2 (fun c1 => ?_) (fun c1 => ?_)⟩
    · rw [if_pos (V.str.inj (of_decide_eq_true c1))] at q'
      refine ⟨_, rfl, t, _, _, _, rfl, rfl, .inl (.inl et), rfl, p3, _, _, _, rfl, rfl, SqL.of e3, (by rw [hws]; rfl), q' _ _ ⟨rfl, rfl⟩⟩
    · rw [if_neg (show ¬ m = "near" from fun z => c1 (decide_eq_true (congrArg V.str z)))] at q'
      refine ⟨_, rfl, t, _, _, _, rfl, rfl, .inl (.inl et), rfl, _, rfl, .inr ⟨_, rfl, ?_⟩⟩
      cases ha : aw42 m sn with
      | true =>
        rw [ha, if_pos rfl] at q'
        exact ⟨_, _, rfl, rfl, p3, _, _, _, rfl, rfl, SqL.of e3, (by rw [hws]; rfl), q' _ _ ⟨rfl, rfl⟩⟩
      | false =>
        rw [ha, if_neg (by decide)] at q'
        exact ⟨_, _, rfl, rfl, p3, _, _, _, rfl, rfl, SqL.of e3, (by rw [hws]; rfl), q' _ _ ⟨rfl, rfl⟩⟩
  rintro _ H1 ⟨rfl, rfl⟩
  simp only [L2.start, List.map_cons, List.map_nil, List.length_cons, List.length_nil, List.replicate_succ, List.replicate_zero, List.cons_append, List.nil_append, List.set_cons_succ, List.set_cons_zero, Nat.reduceAdd, Nat.reduceSub, Nat.zero_add]
  refine ⟨_, rfl, _, rfl, _, _, rfl, rfl, (show (0 : Int) < 3 by decide), _, _, rfl, rfl, .inr ⟨_, rfl, ?_⟩⟩
  refine ⟨_, _, rfl, rfl, .inl ⟨by decide, by decide⟩, _, _, rfl, rfl, _, rfl, t, _, _, _, rfl, rfl, .inl (.inl et), rfl, (by show 2 ≤ sizeLine; decide), fun du ndu => ?_⟩
  have sdu := same_upd (o := .tup [.int (due42 k sn m).1, .ref p4]) ndu
  have Pd : PairAt (upd H1 du (.tup [.int (due42 k sn m).1, .ref p4])) du (due42 k sn m) := ⟨p4, upd_same, sdu _ _ e4⟩
  have edu : (upd H1 du (.tup [.int (sz42 k sn m + 128 * (if decide (0 < sn % 3) = true then 1 else 0)), .ref p4])) = upd H1 du (.tup [.int (due42 k sn m).1, .ref p4]) := by
    unfold due42
    simp only [decide_eq_true_eq]
  refine gnx42b (H' := upd H1 du (.tup [.int (due42 k sn m).1, .ref p4])) edu ?_
  clear edu
  generalize upd H1 du (.tup [.int (due42 k sn m).1, .ref p4]) = H2 at *
  simp only [L2.start, List.map_cons, List.map_nil, List.length_cons, List.length_nil, List.replicate_succ, List.replicate_zero, List.cons_append, List.nil_append, List.set_cons_succ, List.set_cons_zero, Nat.reduceAdd, Nat.reduceSub, Nat.zero_add]
  refine ⟨(by show 2 ≤ sizeLine; decide), fun tw ntw => ?_⟩
  have stw := same_upd (o := .tup [.bl false, .bl true]) ntw
  have etw : (upd H2 tw (.tup [.bl false, .bl true])) tw = some (.tup [.bl false, .bl true]) := upd_same
  refine ⟨tw, rfl, ⟨[.bl false, .bl true], .inl (.inl etw)⟩, ?_⟩
  have w2 := s1.trans (sdu.trans stw)
  have F2 := F1.same (sdu.trans stw)
  have Pd2 := Pd.sameP stw
  have R2 := R1.same (sdu.trans stw)
  obtain ⟨H3, hH3⟩ : ∃ H3, H3 = upd H2 tw (.tup [.bl false, .bl true]) := ⟨_, rfl⟩
  rw [← hH3] at etw w2 F2 Pd2 R2 ⊢
  clear hH3 stw ntw sdu ndu Pd et e1 e2 e3 e4
  refine for_tup (K := K) (a := tw) (xs := [.bl false, .bl true]) (fun i σ Hx => ∃ (y9 y10 y11 y12 y13 y14 : Option V), σ = [some (.ref t), some (.int sn), some (.str m), some (.ref x), some (.bl (aw42 m sn)), some (.int (wA k sn)), some (.int (wB k sn)), some (.int (sz42 k sn m)), some (.ref du), y9, y10, y11, y12, y13, y14, none] ∧ Same H3 Hx)
    ⟨_, _, _, _, _, _, rfl, Same.refl _⟩ (fun i σ Hx _ ⟨_, _, _, _, _, _, _, sx⟩ => .inl (.inl (sx _ _ etw))) ?_ ?_
  · rintro i z σ Hx hz ⟨y9, y10, y11, y12, y13, y14, rfl, sx⟩
    obtain ⟨sg, rfl⟩ : ∃ sg : Bool, z = .bl sg := by
      match i, hz with
      | 0, e => cases e; exact ⟨_, rfl⟩
      | 1, e => cases e; exact ⟨_, rfl⟩
    have hc : chk42 k sn m sg = true := by
      have a1 := List.all_eq_true.mp chk_all k hk
      have hs : sn ∈ ([0, 1, 2, 3] : List Int) := by
        have : sn = 0 ∨ sn = 1 ∨ sn = 2 ∨ sn = 3 := by omega
        rcases this with y | y | y | y <;> subst y <;> decide
      have a2 := List.all_eq_true.mp a1 sn hs
      have a3 := List.all_eq_true.mp a2 m hm
      exact List.all_eq_true.mp a3 sg (by cases sg <;> decide)
    have F3 := F2.same sx
    have R3 := R2.same sx
    simp only [L2.start, List.map_cons, List.map_nil, List.length_cons, List.length_nil, List.replicate_succ, List.replicate_zero, List.cons_append, List.nil_append, List.set_cons_succ, List.set_cons_zero, Nat.reduceAdd, Nat.reduceSub, Nat.zero_add]
    refine ⟨_, rfl, _, rfl, _, rfl, _, rfl, _, rfl, rfl, rfl, fun xd dd nxd ndd ned => ?_⟩
    have sM : Same Hx (upd (upd Hx dd (.own xd)) xd (.ins CD dd [])) := (same_upd ndd).trans (same_upd (by rw [upd_ne ned.symm]; exact nxd))
    refine ⟨xd, dd, x, 4, 3, wA k sn, wB k sn, m, sg, rfl, upd_same, F3.same sM, fun f l H4 D4 nl nf k4 => ⟨rfl, ?_⟩⟩
    have ck := ck_of hc
    unfold dvDue dvOv dvBy dvPw at D4
    rw [if_pos ck.hd, if_pos ck.hd, if_pos ck.hd, if_pos ck.hd] at D4
    have w4 : Same Hx H4 := fun y u e => k4 y u (sM y u e) (ne_of_none e nxd)
    have nlx : Hx l = none := sM.free nl
    clear k4 nl nf sM
    simp only [L2.start, List.map_cons, List.map_nil, List.length_cons, List.length_nil, List.replicate_succ, List.replicate_zero, List.cons_append, List.nil_append, List.set_cons_succ, List.set_cons_zero, Nat.reduceAdd, Nat.reduceSub, Nat.zero_add]
    refine ⟨6, rfl, by decide, by decide, fun D nD => ?_⟩
    have nDl : D ≠ l := fun z => by
      have e := D4.el
      rw [← z, nD] at e
      cases e
    have nDx : D ≠ xd := fun z => by
      obtain ⟨_, e⟩ := D4.row
      rw [← z, nD] at e
      cases e
    have nDf : D ≠ f := fun z => by
      obtain ⟨_, e, _⟩ := D4.fa
      rw [← z, nD] at e
      cases e
    have sD := same_upd (o := .lst []) nD
    have nDo := w4.free nD
    have ck1 := ck.ob
    have ck2 := ck.rn
    have ck3 := ck.y0
    have ck4 := ck.y1
    generalize hY : fhN 4 3 (wB k sn) = Y at *
    generalize hO : fhN 4 3 (wA k sn) = O at *
    refine lc_range (n := 6) (fun j H' => Same Hx H' ∧ DvAt C CD H' xd f l 4 3 (wA k sn) (wB k sn) m sg (run42 sg 3 Y O j).1 (((3 : Nat) : Int) + 3) (.int (run42 sg 3 Y O j).2) (.int Y) (fhP 4 3 (wA k sn) - fhP 4 3 (wB k sn) - ((3 : Nat) : Int) - 2) ∧ H' D = some (.lst ((run42 sg 3 Y O j).1.map V.int)))
      ⟨w4.trans sD, D4.same sD, upd_same⟩ ?_ ?_
    · rintro j H5 hj ⟨s5, D5, eD⟩
      refine ⟨rfl, yesT ?_⟩
      obtain ⟨dd5, hx5⟩ := D5.row
      have rl := run_len sg 3 Y O j
      have ob := ck1 j hj
      refine ⟨_, rfl, xd, dd5, _, rfl, hx5, rfl, xd, f, l, 4, 3, wA k sn, wB k sn, m, sg, (run42 sg 3 Y O j).1, ((3 : Nat) : Int) + 3, (run42 sg 3 Y O j).2, Y, _, rfl, D5, (by rw [rl]; omega), (by rw [rl]; omega), ob.1, ob.2, ck3, ck4, fun H6 D6 k6 => ?_⟩
      refine ⟨_, k6 _ _ eD nDx nDl, ?_, fun y u e => ?_, D6.updR nDx nDf nDl, ?_⟩
      · rw [List.length_map, rl]
        exact small1000 (by omega)
      · rw [upd_ne (ne_of_none e nDo)]
        exact k6 _ _ (s5 _ _ e) (ne_of_none e nxd) (ne_of_none e nlx)
      · rw [upd_same]
        show some (HO.lst ((run42 sg 3 Y O j).1.map V.int ++ [.int (dgt sg 3 Y (rst (run42 sg 3 Y O j).1 (run42 sg 3 Y O j).2))])) = some (.lst (((run42 sg 3 Y O j).1 ++ [dgt sg 3 Y (rst (run42 sg 3 Y O j).1 (run42 sg 3 Y O j).2)]).map V.int))
        rw [List.map_append]
        rfl
    rintro H5 ⟨s5, D5, eD⟩
    rw [ck2] at D5 eD
    replace D5 : DvAt C CD H5 xd f l 4 3 (wA k sn) (wB k sn) m sg (dd42 k sg) (((3 : Nat) : Int) + 3) (.int (rr42 k sg)) (.int Y) (fhP 4 3 (wA k sn) - fhP 4 3 (wB k sn) - ((3 : Nat) : Int) - 2) := D5
    replace eD : H5 D = some (.lst ((dd42 k sg).map V.int)) := eD
    have l6 := dd6 k hk sg
    simp only [L2.start, List.map_cons, List.map_nil, List.length_cons, List.length_nil, List.replicate_succ, List.replicate_zero, List.cons_append, List.nil_append, List.set_cons_succ, List.set_cons_zero, Nat.reduceAdd, Nat.reduceSub, Nat.zero_add]
    refine ⟨_, rfl, D, rfl, ⟨_, SqL.of eD⟩, ?_⟩
    refine for_list (K := K) (a := D) (xs := (dd42 k sg).map V.int) (fun i σ H' => ∃ y13 : Option V, σ = [some (.ref t), some (.int sn), some (.str m), some (.ref x), some (.bl (aw42 m sn)), some (.int (wA k sn)), some (.int (wB k sn)), some (.int (sz42 k sn m)), some (.ref du), some (.bl sg), some (.ref xd), some (.ref D), some (.int (wof ((dd42 k sg).take i))), y13, y14, none] ∧ H' = H5) ⟨_, rfl, rfl⟩ (fun i σ H' _ ⟨_, _, e⟩ => by rw [e]; exact SqL.of eD) ?_ ?_
    · rintro j z σ H6 hz ⟨y13, rfl, rfl⟩
      obtain ⟨d, ed, rfl⟩ := at_int' hz
      refine ⟨_, rfl, _, _, rfl, rfl, .inl ⟨by decide, by decide⟩, _, rfl, _, _, rfl, rfl, some (.int d), ?_, rfl⟩
      rw [wof_snoc ed]
      rfl
    rintro σ H6 ⟨y13, rfl, rfl⟩
    rw [List.length_map, List.take_length]
    obtain ⟨dd5, hx5⟩ := D5.row
    refine ⟨_, rfl, _, rfl, xd, dd5, _, rfl, hx5, rfl, xd, f, l, 4, 3, _, _, _, _, _, _, _, _, _, rfl, D5, ?_⟩
    refine ⟨_, rfl, xd, dd5, _, rfl, hx5, rfl, xd, f, l, 4, 3, _, _, _, _, _, _, _, _, _, rfl, D5, (by show 3 ≤ sizeLine; decide), fun fo nfo => ?_⟩
    have sfo := same_upd (o := .lst [.ref D, .int (rr42 k sg), .int (wof (dd42 k sg))]) nfo
    have R6 := R3.same (s5.trans sfo)
    obtain ⟨p1, p2, p3, p4, et, e1, e2, e3, e4⟩ := id R6
    obtain ⟨at1, at2⟩ := at_row k.a k.b p1 p2 p3 p4 k.r1 k.r2 sg
    have epp : (upd H6 fo (.lst [.ref D, .int (rr42 k sg), .int (wof (dd42 k sg))])) (if sg = true then p2 else p1) = some (.lst ((dd42 k sg).map V.int)) := by
      unfold dd42
      cases sg
      · exact e1
      · exact e2
    have eD6 := sfo _ _ eD
    have efo : (upd H6 fo (.lst [.ref D, .int (rr42 k sg), .int (wof (dd42 k sg))])) fo = some (.lst [.ref D, .int (rr42 k sg), .int (wof (dd42 k sg))]) := upd_same
    have w6 := s5.trans sfo
    have D6 := D5.same sfo
    generalize upd H6 fo (.lst [.ref D, .int (rr42 k sg), .int (wof (dd42 k sg))]) = H7 at *
    simp only [L2.start, List.map_cons, List.map_nil, List.length_cons, List.length_nil, List.replicate_succ, List.replicate_zero, List.cons_append, List.nil_append, List.set_cons_succ, List.set_cons_zero, Nat.reduceAdd, Nat.reduceSub, Nat.zero_add]
    refine ⟨_, rfl, _, rfl, _, rfl, .inr ⟨_, rfl, ?_⟩⟩
    refine ⟨_, _, rfl, rfl, .inl ⟨by decide, by decide⟩, _, _, rfl, rfl, t, _, _, _, rfl, rfl, .inl (.inl et), at1, ?_⟩
    refine ⟨_, rfl, _, rfl, .inr ⟨_, rfl, ?_⟩⟩
    refine ⟨_, _, rfl, rfl, .inl ⟨by decide, by decide⟩, _, _, rfl, rfl, t, _, _, _, rfl, rfl, .inl (.inl et), at2, _, rfl, (by show 3 ≤ sizeLine; decide), fun d2 nd2 => ?_⟩
    have sd2 := same_upd (o := .lst [.ref (if sg = true then p2 else p1), .int (if sg = true then k.r2 else k.r1), .int (wof (dd42 k sg))]) nd2
    have dF : ∀ {Hz : Hp} {a : Addr}, Same H7 Hz → Hz a = some (.lst [.ref (if sg = true then p2 else p1), .int (rr42 k sg), .int (wof (dd42 k sg))]) ∨ Hz a = some (.lst [.ref D, .int (rr42 k sg), .int (wof (dd42 k sg))]) → Dp K Hz (.ref a) (.list [.list ((dd42 k sg).map PyData.int), .int (rr42 k sg), .int (wof (dd42 k sg))]) := fun {Hz a} sz' e => by
      rcases e with e | e
      · exact .lst (SqL.of e) (.cons (.lst (SqL.of (sz' _ _ epp)) (dp_ints42 _)) (.cons (.int _) (.cons (.int _) .nil)))
      · exact .lst (SqL.of e) (.cons (.lst (SqL.of (sz' _ _ eD6)) (dp_ints42 _)) (.cons (.int _) (.cons (.int _) .nil)))
    refine ⟨_, _, _, 3, rfl, rfl, lv_fnd (ds := dd42 k sg) (by omega), dF sd2 (.inr (sd2 _ _ efo)), dF sd2 (.inl upd_same), fun H8 s8 => ?_⟩
    refine ⟨_, rfl, iteF ?_⟩
    have w8 := sd2.trans s8
    have D8 := D6.same w8
    obtain ⟨dd8, hx8⟩ := D8.row
    refine ⟨_, rfl, xd, dd8, _, rfl, hx8, rfl, xd, f, l, 4, 3, wA k sn, wB k sn, m, sg, dd42 k sg, _, rr42 k sg, Y, _, rfl, D8, (by rw [l6]; decide), ck.q0, ck.p0, ck.p1, ck.mo, fun to H9 s9 P9 => ?_⟩
    replace P9 : PairAt H9 to (due42 k sn m) := by
      rw [← ck.ou]
      exact P9
    refine ⟨_, rfl, _, _, _, 3, rfl, rfl, lv_pair3 _ (show k.fl.length ≤ 1000 by omega), dp_pair P9, dp_pair (Pd2.sameP (sx.trans (w6.trans (w8.trans s9)))), fun HA sA => ?_⟩
    refine ⟨_, rfl, iteF ?_⟩
    have wA' := w8.trans (s9.trans sA)
    have DA := D6.same wA'
    obtain ⟨ddA, hxA⟩ := DA.row
    refine ⟨_, rfl, xd, ddA, _, rfl, hxA, rfl, xd, f, l, 4, 3, _, _, _, _, _, _, _, _, _, rfl, DA, (by omega), fun dg HB ndg sB edg => ?_⟩
    have hxB := sB _ _ hxA
    have DB := DA.same sB
    refine ⟨_, rfl, xd, ddA, _, rfl, hxB, rfl, xd, f, l, 4, 3, _, _, _, _, _, _, _, _, _, rfl, DB, ?_⟩
    refine ⟨_, rfl, xd, ddA, _, rfl, hxB, rfl, xd, f, l, 4, 3, _, _, _, _, _, _, _, _, _, rfl, DB, (by show 3 ≤ sizeLine; decide), fun l3 nl3 => ?_⟩
    have s3 := same_upd (o := .lst [.ref dg, .int (rr42 k sg), .int (wof (dd42 k sg))]) nl3
    refine ⟨_, rfl, _, _, _, 3, rfl, rfl, lv_fnd (ds := dd42 k sg) (by omega), .lst (SqL.of upd_same) (.cons (.lst (SqL.of (s3 _ _ edg)) (dp_ints42 _)) (.cons (.int _) (.cons (.int _) .nil))), dF (wA'.trans (sB.trans s3)) (.inr ((wA'.trans (sB.trans s3)) _ _ efo)), fun HC sC => ?_⟩
    refine ⟨_, rfl, iteF ?_⟩
    exact ⟨_, _, _, _, _, _, rfl, sx.trans (w6.trans (wA'.trans (sB.trans (s3.trans sC))))⟩
  · rintro σ Hx ⟨y9, y10, y11, y12, y13, y14, rfl, sx⟩
    exact q _ (w2.trans sx)
end
section
variable {P : Program} {w : World} {K : PySem.W.Frag} {mg : Str → Option Value} {base : Heap}
variable {C : Addr} {CD : Addr} {a1 a2 a3 a4 a5 a6 a7 a8 a9 a10 a11 a12 a13 a14 a15 a16 a17 a18 a19 a20 a21 a22 a23 a24 a25 a26 a27 a28 a29 a30 a31 a32 a33 a34 a35 a36 a37 a38 a39 a40 a41 a42 a43 a44 a45 a46 a47 a48 : Addr} {l1 l2 l3 l4 l5 l6 l7 l8 l9 l10 l11 l12 l13 l14 l15 l16 l17 l18 l19 l20 l21 l22 l23 l24 l25 l26 l27 l28 l29 l30 l31 l32 l33 l34 l35 l36 l37 l38 l39 l40 l41 l42 l43 l44 l45 l46 l47 l48 : FuncData} {t34 t35 t36 tg_NEAR tg_CUT tg_UP : Tok}
theorem erase_map {α β : Type} (g : α → β) : ∀ (l : List α) (i : Nat), (l.map g).eraseIdx i = (l.eraseIdx i).map g
  | [], _ => rfl
  | x :: l, 0 => rfl
  | x :: l, i + 1 => by
    show g x :: (l.map g).eraseIdx i = g x :: (l.eraseIdx i).map g
    rw [erase_map g l i]
theorem KnAt.keepb {H0 H H' : Hp} {l b : Addr} {n : Nat} {c : Int} (h : KnAt H0 H l n) (hB : BoxAt c H b) (hb : ¬ H0 b = none) (k : Keep b H H') (nl : l ≠ b) : KnAt H0 H' l n := by
  obtain ⟨ts, e, hn, g⟩ := h
  have kT : ∀ y xs, H y = some (.tup xs) → H' y = some (.tup xs) := fun y xs hy => k _ _ hy (fun z => by
    obtain ⟨_, _, _, eb, _⟩ := hB
    rw [z, eb] at hy
    cases hy)
  refine ⟨ts, k _ _ e nl, hn, fun t ht => ?_⟩
  obtain ⟨kr, hk, p1, p2, p3, p4, r, ⟨f1, f2, f3⟩, m⟩ := g t ht
  have ne : ∀ {p : Addr}, H0 p = none → p ≠ b := fun {p} e z => hb (z ▸ e)
  exact ⟨kr, hk, p1, p2, p3, p4, ⟨kT _ _ r.1, k _ _ r.2.1 (ne f1), k _ _ r.2.2.1 (ne f2), k _ _ r.2.2.2.1 (ne f3), kT _ _ r.2.2.2.2⟩, ⟨f1, f2, f3⟩, m⟩
theorem RowP.keepb {H0 H H' : Hp} {b t : Addr} {k : Kr} {p1 p2 p3 p4 : Addr} {c : Int} (r : RowP H t k p1 p2 p3 p4) (f : H0 p1 = none ∧ H0 p2 = none ∧ H0 p3 = none) (hB : BoxAt c H b) (hb : ¬ H0 b = none) (kp : Keep b H H') : RowP H' t k p1 p2 p3 p4 := by
  have kT : ∀ y xs, H y = some (.tup xs) → H' y = some (.tup xs) := fun y xs hy => kp _ _ hy (fun z => by
    obtain ⟨_, _, _, eb, _⟩ := hB
    rw [z, eb] at hy
    cases hy)
  have ne : ∀ {p : Addr}, H0 p = none → p ≠ b := fun {p} e z => hb (z ▸ e)
  exact ⟨kT _ _ r.1, kp _ _ r.2.1 (ne f.1), kp _ _ r.2.2.1 (ne f.2.1), kp _ _ r.2.2.2.1 (ne f.2.2), kT _ _ r.2.2.2.2⟩
theorem KnAt.same {H0 H H' : Hp} {l : Addr} {n : Nat} (h : KnAt H0 H l n) (s : Same H H') : KnAt H0 H' l n := by
  obtain ⟨ts, e, hn, g⟩ := h
  refine ⟨ts, s _ _ e, hn, fun t ht => ?_⟩
  obtain ⟨kr, hk, p1, p2, p3, p4, r, f, m⟩ := g t ht
  exact ⟨kr, hk, p1, p2, p3, p4, r.same s, f, m⟩
theorem KnAt.pop {H0 H : Hp} {l : Addr} {n : Nat} (h : KnAt H0 H l (n + 1)) {i : Nat} (hi : i < n + 1) : ∃ (ts : List Addr) (t : Addr) (k : Kr), H l = some (.lst (ts.map V.ref)) ∧ ts.length = n + 1 ∧ ts[i]? = some t ∧ k ∈ KR ∧ (∃ p1 p2 p3 p4, RowP (upd H l (.lst ((ts.map V.ref).eraseIdx i))) t k p1 p2 p3 p4 ∧ (H0 p1 = none ∧ H0 p2 = none ∧ H0 p3 = none)) ∧ KnAt H0 (upd H l (.lst ((ts.map V.ref).eraseIdx i))) l n := by
  obtain ⟨ts, e, hn, g⟩ := h
  have hlt : i < ts.length := by omega
  have up : ∀ {t : Addr} {k : Kr} {p1 p2 p3 p4 : Addr}, RowP H t k p1 p2 p3 p4 → (p1 ≠ l ∧ p2 ≠ l ∧ p3 ≠ l) → RowP (upd H l (.lst ((ts.map V.ref).eraseIdx i))) t k p1 p2 p3 p4 := fun {t k p1 p2 p3 p4} r m => by
    have tn : ∀ {y : Addr} {xs : List V}, H y = some (.tup xs) → y ≠ l := fun {y xs} hy z => by
      rw [z, e] at hy
      cases hy
    exact ⟨by rw [upd_ne (tn r.1)]; exact r.1, by rw [upd_ne m.1]; exact r.2.1, by rw [upd_ne m.2.1]; exact r.2.2.1, by rw [upd_ne m.2.2]; exact r.2.2.2.1, by rw [upd_ne (tn r.2.2.2.2)]; exact r.2.2.2.2⟩
  obtain ⟨k, hk, p1, p2, p3, p4, r, f, m⟩ := g ts[i] (List.getElem_mem hlt)
  refine ⟨ts, ts[i], k, e, hn, List.getElem?_eq_getElem hlt, hk, ⟨p1, p2, p3, p4, up r m, f⟩, ts.eraseIdx i, ?_, ?_, fun t ht => ?_⟩
  · rw [upd_same, erase_map]
  · rw [List.length_eraseIdx_of_lt hlt]
    omega
  · obtain ⟨k2, hk2, q1, q2, q3, q4, r2, f2, m2⟩ := g t (List.mem_of_mem_eraseIdx ht)
    exact ⟨k2, hk2, q1, q2, q3, q4, up r2 m2, f2, m2⟩
def spLaw (K : PySem.W.Frag) : Sp := fun vs H Q _ => ∃ (a : Addr) (ns : List Int), vs = [.ref a] ∧ SqL K H a (ns.map V.int) ∧ ns.length ≤ 63 ∧ ∀ H', Q (.bl true) H'
theorem ok_law {f : Addr} {fd : FuncData} (F : Fun K "law" "law" s_law f fd) (B : Bl mg) (L : LL K mg C CD a1 a2 a3 a4 a5 a6 a7 a8 a9 a10 a11 a12 a13 a14 a15 a16 a17 a18 a19 a20 a21 a22 a23 a24 a25 a26 a27 a28 a29 a30 a31 a32 a33 a34 a35 a36 a37 a38 a39 a40 a41 a42 a43 a44 a45 a46 a47 a48 l1 l2 l3 l4 l5 l6 l7 l8 l9 l10 l11 l12 l13 l14 l15 l16 l17 l18 l19 l20 l21 l22 l23 l24 l25 l26 l27 l28 l29 l30 l31 l32 l33 l34 l35 l36 l37 l38 l39 l40 l41 l42 l43 l44 l45 l46 l47 l48 t34 t35 t36 tg_NEAR tg_CUT tg_UP) : FnOk P w K mg base CX0 12 f fd ["_law_script"] (spLaw K) := by
  have G__law_folded : FnOk P w K mg base CX0 11 a24 l24 ["_law_script", "_law_size"] (spFolded K) := ok_folded L.F__law_folded B
  have G__law_box : FnOk P w K mg base CX0 11 a22 l22 ["_law_script", "_law_k"] (spBox K) := ok_box L.F__law_box B
  have G__law_take : FnOk P w K mg base CX0 11 a23 l23 ["_law_box_here", "_law_size"] (spTake 2) := (ok_take L.F__law_take L.b__law_take L.m__law_take B 2).mono (by decide)
  have G__law_known : FnOk P w K mg base CX0 11 a26 l26 [] spKnown := (ok__law_known B L).mono (by decide)
  have G__law_division_right : FnOk P w K mg base CX0 11 a27 l27 ["_law_row", "_law_signs", "_law_mode"] (spDR K) := (ok__law_division_right B L).mono (by decide)
  refine F.ok sc_law (fun vs H Q E h => ?_) (fun cdv A outer s H vs Q E hr h => ?_)
  · obtain ⟨a, ns, rfl, _⟩ := h
    rfl
  obtain ⟨a, ns, rfl, hS, h63, q⟩ := h
  refine ⟨_, (pss_cons (ps_set (i := 1) sc_law.nd rfl (.inl rfl) (pe_call G__law_folded hr (by rfl) L.m__law_folded L.F__law_folded.kp L.b__law_folded .nil pass0 (pa_cons (pv 0) (pa_cons pe_int pa_nil))))
    (pss_cons (ps_for PassesOwn.never rfl (pi_range1 (by rfl) B.range (pa_cons (pe_callB (call_max2 rfl) (by rfl) B.max boot_max (pa_cons pe_int (pa_cons (pe_callB call_len_seq (by rfl) B.len PySem.boot_len (pa_cons (pv 1) pa_nil)) pa_nil))) pa_nil)) (pg_name (i := 2) sc_law.nd rfl (.inl rfl)) (pss_cons (ps_set (i := 3) sc_law.nd rfl (.inl rfl) (pe_call G__law_box hr (by rfl) L.m__law_box L.F__law_box.kp L.b__law_box .nil pass0 (pa_cons (pv 1) (pa_cons (pv 2) pa_nil))))
    (pss_cons (ps_set (i := 4) sc_law.nd rfl (.inl rfl) (pe_call0 G__law_known hr (by rfl) L.m__law_known L.F__law_known.kp L.b__law_known .nil pass0))
    (pss_one (ps_for PassesOwn.never rfl (pi_range1 (by rfl) B.range (pa_cons pe_int pa_nil)) (pg_name (i := 5) sc_law.nd rfl (.inl rfl)) (pss_cons (ps_set (i := 6) sc_law.nd rfl (.inl rfl) (pe_bm PySem.F.plainAttrs_list PySem.F.slot_list_pop PySem.F.type_list_pop mt_popAt (pv 4) (pa_cons (pe_call G__law_take hr (by rfl) L.m__law_take L.F__law_take.kp L.b__law_take .nil pass0 (pa_cons (pv 3) (pa_cons (pe_callB call_len_seq (by rfl) B.len PySem.boot_len (pa_cons (pv 4) pa_nil)) pa_nil))) pa_nil)))
    (pss_one (ps_for PassesOwn.never rfl (pi_tup (pe_tup (pa_cons pe_str (pa_cons pe_str (pa_cons pe_str (pa_cons pe_str pa_nil)))))) (pg_name (i := 7) sc_law.nd rfl (.inl rfl)) (pss_one (ps_if (pt_not (pt_val (pe_call G__law_division_right hr (by rfl) L.m__law_division_right L.F__law_division_right.kp L.b__law_division_right .nil pass0 (pa_cons (pv 6) (pa_cons (pe_call G__law_take hr (by rfl) L.m__law_take L.F__law_take.kp L.b__law_take .nil pass0 (pa_cons (pv 3) (pa_cons pe_int pa_nil))) (pa_cons (pv 7) pa_nil)))))) (pss_one (ps_ret pe_bl)) pss_nil))))))))))
    (pss_one (ps_ret pe_bl)))), ?_⟩
  refine ⟨_, rfl, a, ns, 3, rfl, hS, h63, by decide, by decide, fun p H1 zs np s1 ep lz => ?_⟩
  have lz2 : zs.length ≤ 3 := by omega
  refine ⟨_, rfl, p, _, rfl, .inl (SqL.of ep), _, _, rfl, ?_⟩
  obtain ⟨n, en, hn⟩ : ∃ n : Nat, (if (((zs.map V.int).length : Nat) : Int) > 2 then (((zs.map V.int).length : Nat) : Int) else 2) = (n : Int) ∧ n ≤ 3 := by
    rw [List.length_map]
    split
    · exact ⟨zs.length, rfl, lz2⟩
    · exact ⟨2, rfl, by decide⟩
  rw [en]
  refine ⟨_, rfl, by omega, by omega, ?_⟩
  rw [Int.toNat_natCast]
  refine for_range (n := n) (fun i σ H5 => ∃ (y2 y3 y4 y5 y6 y7 : Option V), σ = [some (.ref a), some (.ref p), y2, y3, y4, y5, y6, y7] ∧ Same H1 H5) ⟨none, none, none, none, none, none, rfl, Same.refl _⟩ ?_ ?_
  · rintro i σ H5 hi ⟨y2, y3, y4, y5, y6, y7, rfl, s5⟩
    refine ⟨_, rfl, _, rfl, p, zs, _, rfl, SqL.of (s5 _ _ ep), by omega, by omega, fun b H6 nb s6 B6 => ?_⟩
    simp only [L2.start, List.map_cons, List.map_nil, List.length_cons, List.length_nil, List.replicate_succ, List.replicate_zero, List.cons_append, List.nil_append, List.set_cons_succ, List.set_cons_zero, Nat.reduceAdd, Nat.reduceSub, Nat.zero_add]
    refine ⟨rfl, fun l H7 nl s7 K7 => ?_⟩
    have nlb : l ≠ b := (B6.ne nl).symm
    have hb : ¬ H6 b = none := fun z => by
      obtain ⟨_, _, _, e, _⟩ := B6
      rw [e] at z
      cases z
    simp only [L2.start, List.map_cons, List.map_nil, List.length_cons, List.length_nil, List.replicate_succ, List.replicate_zero, List.cons_append, List.nil_append, List.set_cons_succ, List.set_cons_zero, Nat.reduceAdd, Nat.reduceSub, Nat.zero_add]
    refine ⟨6, rfl, by decide, by decide, ?_⟩
    refine for_range (n := 6) (fun i' σ Hx => ∃ (y2 y5 y6 y7 : Option V), σ = [some (.ref a), some (.ref p), y2, some (.ref b), some (.ref l), y5, y6, y7] ∧ Same H5 Hx ∧ BoxAt (20 * i') Hx b ∧ KnAt H6 Hx l (6 - i')) ⟨_, _, _, _, rfl, s6.trans s7, (B6.same s7).mono (by decide), K7⟩ ?_ ?_
    · rintro i' σ Hx hi' ⟨y2, y5, y6, y7, rfl, sx, Bx, Kn⟩
      obtain ⟨ts0, el0, hn0, _⟩ := id Kn
      have hlen : ((((ts0.map V.ref).length : Nat)) : Int) = 6 - (i' : Int) := by
        rw [List.length_map, hn0]
        omega
      refine ⟨_, rfl, .inl ⟨rfl, _, SqL.of el0⟩, _, rfl, _, rfl, l, _, rfl, .inl (SqL.of el0), ?_⟩
      rw [hlen]
      refine ⟨b, _, _, rfl, Bx, (by omega), (by omega), (by omega), (by omega), (by decide), fun r H8 u8 v8 B8 k8 => ?_⟩
      replace B8 := bx2 B8
      have Kn8 := Kn.keepb Bx hb k8 nlb
      obtain ⟨n', en'⟩ : ∃ n', 6 - i' = n' + 1 := ⟨5 - i', by omega⟩
      rw [en'] at Kn8
      obtain ⟨ts, tr, k, el, hts, htr, hk, ⟨p1, p2, p3, p4, Rk, fk⟩, Kn9⟩ := Kn8.pop (i := r.toNat) (by omega)
      refine ⟨l, _, r, r.toNat, .ref tr, rfl, rfl, el, by omega, by omega, ?_, ?_, ?_⟩
      · unfold seqIndex?
        rw [List.length_map, hts]
        simp only []
        rw [if_neg (show ¬ r < 0 by omega)]
        rw [if_pos (by
          rw [Bool.and_eq_true]
          exact ⟨decide_eq_true u8, decide_eq_true (by omega)⟩)]
      · rw [List.getElem?_map, htr]
        rfl
      have B9 : BoxAt (20 * (i' : Int) + 2) (upd H8 l (.lst ((ts.map V.ref).eraseIdx r.toNat))) b := by
        obtain ⟨x0, x1, x2, e, rr⟩ := B8
        exact ⟨x0, x1, x2, by rw [upd_ne nlb.symm]; exact e, rr⟩
      have s9 : Same H5 (upd H8 l (.lst ((ts.map V.ref).eraseIdx r.toNat))) := fun y u e => by
        rw [upd_ne (ne_of_none e (s6.free nl))]
        exact k8 _ _ (sx _ _ e) (ne_of_none e nb)
      generalize upd H8 l (.lst ((ts.map V.ref).eraseIdx r.toNat)) = H9 at *
      simp only [L2.start, List.map_cons, List.map_nil, List.length_cons, List.length_nil, List.replicate_succ, List.replicate_zero, List.cons_append, List.nil_append, List.set_cons_succ, List.set_cons_zero, Nat.reduceAdd, Nat.reduceSub, Nat.zero_add]
      refine ⟨(by show 4 ≤ sizeLine; decide), fun tw ntw => ?_⟩
      have stw := same_upd (o := .tup (WL.map V.str)) ntw
      have etw : (upd H9 tw (.tup (WL.map V.str))) tw = some (.tup (WL.map V.str)) := upd_same
      refine ⟨tw, rfl, ⟨WL.map V.str, .inl (.inl etw)⟩, ?_⟩
      have BA := B9.same stw
      have RA := Rk.same stw
      have KA := Kn9.same stw
      have sA := s9.trans stw
      obtain ⟨HA, hHA⟩ : ∃ HA, HA = upd H9 tw (.tup (WL.map V.str)) := ⟨_, rfl⟩
      rw [← hHA] at BA RA KA sA etw
      refine gnx42b (H' := HA) hHA.symm ?_
      have ntb : tw ≠ b := fun z => by
        obtain ⟨_, _, _, e, _⟩ := BA
        rw [← z, etw] at e
        cases e
      refine for_tup (K := K) (a := tw) (xs := WL.map V.str) (fun j σ Hy => ∃ (y2 y5 y7 : Option V), σ = [some (.ref a), some (.ref p), y2, some (.ref b), some (.ref l), y5, some (.ref tr), y7] ∧ Keep b HA Hy ∧ BoxAt (20 * (i' : Int) + 2 + 2 * j) Hy b)
        ⟨_, _, _, rfl, fun _ _ e _ => e, BA.mono (by omega)⟩ (fun j σ Hy _ ⟨_, _, _, _, ky, _⟩ => .inl (.inl (ky _ _ etw ntb))) ?_ ?_
      · rintro j v σ Hy hv ⟨y2, y5, y7, rfl, ky, By⟩
        obtain ⟨how, hh, hj, rfl⟩ : ∃ how, how ∈ WL ∧ j < 4 ∧ v = .str how := by
          rw [List.getElem?_map] at hv
          cases e : WL[j]? with
          | none => rw [e] at hv; cases hv
          | some z => rw [e] at hv; exact ⟨z, List.mem_of_getElem? e, (List.getElem?_eq_some_iff.mp e).1, (Option.some.inj hv).symm⟩
        refine ⟨_, rfl, _, rfl, b, _, _, rfl, By, (by decide), (by decide), (by decide), (by omega), (by decide), fun sg HB ub vb BB kB => ?_⟩
        replace BB := bx2 BB
        have RB := RA.keepb fk BA hb (ky.trans kB)
        refine ⟨_, rfl, tr, k, sg, how, rfl, hk, RB.at, ub, vb, hh, fun HC sC => ?_⟩
        refine ⟨_, rfl, iteF ?_⟩
        refine ⟨_, _, _, rfl, (ky.trans kB).trans (Keep.ofSame sC), (BB.same sC).mono ?_⟩
        show 20 * (i' : Int) + 2 + 2 * (j : Int) + 2 ≤ 20 * (i' : Int) + 2 + 2 * ((j + 1 : Nat) : Int)
        omega
      · rintro σ Hy ⟨y2, y5, y7, rfl, ky, By⟩
        refine ⟨_, _, _, _, rfl, fun y u e => ky _ _ (sA _ _ e) (ne_of_none e nb), By.mono ?_, ?_⟩
        · show 20 * (i' : Int) + 2 + 2 * ((4 : Nat) : Int) ≤ 20 * ((i' + 1 : Nat) : Int)
          omega
        · rw [show 6 - (i' + 1) = n' by omega]
          exact KA.keepb BA hb ky nlb
    · rintro σ Hx ⟨y2, y5, y6, y7, rfl, sx, Bx, Kn⟩
      exact ⟨_, _, _, _, _, _, rfl, s5.trans sx⟩
  · rintro σ H5 ⟨y2, y3, y4, y5, y6, y7, rfl, s5⟩
    exact q _
end
theorem all_mk {l : PySem.W.OpenLaw} {w : World} {K : PySem.W.Frag} {h : Heap} {mg : Str → Option Value} {fa f1 f2 f3 f4 f5 f6 f7 f8 f9 f10 f11 f12 f13 f14 f15 f16 f17 f18 f19 f20 f21 f22 f23 f24 f25 f26 f27 f28 f29 f30 f31 f32 f33 f34 f35 f36 f37 f38 f39 f40 f41 f42 f43 f44 f45 f46 f47 f48 f49 C CD : Addr} (X : K.In h) (G : h.Ns mainGlobals mg) (hfa : mg "law" = some (.ref fa))
    {od1 an1 od2 an2 od3 an3 od4 an4 od5 an5 od6 an6 od7 an7 od8 an8 od9 an9 od10 an10 od11 an11 od12 an12 od13 an13 od14 an14 od15 an15 od16 an16 od17 an17 od18 an18 od19 an19 od20 an20 od21 an21 od22 an22 od23 an23 od24 an24 od25 an25 od26 an26 od27 an27 od28 an28 od29 an29 od30 an30 od31 an31 od32 an32 od33 an33 od34 an34 od35 an35 od36 an36 od37 an37 od38 an38 od39 an39 od40 an40 od41 an41 od42 an42 od43 an43 od44 an44 od45 an45 od46 an46 od47 an47 od48 an48 od49 an49 : Option Addr} {sl1 sl2 sl3 sl4 sl5 sl6 sl7 sl8 sl9 sl10 sl11 sl12 sl13 sl14 sl15 sl16 sl17 sl18 sl19 sl20 sl21 sl22 sl23 sl24 sl25 sl26 sl27 sl28 sl29 sl30 sl31 sl32 sl33 sl34 sl35 sl36 sl37 sl38 sl39 sl40 sl41 sl42 sl43 sl44 sl45 sl46 sl47 sl48 sl49 : Array (Option Value)} {oc1 kV1 dc1 pm1 cd1 ct1 oc2 kV2 dc2 pm2 cd2 ct2 oc3 kV3 dc3 pm3 cd3 ct3 oc4 kV4 dc4 pm4 cd4 ct4 oc5 kV5 dc5 pm5 cd5 ct5 oc6 kV6 dc6 pm6 cd6 ct6 oc7 dc7 pm7 cd7 ct7 oc8 kV8 dc8 pm8 cd8 ct8 oc9 kV9 dc9 pm9 cd9 ct9 oc10 kV10 dc10 pm10 cd10 ct10 oc11 kV11 dc11 pm11 cd11 ct11 oc12 kV12 dc12 pm12 cd12 ct12 oc13 dc13 pm13 cd13 ct13 oc14 kV14 dc14 pm14 cd14 ct14 oc15 kV15 dc15 pm15 cd15 ct15 oc16 kV16 dc16 pm16 cd16 ct16 oc17 kV17 dc17 pm17 cd17 ct17 oc18 kV18 dc18 pm18 cd18 ct18 oc19 kV19 dc19 pm19 cd19 ct19 oc20 kV20 dc20 pm20 cd20 ct20 oc21 kV21 dc21 pm21 cd21 ct21 oc22 kV22 dc22 pm22 cd22 ct22 oc23 kV23 dc23 pm23 cd23 ct23 oc24 kV24 dc24 pm24 cd24 ct24 oc25 kV25 dc25 pm25 cd25 ct25 oc26 kV26 dc26 pm26 cd26 ct26 oc27 kV27 dc27 pm27 cd27 ct27 oc28 kV28 dc28 pm28 cd28 ct28 oc29 kV29 dc29 pm29 cd29 ct29 oc30 kV30 dc30 pm30 cd30 ct30 oc31 kV31 dc31 pm31 cd31 ct31 oc32 kV32 dc32 pm32 cd32 ct32 oc33 kV33 dc33 pm33 cd33 ct33 oc34 kV34 dc34 pm34 cd34 ct34 oc35 kV35 dc35 pm35 cd35 ct35 oc36 kV36 dc36 pm36 cd36 ct36 oc37 kV37 dc37 pm37 cd37 ct37 oc38 kV38 dc38 pm38 cd38 ct38 oc39 kV39 dc39 pm39 cd39 ct39 oc40 kV40 dc40 pm40 cd40 ct40 oc41 kV41 dc41 pm41 cd41 ct41 oc42 kV42 dc42 pm42 cd42 ct42 oc43 kV43 dc43 pm43 cd43 ct43 oc44 kV44 dc44 pm44 cd44 ct44 oc45 kV45 dc45 pm45 cd45 ct45 oc46 kV46 dc46 pm46 cd46 ct46 oc47 kV47 dc47 pm47 cd47 ct47 oc48 kV48 dc48 pm48 cd48 ct48 oc49 kV49 dc49 pm49 cd49 ct49 oT35 oT36 oT37 : Value}
    {vT35 vT36 vT37 : Tok}
    {T35 T36 T37 : Addr} {dT35 dT36 dT37 : Option Addr} {nT35 nT36 nT37 : Nat} {sT35 sT36 sT37 : Array (Option Value)}
     {tgNEAR tgCUT tgUP : Tok}
    {Dk7 : Addr} {tk7_0 : Tok}
    {Dk13 : Addr} {tk13_0 : Tok}
    (a1 : PySem.W.nsIn K mainGlobals "worth_of" = some (some (.ref f1))) (l1 : K.lookup f1 = some ⟨oc1, od1, .func (PySem.W.fnOf "worth_of" "worth_of" (defArgs s_worth_of) (defBody s_worth_of) (defScope s_worth_of) .none kV1 dc1 pm1 an1 cd1 ct1), sl1⟩) (c1 : PySem.W.codeIn K cd1 "worth_of" = true) (k1 : PySem.W.keepIn K (.ref f1) = true)
    (a2 : PySem.W.nsIn K mainGlobals "is_number" = some (some (.ref f2))) (l2 : K.lookup f2 = some ⟨oc2, od2, .func (PySem.W.fnOf "is_number" "is_number" (defArgs s_is_number) (defBody s_is_number) (defScope s_is_number) .none kV2 dc2 pm2 an2 cd2 ct2), sl2⟩) (c2 : PySem.W.codeIn K cd2 "is_number" = true) (k2 : PySem.W.keepIn K (.ref f2) = true)
    (a3 : PySem.W.nsIn K mainGlobals "is_number_in" = some (some (.ref f3))) (l3 : K.lookup f3 = some ⟨oc3, od3, .func (PySem.W.fnOf "is_number_in" "is_number_in" (defArgs s_is_number_in) (defBody s_is_number_in) (defScope s_is_number_in) .none kV3 dc3 pm3 an3 cd3 ct3), sl3⟩) (c3 : PySem.W.codeIn K cd3 "is_number_in" = true) (k3 : PySem.W.keepIn K (.ref f3) = true)
    (a4 : PySem.W.nsIn K mainGlobals "cut_off" = some (some (.ref f4))) (l4 : K.lookup f4 = some ⟨oc4, od4, .func (PySem.W.fnOf "cut_off" "cut_off" (defArgs s_cut_off) (defBody s_cut_off) (defScope s_cut_off) .none kV4 dc4 pm4 an4 cd4 ct4), sl4⟩) (c4 : PySem.W.codeIn K cd4 "cut_off" = true) (k4 : PySem.W.keepIn K (.ref f4) = true)
    (a5 : PySem.W.nsIn K mainGlobals "last_power" = some (some (.ref f5))) (l5 : K.lookup f5 = some ⟨oc5, od5, .func (PySem.W.fnOf "last_power" "last_power" (defArgs s_last_power) (defBody s_last_power) (defScope s_last_power) .none kV5 dc5 pm5 an5 cd5 ct5), sl5⟩) (c5 : PySem.W.codeIn K cd5 "last_power" = true) (k5 : PySem.W.keepIn K (.ref f5) = true)
    (a6 : PySem.W.nsIn K mainGlobals "least_power" = some (some (.ref f6))) (l6 : K.lookup f6 = some ⟨oc6, od6, .func (PySem.W.fnOf "least_power" "least_power" (defArgs s_least_power) (defBody s_least_power) (defScope s_least_power) .none kV6 dc6 pm6 an6 cd6 ct6), sl6⟩) (c6 : PySem.W.codeIn K cd6 "least_power" = true) (k6 : PySem.W.keepIn K (.ref f6) = true)
    (a7 : PySem.W.nsIn K mainGlobals "rounded" = some (some (.ref f7))) (l7 : K.lookup f7 = some ⟨oc7, od7, .func (PySem.W.fnOf "rounded" "rounded" (defArgs s_rounded) (defBody s_rounded) (defScope s_rounded) .none (.ref Dk7) dc7 pm7 an7 cd7 ct7), sl7⟩) (c7 : PySem.W.codeIn K cd7 "rounded" = true) (k7 : PySem.W.keepIn K (.ref f7) = true)
    (w7_0 : PySem.W.nsIn K Dk7 "way" = some (some (.str "near" tk7_0)))
    (w7_1 : PySem.W.nsIn K Dk7 "more" = some (some (.bool false)))
    (a8 : PySem.W.nsIn K mainGlobals "parted" = some (some (.ref f8))) (l8 : K.lookup f8 = some ⟨oc8, od8, .func (PySem.W.fnOf "parted" "parted" (defArgs s_parted) (defBody s_parted) (defScope s_parted) .none kV8 dc8 pm8 an8 cd8 ct8), sl8⟩) (c8 : PySem.W.codeIn K cd8 "parted" = true) (k8 : PySem.W.keepIn K (.ref f8) = true)
    (a9 : PySem.W.nsIn K mainGlobals "goes_up" = some (some (.ref f9))) (l9 : K.lookup f9 = some ⟨oc9, od9, .func (PySem.W.fnOf "goes_up" "goes_up" (defArgs s_goes_up) (defBody s_goes_up) (defScope s_goes_up) .none kV9 dc9 pm9 an9 cd9 ct9), sl9⟩) (c9 : PySem.W.codeIn K cd9 "goes_up" = true) (k9 : PySem.W.keepIn K (.ref f9) = true)
    (a10 : PySem.W.nsIn K mainGlobals "goes_away" = some (some (.ref f10))) (l10 : K.lookup f10 = some ⟨oc10, od10, .func (PySem.W.fnOf "goes_away" "goes_away" (defArgs s_goes_away) (defBody s_goes_away) (defScope s_goes_away) .none kV10 dc10 pm10 an10 cd10 ct10), sl10⟩) (c10 : PySem.W.codeIn K cd10 "goes_away" = true) (k10 : PySem.W.keepIn K (.ref f10) = true)
    (a11 : PySem.W.nsIn K mainGlobals "word_beyond" = some (some (.ref f11))) (l11 : K.lookup f11 = some ⟨oc11, od11, .func (PySem.W.fnOf "word_beyond" "word_beyond" (defArgs s_word_beyond) (defBody s_word_beyond) (defScope s_word_beyond) .none kV11 dc11 pm11 an11 cd11 ct11), sl11⟩) (c11 : PySem.W.codeIn K cd11 "word_beyond" = true) (k11 : PySem.W.keepIn K (.ref f11) = true)
    (a12 : PySem.W.nsIn K mainGlobals "flags_of_rest" = some (some (.ref f12))) (l12 : K.lookup f12 = some ⟨oc12, od12, .func (PySem.W.fnOf "flags_of_rest" "flags_of_rest" (defArgs s_flags_of_rest) (defBody s_flags_of_rest) (defScope s_flags_of_rest) .none kV12 dc12 pm12 an12 cd12 ct12), sl12⟩) (c12 : PySem.W.codeIn K cd12 "flags_of_rest" = true) (k12 : PySem.W.keepIn K (.ref f12) = true)
    (a13 : PySem.W.nsIn K mainGlobals "divided" = some (some (.ref f13))) (l13 : K.lookup f13 = some ⟨oc13, od13, .func (PySem.W.fnOf "divided" "divided" (defArgs s_divided) (defBody s_divided) (defScope s_divided) .none (.ref Dk13) dc13 pm13 an13 cd13 ct13), sl13⟩) (c13 : PySem.W.codeIn K cd13 "divided" = true) (k13 : PySem.W.keepIn K (.ref f13) = true)
    (w13_0 : PySem.W.nsIn K Dk13 "way" = some (some (.str "near" tk13_0)))
    (a14 : PySem.W.nsIn K mainGlobals "has_none" = some (some (.ref f14))) (l14 : K.lookup f14 = some ⟨oc14, od14, .func (PySem.W.fnOf "has_none" "has_none" (defArgs s_has_none) (defBody s_has_none) (defScope s_has_none) .none kV14 dc14 pm14 an14 cd14 ct14), sl14⟩) (c14 : PySem.W.codeIn K cd14 "has_none" = true) (k14 : PySem.W.keepIn K (.ref f14) = true)
    (a15 : PySem.W.nsIn K mainGlobals "bad" = some (some (.ref f15))) (l15 : K.lookup f15 = some ⟨oc15, od15, .func (PySem.W.fnOf "bad" "bad" (defArgs s_bad) (defBody s_bad) (defScope s_bad) .none kV15 dc15 pm15 an15 cd15 ct15), sl15⟩) (c15 : PySem.W.codeIn K cd15 "bad" = true) (k15 : PySem.W.keepIn K (.ref f15) = true)
    (a16 : PySem.W.nsIn K mainGlobals "sign_of" = some (some (.ref f16))) (l16 : K.lookup f16 = some ⟨oc16, od16, .func (PySem.W.fnOf "sign_of" "sign_of" (defArgs s_sign_of) (defBody s_sign_of) (defScope s_sign_of) .none kV16 dc16 pm16 an16 cd16 ct16), sl16⟩) (c16 : PySem.W.codeIn K cd16 "sign_of" = true) (k16 : PySem.W.keepIn K (.ref f16) = true)
    (a17 : PySem.W.nsIn K mainGlobals "unlike_sign" = some (some (.ref f17))) (l17 : K.lookup f17 = some ⟨oc17, od17, .func (PySem.W.fnOf "unlike_sign" "unlike_sign" (defArgs s_unlike_sign) (defBody s_unlike_sign) (defScope s_unlike_sign) .none kV17 dc17 pm17 an17 cd17 ct17), sl17⟩) (c17 : PySem.W.codeIn K cd17 "unlike_sign" = true) (k17 : PySem.W.keepIn K (.ref f17) = true)
    (a18 : PySem.W.nsIn K mainGlobals "quotient_rounded" = some (some (.ref f18))) (l18 : K.lookup f18 = some ⟨oc18, od18, .func (PySem.W.fnOf "quotient_rounded" "quotient_rounded" (defArgs s_quotient_rounded) (defBody s_quotient_rounded) (defScope s_quotient_rounded) .none kV18 dc18 pm18 an18 cd18 ct18), sl18⟩) (c18 : PySem.W.codeIn K cd18 "quotient_rounded" = true) (k18 : PySem.W.keepIn K (.ref f18) = true)
    (a19 : PySem.W.nsIn K mainGlobals "have_heads" = some (some (.ref f19))) (l19 : K.lookup f19 = some ⟨oc19, od19, .func (PySem.W.fnOf "have_heads" "have_heads" (defArgs s_have_heads) (defBody s_have_heads) (defScope s_have_heads) .none kV19 dc19 pm19 an19 cd19 ct19), sl19⟩) (c19 : PySem.W.codeIn K cd19 "have_heads" = true) (k19 : PySem.W.keepIn K (.ref f19) = true)
    (a20 : PySem.W.nsIn K mainGlobals "head_of" = some (some (.ref f20))) (l20 : K.lookup f20 = some ⟨oc20, od20, .func (PySem.W.fnOf "head_of" "head_of" (defArgs s_head_of) (defBody s_head_of) (defScope s_head_of) .none kV20 dc20 pm20 an20 cd20 ct20), sl20⟩) (c20 : PySem.W.codeIn K cd20 "head_of" = true) (k20 : PySem.W.keepIn K (.ref f20) = true)
    (a21 : PySem.W.nsIn K mainGlobals "full_head" = some (some (.ref f21))) (l21 : K.lookup f21 = some ⟨oc21, od21, .func (PySem.W.fnOf "full_head" "full_head" (defArgs s_full_head) (defBody s_full_head) (defScope s_full_head) .none kV21 dc21 pm21 an21 cd21 ct21), sl21⟩) (c21 : PySem.W.codeIn K cd21 "full_head" = true) (k21 : PySem.W.keepIn K (.ref f21) = true)
    (a22 : PySem.W.nsIn K mainGlobals "_law_box" = some (some (.ref f22))) (l22 : K.lookup f22 = some ⟨oc22, od22, .func (PySem.W.fnOf "_law_box" "_law_box" (defArgs sBox) (defBody sBox) (defScope sBox) .none kV22 dc22 pm22 an22 cd22 ct22), sl22⟩) (c22 : PySem.W.codeIn K cd22 "_law_box" = true) (k22 : PySem.W.keepIn K (.ref f22) = true)
    (a23 : PySem.W.nsIn K mainGlobals "_law_take" = some (some (.ref f23))) (l23 : K.lookup f23 = some ⟨oc23, od23, .func (PySem.W.fnOf "_law_take" "_law_take" (defArgs sTake) (defBody sTake) (defScope sTake) .none kV23 dc23 pm23 an23 cd23 ct23), sl23⟩) (c23 : PySem.W.codeIn K cd23 "_law_take" = true) (k23 : PySem.W.keepIn K (.ref f23) = true)
    (a24 : PySem.W.nsIn K mainGlobals "_law_folded" = some (some (.ref f24))) (l24 : K.lookup f24 = some ⟨oc24, od24, .func (PySem.W.fnOf "_law_folded" "_law_folded" (defArgs sFolded) (defBody sFolded) (defScope sFolded) .none kV24 dc24 pm24 an24 cd24 ct24), sl24⟩) (c24 : PySem.W.codeIn K cd24 "_law_folded" = true) (k24 : PySem.W.keepIn K (.ref f24) = true)
    (a25 : PySem.W.nsIn K mainGlobals "_law_same" = some (some (.ref f25))) (l25 : K.lookup f25 = some ⟨oc25, od25, .func (PySem.W.fnOf "_law_same" "_law_same" (defArgs sSame) (defBody sSame) (defScope sSame) .none kV25 dc25 pm25 an25 cd25 ct25), sl25⟩) (c25 : PySem.W.codeIn K cd25 "_law_same" = true) (k25 : PySem.W.keepIn K (.ref f25) = true)
    (a26 : PySem.W.nsIn K mainGlobals "_law_known" = some (some (.ref f26))) (l26 : K.lookup f26 = some ⟨oc26, od26, .func (PySem.W.fnOf "_law_known" "_law_known" (defArgs s__law_known) (defBody s__law_known) (defScope s__law_known) .none kV26 dc26 pm26 an26 cd26 ct26), sl26⟩) (c26 : PySem.W.codeIn K cd26 "_law_known" = true) (k26 : PySem.W.keepIn K (.ref f26) = true)
    (a27 : PySem.W.nsIn K mainGlobals "_law_division_right" = some (some (.ref f27))) (l27 : K.lookup f27 = some ⟨oc27, od27, .func (PySem.W.fnOf "_law_division_right" "_law_division_right" (defArgs s__law_division_right) (defBody s__law_division_right) (defScope s__law_division_right) .none kV27 dc27 pm27 an27 cd27 ct27), sl27⟩) (c27 : PySem.W.codeIn K cd27 "_law_division_right" = true) (k27 : PySem.W.keepIn K (.ref f27) = true)
    (a28 : PySem.W.nsIn K mainGlobals "law" = some (some (.ref f28))) (l28 : K.lookup f28 = some ⟨oc28, od28, .func (PySem.W.fnOf "law" "law" (defArgs s_law) (defBody s_law) (defScope s_law) .none kV28 dc28 pm28 an28 cd28 ct28), sl28⟩) (c28 : PySem.W.codeIn K cd28 "law" = true) (k28 : PySem.W.keepIn K (.ref f28) = true)
    (aC : PySem.W.nsIn K mainGlobals "Form" = some (some (.ref C)))
    (pgC : PySem.W.plainGet K C Str.empty = true) (hdC : PySem.W.hasDictIn K C = true) (poC : PySem.W.plainOver K C = true) (saC : PySem.W.findIn K (.ref C) "__setattr__" = some (some (.builtin "object.__setattr__"))) (mkC : PySem.W.makesIn K C = true) (kcC : PySem.W.keepIn K (.ref C) = true)
    (naC0 : PySem.W.findIn K (.ref C) "scale" = some none)
    (naC1 : PySem.W.findIn K (.ref C) "tail" = some none)
    (aCD : PySem.W.nsIn K mainGlobals "Divider" = some (some (.ref CD)))
    (pgCD : PySem.W.plainGet K CD Str.empty = true) (hdCD : PySem.W.hasDictIn K CD = true) (poCD : PySem.W.plainOver K CD = true) (saCD : PySem.W.findIn K (.ref CD) "__setattr__" = some (some (.builtin "object.__setattr__"))) (mkCD : PySem.W.makesIn K CD = true) (kcCD : PySem.W.keepIn K (.ref CD) = true)
    (naCD0 : PySem.W.findIn K (.ref CD) "form" = some none)
    (naCD1 : PySem.W.findIn K (.ref CD) "one" = some none)
    (naCD2 : PySem.W.findIn K (.ref CD) "two" = some none)
    (naCD3 : PySem.W.findIn K (.ref CD) "way" = some none)
    (naCD4 : PySem.W.findIn K (.ref CD) "signed" = some none)
    (naCD5 : PySem.W.findIn K (.ref CD) "told" = some none)
    (naCD6 : PySem.W.findIn K (.ref CD) "due" = some none)
    (naCD7 : PySem.W.findIn K (.ref CD) "over" = some none)
    (naCD8 : PySem.W.findIn K (.ref CD) "by" = some none)
    (naCD9 : PySem.W.findIn K (.ref CD) "power" = some none)
    (a29 : PySem.W.findIn K (.ref C) "__init__" = some (some (.ref f29))) (i29 : PySem.W.isFn K (.ref f29) = true) (l29 : K.lookup f29 = some ⟨oc29, od29, .func (PySem.W.fnOf "__init__" "Form.__init__" (defArgs s_Form___init__) (defBody s_Form___init__) (defScope s_Form___init__) .none kV29 dc29 pm29 an29 cd29 ct29), sl29⟩) (c29 : PySem.W.codeIn K cd29 "Form.__init__" = true) (k29 : PySem.W.keepIn K (.ref f29) = true)
    (a30 : PySem.W.findIn K (.ref C) "bias" = some (some (.ref f30))) (i30 : PySem.W.isFn K (.ref f30) = true) (l30 : K.lookup f30 = some ⟨oc30, od30, .func (PySem.W.fnOf "bias" "Form.bias" (defArgs s_Form_bias) (defBody s_Form_bias) (defScope s_Form_bias) .none kV30 dc30 pm30 an30 cd30 ct30), sl30⟩) (c30 : PySem.W.codeIn K cd30 "Form.bias" = true) (k30 : PySem.W.keepIn K (.ref f30) = true)
    (a31 : PySem.W.findIn K (.ref C) "top" = some (some (.ref f31))) (i31 : PySem.W.isFn K (.ref f31) = true) (l31 : K.lookup f31 = some ⟨oc31, od31, .func (PySem.W.fnOf "top" "Form.top" (defArgs s_Form_top) (defBody s_Form_top) (defScope s_Form_top) .none kV31 dc31 pm31 an31 cd31 ct31), sl31⟩) (c31 : PySem.W.codeIn K cd31 "Form.top" = true) (k31 : PySem.W.keepIn K (.ref f31) = true)
    (a32 : PySem.W.findIn K (.ref C) "parts" = some (some (.ref f32))) (i32 : PySem.W.isFn K (.ref f32) = true) (l32 : K.lookup f32 = some ⟨oc32, od32, .func (PySem.W.fnOf "parts" "Form.parts" (defArgs s_Form_parts) (defBody s_Form_parts) (defScope s_Form_parts) .none kV32 dc32 pm32 an32 cd32 ct32), sl32⟩) (c32 : PySem.W.codeIn K cd32 "Form.parts" = true) (k32 : PySem.W.keepIn K (.ref f32) = true)
    (a33 : PySem.W.findIn K (.ref C) "word_of" = some (some (.ref f33))) (i33 : PySem.W.isFn K (.ref f33) = true) (l33 : K.lookup f33 = some ⟨oc33, od33, .func (PySem.W.fnOf "word_of" "Form.word_of" (defArgs s_Form_word_of) (defBody s_Form_word_of) (defScope s_Form_word_of) .none kV33 dc33 pm33 an33 cd33 ct33), sl33⟩) (c33 : PySem.W.codeIn K cd33 "Form.word_of" = true) (k33 : PySem.W.keepIn K (.ref f33) = true)
    (a34 : PySem.W.findIn K (.ref C) "sort_of" = some (some (.ref f34))) (i34 : PySem.W.isFn K (.ref f34) = true) (l34 : K.lookup f34 = some ⟨oc34, od34, .func (PySem.W.fnOf "sort_of" "Form.sort_of" (defArgs s_Form_sort_of) (defBody s_Form_sort_of) (defScope s_Form_sort_of) .none kV34 dc34 pm34 an34 cd34 ct34), sl34⟩) (c34 : PySem.W.codeIn K cd34 "Form.sort_of" = true) (k34 : PySem.W.keepIn K (.ref f34) = true)
    (a35 : PySem.W.findIn K (.ref C) "nought" = some (some (.ref f35))) (i35 : PySem.W.isFn K (.ref f35) = true) (l35 : K.lookup f35 = some ⟨oc35, od35, .func (PySem.W.fnOf "nought" "Form.nought" (defArgs s_Form_nought) (defBody s_Form_nought) (defScope s_Form_nought) (.ref T35) kV35 dc35 pm35 an35 cd35 ct35), sl35⟩) (c35 : PySem.W.codeIn K cd35 "Form.nought" = true) (k35 : PySem.W.keepIn K (.ref f35) = true)
    (t35 : K.lookup T35 = some ⟨oT35, dT35, .seq #[.int 0 vT35] nT35, sT35⟩)
    (a36 : PySem.W.findIn K (.ref C) "endless" = some (some (.ref f36))) (i36 : PySem.W.isFn K (.ref f36) = true) (l36 : K.lookup f36 = some ⟨oc36, od36, .func (PySem.W.fnOf "endless" "Form.endless" (defArgs s_Form_endless) (defBody s_Form_endless) (defScope s_Form_endless) (.ref T36) kV36 dc36 pm36 an36 cd36 ct36), sl36⟩) (c36 : PySem.W.codeIn K cd36 "Form.endless" = true) (k36 : PySem.W.keepIn K (.ref f36) = true)
    (t36 : K.lookup T36 = some ⟨oT36, dT36, .seq #[.int 0 vT36] nT36, sT36⟩)
    (a37 : PySem.W.findIn K (.ref C) "greatest" = some (some (.ref f37))) (i37 : PySem.W.isFn K (.ref f37) = true) (l37 : K.lookup f37 = some ⟨oc37, od37, .func (PySem.W.fnOf "greatest" "Form.greatest" (defArgs s_Form_greatest) (defBody s_Form_greatest) (defScope s_Form_greatest) (.ref T37) kV37 dc37 pm37 an37 cd37 ct37), sl37⟩) (c37 : PySem.W.codeIn K cd37 "Form.greatest" = true) (k37 : PySem.W.keepIn K (.ref f37) = true)
    (t37 : K.lookup T37 = some ⟨oT37, dT37, .seq #[.int 0 vT37] nT37, sT37⟩)
    (a38 : PySem.W.findIn K (.ref C) "none_word" = some (some (.ref f38))) (i38 : PySem.W.isFn K (.ref f38) = true) (l38 : K.lookup f38 = some ⟨oc38, od38, .func (PySem.W.fnOf "none_word" "Form.none_word" (defArgs s_Form_none_word) (defBody s_Form_none_word) (defScope s_Form_none_word) .none kV38 dc38 pm38 an38 cd38 ct38), sl38⟩) (c38 : PySem.W.codeIn K cd38 "Form.none_word" = true) (k38 : PySem.W.keepIn K (.ref f38) = true)
    (a39 : PySem.W.findIn K (.ref C) "worth" = some (some (.ref f39))) (i39 : PySem.W.isFn K (.ref f39) = true) (l39 : K.lookup f39 = some ⟨oc39, od39, .func (PySem.W.fnOf "worth" "Form.worth" (defArgs s_Form_worth) (defBody s_Form_worth) (defScope s_Form_worth) .none kV39 dc39 pm39 an39 cd39 ct39), sl39⟩) (c39 : PySem.W.codeIn K cd39 "Form.worth" = true) (k39 : PySem.W.keepIn K (.ref f39) = true)
    (a40 : PySem.W.findIn K (.ref CD) "__init__" = some (some (.ref f40))) (i40 : PySem.W.isFn K (.ref f40) = true) (l40 : K.lookup f40 = some ⟨oc40, od40, .func (PySem.W.fnOf "__init__" "Divider.__init__" (defArgs s_Divider___init__) (defBody s_Divider___init__) (defScope s_Divider___init__) .none kV40 dc40 pm40 an40 cd40 ct40), sl40⟩) (c40 : PySem.W.codeIn K cd40 "Divider.__init__" = true) (k40 : PySem.W.keepIn K (.ref f40) = true)
    (a41 : PySem.W.findIn K (.ref CD) "begin" = some (some (.ref f41))) (i41 : PySem.W.isFn K (.ref f41) = true) (l41 : K.lookup f41 = some ⟨oc41, od41, .func (PySem.W.fnOf "begin" "Divider.begin" (defArgs s_Divider_begin) (defBody s_Divider_begin) (defScope s_Divider_begin) .none kV41 dc41 pm41 an41 cd41 ct41), sl41⟩) (c41 : PySem.W.codeIn K cd41 "Divider.begin" = true) (k41 : PySem.W.keepIn K (.ref f41) = true)
    (a42 : PySem.W.findIn K (.ref CD) "step" = some (some (.ref f42))) (i42 : PySem.W.isFn K (.ref f42) = true) (l42 : K.lookup f42 = some ⟨oc42, od42, .func (PySem.W.fnOf "step" "Divider.step" (defArgs s_Divider_step) (defBody s_Divider_step) (defScope s_Divider_step) .none kV42 dc42 pm42 an42 cd42 ct42), sl42⟩) (c42 : PySem.W.codeIn K cd42 "Divider.step" = true) (k42 : PySem.W.keepIn K (.ref f42) = true)
    (a43 : PySem.W.findIn K (.ref CD) "digit_by" = some (some (.ref f43))) (i43 : PySem.W.isFn K (.ref f43) = true) (l43 : K.lookup f43 = some ⟨oc43, od43, .func (PySem.W.fnOf "digit_by" "Divider.digit_by" (defArgs s_Divider_digit_by) (defBody s_Divider_digit_by) (defScope s_Divider_digit_by) .none kV43 dc43 pm43 an43 cd43 ct43), sl43⟩) (c43 : PySem.W.codeIn K cd43 "Divider.digit_by" = true) (k43 : PySem.W.keepIn K (.ref f43) = true)
    (a44 : PySem.W.findIn K (.ref CD) "digits" = some (some (.ref f44))) (i44 : PySem.W.isFn K (.ref f44) = true) (l44 : K.lookup f44 = some ⟨oc44, od44, .func (PySem.W.fnOf "digits" "Divider.digits" (defArgs s_Divider_digits) (defBody s_Divider_digits) (defScope s_Divider_digits) .none kV44 dc44 pm44 an44 cd44 ct44), sl44⟩) (c44 : PySem.W.codeIn K cd44 "Divider.digits" = true) (k44 : PySem.W.keepIn K (.ref f44) = true)
    (a45 : PySem.W.findIn K (.ref CD) "quotient" = some (some (.ref f45))) (i45 : PySem.W.isFn K (.ref f45) = true) (l45 : K.lookup f45 = some ⟨oc45, od45, .func (PySem.W.fnOf "quotient" "Divider.quotient" (defArgs s_Divider_quotient) (defBody s_Divider_quotient) (defScope s_Divider_quotient) .none kV45 dc45 pm45 an45 cd45 ct45), sl45⟩) (c45 : PySem.W.codeIn K cd45 "Divider.quotient" = true) (k45 : PySem.W.keepIn K (.ref f45) = true)
    (a46 : PySem.W.findIn K (.ref CD) "rest" = some (some (.ref f46))) (i46 : PySem.W.isFn K (.ref f46) = true) (l46 : K.lookup f46 = some ⟨oc46, od46, .func (PySem.W.fnOf "rest" "Divider.rest" (defArgs s_Divider_rest) (defBody s_Divider_rest) (defScope s_Divider_rest) .none kV46 dc46 pm46 an46 cd46 ct46), sl46⟩) (c46 : PySem.W.codeIn K cd46 "Divider.rest" = true) (k46 : PySem.W.keepIn K (.ref f46) = true)
    (a47 : PySem.W.findIn K (.ref CD) "divisor" = some (some (.ref f47))) (i47 : PySem.W.isFn K (.ref f47) = true) (l47 : K.lookup f47 = some ⟨oc47, od47, .func (PySem.W.fnOf "divisor" "Divider.divisor" (defArgs s_Divider_divisor) (defBody s_Divider_divisor) (defScope s_Divider_divisor) .none kV47 dc47 pm47 an47 cd47 ct47), sl47⟩) (c47 : PySem.W.codeIn K cd47 "Divider.divisor" = true) (k47 : PySem.W.keepIn K (.ref f47) = true)
    (a48 : PySem.W.findIn K (.ref CD) "left" = some (some (.ref f48))) (i48 : PySem.W.isFn K (.ref f48) = true) (l48 : K.lookup f48 = some ⟨oc48, od48, .func (PySem.W.fnOf "left" "Divider.left" (defArgs s_Divider_left) (defBody s_Divider_left) (defScope s_Divider_left) .none kV48 dc48 pm48 an48 cd48 ct48), sl48⟩) (c48 : PySem.W.codeIn K cd48 "Divider.left" = true) (k48 : PySem.W.keepIn K (.ref f48) = true)
    (a49 : PySem.W.findIn K (.ref CD) "outcome" = some (some (.ref f49))) (i49 : PySem.W.isFn K (.ref f49) = true) (l49 : K.lookup f49 = some ⟨oc49, od49, .func (PySem.W.fnOf "outcome" "Divider.outcome" (defArgs s_Divider_outcome) (defBody s_Divider_outcome) (defScope s_Divider_outcome) .none kV49 dc49 pm49 an49 cd49 ct49), sl49⟩) (c49 : PySem.W.codeIn K cd49 "Divider.outcome" = true) (k49 : PySem.W.keepIn K (.ref f49) = true)
    (z1 : PySem.W.nsIn K mainGlobals "len" = some none)
    (z2 : PySem.W.nsIn K mainGlobals "abs" = some none)
    (z3 : PySem.W.nsIn K mainGlobals "int" = some none)
    (z4 : PySem.W.nsIn K mainGlobals "divmod" = some none)
    (z5 : PySem.W.nsIn K mainGlobals "list" = some none)
    (z6 : PySem.W.nsIn K mainGlobals "enumerate" = some none)
    (z7 : PySem.W.nsIn K mainGlobals "isinstance" = some none)
    (z8 : PySem.W.nsIn K mainGlobals "tuple" = some none)
    (z9 : PySem.W.nsIn K mainGlobals "str" = some none)
    (z10 : PySem.W.nsIn K mainGlobals "bool" = some none)
    (z11 : PySem.W.nsIn K mainGlobals "zip" = some none)
    (z12 : PySem.W.nsIn K mainGlobals "all" = some none)
    (z13 : PySem.W.nsIn K mainGlobals "range" = some none)
    (z14 : PySem.W.nsIn K mainGlobals "max" = some none)
    (z15 : PySem.W.nsIn K mainGlobals "any" = some none)
    (z16 : PySem.W.nsIn K mainGlobals "min" = some none)
    (z17 : PySem.W.nsIn K mainGlobals "sum" = some none)
    (gNEAR : PySem.W.nsIn K mainGlobals "NEAR" = some (some (.str "near" tgNEAR)))
    (gCUT : PySem.W.nsIn K mainGlobals "CUT" = some (some (.str "cut" tgCUT)))
    (gUP : PySem.W.nsIn K mainGlobals "UP" = some (some (.str "up" tgUP)))
    : ∃ fd : FuncData, (∀ (s : Shared) (v : Value), BindsTo s fd ⟨[v], []⟩ [("_law_script", v)]) ∧ ∀ base : Heap, K.In base → base.Ns mainGlobals mg → FnOk l.prog w K mg base CX0 12 fa fd ["_law_script"] (spLaw K) := by
  have e := hfa.symm.trans (PySem.W.mg_of X G a28)
  cases e
  have F1 := fun_mk (st := s_worth_of) l1 c1 k1
  have b1 := F1.binds (ps := ["digits"]) fun _ _ _ _ _ _ us hl => match us, hl with | [_], _ => rfl
  have m1 := PySem.W.mg_of X G a1
  have F2 := fun_mk (st := s_is_number) l2 c2 k2
  have b2 := F2.binds (ps := ["thing"]) fun _ _ _ _ _ _ us hl => match us, hl with | [_], _ => rfl
  have m2 := PySem.W.mg_of X G a2
  have F3 := fun_mk (st := s_is_number_in) l3 c3 k3
  have b3 := F3.binds (ps := ["least", "greatest", "thing"]) fun _ _ _ _ _ _ us hl => match us, hl with | [_, _, _], _ => rfl
  have m3 := PySem.W.mg_of X G a3
  have F4 := fun_mk (st := s_cut_off) l4 c4 k4
  have b4 := F4.binds (ps := ["number", "by"]) fun _ _ _ _ _ _ us hl => match us, hl with | [_, _], _ => rfl
  have m4 := PySem.W.mg_of X G a4
  have F5 := fun_mk (st := s_last_power) l5 c5 k5
  have b5 := F5.binds (ps := ["form", "number", "power"]) fun _ _ _ _ _ _ us hl => match us, hl with | [_, _, _], _ => rfl
  have m5 := PySem.W.mg_of X G a5
  have F6 := fun_mk (st := s_least_power) l6 c6 k6
  have b6 := F6.binds (ps := ["form"]) fun _ _ _ _ _ _ us hl => match us, hl with | [_], _ => rfl
  have m6 := PySem.W.mg_of X G a6
  have F7 := fun_mk (st := s_rounded) l7 c7 k7
  have m7 := PySem.W.mg_of X G a7
  have F8 := fun_mk (st := s_parted) l8 c8 k8
  have b8 := F8.binds (ps := ["number", "by", "more"]) fun _ _ _ _ _ _ us hl => match us, hl with | [_, _, _], _ => rfl
  have m8 := PySem.W.mg_of X G a8
  have F9 := fun_mk (st := s_goes_up) l9 c9 k9
  have b9 := F9.binds (ps := ["way", "sign", "many", "rest"]) fun _ _ _ _ _ _ us hl => match us, hl with | [_, _, _, _], _ => rfl
  have m9 := PySem.W.mg_of X G a9
  have F10 := fun_mk (st := s_goes_away) l10 c10 k10
  have b10 := F10.binds (ps := ["way", "sign"]) fun _ _ _ _ _ _ us hl => match us, hl with | [_, _], _ => rfl
  have m10 := PySem.W.mg_of X G a10
  have F11 := fun_mk (st := s_word_beyond) l11 c11 k11
  have b11 := F11.binds (ps := ["form", "sign", "way"]) fun _ _ _ _ _ _ us hl => match us, hl with | [_, _, _], _ => rfl
  have m11 := PySem.W.mg_of X G a11
  have F12 := fun_mk (st := s_flags_of_rest) l12 c12 k12
  have b12 := F12.binds (ps := ["form", "number", "power", "rest"]) fun _ _ _ _ _ _ us hl => match us, hl with | [_, _, _, _], _ => rfl
  have m12 := PySem.W.mg_of X G a12
  have F13 := fun_mk (st := s_divided) l13 c13 k13
  have m13 := PySem.W.mg_of X G a13
  have F14 := fun_mk (st := s_has_none) l14 c14 k14
  have b14 := F14.binds (ps := ["form", "words"]) fun _ _ _ _ _ _ us hl => match us, hl with | [_, _], _ => rfl
  have m14 := PySem.W.mg_of X G a14
  have F15 := fun_mk (st := s_bad) l15 c15 k15
  have b15 := F15.binds (ps := ["form"]) fun _ _ _ _ _ _ us hl => match us, hl with | [_], _ => rfl
  have m15 := PySem.W.mg_of X G a15
  have F16 := fun_mk (st := s_sign_of) l16 c16 k16
  have b16 := F16.binds (ps := ["form", "word"]) fun _ _ _ _ _ _ us hl => match us, hl with | [_, _], _ => rfl
  have m16 := PySem.W.mg_of X G a16
  have F17 := fun_mk (st := s_unlike_sign) l17 c17 k17
  have b17 := F17.binds (ps := ["form", "a", "b"]) fun _ _ _ _ _ _ us hl => match us, hl with | [_, _, _], _ => rfl
  have m17 := PySem.W.mg_of X G a17
  have F18 := fun_mk (st := s_quotient_rounded) l18 c18 k18
  have b18 := F18.binds (ps := ["form", "sign", "one", "other", "way"]) fun _ _ _ _ _ _ us hl => match us, hl with | [_, _, _, _, _], _ => rfl
  have m18 := PySem.W.mg_of X G a18
  have F19 := fun_mk (st := s_have_heads) l19 c19 k19
  have b19 := F19.binds (ps := ["form", "words"]) fun _ _ _ _ _ _ us hl => match us, hl with | [_, _], _ => rfl
  have m19 := PySem.W.mg_of X G a19
  have F20 := fun_mk (st := s_head_of) l20 c20 k20
  have b20 := F20.binds (ps := ["form", "word"]) fun _ _ _ _ _ _ us hl => match us, hl with | [_, _], _ => rfl
  have m20 := PySem.W.mg_of X G a20
  have F21 := fun_mk (st := s_full_head) l21 c21 k21
  have b21 := F21.binds (ps := ["form", "word"]) fun _ _ _ _ _ _ us hl => match us, hl with | [_, _], _ => rfl
  have m21 := PySem.W.mg_of X G a21
  have F22 := fun_mk (st := sBox) l22 c22 k22
  have b22 := F22.binds (ps := ["_law_script", "_law_k"]) fun _ _ _ _ _ _ us hl => match us, hl with | [_, _], _ => rfl
  have m22 := PySem.W.mg_of X G a22
  have F23 := fun_mk (st := sTake) l23 c23 k23
  have b23 := F23.binds (ps := ["_law_box_here", "_law_size"]) fun _ _ _ _ _ _ us hl => match us, hl with | [_, _], _ => rfl
  have m23 := PySem.W.mg_of X G a23
  have F24 := fun_mk (st := sFolded) l24 c24 k24
  have b24 := F24.binds (ps := ["_law_script", "_law_size"]) fun _ _ _ _ _ _ us hl => match us, hl with | [_, _], _ => rfl
  have m24 := PySem.W.mg_of X G a24
  have F25 := fun_mk (st := sSame) l25 c25 k25
  have b25 := F25.binds (ps := ["_law_found", "_law_due"]) fun _ _ _ _ _ _ us hl => match us, hl with | [_, _], _ => rfl
  have m25 := PySem.W.mg_of X G a25
  have F26 := fun_mk (st := s__law_known) l26 c26 k26
  have b26 := F26.binds (ps := []) fun _ _ _ _ _ _ us hl => match us, hl with | [], _ => rfl
  have m26 := PySem.W.mg_of X G a26
  have F27 := fun_mk (st := s__law_division_right) l27 c27 k27
  have b27 := F27.binds (ps := ["_law_row", "_law_signs", "_law_mode"]) fun _ _ _ _ _ _ us hl => match us, hl with | [_, _, _], _ => rfl
  have m27 := PySem.W.mg_of X G a27
  have F28 := fun_mk (st := s_law) l28 c28 k28
  have F29 := fun_mk (st := s_Form___init__) l29 c29 k29
  have b29 := F29.binds (ps := ["self", "scale", "tail"]) fun _ _ _ _ _ _ us hl => match us, hl with | [_, _, _], _ => rfl
  have M29 : Meth K C "__init__" f29 := ⟨a29, i29, k29⟩
  have F30 := fun_mk (st := s_Form_bias) l30 c30 k30
  have b30 := F30.binds (ps := ["self"]) fun _ _ _ _ _ _ us hl => match us, hl with | [_], _ => rfl
  have M30 : Meth K C "bias" f30 := ⟨a30, i30, k30⟩
  have F31 := fun_mk (st := s_Form_top) l31 c31 k31
  have b31 := F31.binds (ps := ["self"]) fun _ _ _ _ _ _ us hl => match us, hl with | [_], _ => rfl
  have M31 : Meth K C "top" f31 := ⟨a31, i31, k31⟩
  have F32 := fun_mk (st := s_Form_parts) l32 c32 k32
  have b32 := F32.binds (ps := ["self", "word"]) fun _ _ _ _ _ _ us hl => match us, hl with | [_, _], _ => rfl
  have M32 : Meth K C "parts" f32 := ⟨a32, i32, k32⟩
  have F33 := fun_mk (st := s_Form_word_of) l33 c33 k33
  have b33 := F33.binds (ps := ["self", "sign", "scale", "tail"]) fun _ _ _ _ _ _ us hl => match us, hl with | [_, _, _, _], _ => rfl
  have M33 : Meth K C "word_of" f33 := ⟨a33, i33, k33⟩
  have F34 := fun_mk (st := s_Form_sort_of) l34 c34 k34
  have b34 := F34.binds (ps := ["self", "word"]) fun _ _ _ _ _ _ us hl => match us, hl with | [_, _], _ => rfl
  have M34 : Meth K C "sort_of" f34 := ⟨a34, i34, k34⟩
  have F35 := funA_mk (st := s_Form_nought) l35 c35 k35
  have b35 := bindsA (st := s_Form_nought) (ps := ["self", "sign"]) l35 t35 fun _ _ _ _ _ _ us hl => match us, hl with | [_, _], _ => ⟨_, rfl, rfl⟩
  have d35 := bindsAD (st := s_Form_nought) (ps := ["self", "sign"]) l35 t35 fun _ _ _ _ _ _ us hl => match us, hl with | [_], _ => ⟨_, rfl, rfl⟩
  have kb35 := kbindsA (x1 := "sign") (st := s_Form_nought) (ps := ["self", "sign"]) l35 t35 fun _ _ _ _ _ _ _ _ => ⟨_, rfl, rfl⟩
  have M35 : Meth K C "nought" f35 := ⟨a35, i35, k35⟩
  have F36 := funA_mk (st := s_Form_endless) l36 c36 k36
  have b36 := bindsA (st := s_Form_endless) (ps := ["self", "sign"]) l36 t36 fun _ _ _ _ _ _ us hl => match us, hl with | [_, _], _ => ⟨_, rfl, rfl⟩
  have d36 := bindsAD (st := s_Form_endless) (ps := ["self", "sign"]) l36 t36 fun _ _ _ _ _ _ us hl => match us, hl with | [_], _ => ⟨_, rfl, rfl⟩
  have kb36 := kbindsA (x1 := "sign") (st := s_Form_endless) (ps := ["self", "sign"]) l36 t36 fun _ _ _ _ _ _ _ _ => ⟨_, rfl, rfl⟩
  have M36 : Meth K C "endless" f36 := ⟨a36, i36, k36⟩
  have F37 := funA_mk (st := s_Form_greatest) l37 c37 k37
  have b37 := bindsA (st := s_Form_greatest) (ps := ["self", "sign"]) l37 t37 fun _ _ _ _ _ _ us hl => match us, hl with | [_, _], _ => ⟨_, rfl, rfl⟩
  have d37 := bindsAD (st := s_Form_greatest) (ps := ["self", "sign"]) l37 t37 fun _ _ _ _ _ _ us hl => match us, hl with | [_], _ => ⟨_, rfl, rfl⟩
  have kb37 := kbindsA (x1 := "sign") (st := s_Form_greatest) (ps := ["self", "sign"]) l37 t37 fun _ _ _ _ _ _ _ _ => ⟨_, rfl, rfl⟩
  have M37 : Meth K C "greatest" f37 := ⟨a37, i37, k37⟩
  have F38 := fun_mk (st := s_Form_none_word) l38 c38 k38
  have b38 := F38.binds (ps := ["self"]) fun _ _ _ _ _ _ us hl => match us, hl with | [_], _ => rfl
  have M38 : Meth K C "none_word" f38 := ⟨a38, i38, k38⟩
  have F39 := fun_mk (st := s_Form_worth) l39 c39 k39
  have b39 := F39.binds (ps := ["self", "word"]) fun _ _ _ _ _ _ us hl => match us, hl with | [_, _], _ => rfl
  have M39 : Meth K C "worth" f39 := ⟨a39, i39, k39⟩
  have F40 := fun_mk (st := s_Divider___init__) l40 c40 k40
  have kb40 : ∃ g, KBn K (PySem.W.fnOf "__init__" "Divider.__init__" (defArgs s_Divider___init__) (defBody s_Divider___init__) (defScope s_Divider___init__) .none kV40 dc40 pm40 an40 cd40 ct40) ["self", "form", "a", "b", "way", "signed"] 4 ["way", "signed"] g (fun vs zs => vs ++ zs) := ⟨_, kbn_full (st := s_Divider___init__) fun us ws l1 l2 => match us, ws, l1, l2 with | [_, _, _, _], [_, _], _, _ => rfl⟩
  have M40 : Meth K CD "__init__" f40 := ⟨a40, i40, k40⟩
  have F41 := fun_mk (st := s_Divider_begin) l41 c41 k41
  have b41 := F41.binds (ps := ["self"]) fun _ _ _ _ _ _ us hl => match us, hl with | [_], _ => rfl
  have M41 : Meth K CD "begin" f41 := ⟨a41, i41, k41⟩
  have F42 := fun_mk (st := s_Divider_step) l42 c42 k42
  have b42 := F42.binds (ps := ["self"]) fun _ _ _ _ _ _ us hl => match us, hl with | [_], _ => rfl
  have M42 : Meth K CD "step" f42 := ⟨a42, i42, k42⟩
  have F43 := fun_mk (st := s_Divider_digit_by) l43 c43 k43
  have b43 := F43.binds (ps := ["self", "rest"]) fun _ _ _ _ _ _ us hl => match us, hl with | [_, _], _ => rfl
  have M43 : Meth K CD "digit_by" f43 := ⟨a43, i43, k43⟩
  have F44 := fun_mk (st := s_Divider_digits) l44 c44 k44
  have b44 := F44.binds (ps := ["self"]) fun _ _ _ _ _ _ us hl => match us, hl with | [_], _ => rfl
  have M44 : Meth K CD "digits" f44 := ⟨a44, i44, k44⟩
  have F45 := fun_mk (st := s_Divider_quotient) l45 c45 k45
  have b45 := F45.binds (ps := ["self"]) fun _ _ _ _ _ _ us hl => match us, hl with | [_], _ => rfl
  have M45 : Meth K CD "quotient" f45 := ⟨a45, i45, k45⟩
  have F46 := fun_mk (st := s_Divider_rest) l46 c46 k46
  have b46 := F46.binds (ps := ["self"]) fun _ _ _ _ _ _ us hl => match us, hl with | [_], _ => rfl
  have M46 : Meth K CD "rest" f46 := ⟨a46, i46, k46⟩
  have F47 := fun_mk (st := s_Divider_divisor) l47 c47 k47
  have b47 := F47.binds (ps := ["self"]) fun _ _ _ _ _ _ us hl => match us, hl with | [_], _ => rfl
  have M47 : Meth K CD "divisor" f47 := ⟨a47, i47, k47⟩
  have F48 := fun_mk (st := s_Divider_left) l48 c48 k48
  have b48 := F48.binds (ps := ["self"]) fun _ _ _ _ _ _ us hl => match us, hl with | [_], _ => rfl
  have M48 : Meth K CD "left" f48 := ⟨a48, i48, k48⟩
  have F49 := fun_mk (st := s_Divider_outcome) l49 c49 k49
  have b49 := F49.binds (ps := ["self"]) fun _ _ _ _ _ _ us hl => match us, hl with | [_], _ => rfl
  have M49 : Meth K CD "outcome" f49 := ⟨a49, i49, k49⟩
  have clC : Cls K C := ⟨pgC, hdC, poC, saC⟩
  have mgC := PySem.W.mg_of X G aC
  have clCD : Cls K CD := ⟨pgCD, hdCD, poCD, saCD⟩
  have mgCD := PySem.W.mg_of X G aCD
  have B : Bl mg := ⟨PySem.W.mg_none_of X G z1, PySem.W.mg_none_of X G z2, PySem.W.mg_none_of X G z3, PySem.W.mg_none_of X G z4, PySem.W.mg_none_of X G z5, PySem.W.mg_none_of X G z6, PySem.W.mg_none_of X G z7, PySem.W.mg_none_of X G z8, PySem.W.mg_none_of X G z9, PySem.W.mg_none_of X G z10, PySem.W.mg_none_of X G z11, PySem.W.mg_none_of X G z12, PySem.W.mg_none_of X G z13, PySem.W.mg_none_of X G z14, PySem.W.mg_none_of X G z15, PySem.W.mg_none_of X G z16, PySem.W.mg_none_of X G z17⟩
  refine ⟨PySem.W.fnOf "law" "law" (defArgs s_law) (defBody s_law) (defScope s_law) .none kV28 dc28 pm28 an28 cd28 ct28, fun s v => .of_eq rfl, fun base _ _ => ?_⟩
  have kb7_way : ∃ g, KBn K (PySem.W.fnOf "rounded" "rounded" (defArgs s_rounded) (defBody s_rounded) (defScope s_rounded) .none (.ref Dk7) dc7 pm7 an7 cd7 ct7) ["form", "sign", "number", "power", "way", "more"] 4 ["way"] g (fun vs zs => vs ++ (zs ++ [.bl false])) := ⟨fun vs zs => vs ++ (zs ++ [.bool false]), ⟨kbn_of (st := s_rounded) (ml := [("more", .bool false)]) (gV := fun vs zs => vs ++ (zs ++ [.bl false])) (fun q hq => by rcases List.mem_cons.mp hq with rfl | hq; exact w7_1; exact nomatch hq) (fun us ws l1 l2 => match us, ws, l1, l2 with | [_, _, _, _], [_], _, _ => ⟨_, _, _, _, _, _, rfl, rfl, (show _ = pure _ from rfl)⟩) (fun _ _ r1 r2 => r1.append (r2.append (.cons rfl .nil))), fun r1 r2 => r1.append (r2.append (.cons rfl .nil))⟩⟩
  have kb7_way_more : ∃ g, KBn K (PySem.W.fnOf "rounded" "rounded" (defArgs s_rounded) (defBody s_rounded) (defScope s_rounded) .none (.ref Dk7) dc7 pm7 an7 cd7 ct7) ["form", "sign", "number", "power", "way", "more"] 4 ["way", "more"] g (fun vs zs => vs ++ zs) := ⟨fun vs zs => vs ++ zs, ⟨kbn_of (st := s_rounded) (ml := []) (gV := fun vs zs => vs ++ zs) (fun q hq => nomatch hq) (fun us ws l1 l2 => match us, ws, l1, l2 with | [_, _, _, _], [_, _], _, _ => (show _ = pure _ from rfl)) (fun _ _ r1 r2 => r1.append r2), fun r1 r2 => r1.append r2⟩⟩
  have kb13_way : ∃ g, KBn K (PySem.W.fnOf "divided" "divided" (defArgs s_divided) (defBody s_divided) (defScope s_divided) .none (.ref Dk13) dc13 pm13 an13 cd13 ct13) ["form", "a", "b", "way"] 3 ["way"] g (fun vs zs => vs ++ zs) := ⟨fun vs zs => vs ++ zs, ⟨kbn_of (st := s_divided) (ml := []) (gV := fun vs zs => vs ++ zs) (fun q hq => nomatch hq) (fun us ws l1 l2 => match us, ws, l1, l2 with | [_, _, _], [_], _, _ => (show _ = pure _ from rfl)) (fun _ _ r1 r2 => r1.append r2), fun r1 r2 => r1.append r2⟩⟩
  have L : LL K mg C CD f1 f2 f3 f4 f5 f6 f7 f8 f9 f10 f11 f12 f13 f14 f15 f16 f17 f18 f19 f20 f21 f22 f23 f24 f25 f26 f27 f29 f30 f31 f32 f33 f34 f35 f36 f37 f38 f39 f40 f41 f42 f43 f44 f45 f46 f47 f48 f49 _ _ _ _ _ _ _ _ _ _ _ _ _ _ _ _ _ _ _ _ _ _ _ _ _ _ _ _ _ _ _ _ _ _ _ _ _ _ _ _ _ _ _ _ _ _ _ _ vT35 vT36 vT37 tgNEAR tgCUT tgUP := ⟨F1, m1, b1, F2, m2, b2, F3, m3, b3, F4, m4, b4, F5, m5, b5, F6, m6, b6, F7, m7, kb7_way, kb7_way_more, F8, m8, b8, F9, m9, b9, F10, m10, b10, F11, m11, b11, F12, m12, b12, F13, m13, kb13_way, F14, m14, b14, F15, m15, b15, F16, m16, b16, F17, m17, b17, F18, m18, b18, F19, m19, b19, F20, m20, b20, F21, m21, b21, F22, m22, b22, F23, m23, b23, F24, m24, b24, F25, m25, b25, F26, m26, b26, F27, m27, b27, ⟨clC, naC0, naC1, mgC⟩, ⟨mkC, a29, i29, kcC⟩, F29, b29, F30, b30, M30, F31, b31, M31, F32, b32, M32, F33, b33, M33, F34, b34, M34, F35, b35, M35, d35, F36, b36, M36, d36, F37, b37, M37, d37, F38, b38, M38, F39, b39, M39, ⟨clCD, naCD0, naCD1, naCD2, naCD3, naCD4, naCD5, naCD6, naCD7, naCD8, naCD9, mgCD⟩, ⟨mkCD, a40, i40, kcCD⟩, F40, kb40, F41, b41, M41, F42, b42, M42, F43, b43, M43, F44, b44, M44, F45, b45, M45, F46, b46, M46, F47, b47, M47, F48, b48, M48, F49, b49, M49, PySem.W.mg_of X G gNEAR, PySem.W.mg_of X G gCUT, PySem.W.mg_of X G gUP⟩
  exact ok_law F28 B L
end GZ
open PySem PySem.W PyProof.Rows
set_option maxRecDepth 100000 in
set_option maxHeartbeats 0 in
theorem PySem.Challenge.cw_guessedzeros_k42_known_divisions_holds : PySem.Challenge.rw_guessedzeros_k42_known_divisions.Holds := by
  w_on; o_law; k_head; (case hw => w_witness2)
  k_fill
  refine L2.walk_of (l := PySem.Challenge.rw_guessedzeros_k42_known_divisions) (n := 63) (k := 12) (x := "_law_script") (CX := fun _ => L2.CX0) (sp := fun w => GZ.spLaw _) rfl (by decide) rfl ⟨rfl, by decide, by decide⟩ (fun w h Y => PySem.W.kIn_of Y) ?F (fun _ _ a ns hl _ hS => ⟨a, ns, rfl, hS, hl, fun _ => rfl⟩) (fun _ _ _ _ _ h => h)
  case F =>
    intro w mg fa h KX G hmg
    refine' GZ.all_mk KX G hmg ?a1 ?l1 ?c1 ?k1 ?a2 ?l2 ?c2 ?k2 ?a3 ?l3 ?c3 ?k3 ?a4 ?l4 ?c4 ?k4 ?a5 ?l5 ?c5 ?k5 ?a6 ?l6 ?c6 ?k6 ?a7 ?l7 ?c7 ?k7 ?w7_0 ?w7_1 ?a8 ?l8 ?c8 ?k8 ?a9 ?l9 ?c9 ?k9 ?a10 ?l10 ?c10 ?k10 ?a11 ?l11 ?c11 ?k11 ?a12 ?l12 ?c12 ?k12 ?a13 ?l13 ?c13 ?k13 ?w13_0 ?a14 ?l14 ?c14 ?k14 ?a15 ?l15 ?c15 ?k15 ?a16 ?l16 ?c16 ?k16 ?a17 ?l17 ?c17 ?k17 ?a18 ?l18 ?c18 ?k18 ?a19 ?l19 ?c19 ?k19 ?a20 ?l20 ?c20 ?k20 ?a21 ?l21 ?c21 ?k21 ?a22 ?l22 ?c22 ?k22 ?a23 ?l23 ?c23 ?k23 ?a24 ?l24 ?c24 ?k24 ?a25 ?l25 ?c25 ?k25 ?a26 ?l26 ?c26 ?k26 ?a27 ?l27 ?c27 ?k27 ?a28 ?l28 ?c28 ?k28 ?aC ?pgC ?hdC ?poC ?saC ?mkC ?kcC ?naC0 ?naC1 ?aCD ?pgCD ?hdCD ?poCD ?saCD ?mkCD ?kcCD ?naCD0 ?naCD1 ?naCD2 ?naCD3 ?naCD4 ?naCD5 ?naCD6 ?naCD7 ?naCD8 ?naCD9 ?a29 ?i29 ?l29 ?c29 ?k29 ?a30 ?i30 ?l30 ?c30 ?k30 ?a31 ?i31 ?l31 ?c31 ?k31 ?a32 ?i32 ?l32 ?c32 ?k32 ?a33 ?i33 ?l33 ?c33 ?k33 ?a34 ?i34 ?l34 ?c34 ?k34 ?a35 ?i35 ?l35 ?c35 ?k35 ?t35 ?a36 ?i36 ?l36 ?c36 ?k36 ?t36 ?a37 ?i37 ?l37 ?c37 ?k37 ?t37 ?a38 ?i38 ?l38 ?c38 ?k38 ?a39 ?i39 ?l39 ?c39 ?k39 ?a40 ?i40 ?l40 ?c40 ?k40 ?a41 ?i41 ?l41 ?c41 ?k41 ?a42 ?i42 ?l42 ?c42 ?k42 ?a43 ?i43 ?l43 ?c43 ?k43 ?a44 ?i44 ?l44 ?c44 ?k44 ?a45 ?i45 ?l45 ?c45 ?k45 ?a46 ?i46 ?l46 ?c46 ?k46 ?a47 ?i47 ?l47 ?c47 ?k47 ?a48 ?i48 ?l48 ?c48 ?k48 ?a49 ?i49 ?l49 ?c49 ?k49 ?z1 ?z2 ?z3 ?z4 ?z5 ?z6 ?z7 ?z8 ?z9 ?z10 ?z11 ?z12 ?z13 ?z14 ?z15 ?z16 ?z17 ?gNEAR ?gCUT ?gUP
    (case a1 => k_is)
    (case l1 => k_is)
    (case c1 => k_is)
    (case k1 => k_is)
    (case a2 => k_is)
    (case l2 => k_is)
    (case c2 => k_is)
    (case k2 => k_is)
    (case a3 => k_is)
    (case l3 => k_is)
    (case c3 => k_is)
    (case k3 => k_is)
    (case a4 => k_is)
    (case l4 => k_is)
    (case c4 => k_is)
    (case k4 => k_is)
    (case a5 => k_is)
    (case l5 => k_is)
    (case c5 => k_is)
    (case k5 => k_is)
    (case a6 => k_is)
    (case l6 => k_is)
    (case c6 => k_is)
    (case k6 => k_is)
    (case a7 => k_is)
    (case l7 => k_is)
    (case c7 => k_is)
    (case k7 => k_is)
    (case w7_0 => k_is)
    (case w7_1 => k_is)
    (case a8 => k_is)
    (case l8 => k_is)
    (case c8 => k_is)
    (case k8 => k_is)
    (case a9 => k_is)
    (case l9 => k_is)
    (case c9 => k_is)
    (case k9 => k_is)
    (case a10 => k_is)
    (case l10 => k_is)
    (case c10 => k_is)
    (case k10 => k_is)
    (case a11 => k_is)
    (case l11 => k_is)
    (case c11 => k_is)
    (case k11 => k_is)
    (case a12 => k_is)
    (case l12 => k_is)
    (case c12 => k_is)
    (case k12 => k_is)
    (case a13 => k_is)
    (case l13 => k_is)
    (case c13 => k_is)
    (case k13 => k_is)
    (case w13_0 => k_is)
    (case a14 => k_is)
    (case l14 => k_is)
    (case c14 => k_is)
    (case k14 => k_is)
    (case a15 => k_is)
    (case l15 => k_is)
    (case c15 => k_is)
    (case k15 => k_is)
    (case a16 => k_is)
    (case l16 => k_is)
    (case c16 => k_is)
    (case k16 => k_is)
    (case a17 => k_is)
    (case l17 => k_is)
    (case c17 => k_is)
    (case k17 => k_is)
    (case a18 => k_is)
    (case l18 => k_is)
    (case c18 => k_is)
    (case k18 => k_is)
    (case a19 => k_is)
    (case l19 => k_is)
    (case c19 => k_is)
    (case k19 => k_is)
    (case a20 => k_is)
    (case l20 => k_is)
    (case c20 => k_is)
    (case k20 => k_is)
    (case a21 => k_is)
    (case l21 => k_is)
    (case c21 => k_is)
    (case k21 => k_is)
    (case a22 => k_is)
    (case l22 => k_is)
    (case c22 => k_is)
    (case k22 => k_is)
    (case a23 => k_is)
    (case l23 => k_is)
    (case c23 => k_is)
    (case k23 => k_is)
    (case a24 => k_is)
    (case l24 => k_is)
    (case c24 => k_is)
    (case k24 => k_is)
    (case a25 => k_is)
    (case l25 => k_is)
    (case c25 => k_is)
    (case k25 => k_is)
    (case a26 => k_is)
    (case l26 => k_is)
    (case c26 => k_is)
    (case k26 => k_is)
    (case a27 => k_is)
    (case l27 => k_is)
    (case c27 => k_is)
    (case k27 => k_is)
    (case a28 => k_is)
    (case l28 => k_is)
    (case c28 => k_is)
    (case k28 => k_is)
    (case aC => k_is)
    (case pgC => k_is)
    (case hdC => k_is)
    (case poC => k_is)
    (case saC => k_is)
    (case mkC => k_is)
    (case kcC => k_is)
    (case naC0 => k_is)
    (case naC1 => k_is)
    (case aCD => k_is)
    (case pgCD => k_is)
    (case hdCD => k_is)
    (case poCD => k_is)
    (case saCD => k_is)
    (case mkCD => k_is)
    (case kcCD => k_is)
    (case naCD0 => k_is)
    (case naCD1 => k_is)
    (case naCD2 => k_is)
    (case naCD3 => k_is)
    (case naCD4 => k_is)
    (case naCD5 => k_is)
    (case naCD6 => k_is)
    (case naCD7 => k_is)
    (case naCD8 => k_is)
    (case naCD9 => k_is)
    (case a29 => k_is)
    (case i29 => k_is)
    (case l29 => k_is)
    (case c29 => k_is)
    (case k29 => k_is)
    (case a30 => k_is)
    (case i30 => k_is)
    (case l30 => k_is)
    (case c30 => k_is)
    (case k30 => k_is)
    (case a31 => k_is)
    (case i31 => k_is)
    (case l31 => k_is)
    (case c31 => k_is)
    (case k31 => k_is)
    (case a32 => k_is)
    (case i32 => k_is)
    (case l32 => k_is)
    (case c32 => k_is)
    (case k32 => k_is)
    (case a33 => k_is)
    (case i33 => k_is)
    (case l33 => k_is)
    (case c33 => k_is)
    (case k33 => k_is)
    (case a34 => k_is)
    (case i34 => k_is)
    (case l34 => k_is)
    (case c34 => k_is)
    (case k34 => k_is)
    (case a35 => k_is)
    (case i35 => k_is)
    (case l35 => k_is)
    (case c35 => k_is)
    (case k35 => k_is)
    (case t35 => k_is)
    (case a36 => k_is)
    (case i36 => k_is)
    (case l36 => k_is)
    (case c36 => k_is)
    (case k36 => k_is)
    (case t36 => k_is)
    (case a37 => k_is)
    (case i37 => k_is)
    (case l37 => k_is)
    (case c37 => k_is)
    (case k37 => k_is)
    (case t37 => k_is)
    (case a38 => k_is)
    (case i38 => k_is)
    (case l38 => k_is)
    (case c38 => k_is)
    (case k38 => k_is)
    (case a39 => k_is)
    (case i39 => k_is)
    (case l39 => k_is)
    (case c39 => k_is)
    (case k39 => k_is)
    (case a40 => k_is)
    (case i40 => k_is)
    (case l40 => k_is)
    (case c40 => k_is)
    (case k40 => k_is)
    (case a41 => k_is)
    (case i41 => k_is)
    (case l41 => k_is)
    (case c41 => k_is)
    (case k41 => k_is)
    (case a42 => k_is)
    (case i42 => k_is)
    (case l42 => k_is)
    (case c42 => k_is)
    (case k42 => k_is)
    (case a43 => k_is)
    (case i43 => k_is)
    (case l43 => k_is)
    (case c43 => k_is)
    (case k43 => k_is)
    (case a44 => k_is)
    (case i44 => k_is)
    (case l44 => k_is)
    (case c44 => k_is)
    (case k44 => k_is)
    (case a45 => k_is)
    (case i45 => k_is)
    (case l45 => k_is)
    (case c45 => k_is)
    (case k45 => k_is)
    (case a46 => k_is)
    (case i46 => k_is)
    (case l46 => k_is)
    (case c46 => k_is)
    (case k46 => k_is)
    (case a47 => k_is)
    (case i47 => k_is)
    (case l47 => k_is)
    (case c47 => k_is)
    (case k47 => k_is)
    (case a48 => k_is)
    (case i48 => k_is)
    (case l48 => k_is)
    (case c48 => k_is)
    (case k48 => k_is)
    (case a49 => k_is)
    (case i49 => k_is)
    (case l49 => k_is)
    (case c49 => k_is)
    (case k49 => k_is)
    (case z1 => k_is)
    (case z2 => k_is)
    (case z3 => k_is)
    (case z4 => k_is)
    (case z5 => k_is)
    (case z6 => k_is)
    (case z7 => k_is)
    (case z8 => k_is)
    (case z9 => k_is)
    (case z10 => k_is)
    (case z11 => k_is)
    (case z12 => k_is)
    (case z13 => k_is)
    (case z14 => k_is)
    (case z15 => k_is)
    (case z16 => k_is)
    (case z17 => k_is)
    (case gNEAR => k_is)
    (case gCUT => k_is)
    (case gUP => k_is)

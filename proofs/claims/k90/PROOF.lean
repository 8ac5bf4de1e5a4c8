import PyProof.Rows.All
import Wide.All
import OpenK.AllK
import Wide.FinOn
import HandS.ForMost
import HandS.Walk
import HandS.Zip
import HandS.WideBits
import HandS.IsInst
import OpenK.KEqL
import HandS.More
import HandS.Flow
import HandS.NoneIn
import HandS.Defaults
import HandS.Wide
import HandS.Style
import HandS.Dict
import HandS.Star
import HandS.Conv
import HandS.Small
import HandS.Codes
import HandS.Text
import HandS.WordsDict
import KE.OsRunLaw
import KE.GoesZip
import KE.GoesMore
import KE.GoesEnum
import KE.KUnpackStar
import KE.KRevSl
import KE.KDictZip
import HandS.ListItems
import HandS.DictComp
import HandS.Deep
import PySem.Challenge.RW_guessedzeros_k90_whole_parts_beside_numb
set_option Elab.async false
set_option linter.all false
set_option maxRecDepth 100000
set_option maxHeartbeats 40000000
namespace GZ
open PySem PySem.Spec PyProof.Rows L2
/-! ### the text by places -/
def topS (i : Nat) : Stmt := PySem.Challenge.pw_guessedzeros_k90_whole_parts_beside_numb.main.body.getD i (.Pass ⟨0, 0, 0, 0⟩)
abbrev s_sum_wires : Stmt := topS 2
theorem sc_sum_wires : FnScope ["net", "ones", "others", "carry", "total", "one", "other", "half"] ["net", "ones", "others", "carry"] (defScope s_sum_wires) := ⟨rfl, rfl, rfl, by decide +kernel, rfl, by decide +kernel, by decide +kernel⟩
abbrev s_quick_sum_wires : Stmt := topS 3
theorem sc_quick_sum_wires : FnScope ["net", "ones", "others", "carry", "halves", "pairs", "carries", "total", "one", "other", "half", "into"] ["net", "ones", "others", "carry"] (defScope s_quick_sum_wires) := ⟨rfl, rfl, rfl, by decide +kernel, rfl, by decide +kernel, by decide +kernel⟩
abbrev s_carry_wires : Stmt := topS 4
theorem sc_carry_wires : FnScope ["net", "spans", "size", "place", "makes", "passes"] ["net", "spans"] (defScope s_carry_wires) := ⟨rfl, rfl, rfl, by decide +kernel, rfl, by decide +kernel, by decide +kernel⟩
abbrev s_span_doubled : Stmt := topS 5
theorem sc_span_doubled : FnScope ["net", "spans", "place", "size", "makes", "passes", "makes_below", "passes_below"] ["net", "spans", "place", "size"] (defScope s_span_doubled) := ⟨rfl, rfl, rfl, by decide +kernel, rfl, by decide +kernel, by decide +kernel⟩
abbrev s_shift_wires : Stmt := topS 6
theorem sc_shift_wires : FnScope ["net", "ones", "by", "many", "nought", "kept", "more", "amount", "wire", "lost"] ["net", "ones", "by"] (defScope s_shift_wires) := ⟨rfl, rfl, rfl, by decide +kernel, rfl, by decide +kernel, by decide +kernel⟩
abbrev s_left_wires : Stmt := topS 7
theorem sc_left_wires : FnScope ["net", "ones", "by", "nought", "kept", "amount", "wire"] ["net", "ones", "by"] (defScope s_left_wires) := ⟨rfl, rfl, rfl, by decide +kernel, rfl, by decide +kernel, by decide +kernel⟩
abbrev s_shift_amounts : Stmt := topS 8
theorem sc_shift_amounts : FnScope ["net", "many", "by", "near", "far", "place", "wire"] ["net", "many", "by"] (defScope s_shift_amounts) := ⟨rfl, rfl, rfl, by decide +kernel, rfl, by decide +kernel, by decide +kernel⟩
abbrev s_any_wire : Stmt := topS 9
theorem sc_any_wire : FnScope ["net", "wires", "found", "wire"] ["net", "wires"] (defScope s_any_wire) := ⟨rfl, rfl, rfl, by decide +kernel, rfl, by decide +kernel, by decide +kernel⟩
abbrev s_zero_wires : Stmt := topS 10
theorem sc_zero_wires : FnScope ["net", "ones", "firsts", "bits", "place", "zeros", "wire"] ["net", "ones"] (defScope s_zero_wires) := ⟨rfl, rfl, rfl, by decide +kernel, rfl, by decide +kernel, by decide +kernel⟩
abbrev s_first_wires : Stmt := topS 11
theorem sc_first_wires : FnScope ["net", "ones", "firsts", "clear", "one"] ["net", "ones"] (defScope s_first_wires) := ⟨rfl, rfl, rfl, by decide +kernel, rfl, by decide +kernel, by decide +kernel⟩
abbrev s_mark_wires : Stmt := topS 12
theorem sc_mark_wires : FnScope ["net", "ones", "others", "digits", "marks", "place", "bars", "one", "other"] ["net", "ones", "others"] (defScope s_mark_wires) := ⟨rfl, rfl, rfl, by decide +kernel, rfl, by decide +kernel, by decide +kernel⟩
abbrev s_chosen_wires : Stmt := topS 13
theorem sc_chosen_wires : FnScope ["net", "wire", "ones", "others", "stays", "one", "other"] ["net", "wire", "ones", "others"] (defScope s_chosen_wires) := ⟨rfl, rfl, rfl, by decide +kernel, rfl, by decide +kernel, by decide +kernel⟩
abbrev s_is_less_wire : Stmt := topS 14
theorem sc_is_less_wire : FnScope ["net", "ones", "others", "many", "less", "one", "other", "turned"] ["net", "ones", "others"] (defScope s_is_less_wire) := ⟨rfl, rfl, rfl, by decide +kernel, rfl, by decide +kernel, by decide +kernel⟩
abbrev s_lengthened : Stmt := topS 15
theorem sc_lengthened : FnScope ["net", "wires", "many"] ["net", "wires", "many"] (defScope s_lengthened) := ⟨rfl, rfl, rfl, by decide +kernel, rfl, by decide +kernel, by decide +kernel⟩
abbrev s_raise_wires : Stmt := topS 16
theorem sc_raise_wires : FnScope ["net", "ones", "wire", "total", "one"] ["net", "ones", "wire"] (defScope s_raise_wires) := ⟨rfl, rfl, rfl, by decide +kernel, rfl, by decide +kernel, by decide +kernel⟩
abbrev s_times_wires : Stmt := topS 17
theorem sc_times_wires : FnScope ["net", "ones", "others", "nought", "total", "ended", "other", "row", "last", "one"] ["net", "ones", "others"] (defScope s_times_wires) := ⟨rfl, rfl, rfl, by decide +kernel, rfl, by decide +kernel, by decide +kernel⟩
abbrev s_Net___init__ : Stmt := inClass (topS 23) 0
theorem sc_Net___init__ : FnScope ["self", "many"] ["self", "many"] (defScope s_Net___init__) := ⟨rfl, rfl, rfl, by decide +kernel, rfl, by decide +kernel, by decide +kernel⟩
abbrev s_Net_both : Stmt := inClass (topS 23) 1
theorem sc_Net_both : FnScope ["self", "a", "b"] ["self", "a", "b"] (defScope s_Net_both) := ⟨rfl, rfl, rfl, by decide +kernel, rfl, by decide +kernel, by decide +kernel⟩
abbrev s_Net_either : Stmt := inClass (topS 23) 2
theorem sc_Net_either : FnScope ["self", "a", "b"] ["self", "a", "b"] (defScope s_Net_either) := ⟨rfl, rfl, rfl, by decide +kernel, rfl, by decide +kernel, by decide +kernel⟩
abbrev s_Net_unlike : Stmt := inClass (topS 23) 3
theorem sc_Net_unlike : FnScope ["self", "a", "b"] ["self", "a", "b"] (defScope s_Net_unlike) := ⟨rfl, rfl, rfl, by decide +kernel, rfl, by decide +kernel, by decide +kernel⟩
abbrev s_Net_other : Stmt := inClass (topS 23) 4
theorem sc_Net_other : FnScope ["self", "a"] ["self", "a"] (defScope s_Net_other) := ⟨rfl, rfl, rfl, by decide +kernel, rfl, by decide +kernel, by decide +kernel⟩
abbrev s_Net_fixed : Stmt := inClass (topS 23) 5
theorem sc_Net_fixed : FnScope ["self", "bit"] ["self", "bit"] (defScope s_Net_fixed) := ⟨rfl, rfl, rfl, by decide +kernel, rfl, by decide +kernel, by decide +kernel⟩
abbrev s_Net_put : Stmt := inClass (topS 23) 6
theorem sc_Net_put : FnScope ["self", "kind", "wires", "depth", "wire"] ["self", "kind", "wires"] (defScope s_Net_put) := ⟨rfl, rfl, rfl, by decide +kernel, rfl, by decide +kernel, by decide +kernel⟩
abbrev s_Net_put_gate : Stmt := inClass (topS 23) 7
theorem sc_Net_put_gate : FnScope ["self", "gate", "depth"] ["self", "gate", "depth"] (defScope s_Net_put_gate) := ⟨rfl, rfl, rfl, by decide +kernel, rfl, by decide +kernel, by decide +kernel⟩
abbrev s_Net_need : Stmt := inClass (topS 23) 8
theorem sc_Net_need : FnScope ["self", "wires", "wire"] ["self", "wires"] (defScope s_Net_need) := ⟨rfl, rfl, rfl, by decide +kernel, rfl, by decide +kernel, by decide +kernel⟩
abbrev s_Net_give : Stmt := inClass (topS 23) 9
theorem sc_Net_give : FnScope ["self", "name", "wires"] ["self", "name", "wires"] (defScope s_Net_give) := ⟨rfl, rfl, rfl, by decide +kernel, rfl, by decide +kernel, by decide +kernel⟩
abbrev s_Net_given : Stmt := inClass (topS 23) 10
theorem sc_Net_given : FnScope ["self", "name"] ["self", "name"] (defScope s_Net_given) := ⟨rfl, rfl, rfl, by decide +kernel, rfl, by decide +kernel, by decide +kernel⟩
abbrev s_Net_names : Stmt := inClass (topS 23) 11
theorem sc_Net_names : FnScope ["self"] ["self"] (defScope s_Net_names) := ⟨rfl, rfl, rfl, by decide +kernel, rfl, by decide +kernel, by decide +kernel⟩
abbrev s_Net_gates : Stmt := inClass (topS 23) 13
theorem sc_Net_gates : FnScope ["self"] ["self"] (defScope s_Net_gates) := ⟨rfl, rfl, rfl, by decide +kernel, rfl, by decide +kernel, by decide +kernel⟩
abbrev s_Net_like : Stmt := inClass (topS 23) 16
theorem sc_Net_like : FnScope ["self", "twin", "name"] ["self"] (defScope s_Net_like) := ⟨rfl, rfl, rfl, by decide +kernel, rfl, by decide +kernel, by decide +kernel⟩
abbrev s_ran : Stmt := topS 25
theorem sc_ran : FnScope ["net", "values", "many", "full", "wires", "gate", "value", "name", "wire"] ["net", "values", "many"] (defScope s_ran) := ⟨rfl, rfl, rfl, by decide +kernel, rfl, by decide +kernel, by decide +kernel⟩
abbrev s_gate_bits : Stmt := topS 26
theorem sc_gate_bits : FnScope ["gate", "wires", "full", "kind", "one", "other"] ["gate", "wires", "full"] (defScope s_gate_bits) := ⟨rfl, rfl, rfl, by decide +kernel, rfl, by decide +kernel, by decide +kernel⟩
abbrev sBox : Stmt := topS 28
abbrev sTake : Stmt := topS 29
abbrev s__law_values : Stmt := topS 30
theorem sc__law_values : FnScope ["_law_box_here", "_law_inputs", "_law_cases", "_law_found", "_law_turn", "_law_value", "_law_step"] ["_law_box_here", "_law_inputs", "_law_cases"] (defScope s__law_values) := ⟨rfl, rfl, rfl, by decide +kernel, rfl, by decide +kernel, by decide +kernel⟩
abbrev s__law_number : Stmt := topS 31
theorem sc__law_number : FnScope ["_law_bits", "_law_case", "_law_found", "_law_one"] ["_law_bits", "_law_case"] (defScope s__law_number) := ⟨rfl, rfl, rfl, by decide +kernel, rfl, by decide +kernel, by decide +kernel⟩
abbrev s__law_put : Stmt := topS 32
theorem sc__law_put : FnScope ["_law_net", "_law_first", "_law_second", "_law_ones", "_law_others", "_law_zeros", "_law_nought", "_law_bit", "_law_norm", "_law_less", "_law_back", "_law_more", "_law_great", "_law_small", "_law_apart", "_law_few", "_law_some", "_law_by", "_law_product", "_law_both", "_law_found", "_law_wire"] ["_law_net", "_law_first", "_law_second"] (defScope s__law_put) := ⟨rfl, rfl, rfl, by decide +kernel, rfl, by decide +kernel, by decide +kernel⟩
abbrev s__law_case_right : Stmt := topS 33
theorem sc__law_case_right : FnScope ["_law_own", "_law_ones", "_law_others"] ["_law_own"] (defScope s__law_case_right) := ⟨rfl, rfl, rfl, by decide +kernel, rfl, by decide +kernel, by decide +kernel⟩
abbrev s_law : Stmt := topS 34
theorem sc_law : FnScope ["_law_script", "_law_k", "_law_box_here", "_law_net", "_law_found", "_law_name", "_law_values_here", "_law_mask", "_law_rows", "_law_told", "_law_case", "_law_at", "_law_one", "_law_other"] ["_law_script"] (defScope s_law) := ⟨rfl, rfl, rfl, by decide +kernel, rfl, by decide +kernel, by decide +kernel⟩
/-! ### built-in names that the text leaves alone -/
structure Bl (mg : Str → Option Value) : Prop where
  len : mg "len" = none
  abs : mg "abs" = none
  int : mg "int" = none
  divmod : mg "divmod" = none
  list : mg "list" = none
  enumerate : mg "enumerate" = none
  isinstance : mg "isinstance" = none
  tuple : mg "tuple" = none
  str : mg "str" = none
  bool : mg "bool" = none
  zip : mg "zip" = none
  all : mg "all" = none
  range : mg "range" = none
  max : mg "max" = none
  any : mg "any" = none
  min : mg "min" = none
  sum : mg "sum" = none
/-! ### rules with the written part told (for the blocks of comprehensions) -/
section
variable {X : Cx} {K : PySem.W.Frag}
theorem call_len_seqK (h : X.K = K := by rfl) : CallR X (.builtin "len") (fun xs H Q => ∃ p ys, xs = [.ref p] ∧ (SqL K H p ys ∨ SqT K H p ys) ∧ Q (.int ys.length) H) := by subst h; exact call_len_seq
theorem call_list_ofK (h : X.K = K := by rfl) : CallR X (.type "list") (fun xs H Q => ∃ p ys, xs = [.ref p] ∧ (SqL K H p ys ∨ SqT K H p ys) ∧ ∀ l, H l = none → Q (.ref l) (upd H l (.lst ys))) := by subst h; exact call_list_of
theorem call_tuple_ofK (h : X.K = K := by rfl) : CallR X (.type "tuple") (fun xs H Q => ∃ p ys, xs = [.ref p] ∧ ((SqL K H p ys ∧ ∀ l, H l = none → Q (.ref l) (upd H l (.tup ys))) ∨ (SqT K H p ys ∧ Q (.ref p) H))) := by subst h; exact call_tuple_of
theorem ix_listK (h : X.K = K := by rfl) : IxR X (rIxL K) := by subst h; exact ix_list
theorem ix_tupK (h : X.K = K := by rfl) : IxR X (rIxT K) := by subst h; exact ix_tup
theorem ix_seqK (h : X.K = K := by rfl) : IxR X (rIx K) := by subst h; exact ix_seq
theorem op_in_seqK (h : X.K = K := by rfl) : OpR X (compareOp .In) (rIn K false) := by subst h; exact op_in_seq
theorem op_notIn_seqK (h : X.K = K := by rfl) : OpR X (compareOp .NotIn) (rIn K true) := by subst h; exact op_notIn_seq
theorem sl_listK (h : X.K = K := by rfl) : SlR X (rSlL K) := by subst h; exact sl_list
theorem cr_sumK (hc : X.calm = true) (h : X.K = K := by rfl) : CallR X (.builtin "sum") (rSum K) := by subst h; exact cr_sum hc
theorem cr_allK (hc : X.calm = true) (h : X.K = K := by rfl) : CallR X (.builtin "all") (rAll K) := by subst h; exact cr_all hc
theorem cr_anyK (hc : X.calm = true) (h : X.K = K := by rfl) : CallR X (.builtin "any") (rAny K) := by subst h; exact cr_any hc
theorem call_isiK' (h : X.K = K := by rfl) : CallR X (.builtin "isinstance") (rIsi K) := by subst h; exact call_isi
theorem pi_listK {tg l : Expr} {tl : TE} (hl : PE X l tl) (h : X.K = K := by rfl) : PI X tg l (iList K tl) := by subst h; exact pi_list hl
theorem pi_tupK {tg l : Expr} {tl : TE} (hl : PE X l tl) (h : X.K = K := by rfl) : PI X tg l (iTup K tl) := by subst h; exact pi_tup hl
theorem pe_fldK {e : Expr} {ta : TE} {f : Str} {pos : Pos} (he : PE X e ta) (hb : attributeBase e f X.env (eval e X.env) = eval e X.env) (h : X.K = K := by rfl) : PE X (.Attribute e f pos) (tFld K ta f) := by subst h; exact pe_fld he hb
end
/-! ### heaps -/
theorem same_upd {H : Hp} {p : Addr} {o : HO} (h : H p = none) : Same H (upd H p o) := fun b x e => by
  rw [upd_ne (ne_of_none e h)]
  exact e
/-- all but what stands at b is as it was -/
def Keep (b : Addr) (H H' : Hp) : Prop := ∀ p o, H p = some o → p ≠ b → H' p = some o
theorem Keep.refl (b : Addr) (H : Hp) : Keep b H H := fun _ _ h _ => h
theorem Keep.trans {b : Addr} {H H1 H2 : Hp} (x : Keep b H H1) (y : Keep b H1 H2) : Keep b H H2 := fun p o h n => y p o (x p o h n) n
theorem Keep.ofSame {b : Addr} {H H1 : Hp} (x : Same H H1) : Keep b H H1 := fun p o h _ => x p o h
theorem Keep.upd {b : Addr} {H : Hp} {o : HO} : Keep b H (upd H b o) := fun p x h n => by
  rw [upd_ne n]
  exact h
theorem Keep.new {b p : Addr} {H : Hp} {o : HO} (h : H p = none) : Keep b H (L2.upd H p o) := .ofSame (same_upd h)
theorem Keep.seq {K : PySem.W.Frag} {b a : Addr} {H H' : Hp} {xs : List V} (e : Keep b H H') (n : a ≠ b) (h : SqL K H a xs) : SqL K H' a xs := by
  rcases h with (h | ⟨o, h⟩) | h
  · exact .inl (.inl (e _ _ h n))
  · exact .inl (.inr ⟨o, e _ _ h n⟩)
  · exact .inr h
theorem Keep.seqT {K : PySem.W.Frag} {b a : Addr} {H H' : Hp} {xs : List V} (e : Keep b H H') (n : a ≠ b) (h : SqT K H a xs) : SqT K H' a xs := by
  rcases h with (h | ⟨o, h⟩) | h
  · exact .inl (.inl (e _ _ h n))
  · exact .inl (.inr ⟨o, e _ _ h n⟩)
  · exact .inr h
theorem Same.seqT {K : PySem.W.Frag} {a : Addr} {H H' : Hp} {xs : List V} (e : Same H H') (h : SqT K H a xs) : SqT K H' a xs := by
  rcases h with (h | ⟨o, h⟩) | h
  · exact .inl (.inl (e _ _ h))
  · exact .inl (.inr ⟨o, e _ _ h⟩)
  · exact .inr h
/-- a drawing box: three ints, the last at most c -/
def BoxAt (c : Int) (H : Hp) (b : Addr) : Prop := ∃ x0 x1 x2 : Int, H b = some (.lst [.int x0, .int x1, .int x2]) ∧ 0 ≤ x0 ∧ 0 ≤ x1 ∧ x1 < 2147483647 ∧ 0 ≤ x2 ∧ x2 ≤ c
theorem BoxAt.mono {c d : Int} {H : Hp} {b : Addr} (h : BoxAt c H b) (l : c ≤ d) : BoxAt d H b := by
  obtain ⟨x0, x1, x2, e, a1, a2, a3, a4, a5⟩ := h
  exact ⟨x0, x1, x2, e, a1, a2, a3, a4, by omega⟩
theorem BoxAt.same {c : Int} {H H' : Hp} {b : Addr} (h : BoxAt c H b) (s : Same H H') : BoxAt c H' b := by
  obtain ⟨x0, x1, x2, e, r⟩ := h
  exact ⟨x0, x1, x2, s _ _ e, r⟩
theorem BoxAt.at {c : Int} {H H' : Hp} {b : Addr} (h : BoxAt c H b) (s : H' b = H b) : BoxAt c H' b := by
  obtain ⟨x0, x1, x2, e, r⟩ := h
  exact ⟨x0, x1, x2, by rw [s]; exact e, r⟩
theorem BoxAt.ne {c : Int} {H : Hp} {b p : Addr} (h : BoxAt c H b) (n : H p = none) : b ≠ p := by
  obtain ⟨x0, x1, x2, e, r⟩ := h
  exact ne_of_none e n
theorem e7 : (10 : Int) ^ ((7 : Int).toNat) = 10000000 := by decide
theorem e18 : (10 : Int) ^ ((18 : Int).toNat) = 1000000000000000000 := by decide
theorem divp_small {i j : Int} (h0 : 0 < j) (h1 : j < 2 ^ 250) : CDivP i j := by
  refine ⟨h0, ?_⟩
  show (decide ((if j == 0 then 0 else j.natAbs.log2 / 30 + 1) > 300) && _) = false
  rw [if_neg (show ¬ (j == 0) = true by simpa using (show j ≠ 0 by omega))]
  have hl : j.natAbs.log2 < 250 := PySem.Flt.log2_lt_of (by decide) (by omega)
  rw [decide_eq_false (show ¬ (j.natAbs.log2 / 30 + 1 > 300) by omega), Bool.false_and]
section
variable {P : Program} {w : World} {K : PySem.W.Frag} {mg : Str → Option Value} {base : Heap}
/-! ### _law_take -/
theorem scTake : FnScope ["_law_box_here", "_law_size", "_law_found", "_law_step", "_law_once", "_law_twice"] ["_law_box_here", "_law_size"] (defScope sTake) := ⟨rfl, rfl, rfl, by decide +kernel, rfl, by decide +kernel, by decide +kernel⟩
def spTake (k : Nat) : Sp := fun vs H Q _ => ∃ (b : Addr) (n c : Int), vs = [.ref b, .int n] ∧ BoxAt c H b ∧ 1 ≤ n ∧ n ≤ 10000000 ^ k ∧ n < 2 ^ 250 ∧ c + 2 ^ k ≤ 1000000000 ∧ 0 < k ∧
  ∀ (r : Int) (H' : Hp), 0 ≤ r → r < n → BoxAt (c + 2 ^ (k - 1)) H' b → Keep b H H' → Q (.int r) H'
theorem take_none {f : Addr} {fd : FuncData} : FnOk P w K mg base CX0 0 f fd ["_law_box_here", "_law_size"] (spTake 0) := by
  have no : ∀ vs H Q E, ¬ spTake 0 vs H Q E := fun vs H Q E h => by
    obtain ⟨b, n, c, _, _, _, _, _, _, h0, _⟩ := h
    omega
  exact ⟨fun vs H Q E h => absurd h (no vs H Q E), fun A outer s H args us vs Q E _ _ _ _ h => absurd h (no vs H Q E)⟩
theorem ok_take1 {f : Addr} {fd : FuncData} {k : Nat} (F : Fun K "_law_take" "_law_take" sTake f fd) (G : FnOk P w K mg base CX0 k f fd ["_law_box_here", "_law_size"] (spTake k)) (bf : Binds K fd ["_law_box_here", "_law_size"] []) (mf : mg "_law_take" = some (.ref f)) (B : Bl mg) :
    FnOk P w K mg base CX0 (k + 1) f fd ["_law_box_here", "_law_size"] (spTake (k + 1)) := by
  refine F.ok scTake (fun vs H Q E h => ?_) (fun cdv A outer s H vs Q E hr h => ?_)
  · obtain ⟨b, n, c, rfl, _⟩ := h
    rfl
  obtain ⟨b, n, c, rfl, hB, hn1, hnk, hn60, hc, _, q⟩ := h
  obtain ⟨x0, x1, x2, hb, h0, h1, h1', h2, h2'⟩ := hB
  have hp : (0 : Int) < 2 ^ k := Int.pow_pos (by decide)
  have hk2 : (2 : Int) ^ (k + 1) = 2 ^ k * 2 := Int.pow_succ 2 k
  refine ⟨_, pss_cons (ps_if (pt_cmpR op_gt (pe_ix ix_list (pv 0) pe_int (fun _ _ => rfl)) pe_int (nomark _))
      (pss_cons (ps_asg (pe_callB call_divmodW (by rfl) B.divmod boot_divmod (pa_cons (pe_ix ix_list (pv 0) pe_int (fun _ _ => rfl)) (pa_cons (pv 1) pa_nil)))
          (pg_tup (by rfl) (pgs_cons (pg_sub (pv 0) pe_int set_list) (pgs_cons (pg_name (i := 2) scTake.nd rfl (.inl rfl)) pgs_nil))))
        (pss_one (ps_ret (pv 2)))) pss_nil)
    (pss_cons (ps_if (pt_cmpR op_gt (pv 1) (pe_op op_pow pe_int pe_int) (nomark _))
      (pss_one (ps_ret (pe_op op_mod (pe_op op_add (pe_call G hr (by rfl) mf F.kp bf .nil pass0 (pa_cons (pv 0) (pa_cons (pe_op op_pow pe_int pe_int) pa_nil)))
          (pe_op op_mul (pe_op op_pow pe_int pe_int) (pe_call G hr (by rfl) mf F.kp bf .nil pass0 (pa_cons (pv 0) (pa_cons (pe_op op_add (pe_op op_fdiv (pe_op op_sub (pv 1) pe_int) (pe_op op_pow pe_int pe_int)) pe_int) pa_nil))))) (pv 1)))) pss_nil)
    (pss_cons (ps_asg (pe_op op_add (pe_ix ix_list (pv 0) pe_int (fun _ _ => rfl)) pe_int) (pg_sub (pv 0) pe_int set_list))
    (pss_cons (ps_set (i := 3) scTake.nd rfl (.inl rfl) (pe_op op_add pe_int (pe_op op_mul (pe_ix ix_list (pv 0) pe_int (fun _ _ => rfl)) (pe_ix ix_list (pv 0) pe_int (fun _ _ => rfl)))))
    (pss_cons (ps_set (i := 4) scTake.nd rfl (.inl rfl) (pe_op op_mod (pe_op op_mul (pe_op op_add (pe_ix ix_list (pv 0) pe_int (fun _ _ => rfl)) (pe_op op_mul pe_int (pe_ix ix_list (pv 0) pe_int (fun _ _ => rfl)))) (pv 3)) pe_int))
    (pss_cons (ps_set (i := 5) scTake.nd rfl (.inl rfl) (pe_op op_mod (pe_op op_add (pe_op op_mul (pv 4) (pe_op op_add (pe_op op_mod (pv 4) pe_int) pe_int)) (pe_ix ix_list (pv 0) pe_int (fun _ _ => rfl))) pe_int))
    (pss_one (ps_ret (pe_op op_mod (pe_op op_fdiv (pe_op op_mod (pe_op op_mul (pv 5) (pe_op op_add (pe_op op_mod (pv 5) pe_int) pe_int)) pe_int) pe_int) (pv 1))))))))), ?_⟩
  refine ⟨_, rfl, b, _, _, _, rfl, rfl, SqL.of hb, rfl, _, _, rfl, rfl, _, rfl, ite2 (fun cc => ?_) (fun cc => ?_)⟩
  · -- the great number's own digits
    refine ⟨_, rfl, b, _, _, _, rfl, rfl, SqL.of hb, rfl, _, rfl, _, _, rfl, divp_small (by omega) (by omega), fun p np => ?_⟩
    have nbp : b ≠ p := ne_of_none hb np
    refine ⟨p, _, rfl, .inl (.inl upd_same), rfl, _, _, rfl, _, rfl, b, _, _, 0, rfl, rfl, (by rw [upd_ne nbp]; exact hb), rfl, _, _, rfl, rfl, _, rfl, ?_⟩
    refine q _ _ (Int.emod_nonneg _ (by omega)) (Int.emod_lt_of_pos _ (by omega)) ⟨x0 / n, x1, x2, upd_same, Int.ediv_nonneg h0 (by omega), h1, h1', h2, by show x2 ≤ c + 2 ^ k; omega⟩ ?_
    exact Keep.trans (Keep.new np) Keep.upd
  · refine ⟨_, rfl, _, _, rfl, rfl, ⟨by decide, by decide, by decide⟩, _, _, rfl, rfl, _, rfl, ite2 (fun c2 => ?_) (fun c2 => ?_)⟩
    · -- two lesser draws
      have c3 : (10 : Int) ^ ((7 : Int).toNat) < n := of_decide_eq_true c2
      rw [e7] at c3
      have hk : 0 < k := by
        rcases Nat.eq_zero_or_pos k with z | z
        · subst z
          rw [show (10000000 : Int) ^ (0 + 1) = 10000000 by decide] at hnk
          omega
        · exact z
      obtain ⟨j, rfl⟩ : ∃ j, k = j + 1 := ⟨k - 1, by omega⟩
      have hj2 : (2 : Int) ^ (j + 1) = 2 ^ j * 2 := Int.pow_succ 2 j
      have hjp : (0 : Int) < 2 ^ j := Int.pow_pos (by decide)
      have h10 : (10000000 : Int) ≤ 10000000 ^ (j + 1) := by
        rw [Int.pow_succ]
        have : (0 : Int) < 10000000 ^ j := Int.pow_pos (by decide)
        omega
      have hdiv : (n - 1) / 10000000 + 1 ≤ 10000000 ^ (j + 1) := by
        rw [Int.pow_succ] at hnk
        have : n - 1 < 10000000 ^ (j + 1) * 10000000 := by omega
        have := Int.ediv_lt_of_lt_mul (by decide) this
        omega
      refine ⟨_, rfl, _, _, rfl, rfl, ⟨by decide, by decide, by decide⟩, b, _, c, rfl, ⟨x0, x1, x2, hb, h0, h1, h1', h2, h2'⟩, (by rw [e7]; decide), (by rw [e7]; exact h10), (by rw [e7]; decide), by omega, by omega, fun r1 H1 a1 a2 B1 k1 => ?_⟩
      refine ⟨_, _, rfl, rfl, ⟨by decide, by decide, by decide⟩, _, rfl, _, rfl, _, _, rfl, rfl, _, _, rfl, rfl, ⟨by decide, by decide, by decide⟩, _, _, rfl, rfl, (by rw [e7]; exact ⟨by decide, by decide⟩), _, _, rfl, rfl, ?_⟩
      rw [e7]
      refine ⟨b, _, c + 2 ^ j, rfl, B1, by omega, hdiv, by omega, by omega, by omega, fun r2 H2 a3 a4 B2 k2 => ?_⟩
      refine ⟨_, _, rfl, rfl, .inl ⟨by decide, by decide⟩, _, _, rfl, rfl, _, rfl, _, _, rfl, rfl, (by show (0 : Int) < n; omega), ?_⟩
      refine q _ _ (Int.emod_nonneg _ (by omega)) (Int.emod_lt_of_pos _ (by omega)) (B2.mono ?_) (k1.trans k2)
      show c + 2 ^ j + 2 ^ j ≤ c + 2 ^ (j + 1)
      omega
    · -- a turn of the wheel
      refine ⟨_, rfl, b, _, _, _, rfl, rfl, SqL.of hb, rfl, _, _, rfl, rfl, _, rfl, b, _, _, 2, rfl, rfl, hb, rfl, ?_⟩
      have hb2 : (upd H b (.lst [.int x0, .int x1, .int (x2 + 1)])) b = some (.lst [.int x0, .int x1, .int (x2 + 1)]) := upd_same
      refine ⟨_, rfl, b, _, _, _, rfl, rfl, SqL.of hb2, rfl, _, rfl, b, _, _, _, rfl, rfl, SqL.of hb2, rfl, _, _, rfl, rfl, .inl ⟨by omega, by omega⟩, _, _, rfl, rfl, ?_⟩
      refine ⟨_, rfl, b, _, _, _, rfl, rfl, SqL.of hb2, rfl, _, rfl, b, _, _, _, rfl, rfl, SqL.of hb2, rfl, _, _, rfl, rfl, .inl ⟨by omega, by omega⟩, _, _, rfl, rfl, _, rfl, _, _, rfl, rfl, .inl ⟨by omega, by omega⟩, _, _, rfl, rfl, (by show (0 : Int) < 2147483587; decide), ?_⟩
      generalize (x1 + 39373 * (x2 + 1)) * (69621 + (x2 + 1) * (x2 + 1)) = y
      have y1 := Int.emod_nonneg y (show (2147483587 : Int) ≠ 0 by decide)
      have y2 := Int.emod_lt_of_pos y (show (0 : Int) < 2147483587 by decide)
      refine ⟨_, rfl, _, rfl, _, _, rfl, rfl, (by show (0 : Int) < 30011; decide), _, _, rfl, rfl, _, _, rfl, rfl, .inl ⟨by omega, by omega⟩, _, rfl, b, _, _, _, rfl, rfl, SqL.of hb2, rfl, _, _, rfl, rfl, _, _, rfl, rfl, (by show (0 : Int) < 2147483563; decide), ?_⟩
      generalize (y % 2147483587 * (y % 2147483587 % 30011 + 5) + (x2 + 1)) = z
      have z1 := Int.emod_nonneg z (show (2147483563 : Int) ≠ 0 by decide)
      have z2 := Int.emod_lt_of_pos z (show (0 : Int) < 2147483563 by decide)
      refine ⟨_, rfl, _, rfl, _, _, rfl, rfl, (by show (0 : Int) < 1013; decide), _, _, rfl, rfl, _, _, rfl, rfl, .inl ⟨by omega, by omega⟩, _, _, rfl, rfl, (by show (0 : Int) < 998244353; decide), _, _, rfl, rfl, ⟨by decide, by decide⟩, _, rfl, _, _, rfl, rfl, (by show (0 : Int) < n; omega), ?_⟩
      refine q _ _ (Int.emod_nonneg _ (by omega)) (Int.emod_lt_of_pos _ (by omega)) ⟨x0, x1, x2 + 1, hb2, h0, h1, h1', by omega, by show x2 + 1 ≤ c + 2 ^ k; omega⟩ Keep.upd
theorem ok_take {f : Addr} {fd : FuncData} (F : Fun K "_law_take" "_law_take" sTake f fd) (bf : Binds K fd ["_law_box_here", "_law_size"] []) (mf : mg "_law_take" = some (.ref f)) (B : Bl mg) : ∀ k : Nat, FnOk P w K mg base CX0 k f fd ["_law_box_here", "_law_size"] (spTake k)
  | 0 => take_none
  | k + 1 => ok_take1 F (ok_take F bf mf B k) bf mf B
/-! ### _law_box -/
theorem scBox : FnScope ["_law_script", "_law_k", "_law_cell"] ["_law_script", "_law_k"] (defScope sBox) := ⟨rfl, rfl, rfl, by decide +kernel, rfl, by decide +kernel, by decide +kernel⟩
def spBox (K : PySem.W.Frag) : Sp := fun vs H Q _ => ∃ (a : Addr) (zs : List Int) (k : Int), vs = [.ref a, .int k] ∧ SqL K H a (zs.map V.int) ∧ 0 ≤ k ∧ k ≤ 1000 ∧
  ∀ (p : Addr) (H' : Hp), H p = none → Same H H' → BoxAt 0 H' p → Q (.ref p) H'
theorem b01 (b : Bool) : (-(2 ^ 64) < (if b = true then (1 : Int) else 0)) ∧ (if b = true then (1 : Int) else 0) < 2 ^ 64 := by cases b <;> decide
theorem b01n (b : Bool) : 0 ≤ (if b = true then (1 : Int) else 0) := by cases b <;> decide
theorem abs_nn (i : Int) : 0 ≤ (if i < 0 then -i else i) := by
  split <;> omega
theorem at_int {zs : List Int} {k : Int} (h0 : 0 ≤ k) (h : k < (zs.length : Int)) : ∃ v : Int, atI (zs.map V.int) k = some (.int v) ∧ zs[k.toNat]? = some v := by
  have hk : k.toNat < zs.length := by omega
  have ek : k = ((k.toNat : Nat) : Int) := by omega
  have q : atI (zs.map V.int) ((k.toNat : Nat) : Int) = some (.int zs[k.toNat]) := atI_nat (by rw [List.getElem?_map, List.getElem?_eq_getElem hk] <;> rfl)
  rw [← ek] at q
  exact ⟨zs[k.toNat], q, List.getElem?_eq_getElem hk⟩
theorem ok_box {f : Addr} {fd : FuncData} {k : Nat} (F : Fun K "_law_box" "_law_box" sBox f fd) (B : Bl mg) : FnOk P w K mg base CX0 (k + 1) f fd ["_law_script", "_law_k"] (spBox K) := by
  refine F.ok scBox (fun vs H Q E h => ?_) (fun cdv A outer s H vs Q E hr h => ?_)
  · obtain ⟨a, zs, k, rfl, _⟩ := h
    rfl
  obtain ⟨a, zs, k, rfl, hS, h0, h1, q⟩ := h
  refine ⟨_, pss_cons (ps_set (i := 2) scBox.nd rfl (.inl rfl) (pe_ifExp (pt_cmpR op_lt (pv 1) (pe_callB call_len_seq (by rfl) B.len PySem.boot_len (pa_cons (pv 0) pa_nil)) (nomark _)) (pe_ix ix_list (pv 0) (pv 1) (fun _ _ => rfl)) pe_int))
    (pss_one (ps_ret (pe_lst (pa_cons (pe_op op_mul (pe_callB call_abs (by rfl) B.abs boot_abs (pa_cons (pv 2) pa_nil)) (pe_callTy call_int1 (by rfl) B.int PyProof.Rows.boot_int (pa_cons (pe_cmpR op_ge (pe_callB call_abs (by rfl) B.abs boot_abs (pa_cons (pv 2) pa_nil)) (pe_op op_pow pe_int pe_int) (nomark _)) pa_nil)))
      (pa_cons (pe_op op_mod (pe_op op_mul (pe_op op_add (pe_op op_add (pe_op op_mod (pv 2) pe_int) (pe_op op_mul pe_int (pv 1))) pe_int) pe_int) pe_int) (pa_cons pe_int pa_nil)))))), ?_⟩
  refine ⟨_, rfl, _, rfl, a, _, rfl, .inl hS, _, _, rfl, rfl, _, rfl, ite2 (fun cc => ?_) (fun cc => ?_)⟩
  · have c1 : k < (((zs.map V.int).length : Nat) : Int) := of_decide_eq_true cc
    rw [List.length_map] at c1
    obtain ⟨v, hv, _⟩ := at_int h0 c1
    refine ⟨_, rfl, _, rfl, a, _, _, _, rfl, rfl, hS, hv, ?_⟩
    refine ⟨_, rfl, _, rfl, _, rfl, _, rfl, _, _, rfl, rfl, ⟨by decide, by decide, by decide⟩, _, _, rfl, rfl, .inr ⟨_, rfl, ?_⟩⟩
    refine ⟨_, _, rfl, rfl, .inr (b01 _), _, rfl, _, _, rfl, rfl, (by show (0 : Int) < 2147483629; decide), _, rfl, _, _, rfl, rfl, .inl ⟨by decide, by decide⟩, _, _, rfl, rfl, _, _, rfl, rfl, _, _, rfl, rfl, .inr ⟨by decide, by decide⟩, _, _, rfl, rfl, (by show (0 : Int) < 2147483647; decide), (by show 3 ≤ sizeLine; decide), fun p np => ?_⟩
    refine q p _ np (same_upd np) ⟨_, _, _, upd_same, Int.mul_nonneg (abs_nn v) (b01n _), Int.emod_nonneg _ (by decide), Int.emod_lt_of_pos _ (by decide), by decide, by decide⟩
  · refine ⟨_, rfl, _, rfl, _, rfl, _, rfl, _, _, rfl, rfl, ⟨by decide, by decide, by decide⟩, _, _, rfl, rfl, .inr ⟨_, rfl, ?_⟩⟩
    refine ⟨_, _, rfl, rfl, .inr (b01 _), _, rfl, _, _, rfl, rfl, (by show (0 : Int) < 2147483629; decide), _, rfl, _, _, rfl, rfl, .inl ⟨by decide, by decide⟩, _, _, rfl, rfl, _, _, rfl, rfl, _, _, rfl, rfl, .inr ⟨by decide, by decide⟩, _, _, rfl, rfl, (by show (0 : Int) < 2147483647; decide), (by show 3 ≤ sizeLine; decide), fun p np => ?_⟩
    refine q p _ np (same_upd np) ⟨_, _, _, upd_same, Int.mul_nonneg (abs_nn 0) (b01n _), Int.emod_nonneg _ (by decide), Int.emod_lt_of_pos _ (by decide), by decide, by decide⟩
theorem ty_lst {H : Hp} {a : Addr} {xs : List V} (h : SqL K H a xs) : TyX K H (.ref a) (.type "list") := by
  rcases h with (h | ⟨o, h⟩) | ⟨o, its, n, h1, h2, _⟩
  · exact .base (.lst h)
  · exact .base (.frz h)
  · exact .kList h1 h2
theorem ty_tup {H : Hp} {a : Addr} {xs : List V} (h : SqT K H a xs) : TyX K H (.ref a) (.type "tuple") := by
  rcases h with (h | ⟨o, h⟩) | ⟨o, its, n, h1, h2, _⟩
  · exact .base (.tup h)
  · exact .fTuple h
  · exact .kTuple h1 h2
theorem yesT {σ : L2.St} {H : Hp} {R S : Hp → Prop} (h : R H) : tYes σ H fun b H3 => if b = true then R H3 else S H3 := h
theorem repl_snoc {α : Type} (i : Nat) (x : α) : List.replicate i x ++ [x] = List.replicate (i + 1) x := List.replicate_succ'.symm
theorem all_repl (n : Nat) : (List.replicate n true).all id = true := by
  rw [List.all_eq_true]
  intro x hx
  rw [List.eq_of_mem_replicate hx]
  rfl
end
end GZ
namespace GM
theorem pow_pos' (n : Nat) : (0 : Int) < 2 ^ n := Int.pow_pos (by decide)
theorem pow_s (n : Nat) : (2 : Int) ^ (n + 1) = 2 ^ n * 2 := Int.pow_succ 2 n
theorem pow_le' {m n : Nat} (h : m ≤ n) : (2 : Int) ^ m ≤ 2 ^ n := by
  induction n with
  | zero =>
    have : m = 0 := by omega
    rw [this]
    exact Int.le_refl _
  | succ n ih =>
    by_cases e : m = n + 1
    · rw [e]
      exact Int.le_refl _
    · have := ih (by omega)
      have := pow_s n
      have := pow_pos' n
      omega
theorem pow_add' (m n : Nat) : (2 : Int) ^ (m + n) = 2 ^ m * 2 ^ n := Int.pow_add 2 m n
theorem bits_pow {x : Nat} {e : Nat} (h : x < 2 ^ e) : PySem.Builtin.Int.intBits (x : Int) ≤ e := PyProof.Rows.intBits_le (by rw [Int.natAbs_natCast]; exact h)
theorem bits_le_pow {x : Nat} {e : Nat} (h : 2 ^ e ≤ x) : e + 1 ≤ PySem.Builtin.Int.intBits (x : Int) := by
  have hx : x ≠ 0 := by
    have := Nat.two_pow_pos e
    omega
  unfold PySem.Builtin.Int.intBits
  rw [if_neg (by simpa using hx), Int.natAbs_natCast]
  have := (Nat.le_log2 hx).mpr h
  omega
theorem bits_unique {x e : Nat} (h1 : 2 ^ e ≤ x) (h2 : x < 2 ^ (e + 1)) : PySem.Builtin.Int.intBits (x : Int) = e + 1 := by
  have := bits_pow h2
  have := bits_le_pow h1
  omega
theorem bits_ex {x : Nat} (h : 0 < x) : ∃ e, 2 ^ e ≤ x ∧ x < 2 ^ (e + 1) := ⟨x.log2, Nat.log2_self_le (by omega), Nat.lt_log2_self⟩
theorem bits_half {x : Nat} (h : 0 < x) : PySem.Builtin.Int.intBits (x : Int) = PySem.Builtin.Int.intBits ((x / 2 : Nat) : Int) + 1 := by
  obtain ⟨e, h1, h2⟩ := bits_ex h
  rw [bits_unique h1 h2]
  cases e with
  | zero =>
    have : x = 1 := by
      simp at h1 h2
      omega
    rw [this]
    rfl
  | succ e =>
    rw [bits_unique (x := x / 2) (e := e)]
    · rw [Nat.pow_succ] at h1
      omega
    · rw [Nat.pow_succ] at h2
      omega
theorem bits_double {x m : Nat} (h : 0 < x) (hm : m ≤ 1) : PySem.Builtin.Int.intBits ((2 * x + m : Nat) : Int) = PySem.Builtin.Int.intBits (x : Int) + 1 := by
  rw [bits_half (x := 2 * x + m) (by omega), show (2 * x + m) / 2 = x by omega]
theorem shr_lt {x : Int} {a b : Nat} (h0 : 0 ≤ x) (h : x < 2 ^ (a + b)) : 0 ≤ x / 2 ^ b ∧ x / 2 ^ b < 2 ^ a := by
  have hb := pow_pos' b
  refine ⟨Int.ediv_nonneg h0 (by omega), ?_⟩
  rw [pow_add'] at h
  exact Int.ediv_lt_of_lt_mul hb h
end GM
namespace GM
/-! ### words: a sign, a scale of m bits, a tail of t bits -/
def bit (a : Int) (n : Nat) : Int := a / 2 ^ n % 2
def blr (a : Int) : Nat → List Int
  | 0 => []
  | n + 1 => bit a n :: blr a n
def wv : List Int → Int
  | [] => 0
  | d :: r => d * 2 ^ r.length + wv r
theorem blr_len (a : Int) : ∀ n, (blr a n).length = n
  | 0 => rfl
  | n + 1 => by
    show (blr a n).length + 1 = n + 1
    rw [blr_len a n]
theorem div_div (w : Int) (t m : Nat) : w / 2 ^ t / 2 ^ m = w / 2 ^ (t + m) := by
  rw [pow_add', Int.ediv_ediv_of_nonneg (Int.le_of_lt (pow_pos' t))]
theorem bit_div (w : Int) (t m : Nat) : bit (w / 2 ^ t) m = bit w (m + t) := by
  unfold bit
  rw [div_div, Nat.add_comm t m]
theorem blr_take (w : Int) (t : Nat) : ∀ m, (blr w (m + t)).take m = blr (w / 2 ^ t) m
  | 0 => rfl
  | m + 1 => by
    show (blr w ((m + 1) + t)).take (m + 1) = bit (w / 2 ^ t) m :: blr (w / 2 ^ t) m
    rw [show m + 1 + t = (m + t) + 1 by omega]
    show bit w (m + t) :: (blr w (m + t)).take m = _
    rw [blr_take w t m, bit_div]
theorem blr_drop (w : Int) (t : Nat) : ∀ m, (blr w (m + t)).drop m = blr w t
  | 0 => by rw [Nat.zero_add]; rfl
  | m + 1 => by
    rw [show m + 1 + t = (m + t) + 1 by omega]
    show (blr w (m + t)).drop m = _
    exact blr_drop w t m
theorem mod_step (a : Int) (n : Nat) : bit a n * 2 ^ n + a % 2 ^ n = a % 2 ^ (n + 1) := by
  unfold bit
  have hp := pow_pos' n
  have e1 := Int.emod_add_mul_ediv a (2 ^ n)
  have e2 := Int.emod_add_mul_ediv (a / 2 ^ n) 2
  have h1 := Int.emod_nonneg a (show (2 : Int) ^ n ≠ 0 by omega)
  have h2 := Int.emod_lt_of_pos a hp
  have e3 : 2 ^ n * (a / 2 ^ n) = a / 2 ^ n % 2 * 2 ^ n + a / 2 ^ n / 2 * (2 ^ n * 2) := by
    conv => lhs; rw [← e2]
    rw [Int.mul_add, Int.mul_comm (2 ^ n) (a / 2 ^ n % 2), ← Int.mul_assoc, Int.mul_comm (2 ^ n * 2) _]
  have key : (a / 2 ^ n % 2 * 2 ^ n + a % 2 ^ n) + a / 2 ^ n / 2 * 2 ^ (n + 1) = a := by
    rw [pow_s]
    omega
  have hb : 0 ≤ a / 2 ^ n % 2 * 2 ^ n + a % 2 ^ n ∧ a / 2 ^ n % 2 * 2 ^ n + a % 2 ^ n < 2 ^ (n + 1) := by
    rw [pow_s]
    have : a / 2 ^ n % 2 = 0 ∨ a / 2 ^ n % 2 = 1 := by omega
    rcases this with z | z <;> rw [z] <;> omega
  have em := Int.add_mul_emod_self_right (a / 2 ^ n % 2 * 2 ^ n + a % 2 ^ n) (a / 2 ^ n / 2) (2 ^ (n + 1))
  rw [key, Int.emod_eq_of_lt hb.1 hb.2] at em
  exact em.symm
theorem wv_blr (a : Int) : ∀ n, wv (blr a n) = a % 2 ^ n
  | 0 => by
    show (0 : Int) = a % 1
    omega
  | n + 1 => by
    show bit a n * 2 ^ (blr a n).length + wv (blr a n) = _
    rw [blr_len, wv_blr a n, ← mod_step a n]
theorem fold2 : ∀ (ds : List Int) (w : Int), ds.foldl (fun a b => a * 2 + b) w = w * 2 ^ ds.length + wv ds
  | [], w => by
    show w = w * 2 ^ 0 + 0
    rw [Int.pow_zero]
    omega
  | d :: r, w => by
    show r.foldl (fun a b => a * 2 + b) (w * 2 + d) = w * 2 ^ (r.length + 1) + (d * 2 ^ r.length + wv r)
    rw [fold2 r, pow_s, Int.add_mul, Int.mul_assoc, Int.mul_comm 2 (2 ^ r.length)]
    omega
theorem wv_ones : ∀ k, wv (List.replicate k 1) = 2 ^ k - 1
  | 0 => rfl
  | k + 1 => by
    rw [List.replicate_succ]
    show 1 * 2 ^ (List.replicate k (1 : Int)).length + wv (List.replicate k 1) = _
    rw [List.length_replicate, wv_ones k, pow_s]
    omega
/-- sign, scale, tail of a word -/
def sgn (m t : Nat) (w : Int) : Int := w / 2 ^ (m + t) % 2
def scl (m t : Nat) (w : Int) : Int := w / 2 ^ t % 2 ^ m
def tlp (t : Nat) (w : Int) : Int := w % 2 ^ t
theorem scl_tlp (m t : Nat) (w : Int) : scl m t w * 2 ^ t + tlp t w = w % 2 ^ (m + t) := by
  induction m with
  | zero =>
    unfold scl tlp
    rw [Int.pow_zero, Int.emod_one, Int.zero_mul, Int.zero_add, Nat.zero_add]
  | succ m ih =>
    have e := mod_step (w / 2 ^ t) m
    have e2 := mod_step w (m + t)
    rw [bit_div] at e
    unfold scl at ih ⊢
    rw [← e, Int.add_mul, show m + 1 + t = (m + t) + 1 by omega, ← e2, ← ih, Int.mul_assoc, ← pow_add']
    omega
theorem sgn_01 {m t : Nat} {w : Int} : sgn m t w = 0 ∨ sgn m t w = 1 := by
  unfold sgn
  omega
theorem word_eq {m t : Nat} {w : Int} (h0 : 0 ≤ w) (h1 : w < 2 ^ (1 + m + t)) : sgn m t w * 2 ^ (m + t) + w % 2 ^ (m + t) = w := by
  have e := mod_step w (m + t)
  rw [show m + t + 1 = 1 + m + t by omega, Int.emod_eq_of_lt h0 h1] at e
  exact e
theorem scl_nn (m t : Nat) (w : Int) : 0 ≤ scl m t w ∧ scl m t w < 2 ^ m := ⟨Int.emod_nonneg _ (by have := pow_pos' m; omega), Int.emod_lt_of_pos _ (pow_pos' m)⟩
theorem tlp_nn (t : Nat) (w : Int) : 0 ≤ tlp t w ∧ tlp t w < 2 ^ t := ⟨Int.emod_nonneg _ (by have := pow_pos' t; omega), Int.emod_lt_of_pos _ (pow_pos' t)⟩
/-- with the other sign -/
def trn (m t : Nat) (w : Int) : Int := (1 - sgn m t w) * 2 ^ (m + t) + w % 2 ^ (m + t)
theorem mk_parts {m t : Nat} {s r : Int} (hs : s = 0 ∨ s = 1) (h0 : 0 ≤ r) (h1 : r < 2 ^ (m + t)) : 0 ≤ s * 2 ^ (m + t) + r ∧ s * 2 ^ (m + t) + r < 2 ^ (1 + m + t) ∧ sgn m t (s * 2 ^ (m + t) + r) = s ∧ (s * 2 ^ (m + t) + r) % 2 ^ (m + t) = r := by
  have hp := pow_pos' (m + t)
  have e : (2 : Int) ^ (1 + m + t) = 2 ^ (m + t) * 2 := by rw [← pow_s]; congr 1; omega
  have em : (s * 2 ^ (m + t) + r) % 2 ^ (m + t) = r := by
    rw [Int.add_comm, Int.add_mul_emod_self_right, Int.emod_eq_of_lt h0 h1]
  have ed : (s * 2 ^ (m + t) + r) / 2 ^ (m + t) = s := by
    rw [Int.add_comm, Int.add_mul_ediv_right _ _ (by omega), Int.ediv_eq_zero_of_lt h0 h1, Int.zero_add]
  refine ⟨?_, ?_, ?_, em⟩
  · rcases hs with z | z <;> subst z <;> omega
  · rw [e]
    rcases hs with z | z <;> subst z <;> omega
  · unfold sgn
    rw [ed]
    omega
theorem trn_trn {m t : Nat} {w : Int} (h0 : 0 ≤ w) (h1 : w < 2 ^ (1 + m + t)) : trn m t (trn m t w) = w ∧ 0 ≤ trn m t w ∧ trn m t w < 2 ^ (1 + m + t) := by
  have hp := pow_pos' (m + t)
  have hs : 1 - sgn m t w = 0 ∨ 1 - sgn m t w = 1 := by
    have := sgn_01 (m := m) (t := t) (w := w)
    omega
  obtain ⟨a, b, c, d⟩ := mk_parts (m := m) (t := t) hs (Int.emod_nonneg w (show (2 : Int) ^ (m + t) ≠ 0 by omega)) (Int.emod_lt_of_pos w hp)
  refine ⟨?_, a, b⟩
  show (1 - sgn m t (trn m t w)) * 2 ^ (m + t) + trn m t w % 2 ^ (m + t) = w
  rw [show sgn m t (trn m t w) = 1 - sgn m t w from c, show trn m t w % 2 ^ (m + t) = w % 2 ^ (m + t) from d, show 1 - (1 - sgn m t w) = sgn m t w by omega]
  exact word_eq h0 h1
end GM
namespace GZ
open PySem PySem.Spec PyProof.Rows L2
end GZ
namespace GZ
open PySem PySem.Spec PyProof.Rows L2
def pkz {α : Type} : α → List α → Nat → α
  | a, _, 0 => a
  | a, _, 1 => a
  | a, [], _ => a
  | _, b :: xs, n + 2 => pkz b xs (n + 1)
theorem val0 (t : Tok) : Vals [V.int 0] [Value.int 0 t] := .cons ⟨_, rfl⟩ .nil
/-! ### keyword-only parameters -/
theorem kbn_of {K : PySem.W.Frag} {x qual : Str} {st : Stmt} {D : Addr} {an : Option Addr} {doc pm cdv ct : Value} {ps ks : List Str} {n : Nat} {ml : List (Str × Value)} {g : List Value → List Value → List Value} {gV : List V → List V → List V} (hml : ∀ q ∈ ml, PySem.W.nsIn K D q.1 = some (some q.2))
    (h : ∀ us ws : List Value, us.length = n → ws.length = ks.length → KwChain D ml (bindArgs (PySem.W.fnOf x qual (defArgs st) (defBody st) (defScope st) .none (.ref D) doc pm an cdv ct) ⟨us, ks.zip ws⟩) (ps.zip (g us ws)))
    (rel : ∀ {vs : List V} {us : List Value} {zs : List V} {ws : List Value}, vs.length = n → zs.length = ks.length → Vals vs us → Vals zs ws → Vals (gV vs zs) (g us ws)) :
    ∀ (s : Shared) (us ws : List Value), K.In s.heap → us.length = n → ws.length = ks.length → BindsTo s (PySem.W.fnOf x qual (defArgs st) (defBody st) (defScope st) .none (.ref D) doc pm an cdv ct) ⟨us, ks.zip ws⟩ (ps.zip (g us ws)) :=
  fun s us ws X l1 l2 => BindsTo.of_looks fun M => KwChain.looks X hml (h us ws l1 l2)
theorem bnd_of {K : PySem.W.Frag} {x qual : Str} {st : Stmt} {D : Addr} {an : Option Addr} {doc pm cdv ct : Value} {ps : List Str} {ml : List (Str × Value)} {ds : List Value} (hml : ∀ q ∈ ml, PySem.W.nsIn K D q.1 = some (some q.2))
    (h : ∀ us : List Value, us.length + ds.length = ps.length → KwChain D ml (bindArgs (PySem.W.fnOf x qual (defArgs st) (defBody st) (defScope st) .none (.ref D) doc pm an cdv ct) ⟨us, []⟩) (ps.zip (us ++ ds))) :
    Binds K (PySem.W.fnOf x qual (defArgs st) (defBody st) (defScope st) .none (.ref D) doc pm an cdv ct) ps ds := fun s us X hl => by
  rw [List.length_append] at hl
  exact BindsTo.of_looks fun M => KwChain.looks X hml (h us hl)
/-! ### a def whose defaults aren't asked for -/
structure FunA (K : PySem.W.Frag) (x qual : Str) (st : Stmt) (f : Addr) (fd : FuncData) : Prop where
  ex : ∃ (oc : Value) (od : Option Addr) (dV kV doc pm : Value) (an : Option Addr) (cdv ct : Value) (osl : Array (Option Value)),
    fd = PySem.W.fnOf x qual (defArgs st) (defBody st) (defScope st) dV kV doc pm an cdv ct ∧ K.lookup f = some ⟨oc, od, .func fd, osl⟩ ∧ PySem.W.codeIn K cdv qual = true
  kp : PySem.W.keepIn K (.ref f) = true
theorem FunA.ok {P : Program} {w : World} {K : PySem.W.Frag} {mg : Str → Option Value} {base : Heap} {x qual : Str} {st : Stmt} {f : Addr} {fd : FuncData} {N ps : List Str} {k : Nat} {sp : Sp} (F : FunA K x qual st f fd) (S : FnScope N ps (defScope st)) (len : ∀ vs H Q E, sp vs H Q E → vs.length = ps.length)
    (hbody : ∀ (cdv : Value) (A : Around) (outer : List Env) (s : Shared) (H : Hp) (vs : List V) (Q : VK) (E : XK), Room k (A.deeper (envOfC qual (defScope st) s.heap.objs.size f cdv)) → sp vs H Q E →
      ∃ t, PSs (cxOf CX0 P w K mg base N qual (defScope st) f cdv A outer s H E).nox (defBody st) t ∧ t { nx := fun _ H' => Q .non H', rt := Q } (start N vs) H) : FnOk P w K mg base CX0 (k + 1) f fd ps sp := by
  obtain ⟨oc, od, dV, kV, doc, pm, an, cdv, ct, osl, rfl, lk, hcd⟩ := F.ex
  refine fn_of lk hcd S len fun A outer s H vs Q E hr hsp => ?_
  obtain ⟨t, h, q⟩ := hbody cdv A outer s H vs Q E hr hsp
  exact ⟨t, h.nox, q⟩
theorem bindsA {K : PySem.W.Frag} {x qual : Str} {st : Stmt} {f T : Addr} {oc oT vT : Value} {od an dT : Option Addr} {osl sT : Array (Option Value)} {kV doc pm cdv ct : Value} {nT : Nat} {ps : List Str} (l : K.lookup f = some ⟨oc, od, .func (PySem.W.fnOf x qual (defArgs st) (defBody st) (defScope st) (.ref T) kV doc pm an cdv ct), osl⟩)
    (lT : K.lookup T = some ⟨oT, dT, .seq #[vT] nT, sT⟩)
    (h : ∀ (kV doc pm : Value) (an : Option Addr) (cdv ct : Value) (us : List Value), us.length = ps.length → ∃ k, bindArgs (PySem.W.fnOf x qual (defArgs st) (defBody st) (defScope st) (.ref T) kV doc pm an cdv ct) ⟨us, []⟩ = seqItems? (.ref T) >>= k ∧ k (some #[vT]) = pure (ps.zip us)) : Binds K (PySem.W.fnOf x qual (defArgs st) (defBody st) (defScope st) (.ref T) kV doc pm an cdv ct) ps [] := by
  intro s us X hl
  rw [List.append_nil] at hl ⊢
  obtain ⟨k, e1, e2⟩ := h kV doc pm an cdv ct us hl
  refine BindsTo.of_looks fun M => ?_
  rw [e1]
  exact looks_items X lT rfl (.of_pure e2)
theorem bindsAD {K : PySem.W.Frag} {x qual : Str} {st : Stmt} {f T : Addr} {oc oT vT : Value} {od an dT : Option Addr} {osl sT : Array (Option Value)} {kV doc pm cdv ct : Value} {nT : Nat} {ps : List Str} (l : K.lookup f = some ⟨oc, od, .func (PySem.W.fnOf x qual (defArgs st) (defBody st) (defScope st) (.ref T) kV doc pm an cdv ct), osl⟩)
    (lT : K.lookup T = some ⟨oT, dT, .seq #[vT] nT, sT⟩)
    (h : ∀ (kV doc pm : Value) (an : Option Addr) (cdv ct : Value) (us : List Value), us.length + 1 = ps.length → ∃ k, bindArgs (PySem.W.fnOf x qual (defArgs st) (defBody st) (defScope st) (.ref T) kV doc pm an cdv ct) ⟨us, []⟩ = seqItems? (.ref T) >>= k ∧ k (some #[vT]) = pure (ps.zip (us ++ [vT]))) : Binds K (PySem.W.fnOf x qual (defArgs st) (defBody st) (defScope st) (.ref T) kV doc pm an cdv ct) ps [vT] := by
  intro s us X hl
  rw [List.length_append] at hl
  obtain ⟨k, e1, e2⟩ := h kV doc pm an cdv ct us hl
  refine BindsTo.of_looks fun M => ?_
  rw [e1]
  exact looks_items X lT rfl (.of_pure e2)
theorem kbindsA {x1 : Str} {K : PySem.W.Frag} {x qual : Str} {st : Stmt} {f T : Addr} {oc oT vT : Value} {od an dT : Option Addr} {osl sT : Array (Option Value)} {kV doc pm cdv ct : Value} {nT : Nat} {ps : List Str} (l : K.lookup f = some ⟨oc, od, .func (PySem.W.fnOf x qual (defArgs st) (defBody st) (defScope st) (.ref T) kV doc pm an cdv ct), osl⟩)
    (lT : K.lookup T = some ⟨oT, dT, .seq #[vT] nT, sT⟩)
    (h : ∀ (kV doc pm : Value) (an : Option Addr) (cdv ct u w : Value), ∃ k, bindArgs (PySem.W.fnOf x qual (defArgs st) (defBody st) (defScope st) (.ref T) kV doc pm an cdv ct) ⟨[u], [(x1, w)]⟩ = seqItems? (.ref T) >>= k ∧ k (some #[vT]) = pure (ps.zip [u, w])) : KBn K (PySem.W.fnOf x qual (defArgs st) (defBody st) (defScope st) (.ref T) kV doc pm an cdv ct) ps 1 [x1] (fun us ws => us ++ ws) (fun us ws => us ++ ws) := by
  refine ⟨fun s us ws X l1 l2 => ?_, fun r1 r2 => r1.append r2⟩
  match us, ws, l1, l2 with
  | [u], [w], _, _ =>
    obtain ⟨k, e1, e2⟩ := h kV doc pm an cdv ct u w
    refine BindsTo.of_looks fun M => ?_
    show PySem.W.Looks M s.heap (bindArgs (PySem.W.fnOf x qual (defArgs st) (defBody st) (defScope st) (.ref T) kV doc pm an cdv ct) ⟨[u], [(x1, w)]⟩) (ps.zip [u, w])
    rw [e1]
    exact looks_items X lT rfl (.of_pure e2)
theorem funA_mk {K : PySem.W.Frag} {x qual : Str} {st : Stmt} {f : Addr} {oc : Value} {od an : Option Addr} {osl : Array (Option Value)} {dV kV doc pm cdv ct : Value} (l : K.lookup f = some ⟨oc, od, .func (PySem.W.fnOf x qual (defArgs st) (defBody st) (defScope st) dV kV doc pm an cdv ct), osl⟩)
    (c : PySem.W.codeIn K cdv qual = true) (k : PySem.W.keepIn K (.ref f) = true) : FunA K x qual st f (PySem.W.fnOf x qual (defArgs st) (defBody st) (defScope st) dV kV doc pm an cdv ct) := ⟨⟨oc, od, dV, kV, doc, pm, an, cdv, ct, osl, rfl, l, c⟩, k⟩
section
variable {P : Program} {w : World} {K : PySem.W.Frag} {mg : Str → Option Value} {base : Heap}
theorem cutG {Cd A : Int → Int → Hp → Prop} {B : Prop} (h1 : ∀ n p H, Cd n p H → A n p H) (h2 : (∀ n p H, Cd n p H → A n p H) → B) : B := h2 h1
theorem cutA {Cd A : Addr → Hp → Prop} {B : Prop} (h1 : ∀ a H, Cd a H → A a H) (h2 : (∀ a H, Cd a H → A a H) → B) : B := h2 h1
theorem cutH {H : Hp} {A : Hp → Prop} {B : Prop} (h1 : ∀ H', Same H H' → A H') (h2 : (∀ H', Same H H' → A H') → B) : B := h2 h1
theorem cutP {A B : Prop} (h1 : A) (h2 : A → B) : B := h2 h1
theorem gB {i : Nat} {v u : Bool} {σ : L2.St} {H : Hp} {D : L2.St → Hp → Prop} (e : v = u) (h : gName i (V.bl u) σ H D) : gName i (V.bl v) σ H D := e ▸ h
theorem gI {i : Nat} {v u : Int} {σ : L2.St} {H : Hp} {D : L2.St → Hp → Prop} (e : v = u) (h : gName i (V.int u) σ H D) : gName i (V.int v) σ H D := e ▸ h
theorem dvi (a b : Int) : decide (V.int a = V.int b) = decide (a = b) := by
  by_cases c : a = b
  · rw [decide_eq_true c, decide_eq_true (congrArg V.int c)]
  · rw [decide_eq_false c, decide_eq_false (fun z => c (V.int.inj z))]
theorem dvs (a b : Str) : decide (V.str a = V.str b) = decide (a = b) := by
  by_cases c : a = b
  · rw [decide_eq_true c, decide_eq_true (congrArg V.str c)]
  · rw [decide_eq_false c, decide_eq_false (fun z => c (V.str.inj z))]
theorem bx1 {c : Int} {H : Hp} {b : Addr} (h : BoxAt (c + 2 ^ (1 - 1)) H b) : BoxAt (c + 1) H b := h
theorem Keep.none {b p : Addr} {H H' : Hp} (k : Keep b H H') (n : p ≠ b) (h : H' p = none) : H p = none := by
  cases q : H p with
  | none => rfl
  | some o =>
    rw [k p o q n] at h
    cases h
theorem dp_ints {H : Hp} : ∀ ds : List Int, DpAll K H (ds.map V.int) (ds.map PyData.int)
  | [] => .nil
  | d :: ds => .cons (.int d) (dp_ints ds)
theorem eqv_ints (ds : List Int) : PyData.eqv (.list (ds.map PyData.int)) (.list (ds.map PyData.int)) = true := PySem.SeqAt.eqv_refl _ (PySem.SeqAt.canLay_of_shaped (PySem.W.shaped_ints ds))
/-! ### nets -/
def KeepS (S : List Addr) (H H' : Hp) : Prop := (∀ y o, H y = some o → y ∉ S → H' y = some o) ∧ ∀ y, H y ≠ none → H' y ≠ none
theorem KeepS.refl (S : List Addr) (H : Hp) : KeepS S H H := ⟨fun _ _ e _ => e, fun _ e => e⟩
theorem KeepS.trans {S : List Addr} {H H1 H2 : Hp} (a : KeepS S H H1) (b : KeepS S H1 H2) : KeepS S H H2 := ⟨fun y o e n => b.1 y o (a.1 y o e n) n, fun y e => b.2 y (a.2 y e)⟩
theorem some_ne {H : Hp} {y : Addr} {o : HO} (e : H y = some o) : H y ≠ none := fun z => by rw [z] at e; cases e
theorem KeepS.ofSame {S : List Addr} {H H1 : Hp} (s : Same H H1) : KeepS S H H1 := ⟨fun y o e _ => s y o e, fun y e => by
  cases q : H y with
  | none => exact absurd q e
  | some o => exact some_ne (s y o q)⟩
theorem KeepS.mono {S T : List Addr} {H H1 : Hp} (h : ∀ y ∈ S, y ∈ T) (a : KeepS S H H1) : KeepS T H H1 := ⟨fun y o e n => a.1 y o e (fun m => n (h y m)), a.2⟩
theorem KeepS.ofKeep {b : Addr} {S : List Addr} {H H1 : Hp} (k : Keep b H H1) (m : b ∈ S) (hb : H1 b ≠ none) : KeepS S H H1 := ⟨fun y o e n => k y o e (fun z => n (by rw [z]; exact m)), fun y e => by
  by_cases c : y = b
  · rw [c]
    exact hb
  · cases q : H y with
    | none => exact absurd q e
    | some o => exact some_ne (k y o q c)⟩
theorem KeepS.upd {S : List Addr} {H : Hp} {a : Addr} {o : HO} (m : a ∈ S) : KeepS S H (upd H a o) := ⟨fun y u e n => by rw [upd_ne (fun z => n (by rw [z]; exact m))]; exact e, fun y e => by
  by_cases c : y = a
  · rw [c, upd_same]
    exact fun z => by cases z
  · rw [upd_ne c]
    exact e⟩
theorem KeepS.new {S : List Addr} {H : Hp} {a : Addr} {o : HO} (n : H a = none) : KeepS S H (L2.upd H a o) := .ofSame (same_upd n)
theorem KeepS.keep {b : Addr} {H H1 : Hp} (k : KeepS [b] H H1) : Keep b H H1 := fun y o e n => k.1 y o e (by simp only [List.mem_singleton]; exact n)
theorem KeepS.same {H H1 : Hp} (k : KeepS [] H H1) : Same H H1 := fun y o e => k.1 y o e (fun z => nomatch z)
theorem KeepS.seq {K : PySem.W.Frag} {S : List Addr} {a : Addr} {H H' : Hp} {xs : List V} (e : KeepS S H H') (n : a ∉ S) (h : SqL K H a xs) : SqL K H' a xs := by
  rcases h with (h | ⟨o, h⟩) | h
  · exact .inl (.inl (e.1 _ _ h n))
  · exact .inl (.inr ⟨o, e.1 _ _ h n⟩)
  · exact .inr h
theorem KeepS.seqT {K : PySem.W.Frag} {S : List Addr} {a : Addr} {H H' : Hp} {xs : List V} (e : KeepS S H H') (n : a ∉ S) (h : SqT K H a xs) : SqT K H' a xs := by
  rcases h with (h | ⟨o, h⟩) | h
  · exact .inl (.inl (e.1 _ _ h n))
  · exact .inl (.inr ⟨o, e.1 _ _ h n⟩)
  · exact .inr h
theorem BoxAt.keepS {c : Int} {S : List Addr} {H H' : Hp} {b : Addr} (h : BoxAt c H b) (k : KeepS S H H') (n : b ∉ S) : BoxAt c H' b := by
  obtain ⟨x, y, z, e, r⟩ := h
  exact ⟨x, y, z, k.1 _ _ e n, r⟩
inductive Gt where
  | w (k : Str) (ws : List Nat)
  | fi (b : Nat)
def nts (ws : List Nat) : List V := ws.map fun (a : Nat) => V.int (a : Int)
theorem nts_at {ws : List Nat} {i : Nat} {x : V} (h : (nts ws)[i]? = some x) : ∃ v, ws[i]? = some v ∧ x = .int (v : Int) := by
  unfold nts at h
  rw [List.getElem?_map] at h
  cases q : ws[i]? with
  | none => rw [q] at h; cases h
  | some v => rw [q] at h; exact ⟨v, rfl, (Option.some.inj h).symm⟩
theorem nts_len (ws : List Nat) : (nts ws).length = ws.length := by
  unfold nts
  rw [List.length_map]
def Gt.row : Gt → List V
  | .w k ws => .str k :: nts ws
  | .fi b => [.str "fixed", .int (b : Int)]
def Gt.ok (n : Nat) : Gt → Prop
  | .w k ws => (((k = "both" ∨ k = "either" ∨ k = "unlike") ∧ ws.length = 2) ∨ (k = "other" ∧ ws.length = 1)) ∧ ∀ a ∈ ws, a < n
  | .fi b => b ≤ 1
def mx (l : List Int) : Int := l.foldl (fun m x => if x > m then x else m) 0
theorem mx_fold : ∀ (l : List Int) (a : Int), a ≤ l.foldl (fun m x => if x > m then x else m) a ∧ (∀ y ∈ l, y ≤ l.foldl (fun m x => if x > m then x else m) a) ∧ (l.foldl (fun m x => if x > m then x else m) a = a ∨ l.foldl (fun m x => if x > m then x else m) a ∈ l)
  | [], a => ⟨Int.le_refl _, (fun _ z => nomatch z), .inl rfl⟩
  | x :: l, a => by
    obtain ⟨h1, h2, h3⟩ := mx_fold l (if x > a then x else a)
    have e : a ≤ (if x > a then x else a) ∧ x ≤ (if x > a then x else a) ∧ ((if x > a then x else a) = a ∨ (if x > a then x else a) = x) := by split <;> omega
    rw [List.foldl_cons]
    refine ⟨by omega, fun y hy => ?_, ?_⟩
    · rcases List.mem_cons.mp hy with z | z
      · rw [z]
        omega
      · exact h2 y z
    · rcases h3 with z | z
      · rcases e.2.2 with u | u
        · exact .inl (z.trans u)
        · exact .inr (List.mem_cons.mpr (.inl (z.trans u)))
      · exact .inr (List.mem_cons.mpr (.inr z))
theorem mx_is {l : List Int} {m : Int} (h : m ∈ l) (hm : ∀ y ∈ l, y ≤ m) (h0 : ∀ y ∈ l, 0 ≤ y) : mx l = m := by
  obtain ⟨h1, h2, h3⟩ := mx_fold l 0
  have a := h2 m h
  have b := h0 m h
  unfold mx
  rcases h3 with z | z
  · omega
  · have := hm _ z
    omega
theorem mx_nn (l : List Int) : 0 ≤ mx l := (mx_fold l 0).1
def dep (ds : List Int) : Gt → Int
  | .w _ ws => 1 + mx (ws.map fun a => ds.getD a 0)
  | .fi _ => 0
theorem dep_nn (ds : List Int) (g : Gt) : 0 ≤ dep ds g := by
  cases g with
  | w k ws =>
    have := mx_nn (ws.map fun a => ds.getD a 0)
    show 0 ≤ 1 + mx (ws.map fun a => ds.getD a 0)
    omega
  | fi b => exact Int.le_refl _
def dps (m : Nat) (gs : List Gt) : List Int := gs.foldl (fun ds g => ds ++ [dep ds g]) (List.replicate m 0)
theorem dps_snoc (m : Nat) (gs : List Gt) (g : Gt) : dps m (gs ++ [g]) = dps m gs ++ [dep (dps m gs) g] := by
  unfold dps
  rw [List.foldl_append]
  rfl
theorem dps_fold : ∀ (gs : List Gt) (ds : List Int), (∀ d ∈ ds, 0 ≤ d) → (gs.foldl (fun ds g => ds ++ [dep ds g]) ds).length = ds.length + gs.length ∧ ∀ d ∈ gs.foldl (fun ds g => ds ++ [dep ds g]) ds, 0 ≤ d
  | [], ds, h => ⟨rfl, h⟩
  | g :: gs, ds, h => by
    have a := dps_fold gs (ds ++ [dep ds g]) (fun d hd => by
      rcases List.mem_append.mp hd with z | z
      · exact h d z
      · rw [List.mem_singleton.mp z]
        exact dep_nn ds g)
    rw [List.foldl_cons]
    refine ⟨?_, a.2⟩
    rw [a.1, List.length_append, List.length_cons, List.length_cons, List.length_nil]
    omega
theorem dps_len (m : Nat) (gs : List Gt) : (dps m gs).length = m + gs.length := by
  have a := (dps_fold gs (List.replicate m 0) (fun d hd => by rw [List.eq_of_mem_replicate hd]; exact Int.le_refl _)).1
  rw [List.length_replicate] at a
  exact a
theorem dps_nn (m : Nat) (gs : List Gt) : ∀ d ∈ dps m gs, 0 ≤ d := (dps_fold gs (List.replicate m 0) (fun d hd => by rw [List.eq_of_mem_replicate hd]; exact Int.le_refl _)).2
structure NetP where
  x : Addr
  lm : Addr
  ld : Addr
  dn : Addr
def GsAt (Z : List Addr) (H : Hp) (ps : List Addr) (gs : List Gt) : Prop := ps.length = gs.length ∧ ∀ (i : Nat) (q : Addr) (g : Gt), ps[i]? = some q → gs[i]? = some g → q ∉ Z ∧ H q = some (.tup g.row)
def NmAt (Z : List Addr) (H : Hp) (p : NetP) (kvs : List (Key × V)) (nm : List (Str × List Nat)) : Prop :=
  kvs.length = nm.length ∧ (nm.map (·.1)).Nodup ∧ ∀ (i : Nat) (k : Key) (v : V) (n : Str) (ws : List Nat), kvs[i]? = some (k, v) → nm[i]? = some (n, ws) → k = .inr n ∧ ∃ l, v = .ref l ∧ l ∉ Z ∧ l ≠ p.lm ∧ l ≠ p.ld ∧ H l = some (.lst (nts ws))
def NetAt (C : Addr) (Z : List Addr) (H : Hp) (p : NetP) (m : Nat) (gs : List Gt) (nm : List (Str × List Nat)) : Prop :=
  (∀ z ∈ Z, H z ≠ none) ∧ p.lm ≠ p.ld ∧ (p.x ∉ Z ∧ p.lm ∉ Z ∧ p.ld ∉ Z ∧ p.dn ∉ Z) ∧ ∃ dx ps kvs, H p.x = some (.ins C dx [("input_count", .int (m : Int)), ("made", .ref p.lm), ("depths", .ref p.ld), ("by_name", .ref p.dn)]) ∧
    H p.lm = some (.lst (ps.map V.ref)) ∧ H p.ld = some (.lst ((dps m gs).map V.int)) ∧ H p.dn = some (.dK kvs) ∧ GsAt Z H ps gs ∧ NmAt Z H p kvs nm
theorem NetAt.keep {C : Addr} {S Z : List Addr} {H H' : Hp} {p : NetP} {m : Nat} {gs : List Gt} {nm : List (Str × List Nat)} (h : NetAt C Z H p m gs nm) (k : KeepS S H H') (hs : ∀ y ∈ S, y ∈ Z) : NetAt C Z H' p m gs nm := by
  obtain ⟨a, b, ⟨c1, c2, c3, c4⟩, dx, ps, kvs, e1, e2, e3, e4, ⟨g1, g2⟩, n1, n2, n3⟩ := h
  have f : ∀ {y : Addr} {o : HO}, y ∉ Z → H y = some o → H' y = some o := fun n e => k.1 _ _ e (fun z => n (hs _ z))
  refine ⟨fun z hz => k.2 z (a z hz), b, ⟨c1, c2, c3, c4⟩, dx, ps, kvs, f c1 e1, f c2 e2, f c3 e3, f c4 e4, ⟨g1, fun i q g hi hg => ?_⟩, n1, n2, fun i k v n ws hi hn => ?_⟩
  · have := g2 i q g hi hg
    exact ⟨this.1, f this.1 this.2⟩
  · obtain ⟨ek, l, ev, l1, l2, l3, l4⟩ := n3 i k v n ws hi hn
    exact ⟨ek, l, ev, l1, l2, l3, f l1 l4⟩
theorem NetAt.same {C : Addr} {Z : List Addr} {H H' : Hp} {p : NetP} {m : Nat} {gs : List Gt} {nm : List (Str × List Nat)} (h : NetAt C Z H p m gs nm) (s : Same H H') : NetAt C Z H' p m gs nm := h.keep (S := []) (.ofSame s) (fun _ z => nomatch z)
theorem NetAt.keepB {C b : Addr} {Z : List Addr} {H H' : Hp} {p : NetP} {m : Nat} {gs : List Gt} {nm : List (Str × List Nat)} (h : NetAt C Z H p m gs nm) (k : Keep b H H') (hb : H' b ≠ none) (m' : b ∈ Z) : NetAt C Z H' p m gs nm := h.keep (S := [b]) (.ofKeep k (List.mem_singleton.mpr rfl) hb) (fun y hy => by rw [List.mem_singleton.mp hy]; exact m')
theorem BoxAt.some {c : Int} {H : Hp} {b : Addr} (h : BoxAt c H b) : H b ≠ none := by
  obtain ⟨_, _, _, e, _⟩ := h
  exact some_ne e
theorem made {C : Addr} {H : Hp} {x dx : Addr} (nx : H x = none) (nd : H dx = none) (ne : dx ≠ x) {H' : Hp} (k : ∀ p o, (upd (upd H dx (.own x)) x (.ins C dx [])) p = some o → p ≠ x → H' p = some o) : Same H H' := fun p o e =>
  k p o (by rw [upd_ne (ne_of_none e nx), upd_ne (ne_of_none e nd)]; exact e) (ne_of_none e nx)
theorem units1 {k : Nat} {A : Around} (r : Room k A) : A.units + 1 < cLine := by have := r.un; omega
theorem pi_or {X : Cx} {tg e : Expr} {i j : TI} (h1 : PI X tg e i) (h2 : PI X tg e j) : PI X tg e (fun σ H R => i σ H R ∨ j σ H R) := ⟨fun pins s σ H R I h => h.elim (fun a => h1.run pins s σ H R I a) (fun b => h2.run pins s σ H R I b)⟩
structure FT (K : PySem.W.Frag) (mg : Str → Option Value) (C : Addr) : Prop where
  cl : Cls K C
  n_input_count : NoAttr K C "input_count"
  n_made : NoAttr K C "made"
  n_depths : NoAttr K C "depths"
  n_by_name : NoAttr K C "by_name"
  mgC : mg "Net" = some (.ref C)
structure LL (K : PySem.W.Frag) (mg : Str → Option Value) (C : Addr) (za : Nat → Addr) (zl : Nat → FuncData) : Prop where
  F_sum_wires : Fun K "sum_wires" "sum_wires" s_sum_wires (za 1) (zl 1)
  m_sum_wires : mg "sum_wires" = some (.ref (za 1))
  b_sum_wires : Binds K (zl 1) ["net", "ones", "others", "carry"] []
  F_quick_sum_wires : Fun K "quick_sum_wires" "quick_sum_wires" s_quick_sum_wires (za 2) (zl 2)
  m_quick_sum_wires : mg "quick_sum_wires" = some (.ref (za 2))
  b_quick_sum_wires : Binds K (zl 2) ["net", "ones", "others", "carry"] []
  F_carry_wires : Fun K "carry_wires" "carry_wires" s_carry_wires (za 3) (zl 3)
  m_carry_wires : mg "carry_wires" = some (.ref (za 3))
  b_carry_wires : Binds K (zl 3) ["net", "spans"] []
  F_span_doubled : Fun K "span_doubled" "span_doubled" s_span_doubled (za 4) (zl 4)
  m_span_doubled : mg "span_doubled" = some (.ref (za 4))
  b_span_doubled : Binds K (zl 4) ["net", "spans", "place", "size"] []
  F_shift_wires : Fun K "shift_wires" "shift_wires" s_shift_wires (za 5) (zl 5)
  m_shift_wires : mg "shift_wires" = some (.ref (za 5))
  b_shift_wires : Binds K (zl 5) ["net", "ones", "by"] []
  F_left_wires : Fun K "left_wires" "left_wires" s_left_wires (za 6) (zl 6)
  m_left_wires : mg "left_wires" = some (.ref (za 6))
  b_left_wires : Binds K (zl 6) ["net", "ones", "by"] []
  F_shift_amounts : Fun K "shift_amounts" "shift_amounts" s_shift_amounts (za 7) (zl 7)
  m_shift_amounts : mg "shift_amounts" = some (.ref (za 7))
  b_shift_amounts : Binds K (zl 7) ["net", "many", "by"] []
  F_any_wire : Fun K "any_wire" "any_wire" s_any_wire (za 8) (zl 8)
  m_any_wire : mg "any_wire" = some (.ref (za 8))
  b_any_wire : Binds K (zl 8) ["net", "wires"] []
  F_zero_wires : Fun K "zero_wires" "zero_wires" s_zero_wires (za 9) (zl 9)
  m_zero_wires : mg "zero_wires" = some (.ref (za 9))
  b_zero_wires : Binds K (zl 9) ["net", "ones"] []
  F_first_wires : Fun K "first_wires" "first_wires" s_first_wires (za 10) (zl 10)
  m_first_wires : mg "first_wires" = some (.ref (za 10))
  b_first_wires : Binds K (zl 10) ["net", "ones"] []
  F_mark_wires : Fun K "mark_wires" "mark_wires" s_mark_wires (za 11) (zl 11)
  m_mark_wires : mg "mark_wires" = some (.ref (za 11))
  b_mark_wires : Binds K (zl 11) ["net", "ones", "others"] []
  F_chosen_wires : Fun K "chosen_wires" "chosen_wires" s_chosen_wires (za 12) (zl 12)
  m_chosen_wires : mg "chosen_wires" = some (.ref (za 12))
  b_chosen_wires : Binds K (zl 12) ["net", "wire", "ones", "others"] []
  F_is_less_wire : Fun K "is_less_wire" "is_less_wire" s_is_less_wire (za 13) (zl 13)
  m_is_less_wire : mg "is_less_wire" = some (.ref (za 13))
  b_is_less_wire : Binds K (zl 13) ["net", "ones", "others"] []
  F_lengthened : Fun K "lengthened" "lengthened" s_lengthened (za 14) (zl 14)
  m_lengthened : mg "lengthened" = some (.ref (za 14))
  b_lengthened : Binds K (zl 14) ["net", "wires", "many"] []
  F_raise_wires : Fun K "raise_wires" "raise_wires" s_raise_wires (za 15) (zl 15)
  m_raise_wires : mg "raise_wires" = some (.ref (za 15))
  b_raise_wires : Binds K (zl 15) ["net", "ones", "wire"] []
  F_times_wires : Fun K "times_wires" "times_wires" s_times_wires (za 16) (zl 16)
  m_times_wires : mg "times_wires" = some (.ref (za 16))
  b_times_wires : Binds K (zl 16) ["net", "ones", "others"] []
  F_ran : Fun K "ran" "ran" s_ran (za 17) (zl 17)
  m_ran : mg "ran" = some (.ref (za 17))
  kb_ran_many : ∃ g, KBn K (zl 17) ["net", "values", "many"] 2 ["many"] g (fun vs zs => vs ++ zs)
  F_gate_bits : Fun K "gate_bits" "gate_bits" s_gate_bits (za 18) (zl 18)
  m_gate_bits : mg "gate_bits" = some (.ref (za 18))
  b_gate_bits : Binds K (zl 18) ["gate", "wires", "full"] []
  F__law_box : Fun K "_law_box" "_law_box" sBox (za 19) (zl 19)
  m__law_box : mg "_law_box" = some (.ref (za 19))
  b__law_box : Binds K (zl 19) ["_law_script", "_law_k"] []
  F__law_take : Fun K "_law_take" "_law_take" sTake (za 20) (zl 20)
  m__law_take : mg "_law_take" = some (.ref (za 20))
  b__law_take : Binds K (zl 20) ["_law_box_here", "_law_size"] []
  F__law_values : Fun K "_law_values" "_law_values" s__law_values (za 21) (zl 21)
  m__law_values : mg "_law_values" = some (.ref (za 21))
  b__law_values : Binds K (zl 21) ["_law_box_here", "_law_inputs", "_law_cases"] []
  F__law_number : Fun K "_law_number" "_law_number" s__law_number (za 22) (zl 22)
  m__law_number : mg "_law_number" = some (.ref (za 22))
  b__law_number : Binds K (zl 22) ["_law_bits", "_law_case"] []
  F__law_put : Fun K "_law_put" "_law_put" s__law_put (za 23) (zl 23)
  m__law_put : mg "_law_put" = some (.ref (za 23))
  b__law_put : Binds K (zl 23) ["_law_net", "_law_first", "_law_second"] []
  F__law_case_right : Fun K "_law_case_right" "_law_case_right" s__law_case_right (za 24) (zl 24)
  m__law_case_right : mg "_law_case_right" = some (.ref (za 24))
  b__law_case_right : Binds K (zl 24) ["_law_own"] []
  T : FT K mg C
  M : Mk K C (za 25)
  F_Net___init__ : Fun K "__init__" "Net.__init__" s_Net___init__ (za 25) (zl 25)
  b_Net___init__ : Binds K (zl 25) ["self", "many"] []
  F_Net_both : Fun K "both" "Net.both" s_Net_both (za 26) (zl 26)
  b_Net_both : Binds K (zl 26) ["self", "a", "b"] []
  M_Net_both : Meth K C "both" (za 26)
  F_Net_either : Fun K "either" "Net.either" s_Net_either (za 27) (zl 27)
  b_Net_either : Binds K (zl 27) ["self", "a", "b"] []
  M_Net_either : Meth K C "either" (za 27)
  F_Net_unlike : Fun K "unlike" "Net.unlike" s_Net_unlike (za 28) (zl 28)
  b_Net_unlike : Binds K (zl 28) ["self", "a", "b"] []
  M_Net_unlike : Meth K C "unlike" (za 28)
  F_Net_other : Fun K "other" "Net.other" s_Net_other (za 29) (zl 29)
  b_Net_other : Binds K (zl 29) ["self", "a"] []
  M_Net_other : Meth K C "other" (za 29)
  F_Net_fixed : Fun K "fixed" "Net.fixed" s_Net_fixed (za 30) (zl 30)
  b_Net_fixed : Binds K (zl 30) ["self", "bit"] []
  M_Net_fixed : Meth K C "fixed" (za 30)
  F_Net_put : Fun K "put" "Net.put" s_Net_put (za 31) (zl 31)
  b_Net_put : Binds K (zl 31) ["self", "kind", "wires"] []
  M_Net_put : Meth K C "put" (za 31)
  F_Net_put_gate : Fun K "put_gate" "Net.put_gate" s_Net_put_gate (za 32) (zl 32)
  b_Net_put_gate : Binds K (zl 32) ["self", "gate", "depth"] []
  M_Net_put_gate : Meth K C "put_gate" (za 32)
  F_Net_need : Fun K "need" "Net.need" s_Net_need (za 33) (zl 33)
  b_Net_need : Binds K (zl 33) ["self", "wires"] []
  M_Net_need : Meth K C "need" (za 33)
  F_Net_give : Fun K "give" "Net.give" s_Net_give (za 34) (zl 34)
  b_Net_give : Binds K (zl 34) ["self", "name", "wires"] []
  M_Net_give : Meth K C "give" (za 34)
  F_Net_given : Fun K "given" "Net.given" s_Net_given (za 35) (zl 35)
  b_Net_given : Binds K (zl 35) ["self", "name"] []
  M_Net_given : Meth K C "given" (za 35)
  F_Net_names : Fun K "names" "Net.names" s_Net_names (za 36) (zl 36)
  b_Net_names : Binds K (zl 36) ["self"] []
  M_Net_names : Meth K C "names" (za 36)
  F_Net_gates : Fun K "gates" "Net.gates" s_Net_gates (za 37) (zl 37)
  b_Net_gates : Binds K (zl 37) ["self"] []
  M_Net_gates : Meth K C "gates" (za 37)
  F_Net_like : Fun K "like" "Net.like" s_Net_like (za 38) (zl 38)
  b_Net_like : Binds K (zl 38) ["self"] []
  M_Net_like : Meth K C "like" (za 38)
  z_sorted : mg "sorted" = none
  z_dict : mg "dict" = none
variable {C : Addr} {za : Nat → Addr} {zl : Nat → FuncData}

end
theorem gset_if2 {i : Nat} {v : V} {σ : L2.St} {H : Hp} {c : TT} {t u r : TS} {D : Ends} (h : tIfS c t u { D with nx := r D } (σ.set i (some v)) H) : gName i v σ H ({ D with nx := tSeq (tIfS c t u) r D } : Ends).nx := h
theorem gset_if {σ : L2.St} {H : Hp} {c : TT} {t u r : TS} {D : Ends} (h : tIfS c t u { D with nx := r D } σ H) : tSeq (tIfS c t u) r D σ H := h
theorem ifS_cut {c : TT} {t u : TS} {D : Ends} {σ : L2.St} {H : Hp} (R : L2.St → Hp → Prop) (h : ∀ D' : Ends, (∀ σ' H', R σ' H' → D'.nx σ' H') → tIfS c t u D' σ H) (q : ∀ σ' H', R σ' H' → D.nx σ' H') : tIfS c t u D σ H := h D q
theorem ifS_ev {c : TT} {t u : TS} {D : Ends} {σ : L2.St} {H : Hp} (R : Bool → Hp → Prop) (h : ∀ Q : Bool → Hp → Prop, (∀ z H', R z H' → Q z H') → c σ H Q) (q1 : ∀ H', R true H' → t D σ H') (q2 : ∀ H', R false H' → u D σ H') : tIfS c t u D σ H := h _ fun z H' r => by
  cases z with
  | true => exact q1 H' r
  | false => exact q2 H' r
theorem if_ev {t : TT} {ta tb : TE} {σ : L2.St} {H : Hp} {Q : VK} (R : V → Hp → Prop) (h : ∀ Q : VK, (∀ z H', R z H' → Q z H') → tIf t ta tb σ H Q) (q : ∀ z H', R z H' → Q z H') : tIf t ta tb σ H Q := h Q q
theorem and_ev {ta tb : TE} {σ : L2.St} {H : Hp} {Q : VK} (R : V → Hp → Prop) (h : ∀ Q : VK, (∀ z H', R z H' → Q z H') → tAndV ta tb σ H Q) (q : ∀ z H', R z H' → Q z H') : tAndV ta tb σ H Q := h Q q
theorem or_ev {ta tb : TE} {σ : L2.St} {H : Hp} {Q : VK} (R : V → Hp → Prop) (h : ∀ Q : VK, (∀ z H', R z H' → Q z H') → tOrV ta tb σ H Q) (q : ∀ z H', R z H' → Q z H') : tOrV ta tb σ H Q := h Q q
theorem ifset_ev {c : TT} {e : TE} {k : Nat} {D : Ends} {σ : L2.St} {H : Hp} {old : V} (hσ : σ.set k (some old) = σ) (R : V → Hp → Prop) (h : ∀ Q : VK, (∀ z H', R z H' → Q z H') → c σ H (fun b H1 => if b = true then e σ H1 Q else Q old H1)) (q : ∀ z H', R z H' → D.nx (σ.set k (some z)) H') : tIfS c (tAsg e (gName k)) tNext D σ H := by
  have t := h (fun z H' => D.nx (σ.set k (some z)) H') q
  rw [hσ] at t
  exact t
theorem two_cut {t : TE} {g : TG} {c : TT} {a b r : TS} {D : Ends} {σ : L2.St} {H : Hp} (R : L2.St → Hp → Prop) (h : ∀ D' : Ends, (∀ σ' H', R σ' H' → D'.nx σ' H') → tSeq (tAsg t g) (tIfS c a b) D' σ H) (q : ∀ σ' H', R σ' H' → r D σ' H') : tSeq (tAsg t g) (tSeq (tIfS c a b) r) D σ H := h { D with nx := r D } q
theorem org80 {ta tb : TE} {σ : L2.St} {H : Hp} {Q : VK} {c d : Bool} (ha : ∀ Q : VK, Q (.bl c) H → ta σ H Q) (hb : ∀ Q : VK, Q (.bl d) H → tb σ H Q) (h : Q (.bl (c || d)) H) : tOrV ta tb σ H Q := by
  refine ha _ ⟨c, rfl, ?_⟩
  cases c
  · exact hb _ h
  · exact h
theorem gnext_if18 {σ : L2.St} {H : Hp} {c : TT} {t u : TS} {r : TS} {D : Ends} (h : tIfS c t u { D with nx := r D } σ H) : tNext ({ D with nx := tSeq (tIfS c t u) r D } : Ends) σ H := h
theorem ret_if18 {c : TT} {ta tb : TE} {D : Ends} {σ : L2.St} {H : Hp} (R : Bool → Hp → Prop) (h : ∀ Q : Bool → Hp → Prop, (∀ z H', R z H' → Q z H') → c σ H Q) (q1 : ∀ H', R true H' → ta σ H' D.rt) (q2 : ∀ H', R false H' → tb σ H' D.rt) : tRet (tIf c ta tb) D σ H := h _ fun z H' r => by
  cases z with
  | true => exact q1 H' r
  | false => exact q2 H' r
theorem gset_if3 {i : Nat} {v : V} {σ : L2.St} {H : Hp} {c : TT} {t u r : TS} {D : Ends} (h : tIfS c t u { D with nx := r D } (σ.set i (some v)) H) : gName i v σ H (tSeq (tIfS c t u) r D) := h
theorem asg_ev {t : TE} {i : Nat} {r : TS} {D : Ends} {σ : L2.St} {H : Hp} (R : V → Hp → Prop) (h : ∀ Q : VK, (∀ z H', R z H' → Q z H') → t σ H Q) (q : ∀ z H', R z H' → r D (σ.set i (some z)) H') : tSeq (tAsg t (gName i)) r D σ H := h _ q
/-! ### dict comprehensions, walked -/
section
variable {J : It} {n : Nat} {G : Hp → Prop} {Y : Nat → Hp → V → Hp → Prop}
theorem dc_it (w : Walk J n G Y) {g : TG} {tt : TT} {tk tv : TE} {vs : List Nat} {σ : L2.St} {H1 : Hp} {D : Addr} {Qd : Hp → Prop} (Pv : Nat → Hp → Prop) (h0 : Pv 0 (upd H1 D (.dK []))) (hG : ∀ i H, i ≤ n → Pv i H → G H)
    (hs : ∀ i x H H', i < n → Pv i H → Y i H x H' → g x (wipe σ vs) H' fun σ2 H2 => wipe σ2 vs = wipe σ vs ∧ tt σ2 H2 fun b H3 =>
      if b = true then tk σ2 H3 fun y H4 => tv σ2 H4 fun z H5 => ∃ kvs k, y = kV k ∧ H5 D = some (.dK kvs) ∧ kvs.length < sizeLine ∧ Pv (i + 1) (upd H5 D (.dK (putK kvs k z))) else Pv (i + 1) H3) (hd : ∀ H, Pv n H → Qd H) :
    ∃ W : Nat → Nat → Hp → Prop, (∃ m, W 0 m (upd H1 D (.dK []))) ∧ ∀ i m H, W i m H →
      (J.stop i H ∧ Qd H) ∨ (J.go i H ∧ ∃ Nx : Hp → Prop, (∀ H', Nx H' → ∃ m', m' < m ∧ W (i + 1) m' H') ∧ ∀ x H', J.yld i H x H' → g x (wipe σ vs) H' fun σ2 H2 => wipe σ2 vs = wipe σ vs ∧ tt σ2 H2 fun b H3 =>
        if b = true then tk σ2 H3 fun y H4 => tv σ2 H4 fun z H5 => ∃ kvs k, y = kV k ∧ H5 D = some (.dK kvs) ∧ kvs.length < sizeLine ∧ Nx (upd H5 D (.dK (putK kvs k z))) else Nx H3) := by
  refine ⟨fun i m H => m = n - i ∧ i ≤ n ∧ Pv i H, ⟨n, by simp, Nat.zero_le _, h0⟩, ?_⟩
  rintro i m H ⟨rfl, hi, p⟩
  have q := hG i H hi p
  by_cases hlt : i < n
  · refine .inr ⟨w.goes i H hlt q, Pv (i + 1), fun H' p' => ⟨n - (i + 1), by omega, rfl, hlt, p'⟩, fun x H' y => hs i x H H' hlt p (w.yields i H x H' hlt q y)⟩
  · have e : i = n := by omega
    subst e
    exact .inl ⟨w.stops H q, hd H p⟩
end
/-! ### zip of two lists or tuples -/
def SqIt (t : Bool) (h : Heap) (i2 a : Addr) (i : Nat) : Prop := bif t then h.IsTupleIter i2 a i else h.IsListIter i2 a i
def SqIs (t : Bool) (h : Heap) (a : Addr) (its : Array Value) : Prop := bif t then h.IsTuple a its else h.IsList a its
theorem SqIt.ex {t : Bool} {h : Heap} {i2 a : Addr} {i : Nat} (s : SqIt t h i2 a i) : ∃ o, h.get? i2 = some o ∧ ∀ f, o.data ≠ .cell f := by
  cases t <;> obtain ⟨o, e, _, d⟩ := s <;> exact ⟨o, e, fun f q => by rw [d] at q; cases q⟩
theorem draws_sq {prog : Program} {w : World} {A : Around} (t : Bool) (hh : A.handled = none) (it l : Addr) (hne : l ≠ it) (items : Array Value) :
    Draws prog w A it [it, l] items.size (fun i v => items[i]? = some v) (fun i h => SqIt t h it l i ∧ SqIs t h l items) := by
  cases t
  · exact Draws.list hh it l hne items
  · exact Draws.tuple hh it l hne items
theorem sq_val {X : Cx} {t : Bool} {pins : List (Addr × Obj)} {σ : L2.St} {H : Hp} {s : Shared} {a : Addr} {ys : List V} (I : Inv X pins σ H s) (h : bif t then SqT X.K H a ys else SqL X.K H a ys) : ∃ its : List Value, Vals ys its ∧ SqIs t s.heap a its.toArray := by
  cases t
  · obtain ⟨its, rv, p, _⟩ := I.list h
    exact ⟨its, rv, p.isList⟩
  · obtain ⟨its, rv, p, _⟩ := I.tuple h
    exact ⟨its, rv, p⟩
theorem sq_inj {X : Cx} {t : Bool} {pins : List (Addr × Obj)} {σ : L2.St} {H : Hp} {s : Shared} {a : Addr} {ys zs : List V} (I : Inv X pins σ H s) (h : bif t then SqT X.K H a ys else SqL X.K H a ys) (h2 : bif t then SqT X.K H a zs else SqL X.K H a zs) : ys = zs := by
  cases t
  · exact I.list_inj h h2
  · exact I.tuple_inj h h2
theorem begins_sq (t : Bool) (l : Addr) (items : Array Value) : Begins (.ref l) { cls := .type (bif t then "tuple_iterator" else "list_iterator"), data := .fields #[.ref l, .int 0 0] } fun h => SqIs t h l items := by
  cases t
  · exact begins_list l items
  · exact begins_tuple l items
def Sq2 (t : Bool) (K : PySem.W.Frag) (H : Hp) (a : Addr) (xs : List V) : Prop := bif t then SqT K H a xs else SqL K H a xs
theorem Sq2.to {t : Bool} {K : PySem.W.Frag} {H : Hp} {a : Addr} {xs : List V} (h : Sq2 t K H a xs) : SqL K H a xs ∨ SqT K H a xs := by
  cases t
  · exact .inl h
  · exact .inr h
theorem Sq2.of {K : PySem.W.Frag} {H : Hp} {a : Addr} {xs : List V} (h : SqL K H a xs ∨ SqT K H a xs) : ∃ t, Sq2 t K H a xs := h.elim (fun z => ⟨false, z⟩) fun z => ⟨true, z⟩
def Itzb (t1 t2 : Bool) (K : PySem.W.Frag) (a b : Addr) : It :=
  ⟨fun i H => ∃ (xs ys : List V), Sq2 t1 K H a xs ∧ Sq2 t2 K H b ys ∧ i < xs.length ∧ i < ys.length,
   fun i H v H' => ∃ T x y, v = .ref T ∧ H T = none ∧ H' = upd H T (.tup [x, y]) ∧ (∀ xs, Sq2 t1 K H a xs → xs[i]? = some x) ∧ ∀ ys, Sq2 t2 K H b ys → ys[i]? = some y,
   fun i H => ∃ (xs ys : List V), Sq2 t1 K H a xs ∧ Sq2 t2 K H b ys ∧ i = min xs.length ys.length⟩
def StZb (t1 t2 : Bool) (a b z TI TO i1 i2 : Addr) (i : Nat) (h : Heap) : Prop :=
  IsZip h z TI TO .none ∧ IsTupOf2 h TI (.ref i1) (.ref i2) ∧ (∃ u v, IsTupOf2 h TO u v) ∧ SqIt t1 h i1 a i ∧ SqIt t2 h i2 b i
theorem turn_zb {P : Program} {w : World} {K : PySem.W.Frag} {elts : List Expr} {kk : Nat} {tpos : Pos} {t1 t2 : Bool} {a b z TI TO i1 i2 : Addr} (S : ZipSep2 z TI TO i1 i2 [i1, a] [i2, b]) (na : a ≠ i1) (nb : b ≠ i2) :
    Turn P w K (.Tuple elts kk tpos) (Itzb t1 t2 K a b) [z, TI, TO, i1, i2] z (StZb t1 t2 a b z TI TO i1 i2) where
  mem := List.mem_cons_self
  obj := by
    rintro i h ⟨a1, a2, ⟨u, v, a3⟩, s1, s2⟩ c hm
    simp only [List.mem_cons, List.not_mem_nil, or_false] at hm
    rcases hm with e | e | e | e | e <;> subst e
    · exact ⟨_, a1, (fun _ q => nomatch q)⟩
    · exact ⟨_, a2, (fun _ q => nomatch q)⟩
    · exact ⟨_, a3, (fun _ q => nomatch q)⟩
    · obtain ⟨o2, e2, n2⟩ := s1.ex
      exact ⟨o2, e2, n2⟩
    · obtain ⟨o2, e2, n2⟩ := s2.ex
      exact ⟨o2, e2, n2⟩
  keep := by
    rintro i h h' ⟨a1, a2, ⟨u, v, a3⟩, s1, s2⟩ k
    refine ⟨k z (by simp) _ a1, k TI (by simp) _ a2, ⟨u, v, k TO (by simp) _ a3⟩, ?_, ?_⟩
    · cases t1 <;> exact s1.at fun o q => k i1 (by simp) o q
    · cases t2 <;> exact s2.at fun o q => k i2 (by simp) o q
  item := by
    intro X hP hw hK hc i pins s σ H E I hf st hg
    subst hP hw hK
    obtain ⟨xs, ys, hx, hy, l1, l2⟩ := hg
    obtain ⟨its1, rv1, p1⟩ := sq_val I hx
    obtain ⟨its2, rv2, p2⟩ := sq_val I hy
    obtain ⟨u, hu, ru⟩ := rv1.get (List.getElem?_eq_getElem l1)
    obtain ⟨v, hv, rv⟩ := rv2.get (List.getElem?_eq_getElem l2)
    have W := WalksT.zipD2 (prog := X.prog) (w := X.w) (A := X.A) S (draws_sq (A := X.A.in1) t1 (I.ok.hd hc) i1 a na its1.toArray) (draws_sq (A := X.A.in1) t2 (I.ok.hd hc) i2 b nb its2.toArray)
    have hin : ∀ c ∈ [z, TO, i1, i2], c ∈ [z, TI, TO, i1, i2] := fun b hb => by
      simp only [List.mem_cons, List.not_mem_nil, or_false] at hb ⊢
      rcases hb with q | q | q | q <;> simp [q]
    obtain ⟨a1, a2, a3, s1, s2⟩ := id st
    have g1 := rv1.length
    have g2 := rv2.length
    refine W.item i s _ E (by simp only [List.size_toArray]; omega) ⟨a1, a2, a3, ⟨s1, p1⟩, ⟨s2, p2⟩⟩ fun T vals h1 tk pt hT isT mid k1 => ?_
    obtain ⟨u1, u2, e1, e2, rfl⟩ := pt
    rw [List.getElem?_toArray, hu] at e1
    rw [List.getElem?_toArray, hv] at e2
    cases e1
    cases e2
    refine ⟨.ref T, rfl, W.go elts kk tpos i T { s with heap := h1, toks := tk } _ E mid fun h2 st2 k2 => ?_⟩
    have nT : T ∉ [z, TO, i1, i2] := W.apart i T h1 mid
    have isT2 : h2.IsTuple T #[u, v] := isT.at fun o e => k2 T o nT e
    have new : ObjOk X.prog X.w (upd H T (.tup [xs[i], ys[i]])) h2 T (.tup [xs[i], ys[i]]) :=
      ⟨by show 2 ≤ sizeLine; decide, [u, v], .cons ru (.cons rv .nil), isT2⟩
    have I2 : Inv X pins σ (upd H T (.tup [xs[i], ys[i]])) { s with heap := h2, toks := tk } :=
      I.turnedNew (t' := tk) (ch := [z, TI, TO, i1, i2]) (fun b o nb e => k2 b o (fun q => nb (hin b q)) (k1 b o (fun q => nb (hin b q)) e)) hf hT new
    obtain ⟨b1, b2, b3, ⟨b4, _⟩, b5, _⟩ := st2
    refine ⟨.ref T, _, I2, rfl, ⟨T, _, _, rfl, I.hok.fresh hT, rfl, fun zs' hz' => ?_, fun zs' hz' => ?_⟩, ⟨b1, b2, b3, b4, b5⟩, fun b hb => ?_⟩
    · rw [sq_inj I hz' hx]
      exact List.getElem?_eq_getElem l1
    · rw [sq_inj I hz' hy]
      exact List.getElem?_eq_getElem l2
    have nb : b ≠ T := by
      obtain ⟨a1, a2, ⟨u, v, a3⟩, s1, s2⟩ := st
      obtain ⟨o1, e1, _⟩ := s1.ex
      obtain ⟨o2, e2, _⟩ := s2.ex
      have lt : b < s.heap.objs.size := by
        simp only [List.mem_cons, List.not_mem_nil, or_false] at hb
        rcases hb with q | q | q | q | q <;> subst q
        · exact Heap.lt_size a1
        · exact Heap.lt_size a2
        · exact Heap.lt_size a3
        · exact Heap.lt_size e1
        · exact Heap.lt_size e2
      exact Nat.ne_of_lt (Nat.lt_of_lt_of_le lt hT)
    rw [upd_ne nb]
    exact (hf b hb).1
  done := by
    intro X hP hw hK hc i pins s σ H E I hf st hg
    subst hP hw hK
    obtain ⟨xs, ys, hx, hy, hi⟩ := hg
    obtain ⟨its1, rv1, p1⟩ := sq_val I hx
    obtain ⟨its2, rv2, p2⟩ := sq_val I hy
    have W := WalksT.zipD2 (prog := X.prog) (w := X.w) (A := X.A) S (draws_sq (A := X.A.in1) t1 (I.ok.hd hc) i1 a na its1.toArray) (draws_sq (A := X.A.in1) t2 (I.ok.hd hc) i2 b nb its2.toArray)
    have hn : i = min its1.toArray.size its2.toArray.size := by
      have e1 := rv1.length
      have e2 := rv2.length
      simp only [List.size_toArray]
      omega
    subst hn
    obtain ⟨a1, a2, a3, s1, s2⟩ := id st
    refine W.done s _ E ⟨a1, a2, a3, ⟨s1, p1⟩, ⟨s2, p2⟩⟩ fun h1 tk k1 => ⟨rfl, I.turnedL (t' := tk) (ch := [z, TI, TO, i1, i2]) (fun b o nb e => k1 b o (fun q => nb ?_) e) hf⟩
    simp only [List.mem_cons, List.not_mem_nil, or_false] at q ⊢
    rcases q with q | q | q | q <;> simp [q]
  self := fun A i s Q E st h => wpAny_pyIter_zip st.1 h
def iZb (K : PySem.W.Frag) (ta : TA) : TI := fun σ H R => ta σ H fun vs H1 => ∃ (t1 t2 : Bool) (a b : Addr) (xs ys : List V), vs = [.ref a, .ref b] ∧ Sq2 t1 K H1 a xs ∧ Sq2 t2 K H1 b ys ∧ R (Itzb t1 t2 K a b) H1
theorem pi_zb {X : Cx} {e e2 : Expr} {ta : TA} {p pos tpos : Pos} {elts : List Expr} {kk : Nat} (hg : Gl X "zip") (hm : X.mg "zip" = none) (ha : PA X [e, e2] ta)
    (hs : starEach [e, e2] X.env = (false, eval e X.env) :: starEach [e2] X.env := by rfl) (hp : (backTo pos (starEach [e2] X.env)).any (·.1) = false := by rfl) :
    PI X (.Tuple elts kk tpos) (.Call (.Name "zip" p) [e, e2] [] pos) (iZb X.K ta) := by
  constructor
  intro pins s σ H R I h
  refine Call_ (ld_blt I hg hm PyProof.Rows.boot_zip (PyProof.Rows.callWith_type1 (thn (ha.run pos pins s σ H _ I h) fun us s1 hh => ?_) hs hp))
  obtain ⟨vs, H1, I1, r1, t1, t2, a, b, xs, ys, rfl, hx, hy, q⟩ := hh
  match us, r1 with
  | [v1, v2], .cons hv1 (.cons hv2 .nil) =>
    cases hv1
    cases hv2
    obtain ⟨its1, rv1, p1⟩ := sq_val I1 hx
    obtain ⟨its2, rv2, p2⟩ := sq_val I1 hy
    have la : a < s1.heap.objs.size := by
      cases t1 <;> obtain ⟨o, e, _⟩ := p1 <;> exact Heap.lt_size e
    have lb : b < s1.heap.objs.size := by
      cases t2 <;> obtain ⟨o, e, _⟩ := p2 <;> exact Heap.lt_size e
    refine zip_begins2 (begins_sq t1 a its1.toArray) (begins_sq t2 b its2.toArray) p1 p2 fun h' a1 a2 a3 g1 g2 _ k => wpAny_pyIter_zip a1 ?_
    have I2 : Inv X pins σ H1 { s1 with heap := h' } := I1.kept (t' := s1.toks) k
    have S : ZipSep2 (s1.heap.objs.size + 4) (s1.heap.objs.size + 2) (s1.heap.objs.size + 3) s1.heap.objs.size (s1.heap.objs.size + 1) [s1.heap.objs.size, a] [s1.heap.objs.size + 1, b] := zip_sep2 (fp1 := [a]) (fp2 := [b]) (fun c q => by rw [List.mem_singleton.mp q]; exact la) (fun c q => by rw [List.mem_singleton.mp q]; exact lb)
    have fr : ∀ c ∈ [s1.heap.objs.size + 4, s1.heap.objs.size + 2, s1.heap.objs.size + 3, s1.heap.objs.size, s1.heap.objs.size + 1], FpOk X pins H1 c := fun b hb => by
      have le : s1.heap.objs.size ≤ b := by
        simp only [List.mem_cons, List.not_mem_nil, or_false] at hb
        rcases hb with z | z | z | z | z <;> rw [z]
        · exact Nat.le_add_right _ _
        · exact Nat.le_add_right _ _
        · exact Nat.le_add_right _ _
        · exact Nat.le_refl _
        · exact Nat.le_add_right _ _
      exact I1.fpOk le (I1.hok.fresh le)
    refine ⟨s1.heap.objs.size + 4, [s1.heap.objs.size + 4, s1.heap.objs.size + 2, s1.heap.objs.size + 3, s1.heap.objs.size, s1.heap.objs.size + 1], _, _, H1, rfl, I2, turn_zb S (Nat.ne_of_lt la) (Nat.ne_of_lt (Nat.lt_succ_of_lt lb)), ⟨a1, a2, ⟨_, _, a3⟩, ?_, ?_⟩, fr, q⟩
    · cases t1 <;> exact ⟨_, g1, rfl, rfl⟩
    · cases t2 <;> exact ⟨_, g2, rfl, rfl⟩
theorem walk_zb {K : PySem.W.Frag} {t1 t2 : Bool} {a b : Addr} {xs ys : List V} {n : Nat} (hx : xs.length = n) (hy : ys.length = n) : Walk (Itzb t1 t2 K a b) n (fun H => Sq2 t1 K H a xs ∧ Sq2 t2 K H b ys) (YPair (fun i => xs[i]?) (fun i => ys[i]?)) := by
  refine ⟨fun i _ hi q => ⟨xs, ys, q.1, q.2, by omega, by omega⟩, fun _ q => ⟨xs, ys, q.1, q.2, by omega⟩, fun i H v H' hi q z => ?_⟩
  obtain ⟨T, c, y, h1, h2, h3, h4, h5⟩ := z
  exact ⟨T, _, _, h1, h2, h3, h4 xs q.1, h5 ys q.2⟩
/-! ### a list or a tuple walked -/
def Itq (t : Bool) (K : PySem.W.Frag) (a : Addr) : It := bif t then Itt K a else Itl K a
def iSq (K : PySem.W.Frag) (tl : TE) : TI := fun σ H R => tl σ H fun x H1 => ∃ (t : Bool) (a : Addr) (xs : List V), x = .ref a ∧ Sq2 t K H1 a xs ∧ R (Itq t K a) H1
theorem pi_sq {X : Cx} {tg l : Expr} {tl : TE} (hl : PE X l tl) : PI X tg l (iSq X.K tl) := by
  refine ⟨fun pins s σ H R I h => ?_⟩
  refine thn (hl.run pins s σ H _ I h) fun v s1 ⟨x, H1, I1, r1, q1⟩ => ?_
  obtain ⟨t, a, xs, e, hq, q⟩ := q1
  subst e
  cases r1
  cases t
  · obtain ⟨its, rv, p, hz⟩ := I1.list hq
    refine wpAny_pyIter_list p.isList ?_
    refine ⟨s1.heap.objs.size, [s1.heap.objs.size], _, _, H1, rfl, I1.kept (t' := s1.toks) fun b o e => Heap.get?_push_of_some _ e, turn_list a _, ⟨_, Heap.get?_push_size _ rfl, rfl, rfl⟩, fun b hb => ?_, q⟩
    have e : b = s1.heap.objs.size := by simpa using hb
    subst e
    exact I1.fpOk (Nat.le_refl _) (I1.hok.fresh (Nat.le_refl _))
  · obtain ⟨its, rv, p, hz⟩ := I1.tuple hq
    refine wpAny_pyIter_tuple (show s1.heap.IsTuple a its.toArray from p) ?_
    refine ⟨s1.heap.objs.size, [s1.heap.objs.size], _, _, H1, rfl, I1.kept (t' := s1.toks) fun b o e => Heap.get?_push_of_some _ e, turn_tuple a _, ⟨_, Heap.get?_push_size _ rfl, rfl, rfl⟩, fun b hb => ?_, q⟩
    have e : b = s1.heap.objs.size := by simpa using hb
    subst e
    exact I1.fpOk (Nat.le_refl _) (I1.hok.fresh (Nat.le_refl _))
theorem walk_q {t : Bool} {K : PySem.W.Frag} {a : Addr} {xs : List V} : Walk (Itq t K a) xs.length (fun H => Sq2 t K H a xs) (YAt xs) := by
  cases t
  · exact walk_list
  · exact walk_tup
theorem Sq2.len {t : Bool} {K : PySem.W.Frag} {H : Hp} {a : Addr} {xs : List V} (h : Sq2 t K H a xs) : SqL K H a xs ∨ SqT K H a xs := h.to
/-! ### zip of a text and a list or a tuple: new pairs of a sign and an item -/
def Itzl (t : Bool) (K : PySem.W.Frag) (x : Str) (a : Addr) : It :=
  ⟨fun i H => ∃ (ys : List V) (y : V), (bif t then SqT K H a ys else SqL K H a ys) ∧ i < x.cps.size ∧ ys[i]? = some y,
   fun i H v H' => ∃ T c y, v = .ref T ∧ H T = none ∧ H' = upd H T (.tup [.str ⟨#[c]⟩, y]) ∧ x.cps[i]? = some c ∧ ∀ ys, (bif t then SqT K H a ys else SqL K H a ys) → ys[i]? = some y,
   fun i H => ∃ ys : List V, (bif t then SqT K H a ys else SqL K H a ys) ∧ i = min x.cps.size ys.length⟩
def StZl (t : Bool) (x : Str) (tx : Tok) (a z TI TO i1 i2 : Addr) (i : Nat) (h : Heap) : Prop :=
  IsZip h z TI TO .none ∧ IsTupOf2 h TI (.ref i1) (.ref i2) ∧ (∃ u v, IsTupOf2 h TO u v) ∧ h.IsStrIter i1 (strIterType x) x tx i ∧ SqIt t h i2 a i
theorem turn_zl {P : Program} {w : World} {K : PySem.W.Frag} {elts : List Expr} {kk : Nat} {tpos : Pos} {t : Bool} {x : Str} {tx : Tok} {a z TI TO i1 i2 : Addr} (S : ZipSep2 z TI TO i1 i2 [i1] [i2, a]) (na : a ≠ i2) :
    Turn P w K (.Tuple elts kk tpos) (Itzl t K x a) [z, TI, TO, i1, i2] z (StZl t x tx a z TI TO i1 i2) where
  mem := List.mem_cons_self
  obj := by
    rintro i h ⟨a1, a2, ⟨u, v, a3⟩, ⟨o1, e1, _, d1⟩, s2⟩ c hm
    simp only [List.mem_cons, List.not_mem_nil, or_false] at hm
    rcases hm with e | e | e | e | e <;> subst e
    · exact ⟨_, a1, (fun _ q => nomatch q)⟩
    · exact ⟨_, a2, (fun _ q => nomatch q)⟩
    · exact ⟨_, a3, (fun _ q => nomatch q)⟩
    · exact ⟨o1, e1, (fun _ q => by rw [d1] at q; cases q)⟩
    · obtain ⟨o2, e2, n2⟩ := s2.ex
      exact ⟨o2, e2, n2⟩
  keep := by
    rintro i h h' ⟨a1, a2, ⟨u, v, a3⟩, s1, s2⟩ k
    obtain ⟨o1, e1, r1⟩ := s1
    refine ⟨k z (by simp) _ a1, k TI (by simp) _ a2, ⟨u, v, k TO (by simp) _ a3⟩, ⟨o1, k i1 (by simp) _ e1, r1⟩, ?_⟩
    cases t <;> exact s2.at fun o q => k i2 (by simp) o q
  item := by
    intro X hP hw hK hc i pins s σ H E I hf st hg
    subst hP hw hK
    obtain ⟨ys, y, hq, hi, hy⟩ := hg
    obtain ⟨its, rv, p⟩ := sq_val I hq
    obtain ⟨u, hu, ru⟩ := rv.get hy
    have W := WalksT.zipD2 (prog := X.prog) (w := X.w) (A := X.A) S (Draws.text (A := X.A.in1) (I.ok.hd hc) i1 x tx) (draws_sq (A := X.A.in1) t (I.ok.hd hc) i2 a na its.toArray)
    have hin : ∀ b ∈ [z, TO, i1, i2], b ∈ [z, TI, TO, i1, i2] := fun b hb => by
      simp only [List.mem_cons, List.not_mem_nil, or_false] at hb ⊢
      rcases hb with q | q | q | q <;> simp [q]
    obtain ⟨a1, a2, a3, s1, s2⟩ := id st
    have lt : i < its.length := by
      rw [← rv.length]
      obtain ⟨w, _⟩ := List.getElem?_eq_some_iff.mp hy
      exact w
    refine W.item i s _ E (by simp only [List.size_toArray]; omega) ⟨a1, a2, a3, s1, s2, p⟩ fun T vals h1 tk pt hT isT mid k1 => ?_
    obtain ⟨u1, u2, ⟨c, t1, hc1, rfl⟩, h2, rfl⟩ := pt
    rw [List.getElem?_toArray, hu] at h2
    cases h2
    refine ⟨.ref T, rfl, W.go elts kk tpos i T { s with heap := h1, toks := tk } _ E mid fun h2 st2 k2 => ?_⟩
    have nT : T ∉ [z, TO, i1, i2] := W.apart i T h1 mid
    have isT2 : h2.IsTuple T #[.str ⟨#[c]⟩ t1, u] := isT.at fun o e => k2 T o nT e
    have new : ObjOk X.prog X.w (upd H T (.tup [.str ⟨#[c]⟩, y])) h2 T (.tup [.str ⟨#[c]⟩, y]) :=
      ⟨by show 2 ≤ sizeLine; decide, [.str ⟨#[c]⟩ t1, u], .cons ⟨t1, rfl⟩ (.cons ru .nil), isT2⟩
    have I2 : Inv X pins σ (upd H T (.tup [.str ⟨#[c]⟩, y])) { s with heap := h2, toks := tk } :=
      I.turnedNew (t' := tk) (ch := [z, TI, TO, i1, i2]) (fun b o nb e => k2 b o (fun q => nb (hin b q)) (k1 b o (fun q => nb (hin b q)) e)) hf hT new
    obtain ⟨b1, b2, b3, b4, b5, _⟩ := st2
    refine ⟨.ref T, _, I2, rfl, ⟨T, c, y, rfl, I.hok.fresh hT, rfl, hc1, fun zs hz => ?_⟩, ⟨b1, b2, b3, b4, b5⟩, fun b hb => ?_⟩
    · rw [sq_inj I hz hq]
      exact hy
    have nb : b ≠ T := by
      obtain ⟨a1, a2, ⟨u, v, a3⟩, ⟨o1, e1, _⟩, s2⟩ := st
      obtain ⟨o2, e2, _⟩ := s2.ex
      have lt : b < s.heap.objs.size := by
        simp only [List.mem_cons, List.not_mem_nil, or_false] at hb
        rcases hb with q | q | q | q | q <;> subst q
        · exact Heap.lt_size a1
        · exact Heap.lt_size a2
        · exact Heap.lt_size a3
        · exact Heap.lt_size e1
        · exact Heap.lt_size e2
      exact Nat.ne_of_lt (Nat.lt_of_lt_of_le lt hT)
    rw [upd_ne nb]
    exact (hf b hb).1
  done := by
    intro X hP hw hK hc i pins s σ H E I hf st hg
    subst hP hw hK
    obtain ⟨ys, hq, hi⟩ := hg
    obtain ⟨its, rv, p⟩ := sq_val I hq
    have W := WalksT.zipD2 (prog := X.prog) (w := X.w) (A := X.A) S (Draws.text (A := X.A.in1) (I.ok.hd hc) i1 x tx) (draws_sq (A := X.A.in1) t (I.ok.hd hc) i2 a na its.toArray)
    have hn : i = min x.cps.size its.toArray.size := by
      have e1 := rv.length
      have e2 : its.toArray.size = its.length := List.size_toArray
      omega
    subst hn
    obtain ⟨a1, a2, a3, s1, s2⟩ := id st
    refine W.done s _ E ⟨a1, a2, a3, s1, s2, p⟩ fun h1 tk k1 => ⟨rfl, I.turnedL (t' := tk) (ch := [z, TI, TO, i1, i2]) (fun b o nb e => k1 b o (fun q => nb ?_) e) hf⟩
    simp only [List.mem_cons, List.not_mem_nil, or_false] at q ⊢
    rcases q with q | q | q | q <;> simp [q]
  self := fun A i s Q E st h => wpAny_pyIter_zip st.1 h
def iZl (K : PySem.W.Frag) (ta : TA) : TI := fun σ H R => ta σ H fun vs H1 => ∃ (t : Bool) (x : Str) (a : Addr) (ys : List V), vs = [.str x, .ref a] ∧ (bif t then SqT K H1 a ys else SqL K H1 a ys) ∧ R (Itzl t K x a) H1
theorem pi_zl {X : Cx} {e e2 : Expr} {ta : TA} {p pos tpos : Pos} {elts : List Expr} {kk : Nat} (hg : Gl X "zip") (hm : X.mg "zip" = none) (ha : PA X [e, e2] ta)
    (hs : starEach [e, e2] X.env = (false, eval e X.env) :: starEach [e2] X.env := by rfl) (hp : (backTo pos (starEach [e2] X.env)).any (·.1) = false := by rfl) :
    PI X (.Tuple elts kk tpos) (.Call (.Name "zip" p) [e, e2] [] pos) (iZl X.K ta) := by
  constructor
  intro pins s σ H R I h
  refine Call_ (ld_blt I hg hm PyProof.Rows.boot_zip (PyProof.Rows.callWith_type1 (thn (ha.run pos pins s σ H _ I h) fun us s1 hh => ?_) hs hp))
  obtain ⟨vs, H1, I1, r1, t, x, a, ys, rfl, hq, q⟩ := hh
  match us, r1 with
  | [v1, v2], .cons ⟨tx, hx⟩ (.cons hy .nil) =>
    subst hx
    cases hy
    obtain ⟨its, rv, pl⟩ := sq_val I1 hq
    have la : a < s1.heap.objs.size := by
      cases t <;> obtain ⟨o, e, _⟩ := pl <;> exact Heap.lt_size e
    refine zip_begins2 (begins_text x tx) (begins_sq t a its.toArray) trivial pl fun h' a1 a2 a3 g1 g2 _ k => wpAny_pyIter_zip a1 ?_
    have I2 : Inv X pins σ H1 { s1 with heap := h' } := I1.kept (t' := s1.toks) k
    have S : ZipSep2 (s1.heap.objs.size + 4) (s1.heap.objs.size + 2) (s1.heap.objs.size + 3) s1.heap.objs.size (s1.heap.objs.size + 1) [s1.heap.objs.size] [s1.heap.objs.size + 1, a] := zip_sep2 (fp1 := []) (fp2 := [a]) (fun _ q => nomatch q) (fun b q => by rw [List.mem_singleton.mp q]; exact la)
    have fr : ∀ b ∈ [s1.heap.objs.size + 4, s1.heap.objs.size + 2, s1.heap.objs.size + 3, s1.heap.objs.size, s1.heap.objs.size + 1], FpOk X pins H1 b := fun b hb => by
      have le : s1.heap.objs.size ≤ b := by
        simp only [List.mem_cons, List.not_mem_nil, or_false] at hb
        rcases hb with z | z | z | z | z <;> rw [z]
        · exact Nat.le_add_right _ _
        · exact Nat.le_add_right _ _
        · exact Nat.le_add_right _ _
        · exact Nat.le_refl _
        · exact Nat.le_add_right _ _
      exact I1.fpOk le (I1.hok.fresh le)
    refine ⟨s1.heap.objs.size + 4, [s1.heap.objs.size + 4, s1.heap.objs.size + 2, s1.heap.objs.size + 3, s1.heap.objs.size, s1.heap.objs.size + 1], _, _, H1, rfl, I2, turn_zl S (Nat.ne_of_lt (Nat.lt_succ_of_lt la)), ⟨a1, a2, ⟨_, _, a3⟩, ⟨_, g1, rfl, rfl⟩, ?_⟩, fr, q⟩
    cases t <;> exact ⟨_, g2, rfl, rfl⟩
theorem walk_zl {K : PySem.W.Frag} {t : Bool} {x : Str} {a : Addr} {ys : List V} {n : Nat} (hx : x.cps.size = n) (hy : ys.length = n) : Walk (Itzl t K x a) n (fun H => bif t then SqT K H a ys else SqL K H a ys) (YPair (fun i => (x.cps[i]?).map fun c => .str ⟨#[c]⟩) (fun i => ys[i]?)) := by
  refine ⟨fun i _ hi q => ⟨ys, ys[i]'(by omega), q, by omega, List.getElem?_eq_getElem (by omega)⟩, fun _ q => ⟨ys, q, by omega⟩, fun i H v H' hi q z => ?_⟩
  obtain ⟨T, c, y, h1, h2, h3, h4, h5⟩ := z
  exact ⟨T, _, _, h1, h2, h3, by simp only [h4]; rfl, h5 ys q⟩
/-! ### xs[::-1] of a list or a tuple; a starred name ahead of one -/
section
variable {prog : Program} {w : World} {A : Around} {E : Value → Shared → Prop} {s : Shared}
theorem fm_congr {α β : Type} {f g : α → Option β} : ∀ {l : List α}, (∀ x ∈ l, f x = g x) → l.filterMap f = l.filterMap g
  | [], _ => rfl
  | a :: l, h => by
    rw [List.filterMap_cons, List.filterMap_cons, h a (by simp), fm_congr fun x hx => h x (List.mem_cons_of_mem _ hx)]
theorem pick_rev (xs : Array Value) : ((List.range xs.size).filterMap fun (m : Nat) => xs[(((xs.size : Int) - 1) + (m : Int) * (-1)).toNat]?).toArray = xs.toList.reverse.toArray := by
  have e : (List.range xs.size).filterMap (fun (m : Nat) => xs[(((xs.size : Int) - 1) + (m : Int) * (-1)).toNat]?) = ((List.range xs.size).map fun k => xs.size - 1 - k).filterMap (xs[·]?) := by
    rw [List.filterMap_map]
    refine fm_congr fun m hm => ?_
    have := List.mem_range.mp hm
    show xs[(((xs.size : Int) - 1) + (m : Int) * (-1)).toNat]? = xs[xs.size - 1 - m]?
    rw [show (((xs.size : Int) - 1) + (m : Int) * (-1)).toNat = xs.size - 1 - m by omega]
  rw [e, PySem.W.krv_range, List.filterMap_reverse, PySem.W.krv_all]
theorem sliceApplied_rev {sl : Addr} {vs : Value} {n : Nat} {Q : Int × Int × Nat → Shared → Prop} (hs : s.heap.IsSliceOf sl .none .none vs) (ps : IsPart vs (some (-1)))
    (h : Q ((n : Int) - 1, -1, n) s) : wpAny (model prog w) A (Builtin.Slice.sliceApplied (.ref sl) (pure (n : Int))) Q E s := by
  obtain ⟨os, hos, hcs, hds⟩ := id hs
  unfold Builtin.Slice.sliceApplied Builtin.Slice.sliceFields
  refine wpAny_bind (wpAny_bind (wpAny_field hos hds (x := .none) rfl (wpAny_bind (wpAny_field hos hds (x := .none) rfl (wpAny_bind (wpAny_field hos hds (x := vs) rfl (wpAny_pure ?_)))))))
  refine wpAny_bind (HT.slicePart_ ps ?_)
  show wpAny _ _ (if ((-1 : Int) == 0) = true then _ else _) _ _ s
  rw [if_neg (by decide)]
  refine wpAny_bind (slicePart_none (wpAny_bind (slicePart_none (wpAny_bind (wpAny_pure ?_)))))
  have e : Builtin.Slice.slicePlaces ((n : Int) - 1) (-1) (-1) = n := by
    unfold Builtin.Slice.slicePlaces
    have h1 : ¬ ((-1 : Int) > 0) := by omega
    simp only [h1, if_false]
    split
    · rw [show (-(-1) : Int) = 1 by decide, Int.ediv_one]
      omega
    · omega
  show wpAny _ _ (pure (((n : Int) - 1), (-1 : Int), Builtin.Slice.slicePlaces ((n : Int) - 1) (-1) (-1))) _ _ s
  rw [e]
  exact wpAny_pure h
theorem getItem_tuple_rev {t sl : Addr} {items : Array Value} {vs : Value} {Q : Value → Shared → Prop} (ht : IsTup s.heap t items) (hs : s.heap.IsSliceOf sl .none .none vs) (ps : IsPart vs (some (-1)))
    (h : Q (.ref s.heap.objs.size) { s with heap := s.heap.push { cls := .type "tuple", data := .seq items.toList.reverse.toArray } })
    (hsz : items.size ≤ sizeLine) : wpAny (model prog w) A (getItem (.ref t) (.ref sl)) Q E s := by
  have htake : sizeOk (.seq items.toList.reverse.toArray) := by
    show items.toList.reverse.toArray.size ≤ sizeLine
    rw [List.size_toArray, List.length_reverse, Array.length_toList]
    exact hsz
  obtain ⟨os, hos, hcs, hds⟩ := id hs
  have hTs : s.TypeIs (.ref sl) "slice" := ⟨os, hos, hcs⟩
  unfold getItem
  try with_reducible refine wpAny_holding ?_
  first | refine wpAny_bind (wpAny_pure ?_) | skip
  refine wpAny_bind (wpAny_sequenceKey ht.typeIs (by decide) ?_)
  refine wpAny_bind (wpAny_callSpecial?_slot (name := Str.ofString "__getitem__") ht.typeIs PyProof.Rows.slot_tuple_getitem
    (wpAny_call_entry PyProof.Rows.slot_tuple_getitem ht.typeIs entry_tuple_getitem ?_ (args_tuple_getitem _ _)))
  show wpAny _ _ (Builtin.Tuple.tupleItemsOf (.ref t) >>= _) _ _ s
  refine wpAny_bind (tupleItemsOf_ ht ?_)
  refine wpAny_bind (wpAny_typeOf hTs ?_)
  rw [if_pos (by decide)]
  refine wpAny_bind (sliceApplied_rev hs ps ?_)
  have hno : ¬ ((((items.size : Int) - 1) == 0 && (-1 : Int) == 1 && items.size == items.size) = true) := by
    intro q
    rw [Bool.and_eq_true, Bool.and_eq_true] at q
    exact absurd q.1.2 (by decide)
  show wpAny _ _ (if (((items.size : Int) - 1) == 0 && (-1 : Int) == 1 && items.size == items.size) = true then _ else _) _ _ s
  rw [if_neg hno, pick_rev]
  first
    | exact wpAny_bind (m := Builtin.Tuple.tupleExact _) (wpAny_newObj_type (wpAny_pure ⟨_, rfl, wpAny_pure h⟩) htake)
    | exact wpAny_bind (m := Builtin.Tuple.tupleExact _) (wpAny_newObj_type (wpAny_bind (wpAny_pure (wpAny_pure ⟨_, rfl, wpAny_pure h⟩))) htake)
    | exact wpAny_bind (wpAny_bind (m := Builtin.Tuple.tupleExact _) (wpAny_newObj_type (wpAny_pure (wpAny_pure ⟨_, rfl, wpAny_pure h⟩)) htake))
    | exact wpAny_bind (wpAny_bind (m := Builtin.Tuple.tupleExact _) (wpAny_newObj_type (wpAny_pure ⟨_, rfl, wpAny_pure h⟩) htake))
end
section
variable {X : Cx}
def sqO (t : Bool) (xs : List V) : HO := bif t then .tup xs else .lst xs
def tRevS (K : PySem.W.Frag) (te : TE) : TE := fun σ H Q => te σ H fun x H1 => ∃ (t : Bool) (a : Addr) (xs : List V), x = .ref a ∧ Sq2 t K H1 a xs ∧ ∀ p, H1 p = none → Q (.ref p) (upd H1 p (sqO t xs.reverse))
theorem pe_revS {e : Expr} {te : TE} {k : Nat} {p1 p2 p3 pos : Pos} (he : PE X e te) : PE X (.Subscript e (.Slice none none (some (.UnaryOp .USub (.Constant (.int 1) k p1) p2)) p3) pos) (tRevS X.K te) := by
  refine ⟨fun pins s σ H Q I h => ?_⟩
  refine Subscript_ (thn (he.run pins s σ H _ I h) fun v s1 ⟨x, H1, I1, r1, q1⟩ => ?_)
  obtain ⟨t, a, xs, ex, hx, q⟩ := q1
  subst ex
  cases r1
  have hst : PO X (some (.UnaryOp .USub (.Constant (.int 1) k p1) p2)) (tPart (tUn (rU fun i => .int (-i)) (tC (.int 1)))) := po_some (pe_un un_neg pe_int)
  refine wpAny_Slice (thn (po_none.run pins s1 σ H1 (fun o H2 => o = none ∧ H2 = H1) I1 ⟨rfl, rfl⟩) fun vl s2 ⟨l, H2, I2, pl, el, e2⟩ => ?_)
  subst el e2
  refine thn (po_none.run pins s2 σ H2 (fun o H3 => o = none ∧ H3 = H2) I2 ⟨rfl, rfl⟩) fun vu s3 ⟨u, H3, I3, pu, eu, e3⟩ => ?_
  subst eu e3
  refine thn (hst.run pins s3 σ H3 (fun o H4 => o = some (-1) ∧ H4 = H3) I3 ⟨1, rfl, -1, rfl, rfl, rfl⟩) fun vs s4 ⟨o, H4, I4, ps, eo, e4⟩ => ?_
  subst eo e4
  have I5 : Inv X pins σ H4 { s4 with heap := s4.heap.push { cls := .type "slice", data := .fields #[vl, vu, vs] } } := I4.kept (t' := s4.toks) fun b ob q => Heap.get?_push_of_some _ q
  show wpAny (model X.prog X.w) X.A (subscriptTail e (.Slice none none (some (.UnaryOp .USub (.Constant (.int 1) k p1) p2)) p3) (.ref a) (.ref s4.heap.objs.size)) (EP X pins σ Q) X.xe { s4 with heap := s4.heap.push { cls := .type "slice", data := .fields #[vl, vu, vs] } }
  cases t
  · obtain ⟨its, r, ht, hz⟩ := I5.list hx
    have hlen := r.length
    refine tail_any (ops := [.ref a, .ref s4.heap.objs.size]) ht.isList.typeIs (PySem.slot_list_getitem.lookup) ?_ (by with_unfolding_all rfl)
    refine wpAny_getItem_list_slice ht.isList (Heap.IsSliceOf.new _ vl vu vs) pl pu ps (by decide) ?_ (by rw [List.size_toArray]; omega)
    rw [PySem.W.krv_pick]
    refine ⟨.ref _, _, I5.laid (t' := s4.toks) (o := .lst xs.reverse) (fun b ob q => Heap.get?_push_of_some _ q) (Nat.le_refl _) ?_, rfl, q _ (I5.hok.fresh (Nat.le_refl _))⟩
    exact ⟨by rw [List.length_reverse]; exact hz, _, 0, r.reverse, Heap.get?_push_size _ rfl⟩
  · obtain ⟨its, r, ht, hz⟩ := I5.tuple hx
    have hlen := r.length
    cases pl
    cases pu
    refine tail_any (ops := [.ref a, .ref s4.heap.objs.size]) ht.typeIs (PyProof.Rows.slot_tuple_getitem.lookup) ?_ (by with_unfolding_all rfl)
    refine getItem_tuple_rev ht (Heap.IsSliceOf.new _ _ _ vs) ps ?_ (by rw [List.size_toArray]; omega)
    refine ⟨.ref _, _, I5.laid (t' := s4.toks) (o := .tup xs.reverse) (fun b ob q => Heap.get?_push_of_some _ q) (Nat.le_refl _) ?_, rfl, q _ (I5.hok.fresh (Nat.le_refl _))⟩
    exact ⟨by rw [List.length_reverse]; exact hz, _, r.reverse, IsTup.new _ _⟩
theorem Sq2.new {t : Bool} {K : PySem.W.Frag} {H : Hp} {a : Addr} {xs : List V} : Sq2 t K (upd H a (sqO t xs)) a xs := by
  cases t
  · exact SqL.of upd_same
  · exact .inl (.inl upd_same)
/-- *xs, y = a list -/
def gStar1 (K : PySem.W.Frag) (t : TGs) : TG := fun v σ H Q => ∃ (a : Addr) (xs : List V) (y : V), v = .ref a ∧ SqL K H a (xs ++ [y]) ∧ xs.length ≤ 16000 ∧ ∀ D, H D = none → t [.ref D, y] σ (upd H D (.lst xs)) Q
theorem unpack_star1 {prog : Program} {w : World} {A : Around} {E : Value → Shared → Prop} {s : Shared} {l : Addr} {items : Array Value} {Q : List Value → Shared → Prop} (hl : s.heap.IsList l items) (hh : A.handled = none) (h0 : 1 ≤ items.size) (hz : items.size ≤ 16384)
    (h : ∀ (h₂ : Heap) (tk : Nat), (∀ b o, s.heap.get? b = some o → h₂.get? b = some o) → Q ([.ref h₂.objs.size] ++ items.toList.drop (items.size - 1)) { s with heap := h₂.push { cls := .type "list", data := .seq (items.toList.take (items.size - 1)).toArray 0 }, toks := tk }) : wpAny (model prog w) A (unpackItems (.ref l) 2 (some 0)) Q E s := by
  have hlt : l ≠ s.heap.objs.size := by obtain ⟨o, ho, _⟩ := hl; exact Nat.ne_of_lt (Heap.lt_size ho)
  unfold unpackItems
  refine wpAny_bind ?_
  unfold notIterableAtAll
  refine wpAny_bind (wpAny_specialOf hl.typeIs slot_list_iter.lookup ?_)
  refine wpAny_pure ?_
  simp only [Bool.false_eq_true, if_false]
  refine wpAny_bind (wpAny_holding (wpAny_pyIter_list hl ?_))
  refine wpAny_bind (wpAny_holding (PySem.W.kun_draw hlt 0 0 _ _ ⟨_, Heap.get?_push_size _ rfl, rfl, rfl⟩ (hl.push _) (by omega) fun h₁ hit₁ hs₁ => ?_))
  have hl₁ : h₁.IsList l items := (hl.push _).extBut hs₁.extBut hlt
  have hit₁' := hit₁
  obtain ⟨oi, hoi, _⟩ := hit₁'
  have hl₁' := hl₁
  obtain ⟨ol, hol, _⟩ := hl₁'
  rw [List.drop_zero, List.take_zero]
  rw [if_neg (show ¬ (([] : List Value).length < 0) by simp)]
  refine wpAny_bind (wpAny_holding (PySem.W.kun_collect (s := { s with heap := h₁ }) (T := "list_iterator") (.inr (.inr (.inl rfl))) (Walks.list (A := A.in1) hh s.heap.objs.size l hlt items) (fun j u st => st.1.typeIs) (k := 0) (by omega) ⟨hit₁, hl₁⟩ (Heap.lt_size hoi) (Heap.lt_size hol) (fun h₂ tk hk => ?_) (by rw [sizeLine_eq]; omega)))
  have hrl : (items.toList.drop 0).length = items.size := by rw [List.drop_zero, Array.length_toList]
  show wpAny _ _ (if (items.toList.drop 0).length < 2 - 1 - 0 then _ else _) _ _ _
  rw [if_neg (by rw [hrl]; omega)]
  show wpAny _ _ (newList ((items.toList.drop 0).take ((items.toList.drop 0).length - (2 - 1 - 0))) >>= fun d => pure ([] ++ [d] ++ (items.toList.drop 0).drop ((items.toList.drop 0).length - (2 - 1 - 0)))) _ _ _
  rw [hrl, List.drop_zero]
  have he : ∀ b o, s.heap.get? b = some o → h₂.get? b = some o := fun b o e => hk b o (Nat.ne_of_lt (Heap.lt_size e)) (hs₁.extBut b o (Nat.ne_of_lt (Heap.lt_size e)) (Heap.get?_push_of_some _ e))
  refine wpAny_bind ?_
  unfold newList
  refine wpAny_newObj_type (wpAny_pure ?_) (by show (items.toList.take (items.size - 1)).toArray.size ≤ sizeLine; rw [List.size_toArray, List.length_take, sizeLine_eq, Array.length_toList]; omega)
  exact h h₂ tk he
theorem pg_star1 {es : List Expr} {k : Nat} {pos : Pos} {t : TGs} (hc : X.calm = true) (h : PGs X es t)
    (hn : (assignEach es X.env).length = 2 := by rfl) (hst : (assignEach es X.env).findIdx? (·.1) = some 0 := by rfl) : PG X (.Tuple es k pos) (gStar1 X.K t) := by
  refine ⟨fun pins s σ H v u Q I r hw => ?_⟩
  obtain ⟨a, xs, y, e1, hq, hz, hw⟩ := hw
  subst e1
  cases r
  obtain ⟨its, rv, pl, hzz⟩ := I.list hq
  have hlen := rv.length
  rw [List.length_append, List.length_singleton] at hlen
  rw [PyProof.Rows.assign_Tuple]
  refine wpAny_bind (wpAny_standAt ?_)
  unfold unpack
  rw [hn, hst]
  refine wpAny_bind (wpAny_holding (unpack_star1 pl.isList (I.ok.hd hc) (by rw [List.size_toArray]; omega) (by rw [List.size_toArray]; omega) fun h' tk hx => ?_))
  have e3 : its.toArray.size - 1 = xs.length := by rw [List.size_toArray]; omega
  rw [e3]
  have rt := rv.take xs.length
  have rd := rv.drop xs.length
  rw [List.take_left' rfl] at rt
  rw [List.drop_left' rfl] at rd
  have I0 : Inv X pins σ H { s with heap := h', toks := tk } := I.kept (t' := tk) hx
  have I1 : Inv X pins σ (upd H h'.objs.size (.lst xs)) { s with heap := h'.push { cls := .type "list", data := .seq (its.take xs.length).toArray 0 }, toks := tk } := I0.laid (t' := tk) (o := .lst xs) (fun b u e => Heap.get?_push_of_some _ e) (Nat.le_refl _) ⟨by show xs.length ≤ sizeLine; rw [sizeLine_eq]; omega, _, 0, rt, Heap.get?_push_size _ rfl⟩
  exact h.run pins _ σ _ _ _ Q I1 (.cons (show RelV (.ref h'.objs.size) (.ref h'.objs.size) from rfl) rd) (hw _ (I0.hok.fresh (Nat.le_refl _)))
theorem pgs_star {e : Expr} {sp : Pos} {es : List Expr} {t : TG} {u : TGs} (h1 : PG X e t) (h2 : PGs X es u) : PGs X (.Starred e sp :: es) (gCons t u) := by
  refine ⟨fun pins s σ H vs us Q I r h => ?_⟩
  obtain ⟨v, vr, e1, h⟩ := h
  subst e1
  cases r with
  | cons r rr =>
    show wpAny _ _ (assignInOrder (assign e X.env :: (assignEach es X.env).map (·.2)) _) _ _ _
    refine assignInOrder_cons (thn (h1.run pins s σ H _ _ _ I r h) fun _ s1 ⟨σ1, H1, I1, q1⟩ => ?_)
    exact h2.run pins s1 σ1 H1 _ _ Q I1 rr q1
end
/-! ### list(zip(xs, ys)) of two lists -/
structure ZG (xs ys : List Value) (lo : Addr) (h : Heap) (as : List Addr) : Prop where
  rise : as.Pairwise (· < ·)
  above : ∀ a ∈ as, lo < a
  pairs : ∀ (j : Nat) (a : Addr), as[j]? = some a → ∃ x y, xs[j]? = some x ∧ ys[j]? = some y ∧ h.get? a = some { cls := .type "tuple", data := .seq #[x, y] }
theorem ZG.there {xs ys : List Value} {lo : Addr} {h : Heap} {as : List Addr} (g : ZG xs ys lo h as) {a : Addr} (ha : a ∈ as) : a < h.objs.size := by
  obtain ⟨j, hj⟩ := List.mem_iff_getElem?.mp ha
  obtain ⟨_, _, _, _, e⟩ := g.pairs j a hj
  exact Heap.lt_size e
structure ZAp (z TI TO i1 i2 l1 l2 S : Addr) : Prop where
  D : ZipApart z TI TO i1 i2 l1 l2
  Sz : z < S
  STI : TI < S
  STO : TO < S
  Si1 : i1 < S
  Si2 : i2 < S
  Sl1 : l1 < S
  Sl2 : l2 < S
def ZSt (z TI TO i1 i2 l1 l2 S : Addr) (xs ys : List Value) (i : Nat) (h : Heap) : Prop :=
  IsPair h TI (.ref i1) (.ref i2) ∧ h.IsListIter i1 l1 i ∧ h.IsListIter i2 l2 i ∧ h.IsList l1 xs.toArray ∧ h.IsList l2 ys.toArray ∧
   ((IsZip h z TI TO .none ∧ ∃ a b, IsPair h TO a b) ∨ ∃ T f oT, IsZipHeld h z TI TO T f ∧ h.get? T = some oT ∧ T ≠ z ∧ T ≠ i1 ∧ T ≠ i2 ∧ T ≠ S)
section
variable {prog : Program} {w : World} {A : Around} {s : Shared} {z TI TO i1 i2 l1 l2 S : Addr} {xs ys : List Value}
theorem ZSt.keep (G : ZAp z TI TO i1 i2 l1 l2 S) {i : Nat} {h h' : Heap} (st : ZSt z TI TO i1 i2 l1 l2 S xs ys i h) (hk : ∀ b o, b ≠ S → h.get? b = some o → h'.get? b = some o) : ZSt z TI TO i1 i2 l1 l2 S xs ys i h' := by
  obtain ⟨hTI, h1, h2, hl1, hl2, hz⟩ := st
  refine ⟨hk _ _ (Nat.ne_of_lt G.STI) hTI, h1.at fun o e => hk _ o (Nat.ne_of_lt G.Si1) e, h2.at fun o e => hk _ o (Nat.ne_of_lt G.Si2) e, hl1.at fun o e => hk _ o (Nat.ne_of_lt G.Sl1) e, hl2.at fun o e => hk _ o (Nat.ne_of_lt G.Sl2) e, ?_⟩
  rcases hz with ⟨hz, a, b, hTO⟩ | ⟨T, f, oT, hz, hT, r1, r2, r3, r4⟩
  · exact .inl ⟨hk _ _ (Nat.ne_of_lt G.Sz) hz, a, b, hk _ _ (Nat.ne_of_lt G.STO) hTO⟩
  · exact .inr ⟨T, f, oT, hk _ _ (Nat.ne_of_lt G.Sz) hz, hk _ _ r4 hT, r1, r2, r3, r4⟩
theorem zst_item (G : ZAp z TI TO i1 i2 l1 l2 S) {i : Nat} {x y : Value} {Q : Option Value → Shared → Prop} {E : Value → Shared → Prop} (st : ZSt z TI TO i1 i2 l1 l2 S xs ys i s.heap) (hS : S < s.heap.objs.size) (ex : xs[i]? = some x) (ey : ys[i]? = some y)
    (hQ : ∀ h', ZSt z TI TO i1 i2 l1 l2 S xs ys (i + 1) h' → IsPair h' s.heap.objs.size x y → (∀ c o, c ≠ z → c ≠ TO → c ≠ i1 → c ≠ i2 → s.heap.get? c = some o → h'.get? c = some o) → Q (some (.ref s.heap.objs.size)) { s with heap := h' }) :
    wpAny (model prog w) A (pyNext (.ref z)) Q E s := by
  obtain ⟨hTI, h1, h2, hl1, hl2, hz⟩ := st
  have D := G.D
  have ex' : xs.toArray[i]? = some x := by rw [List.getElem?_toArray]; exact ex
  have ey' : ys.toArray[i]? = some y := by rw [List.getElem?_toArray]; exact ey
  have lt : ∀ {c o}, s.heap.get? c = some o → s.heap.objs.size ≠ c := fun e => Nat.ne_of_gt (Heap.lt_size e)
  have n1 : s.heap.objs.size ≠ i1 := let ⟨_, e, _⟩ := h1; lt e
  have n2 : s.heap.objs.size ≠ i2 := let ⟨_, e, _⟩ := h2; lt e
  rcases hz with ⟨hz, a, b, hTO⟩ | ⟨T, f, oT, hz, hT, r1, r2, r3, r4⟩
  · refine wpAny_pyNext_zip_item D hz hTI hTO h1 h2 hl1 hl2 ex' ey' fun h' a1 a2 a3 a4 a5 a6 hk => ?_
    exact hQ h' ⟨hk _ _ D.TIz D.TITO D.TIi1 D.TIi2 hTI, a3, a4, hl1.at fun o e => hk _ o D.l1z D.l1TO D.l1i1 D.l1i2 e, hl2.at fun o e => hk _ o D.l2z D.l2TO D.l2i1 D.l2i2 e,
      .inr ⟨s.heap.objs.size, false, _, a1, a5, lt hz, n1, n2, Nat.ne_of_gt hS⟩⟩ a5 hk
  · refine wpAny_pyNext_zip_item_held D hz hT hTI h1 h2 hl1 hl2 ex' ey' fun h' a1 a3 a4 a5 a6 hk => ?_
    exact hQ h' ⟨hk _ _ D.TIz D.TIi1 D.TIi2 hTI, a3, a4, hl1.at fun o e => hk _ o D.l1z D.l1i1 D.l1i2 e, hl2.at fun o e => hk _ o D.l2z D.l2i1 D.l2i2 e,
      .inr ⟨T, true, oT, a1, hk _ _ r1 r2 r3 hT, r1, r2, r3, r4⟩⟩ a5 fun c o c1 _ c3 c4 e => hk c o c1 c3 c4 e
theorem zst_done (hh : A.handled = none) (G : ZAp z TI TO i1 i2 l1 l2 S) {i : Nat} {Q : Option Value → Shared → Prop} {E : Value → Shared → Prop} (st : ZSt z TI TO i1 i2 l1 l2 S xs ys i s.heap) (he : xs[i]? = none ∨ ys[i]? = none)
    (hQ : ∀ h', (∀ c o, c ≠ z → c ≠ TO → c ≠ i1 → c ≠ i2 → s.heap.get? c = some o → h'.get? c = some o) → Q none { s with heap := h' }) :
    wpAny (model prog w) A (pyNext (.ref z)) Q E s := by
  obtain ⟨hTI, h1, h2, hl1, hl2, hz⟩ := st
  have hend : xs.toArray[i]? = none ∨ ys.toArray[i]? = none := by rw [List.getElem?_toArray, List.getElem?_toArray]; exact he
  rcases hz with ⟨hz, a, b, hTO⟩ | ⟨T, f, oT, hz, hT, r1, r2, r3, r4⟩
  · exact wpAny_pyNext_zip_end hh G.D hz hTI hTO h1 h2 hl1 hl2 hend fun h' hk => hQ h' hk
  · exact wpAny_pyNext_zip_end_held hh G.D hz hT hTI h1 h2 hl1 hl2 hend fun h' hk => hQ h' fun c o c1 _ c3 c4 e => hk c o c1 c3 c4 e
theorem zl_loop (hh : A.handled = none) (G : ZAp z TI TO i1 i2 l1 l2 S) {n : Nat} (hx : xs.length = n) (hy : ys.length = n) (hn : n ≤ sizeLine) {h₁ : Heap} {R : Result → Shared → Prop} (res : Value)
    (hR : ∀ h' acc c as, (∀ b o, b ≠ S → b ≠ z → b ≠ TO → b ≠ i1 → b ≠ i2 → h₁.get? b = some o → h'.get? b = some o) → h'.get? S = some { cls := .type "list", dict := none, data := .seq acc c, slots := #[] } → as.length = n → ZG xs ys S h' as →
      acc.toList = as.map Value.ref → R (.ok (.ret res)) { s with heap := h' }) :
    ∀ (k i : Nat) (h : Heap) (c : Nat) (acc : Array Value) (as : List Addr), n - i = k → i ≤ n → ZSt z TI TO i1 i2 l1 l2 S xs ys i h → (∀ b o, b ≠ S → b ≠ z → b ≠ TO → b ≠ i1 → b ≠ i2 → h₁.get? b = some o → h.get? b = some o) →
      h.get? S = some { cls := .type "list", dict := none, data := .seq acc c, slots := #[] } → acc.toList = as.map Value.ref → as.length = i → ZG xs ys S h as →
      codeAny (model prog w) A (.builtin "list.extend.loop" ⟨[.ref S, .ref z, res], []⟩) R { s with heap := h } := by
  have nS : ∀ {b : Addr}, S < b → b ≠ z ∧ b ≠ TO ∧ b ≠ i1 ∧ b ≠ i2 := fun {b} hb => ⟨Nat.ne_of_gt (Nat.lt_trans G.Sz hb), Nat.ne_of_gt (Nat.lt_trans G.STO hb), Nat.ne_of_gt (Nat.lt_trans G.Si1 hb), Nat.ne_of_gt (Nat.lt_trans G.Si2 hb)⟩
  have nS0 : S ≠ z ∧ S ≠ TO ∧ S ≠ i1 ∧ S ≠ i2 := ⟨Nat.ne_of_gt G.Sz, Nat.ne_of_gt G.STO, Nat.ne_of_gt G.Si1, Nat.ne_of_gt G.Si2⟩
  intro k
  induction k with
  | zero =>
    intro i h c acc as hk hi hst hkeep hS hacc hal hG
    refine codeAny_builtin PySem.F.entry_extend_loop ?_
    rw [Around.under_plainId PySem.F.plain_extend_loop _]
    show wpAny _ A.in1 (pyNext (.ref z) >>= _) _ _ _
    refine wpAny_bind (zst_done (s := { s with heap := h }) (A := A.in1) hh G hst (.inl (List.getElem?_eq_none (by omega))) fun h' he => ?_)
    refine wpAny_pure (hR h' acc c as (fun b o h1 h2 h3 h4 h5 e => he b o h2 h3 h4 h5 (hkeep b o h1 h2 h3 h4 h5 e)) (he S _ nS0.1 nS0.2.1 nS0.2.2.1 nS0.2.2.2 hS) (by omega) ⟨hG.rise, hG.above, fun j a hj => ?_⟩ hacc)
    obtain ⟨x, y, e1, e2, e3⟩ := hG.pairs j a hj
    obtain ⟨q1, q2, q3, q4⟩ := nS (hG.above a (List.mem_of_getElem? hj))
    exact ⟨x, y, e1, e2, he a _ q1 q2 q3 q4 e3⟩
  | succ k ih =>
    intro i h c acc as hk hi hst hkeep hS hacc hal hG
    have hlt : i < n := by omega
    have ex : xs[i]? = some (xs[i]'(by omega)) := List.getElem?_eq_getElem (by omega)
    have ey : ys[i]? = some (ys[i]'(by omega)) := List.getElem?_eq_getElem (by omega)
    have hsz : acc.size = i := by rw [← Array.length_toList, hacc, List.length_map, hal]
    refine codeAny_builtin PySem.F.entry_extend_loop ?_
    rw [Around.under_plainId PySem.F.plain_extend_loop _]
    show wpAny _ A.in1 (pyNext (.ref z) >>= _) _ _ _
    refine wpAny_bind (zst_item (s := { s with heap := h }) G hst (Heap.lt_size hS) ex ey fun h' hst' ht hkp => ?_)
    dsimp only at ht hkp ⊢
    have hS' := hkp S _ nS0.1 nS0.2.1 nS0.2.2.1 nS0.2.2.2 hS
    have up : ∀ b o, b ≠ S → h'.get? b = some o → (h'.update S (Obj.mapSeq (·.push (Value.ref h.objs.size)))).get? b = some o := fun b o hb e => (Heap.get?_update_other _ _ (Ne.symm hb)).trans e
    have hSl : S < h.objs.size := Heap.lt_size hS
    show wpAny _ A.in1 (updateSeq S (·.push (Value.ref h.objs.size)) >>= _) _ _ _
    refine wpAny_bind ?_
    refine wpAny_updateSeq hS' rfl (wpAny_pure ⟨plainId_quiet PySem.F.plain_extend_loop _, ih (i + 1) _ _ (acc.push (Value.ref h.objs.size)) (as ++ [h.objs.size]) (by omega) hlt (hst'.keep G up)
      (fun b o h1 h2 h3 h4 h5 e => up b o h1 (hkp b o h2 h3 h4 h5 (hkeep b o h1 h2 h3 h4 h5 e))) (Heap.get?_update_self _ hS' rfl) (by rw [Array.toList_push, hacc, List.map_append]; rfl) (by rw [List.length_append, hal]; rfl) ⟨?_, ?_, ?_⟩⟩) (by rw [hsz]; omega) (by show (acc.push (Value.ref h.objs.size)).size ≤ sizeLine + 1; rw [Array.size_push, hsz]; omega)
    · refine List.pairwise_append.mpr ⟨hG.rise, List.pairwise_singleton _ _, fun a ha b hb => ?_⟩
      rw [List.mem_singleton.mp hb]
      exact hG.there ha
    · intro a ha
      rcases List.mem_append.mp ha with ha | ha
      · exact hG.above a ha
      · rw [List.mem_singleton.mp ha]; exact hSl
    · intro j b hj
      rcases Nat.lt_trichotomy j as.length with h1 | h1 | h1
      · rw [List.getElem?_append_left h1] at hj
        obtain ⟨x', y', e1, e2, e3⟩ := hG.pairs j b hj
        have hb := hG.above b (List.mem_of_getElem? hj)
        obtain ⟨q1, q2, q3, q4⟩ := nS hb
        exact ⟨x', y', e1, e2, up b _ (Nat.ne_of_gt hb) (hkp b _ q1 q2 q3 q4 e3)⟩
      · subst h1
        have hb : h.objs.size = b := by simpa using hj
        subst hb
        exact ⟨_, _, by rw [hal]; exact ex, by rw [hal]; exact ey, up _ _ (Nat.ne_of_gt hSl) ht⟩
      · have hnone : (as ++ [h.objs.size])[j]? = none := List.getElem?_eq_none (by rw [List.length_append, List.length_singleton]; omega)
        rw [hnone] at hj; cases hj
theorem zip_no_len : typeLookup (.type "zip") "__len__" = pure none := by rw [typeLookup_type, builtinLookup_eq_fast]; kernel_rfl
theorem zip_no_hint : typeLookup (.type "zip") "__length_hint__" = pure none := by rw [typeLookup_type, builtinLookup_eq_fast]; kernel_rfl
theorem zl_extend {R : Result → Shared → Prop} (hh : A.handled = none) (G : ZAp z TI TO i1 i2 l1 l2 S) {n : Nat} (hx : xs.length = n) (hy : ys.length = n) (hn : n ≤ sizeLine) (hz : IsZip s.heap z TI TO .none) (st : ZSt z TI TO i1 i2 l1 l2 S xs ys 0 s.heap) (res : Value) (c₀ : Nat) (hS : s.heap.get? S = some { cls := .type "list", data := .seq #[] c₀ })
    (hR : ∀ h' acc c as, (∀ b o, b ≠ S → b ≠ z → b ≠ TO → b ≠ i1 → b ≠ i2 → s.heap.get? b = some o → h'.get? b = some o) → h'.get? S = some { cls := .type "list", dict := none, data := .seq acc c, slots := #[] } → as.length = n → ZG xs ys S h' as →
      acc.toList = as.map Value.ref → R (.ok (.ret res)) { s with heap := h' }) :
    wpAny (model prog w) A.in1 (Builtin.List.listExtendWith (.ref S) (.ref z) res)
      (fun fin s' => match fin with | .done f => R (.ok f) s' | .again c' => c'.quiet = true ∧ codeAny (model prog w) A c' R s') (fun e s' => R (.error e) s') s := by
  have hT : s.TypeIs (.ref z) "zip" := ⟨_, hz, rfl⟩
  unfold Builtin.List.listExtendWith
  refine wpAny_bind (wpAny_typeOf hT ?_)
  have h1 : Builtin.List.listSameRef (.ref S) (.ref z) = false := by simp [Builtin.List.listSameRef, Nat.ne_of_gt G.Sz]
  have h2 : (Value.type "zip" == Value.type "list") = false := by decide
  have h3 : (Value.type "zip" == Value.type "tuple") = false := by decide
  simp only [h1, h2, h3, Bool.or_false, Bool.false_eq_true, if_false]
  refine wpAny_bind (wpAny_pyIter_zip hz ?_)
  refine wpAny_bind (wpAny_holding ?_)
  unfold Builtin.List.listLengthHint
  refine wpAny_bind (wpAny_specialOf hT zip_no_len ?_)
  show wpAny _ A.in1 (specialOf (Value.ref z) (Str.ofString "__length_hint__") >>= _) _ _ _
  refine wpAny_bind (wpAny_specialOf hT zip_no_hint ?_)
  refine wpAny_pure ?_
  show wpAny _ A.in1 (rule "list.extend.makes-room" >>= fun _ => Builtin.List.listTouch (.ref S) >>= fun _ =>
    again (.builtin "list.extend.loop" ⟨[.ref S, .ref z, res], []⟩)) _ _ _
  refine wpAny_bind (wpAny_rule ?_)
  refine wpAny_bind ?_
  show wpAny _ A.in1 (updateSeq S (·.push .none) >>= fun _ => updateSeq S (·.pop)) _ _ _
  refine wpAny_bind (wpAny_updateSeq hS rfl ?_)
  have hS₂ := Heap.get?_update_self (Obj.mapSeq (·.push Value.none)) hS rfl
  refine wpAny_updateSeq (hz := by seq_fits) hS₂ rfl ?_
  have hS₃ := Heap.get?_update_self (Obj.mapSeq (·.pop)) hS₂ rfl
  have oth : ∀ b o, b ≠ S → s.heap.get? b = some o → ((s.heap.update S (Obj.mapSeq (·.push Value.none))).update S (Obj.mapSeq (·.pop))).get? b = some o :=
    fun b o hb e => (Heap.get?_update_other _ _ (Ne.symm hb)).trans ((Heap.get?_update_other _ _ (Ne.symm hb)).trans e)
  exact wpAny_pure ⟨plainId_quiet F.plain_extend_loop _, zl_loop (s := s) hh G hx hy hn res hR n 0 _ _ #[] [] (Nat.sub_zero _) (Nat.zero_le _) (st.keep G oth) (fun b o h1 _ _ _ _ e => oth b o h1 e) hS₃ rfl rfl
    ⟨List.Pairwise.nil, (fun _ ha => nomatch ha), (fun j a hj => by simp at hj)⟩⟩
theorem zl_init {R : Result → Shared → Prop} (hh : A.handled = none) (G : ZAp z TI TO i1 i2 l1 l2 S) {n : Nat} (hx : xs.length = n) (hy : ys.length = n) (hn : n ≤ sizeLine) (hz : IsZip s.heap z TI TO .none) (st : ZSt z TI TO i1 i2 l1 l2 S xs ys 0 s.heap) (hS : s.heap.get? S = some { cls := .type "list", data := .seq #[] })
    (hR : ∀ h' acc c as, (∀ b o, b ≠ S → b ≠ z → b ≠ TO → b ≠ i1 → b ≠ i2 → s.heap.get? b = some o → h'.get? b = some o) → h'.get? S = some { cls := .type "list", dict := none, data := .seq acc c, slots := #[] } → as.length = n → ZG xs ys S h' as →
      acc.toList = as.map Value.ref → R (.ok (.ret .none)) { s with heap := h' }) :
    wpAny (model prog w) A.in1 (Builtin.«list.__init__» ⟨[.ref S, .ref z], []⟩)
      (fun fin s' => match fin with | .done f => R (.ok f) s' | .again c' => c'.quiet = true ∧ codeAny (model prog w) A c' R s') (fun e s' => R (.error e) s') s := by
  show wpAny _ A.in1 (do let old ← Builtin.List.listItems (.ref S); Builtin.List.listUpdate (.ref S) (fun _ => #[]); letGo old.toList.reverse; Builtin.List.listExtendWith (.ref S) (.ref z) .none) _ _ s
  refine wpAny_bind ?_
  unfold Builtin.List.listItems
  refine wpAny_bind (wpAny_seqItems hS rfl (wpAny_pure ?_))
  show wpAny _ A.in1 (updateSeq S (fun _ => #[]) >>= fun _ => letGo (#[] : Array Value).toList.reverse >>= fun _ => Builtin.List.listExtendWith (.ref S) (.ref z) .none) _ _ s
  refine wpAny_bind (wpAny_updateSeq hS rfl ?_)
  have hS₂ := Heap.get?_update_self (Obj.mapSeq (fun _ => (#[] : Array Value))) hS rfl
  have oth : ∀ b o, b ≠ S → s.heap.get? b = some o → (s.heap.update S (Obj.mapSeq (fun _ => (#[] : Array Value)))).get? b = some o :=
    fun b o hb e => (Heap.get?_update_other _ _ (Ne.symm hb)).trans e
  refine wpAny_bind (wpAny_letGo ?_)
  exact zl_extend (s := { s with heap := _ }) hh G hx hy hn (oth _ _ (Nat.ne_of_lt G.Sz) hz) (st.keep G oth) .none _ hS₂ fun h' acc c as hk hS' hl hG hacc => hR h' acc c as (fun b o h1 h2 h3 h4 h5 e => hk b o h1 h2 h3 h4 h5 (oth b o h1 e)) hS' hl hG hacc
theorem zl_call {Q : Value → Shared → Prop} {E : Value → Shared → Prop} (hh : A.handled = none) (G : ZAp z TI TO i1 i2 l1 l2 s.heap.objs.size) {n : Nat} (hx : xs.length = n) (hy : ys.length = n) (hn : n ≤ sizeLine) (hz : IsZip s.heap z TI TO .none) (st : ZSt z TI TO i1 i2 l1 l2 s.heap.objs.size xs ys 0 s.heap)
    (hQ : ∀ h' acc c as, (∀ b o, b ≠ z → b ≠ TO → b ≠ i1 → b ≠ i2 → s.heap.get? b = some o → h'.get? b = some o) → h'.get? s.heap.objs.size = some { cls := .type "list", dict := none, data := .seq acc c, slots := #[] } → as.length = n → ZG xs ys s.heap.objs.size h' as →
      acc.toList = as.map Value.ref → Q (.ref s.heap.objs.size) { s with heap := h' }) :
    wpAny (model prog w) A (call (.type "list") [.ref z]) Q E s := by
  refine callType_codes (Q₁ := fun obj s₁ => obj = .ref s.heap.objs.size ∧ s₁ = { s with heap := s.heap.push { cls := .type "list", data := .seq #[] } }) PySem.F.called_list (PySem.F.typeCall_list_1 _) PySem.F.entry_list_init
    (code_list_new _ ⟨rfl, rfl⟩) fun obj s₁ h₁ => ?_
  obtain ⟨rfl, rfl⟩ := h₁
  have hS : (s.heap.push { cls := .type "list", data := .seq #[] }).get? s.heap.objs.size = some { cls := .type "list", data := .seq #[] } := Heap.get?_push_size _ rfl
  have pk : ∀ b o, s.heap.get? b = some o → (s.heap.push { cls := .type "list", data := .seq #[] }).get? b = some o := fun b o e => Heap.get?_push_of_some _ e
  refine ⟨⟨_, hS, rfl⟩, PySem.F.args_list_init_2 _ _, zl_init (s := { s with heap := _ }) (A := A.in1) hh G hx hy hn (pk _ _ hz) (st.keep G fun b o _ e => pk b o e) hS (fun h' acc c as hk hS' hl hG hacc => ?_)⟩
  exact ⟨rfl, hQ h' acc c as (fun b o h2 h3 h4 h5 e => hk b o (Nat.ne_of_lt (Heap.lt_size e)) h2 h3 h4 h5 (pk b o e)) hS' hl hG hacc⟩
end
/-- the tuples tracked at their addresses -/
def zPut : Hp → List Addr → List (V × V) → Hp
  | H, a :: as, p :: ps => zPut (upd H a (.tup [p.1, p.2])) as ps
  | H, _, _ => H
theorem zPut_off {b : Addr} : ∀ (as : List Addr) (ps : List (V × V)) (H : Hp), b ∉ as → zPut H as ps b = H b
  | [], _, _, _ => rfl
  | _ :: _, [], _, _ => rfl
  | a :: as, p :: ps, H, h => by
    show zPut (upd H a (.tup [p.1, p.2])) as ps b = H b
    rw [zPut_off as ps _ (fun z => h (List.mem_cons_of_mem _ z)), upd_ne (fun z => h (by rw [z]; exact List.mem_cons_self))]
theorem zPut_at : ∀ (as : List Addr) (ps : List (V × V)) (H : Hp), as.length = ps.length → as.Nodup → Paired (fun (t : Addr) (p : V × V) => zPut H as ps t = some (.tup [p.1, p.2])) as ps
  | [], [], _, _, _ => .nil
  | [], _ :: _, _, h, _ => by cases h
  | _ :: _, [], _, h, _ => by cases h
  | a :: as, p :: ps, H, h, hn => by
    have hn' := List.nodup_cons.mp hn
    have ih := zPut_at as ps (upd H a (.tup [p.1, p.2])) (Nat.succ.inj h) hn'.2
    refine .cons ?_ ih
    show zPut (upd H a (.tup [p.1, p.2])) as ps a = some (.tup [p.1, p.2])
    rw [zPut_off as ps _ hn'.1, upd_same]
def tListZip (K : PySem.W.Frag) (ta : TA) : TE := fun σ H Q => ta σ H fun vs H1 => ∃ (a b : Addr) (xs ys : List V), vs = [.ref a, .ref b] ∧ SqL K H1 a xs ∧ SqL K H1 b ys ∧ xs.length = ys.length ∧
  ∀ (H' : Hp) (p : Addr) (ts : List Addr), (∀ b o, H1 b = some o → H' b = some o) → H1 p = none → (∀ t ∈ ts, H1 t = none) → p ∉ ts → ts.length = xs.length → H' p = some (.lst (ts.map V.ref)) → Paired (fun (t : Addr) (q : V × V) => H' t = some (.tup [q.1, q.2])) ts (xs.zip ys) → Q (.ref p) H'
section
variable {X : Cx} {ta : TA} {e1 e2 : Expr} {p p2 pos pos2 : Pos}
theorem zl_laid {pins : List (Addr × Obj)} {σ : L2.St} {H : Hp} {s : Shared} {h' : Heap} {xs ys : List V} {us vs : List Value} {acc : Array Value} {c : Nat} {as : List Addr} {S : Addr} (I : Inv X pins σ H s) (hS0 : s.heap.objs.size ≤ S) (hz : xs.length ≤ sizeLine) (hxy : xs.length = ys.length) (rx : Vals xs us) (ry : Vals ys vs)
    (hk : ∀ b o, s.heap.get? b = some o → h'.get? b = some o) (hS : h'.get? S = some { cls := .type "list", dict := none, data := .seq acc c, slots := #[] }) (hl : as.length = xs.length) (hG : ZG us vs S h' as) (hacc : acc.toList = as.map Value.ref) :
    ∃ H' : Hp, (∀ b o, H b = some o → H' b = some o) ∧ H S = none ∧ (∀ t ∈ as, H t = none) ∧ S ∉ as ∧ H' S = some (.lst (as.map V.ref)) ∧ Paired (fun (t : Addr) (q : V × V) => H' t = some (.tup [q.1, q.2])) as (xs.zip ys) ∧ Inv X pins σ H' { s with heap := h' } := by
  have lz : as.length = (xs.zip ys).length := by rw [List.length_zip]; omega
  have hSn : S ∉ as := fun z => Nat.lt_irrefl _ (hG.above _ z)
  have nd : as.Nodup := List.Pairwise.imp (fun {a b} (h : a < b) => Nat.ne_of_lt h) hG.rise
  have new : ∀ t ∈ as, H t = none := fun t ht => I.hok.fresh (Nat.le_trans hS0 (Nat.le_of_lt (hG.above t ht)))
  have newS : H S = none := I.hok.fresh hS0
  have atP := zPut_at as (xs.zip ys) (upd H S (.lst (as.map V.ref))) lz nd
  have off : ∀ b, b ∉ as → b ≠ S → zPut (upd H S (.lst (as.map V.ref))) as (xs.zip ys) b = H b := fun b h1 h2 => by rw [zPut_off as _ _ h1, upd_ne h2]
  have low : ∀ b o, s.heap.get? b = some o → b ∉ as ∧ b ≠ S := fun b o e => ⟨fun z => absurd (Heap.lt_size e) (Nat.not_lt.mpr (Nat.le_trans hS0 (Nat.le_of_lt (hG.above b z)))), Nat.ne_of_lt (Nat.lt_of_lt_of_le (Heap.lt_size e) hS0)⟩
  have kp : ∀ b u, H b = some u → (zPut (upd H S (.lst (as.map V.ref))) as (xs.zip ys)) b = some u := fun b u e => by
    rw [off b (fun z => by rw [new b z] at e; cases e) (fun z => by rw [z, newS] at e; cases e)]
    exact e
  have eS : zPut (upd H S (.lst (as.map V.ref))) as (xs.zip ys) S = some (.lst (as.map V.ref)) := by rw [zPut_off as _ _ hSn, upd_same]
  refine ⟨zPut (upd H S (.lst (as.map V.ref))) as (xs.zip ys), kp, newS, new, hSn, eS, atP, ?_⟩
  refine I.call' (ch := []) rfl ⟨fun b o q _ _ _ => hk b o q, fun b o q _ _ _ => ⟨o.slots, hk b o q⟩, fun b o q n _ => ?_, fun b o q _ => ⟨o, hk b o q⟩, fun b xs q => kp b _ q, fun b o u q => kp b _ q, fun b ps q => ⟨#[], by rw [kp b _ q]; simp⟩⟩ (fun b u q => ?_) I.bare fun b z => by simp at z
  · obtain ⟨z1, z2⟩ := low b o q
    rw [off b z1 z2]
    exact n
  · by_cases hb : b ∈ as
    · obtain ⟨j, pk, e1, e2, e3⟩ := LiI.paired_ix atP hb
      rw [e3] at q
      cases q
      obtain ⟨x, y, f1, f2, f3⟩ := hG.pairs j b e1
      rw [List.getElem?_zip_eq_some] at e2
      obtain ⟨g1, g2⟩ := e2
      obtain ⟨x', k1, k2⟩ := rx.get g1
      obtain ⟨y', k3, k4⟩ := ry.get g2
      rw [f1] at k1
      rw [f2] at k3
      cases k1
      cases k3
      exact ⟨by show 2 ≤ sizeLine; decide, [x, y], .cons k2 (.cons k4 .nil), ⟨_, f3, rfl, _, rfl⟩⟩
    · by_cases hb2 : b = S
      · rw [hb2] at q ⊢
        rw [eS] at q
        cases q
        refine ⟨by rw [List.length_map]; omega, acc.toList, c, by rw [hacc]; exact LiI.vals_refs as, ?_⟩
        rw [Array.toArray_toList]
        exact hS
      · rw [off b hb hb2] at q
        exact (I.hok b u q).stay (fun d v _ y => hk d v y) (fun d y => kp d _ y) fun d xs y => kp d _ y
theorem zneq_l {a b : Nat} (h : a < b) : a ≠ b := Nat.ne_of_lt h
/-- list(zip(e1, e2)) of two lists -/
theorem pe_listZip (hc : X.calm = true) (hg : Gl X "list") (hm : X.mg "list" = none) (hv : bootBuiltins "list" = some (.type "list")) (hgz : Gl X "zip") (hmz : X.mg "zip" = none) (ha : PA X [e1, e2] ta)
    (hs : starEach [.Call (.Name "zip" p2) [e1, e2] [] pos2] X.env = (false, eval (.Call (.Name "zip" p2) [e1, e2] [] pos2) X.env) :: starEach [] X.env := by rfl)
    (hs2 : starEach [e1, e2] X.env = (false, eval e1 X.env) :: starEach [e2] X.env := by rfl) (hp2 : (backTo pos2 (starEach [e2] X.env)).any (·.1) = false := by rfl) :
    PE X (.Call (.Name "list" p) [.Call (.Name "zip" p2) [e1, e2] [] pos2] [] pos) (tListZip X.K ta) := by
  refine ⟨fun pins s σ H Q I hq => ?_⟩
  refine wpAny_Call_Name_kw (ld_blt I hg hm hv ?_)
  refine PyProof.Rows.callWith_type1 ?_ hs rfl
  rw [hs]
  show wpAny _ _ (spliced ((false, eval (.Call (.Name "zip" p2) [e1, e2] [] pos2) X.env) :: backTo pos (starEach [] X.env))) _ _ s
  refine Calls.spliced_cons ?_
  refine Call_ (ld_blt I hgz hmz PyProof.Rows.boot_zip (PyProof.Rows.callWith_type1 (thn (ha.run pos2 pins s σ H _ I hq) fun us s1 hh => ?_) hs2 hp2))
  obtain ⟨vs, H1, I1, r1, a, b, xs, ys, rfl, hx, hy, hxy, q⟩ := hh
  match us, r1 with
  | [v1, v2], .cons hv1 (.cons hv2 .nil) =>
    cases hv1
    cases hv2
    obtain ⟨its1, rv1, p1, z1⟩ := I1.list hx
    obtain ⟨its2, rv2, p2, z2⟩ := I1.list hy
    have la : a < s1.heap.objs.size := by
      obtain ⟨o, e, _⟩ := p1.isList
      exact Heap.lt_size e
    have lb : b < s1.heap.objs.size := by
      obtain ⟨o, e, _⟩ := p2.isList
      exact Heap.lt_size e
    refine call_zip_2 p1.isList p2.isList fun h' a1 a2 a3 g1 g2 gs k => ?_
    refine Calls.spliced_nil ?_
    have e1 := rv1.length
    have e2 := rv2.length
    have G : ZAp (s1.heap.objs.size + 4) (s1.heap.objs.size + 2) (s1.heap.objs.size + 3) s1.heap.objs.size (s1.heap.objs.size + 1) a b h'.objs.size := by
      have gs' : (h'.objs.size : Nat) = s1.heap.objs.size + 5 := gs
      refine ⟨⟨?_, ?_, ?_, ?_, ?_, ?_, ?_, ?_, ?_, ?_, ?_, ?_, ?_, ?_, ?_, ?_, ?_, ?_⟩, ?_, ?_, ?_, ?_, ?_, ?_, ?_⟩
      all_goals first
        | (with_reducible show (_ : Nat) < (_ : Nat); omega)
        | (show (_ : Nat) ≠ (_ : Nat); omega)
        | exact (by rw [gs]; exact Nat.lt_add_right _ la)
        | exact (by rw [gs]; exact Nat.lt_add_right _ lb)
        | exact zneq_l la
        | exact zneq_l lb
        | exact zneq_l (Nat.lt_add_right _ la)
        | exact zneq_l (Nat.lt_add_right _ lb)
    refine zl_call (s := { s1 with heap := h' }) (xs := its1) (ys := its2) (n := xs.length) (I1.ok.hd hc) G (by omega) (by omega) (by omega) a1 ⟨a2, g1, g2, p1.isList.at fun o e => k _ o e, p2.isList.at fun o e => k _ o e, .inl ⟨a1, _, _, a3⟩⟩ fun h2 acc c as hk hS' hl hG hacc => ?_
    have hkk : ∀ b o, s1.heap.get? b = some o → h2.get? b = some o := fun b o e => by
      have l := Heap.lt_size e
      exact hk b o (zneq_l (Nat.lt_add_right _ l)) (zneq_l (Nat.lt_add_right _ l)) (zneq_l l) (zneq_l (Nat.lt_add_right _ l)) (k b o e)
    obtain ⟨H', k1, k2, k3, k4, k5, k6, J⟩ := zl_laid (S := h'.objs.size) I1 (by omega) (by omega) hxy rv1 rv2 hkk hS' hl hG hacc
    exact ⟨.ref _, H', J, rfl, q H' _ as k1 k2 k3 k4 hl k5 k6⟩
end
/-! ### enumerate of a list or a tuple -/
set_option maxHeartbeats 1000000 in
theorem meets_enumerate_newV {v : Value} {o : Obj} {H : Heap → Prop} (B : Begins v o H) :
    Meets (Builtin.«enumerate.__new__» ⟨[.type "enumerate", v], []⟩) (fun _ R s => H s.heap ∧
      R (.ok (.ret (.ref (s.heap.push o).objs.size))) { s with heap := (s.heap.push o).push { cls := .type "enumerate", data := .fields #[.none, .bool false, .ref s.heap.objs.size, rawInt 0, .none, .none] } }) :=
  .of_wp fun prog w A R s h => by
    obtain ⟨hp, g, d, tk, os⟩ := s; obtain ⟨h1, h⟩ := h
    have hsub := sub_enumerate
    have q1 : ∀ {A' : Around} {E : Value → Shared → Prop} {Q : Value → Shared → Prop}, Q (.ref hp.objs.size) ⟨hp.push o, g, d, tk, os⟩ → wpAny (model prog w) A' (pyIter v) Q E ⟨hp, g, d, tk, os⟩ :=
      fun q => B.iter prog w _ _ ⟨hp, g, d, tk, os⟩ _ h1 q
    wp_walk using q1
    refine wpAny_stack_any fun st => wpAny_pure ?_
    split
    · rename_i c _ _ _ _ _
      cases (c == Value.type "enumerate")
      · wp_walk using q1
        exact ⟨_, rfl, h⟩
      · wp_walk using q1
        exact ⟨_, rfl, h⟩
    · wp_walk using q1
      exact ⟨_, rfl, h⟩
theorem call_enumerate_v {prog : Program} {w : World} {A : Around} {E : Value → Shared → Prop} {s : Shared} {v : Value} {o : Obj} {H : Heap → Prop} {Q : Value → Shared → Prop} (B : Begins v o H) (h1 : H s.heap)
    (h : ∀ h', IsEnum h' (s.heap.objs.size + 1) s.heap.objs.size 0 .none → h'.get? s.heap.objs.size = some o → h'.objs.size = s.heap.objs.size + 2 →
      (∀ b o, s.heap.get? b = some o → h'.get? b = some o) → Q (.ref (s.heap.objs.size + 1)) { s with heap := h' }) :
    wpAny (model prog w) A (call (.type "enumerate") [v]) Q E s := by
  refine callType_new F.called_enumerate (by decide) (F.typeCall_enumerate_1 _) (F.newCall_enumerate_1 _) (fun obj => F.args_object_init_2 obj _) F.entry_enumerate_new
    (meets_enumerate_newV B) ⟨h1, ?_⟩
  have hz : (s.heap.push o).objs.size = s.heap.objs.size + 1 := Heap.size_push ..
  show _ ∧ _
  rw [hz]
  have he : IsEnum ((s.heap.push o).push { cls := .type "enumerate", data := .fields #[.none, .bool false, .ref s.heap.objs.size, rawInt 0, .none, .none] }) (s.heap.objs.size + 1) s.heap.objs.size 0 .none := by
    have := Heap.get?_push_size (s.heap.push o) (o := { cls := .type "enumerate", data := .fields #[.none, .bool false, .ref s.heap.objs.size, rawInt 0, .none, .none] }) rfl
    rw [hz] at this; exact this
  refine ⟨⟨_, he, rfl⟩, h _ he (Heap.get?_push_of_some _ (Heap.get?_push_size _ B.free)) (by rw [Heap.size_push, hz]) fun b o x => Heap.get?_push_of_some _ (Heap.get?_push_of_some _ x)⟩
def Iteq (t : Bool) (K : PySem.W.Frag) (a : Addr) : It :=
  ⟨fun i H => ∃ xs : List V, Sq2 t K H a xs ∧ i < xs.length,
   fun i H v H' => ∃ T x, v = .ref T ∧ H T = none ∧ H' = upd H T (.tup [.int (i : Nat), x]) ∧ ∀ xs, Sq2 t K H a xs → xs[i]? = some x,
   fun i H => ∃ xs : List V, Sq2 t K H a xs ∧ i = xs.length⟩
def StEq (t : Bool) (a e it : Addr) (i : Nat) (h : Heap) : Prop := (∃ old, IsEnum h e it ((i : Nat) : Int) old) ∧ SqIt t h it a i
theorem turn_eq {P : Program} {w : World} {K : PySem.W.Frag} {elts : List Expr} {kk : Nat} {tpos : Pos} {t : Bool} {a e it : Addr} (ne : e ≠ it) (na : a ≠ it) (nea : e ≠ a) :
    Turn P w K (.Tuple elts kk tpos) (Iteq t K a) [e, it] e (StEq t a e it) where
  mem := List.mem_cons_self
  obj := by
    rintro i h ⟨⟨old, a1⟩, s1⟩ c hm
    simp only [List.mem_cons, List.not_mem_nil, or_false] at hm
    rcases hm with z | z <;> subst z
    · exact ⟨_, a1, (fun _ q => nomatch q)⟩
    · obtain ⟨o2, e2, n2⟩ := s1.ex
      exact ⟨o2, e2, n2⟩
  keep := by
    rintro i h h' ⟨⟨old, a1⟩, s1⟩ k
    refine ⟨⟨old, k e (by simp) _ a1⟩, ?_⟩
    cases t <;> exact s1.at fun o q => k it (by simp) o q
  item := by
    intro X hP hw hK hc i pins s σ H E I hf st hg
    subst hP hw hK
    obtain ⟨xs, hx, l1⟩ := hg
    obtain ⟨its, rv, p⟩ := sq_val I hx
    obtain ⟨u, hu, ru⟩ := rv.get (List.getElem?_eq_getElem l1)
    have W := WalksT.enumerateD (prog := X.prog) (w := X.w) (A := X.A) (draws_sq (A := X.A.in1) t (I.ok.hd hc) it a na its.toArray) e ne (by simp [ne, nea]) (by simp)
    have g1 := rv.length
    obtain ⟨a1, s1⟩ := id st
    refine W.item i s _ E (by simp only [List.size_toArray]; omega) ⟨a1, s1, p⟩ fun T vals h1 tk pt hT isT mid k1 => ?_
    obtain ⟨t0, u1, e1, rfl⟩ := pt
    rw [List.getElem?_toArray, hu] at e1
    cases e1
    refine ⟨.ref T, rfl, W.go elts kk tpos i T { s with heap := h1, toks := tk } _ E mid fun h2 st2 k2 => ?_⟩
    have nT : T ∉ [e, it] := W.apart i T h1 mid
    have isT2 : h2.IsTuple T #[.int ((i : Nat) : Int) t0, u] := isT.at fun o z => k2 T o nT z
    have new : ObjOk X.prog X.w (upd H T (.tup [.int (i : Nat), xs[i]])) h2 T (.tup [.int (i : Nat), xs[i]]) :=
      ⟨by show 2 ≤ sizeLine; decide, [.int ((i : Nat) : Int) t0, u], .cons ⟨t0, rfl⟩ (.cons ru .nil), isT2⟩
    have I2 : Inv X pins σ (upd H T (.tup [.int (i : Nat), xs[i]])) { s with heap := h2, toks := tk } :=
      I.turnedNew (t' := tk) (ch := [e, it]) (fun b o nb z => k2 b o nb (k1 b o nb z)) hf hT new
    obtain ⟨b1, b2, _⟩ := st2
    refine ⟨.ref T, _, I2, rfl, ⟨T, _, rfl, I.hok.fresh hT, rfl, fun zs hz => ?_⟩, ⟨b1, b2⟩, fun b hb => ?_⟩
    · rw [sq_inj I hz hx]
      exact List.getElem?_eq_getElem l1
    have nb : b ≠ T := by
      obtain ⟨⟨old, a1⟩, s1⟩ := st
      obtain ⟨o1, e1, _⟩ := s1.ex
      have lt : b < s.heap.objs.size := by
        simp only [List.mem_cons, List.not_mem_nil, or_false] at hb
        rcases hb with q | q <;> subst q
        · exact Heap.lt_size a1
        · exact Heap.lt_size e1
      exact Nat.ne_of_lt (Nat.lt_of_lt_of_le lt hT)
    rw [upd_ne nb]
    exact (hf b hb).1
  done := by
    intro X hP hw hK hc i pins s σ H E I hf st hg
    subst hP hw hK
    obtain ⟨xs, hx, hi⟩ := hg
    obtain ⟨its, rv, p⟩ := sq_val I hx
    have W := WalksT.enumerateD (prog := X.prog) (w := X.w) (A := X.A) (draws_sq (A := X.A.in1) t (I.ok.hd hc) it a na its.toArray) e ne (by simp [ne, nea]) (by simp)
    have hn : i = its.toArray.size := by
      have e1 := rv.length
      simp only [List.size_toArray]
      omega
    subst hn
    obtain ⟨a1, s1⟩ := id st
    exact W.done s _ E ⟨a1, s1, p⟩ fun h1 tk k1 => ⟨rfl, I.turnedL (t' := tk) (ch := [e, it]) (fun b o nb z => k1 b o nb z) hf⟩
  self := fun A i s Q E st h => by
    obtain ⟨⟨old, a1⟩, _⟩ := st
    exact wpAny_pyIter_enum a1 h
def iEq (K : PySem.W.Frag) (ta : TA) : TI := fun σ H R => ta σ H fun vs H1 => ∃ (t : Bool) (a : Addr) (xs : List V), vs = [.ref a] ∧ Sq2 t K H1 a xs ∧ R (Iteq t K a) H1
theorem pi_eq {X : Cx} {e : Expr} {ta : TA} {p pos tpos : Pos} {elts : List Expr} {kk : Nat} (hg : Gl X "enumerate") (hm : X.mg "enumerate" = none) (ha : PA X [e] ta) (hs : starEach [e] X.env = [(false, eval e X.env)] := by rfl) :
    PI X (.Tuple elts kk tpos) (.Call (.Name "enumerate" p) [e] [] pos) (iEq X.K ta) := by
  constructor
  intro pins s σ H R I h
  refine Call_ (ld_blt I hg hm boot_enumerate (PyProof.Rows.callWith_type1 (thn (ha.run pos pins s σ H _ I h) fun us s1 hh => ?_) hs rfl))
  obtain ⟨vs, H1, I1, r1, t, a, xs, rfl, hx, q⟩ := hh
  match us, r1 with
  | [v1], .cons hv1 .nil =>
    cases hv1
    obtain ⟨its, rv, p1⟩ := sq_val I1 hx
    have la : a < s1.heap.objs.size := by
      cases t <;> obtain ⟨o, e, _⟩ := p1 <;> exact Heap.lt_size e
    refine call_enumerate_v (begins_sq t a its.toArray) p1 fun h' a1 a2 _ k => wpAny_pyIter_enum a1 ?_
    have I2 : Inv X pins σ H1 { s1 with heap := h' } := I1.kept (t' := s1.toks) k
    have fr : ∀ b ∈ [s1.heap.objs.size + 1, s1.heap.objs.size], FpOk X pins H1 b := fun b hb => by
      have le : s1.heap.objs.size ≤ b := by
        simp only [List.mem_cons, List.not_mem_nil, or_false] at hb
        rcases hb with z | z <;> rw [z]
        · exact Nat.le_add_right _ _
        · exact Nat.le_refl _
      exact I1.fpOk le (I1.hok.fresh le)
    refine ⟨s1.heap.objs.size + 1, [s1.heap.objs.size + 1, s1.heap.objs.size], _, _, H1, rfl, I2, turn_eq (Nat.succ_ne_self _) (Nat.ne_of_lt la) (Nat.ne_of_gt (Nat.lt_succ_of_lt la)), ⟨⟨_, a1⟩, ?_⟩, fr, q⟩
    cases t <;> exact ⟨_, a2, rfl, rfl⟩
theorem walk_eq {t : Bool} {K : PySem.W.Frag} {a : Addr} {xs : List V} {n : Nat} (hn : xs.length = n) : Walk (Iteq t K a) n (fun H => Sq2 t K H a xs) (YPair (fun i => some (.int (i : Nat))) (fun i => xs[i]?)) := by
  refine ⟨fun i _ hi q => ⟨xs, q, by omega⟩, fun _ q => ⟨xs, q, by omega⟩, fun i H v H' hi q z => ?_⟩
  obtain ⟨T, c, h1, h2, h3, h4⟩ := z
  exact ⟨T, _, _, h1, h2, h3, rfl, h4 xs q⟩
/-! ### a name, then a starred one: x, *ys = a list -/
section
variable {X : Cx}
def gStarE (K : PySem.W.Frag) (t : TGs) : TG := fun v σ H Q => ∃ (a : Addr) (x : V) (xs : List V), v = .ref a ∧ SqL K H a (x :: xs) ∧ xs.length ≤ 16000 ∧ ∀ D, H D = none → t [x, .ref D] σ (upd H D (.lst xs)) Q
theorem unpack_starE {prog : Program} {w : World} {A : Around} {E : Value → Shared → Prop} {s : Shared} {l : Addr} {items : Array Value} {Q : List Value → Shared → Prop} (hl : s.heap.IsList l items) (hh : A.handled = none) (h0 : 1 ≤ items.size) (hz : items.size ≤ 16384)
    (h : ∀ (h₂ : Heap) (tk : Nat), (∀ b o, s.heap.get? b = some o → h₂.get? b = some o) → Q (items.toList.take 1 ++ [.ref h₂.objs.size]) { s with heap := h₂.push { cls := .type "list", data := .seq (items.toList.drop 1).toArray 0 }, toks := tk }) : wpAny (model prog w) A (unpackItems (.ref l) 2 (some 1)) Q E s := by
  have hlt : l ≠ s.heap.objs.size := by obtain ⟨o, ho, _⟩ := hl; exact Nat.ne_of_lt (Heap.lt_size ho)
  unfold unpackItems
  refine wpAny_bind ?_
  unfold notIterableAtAll
  refine wpAny_bind (wpAny_specialOf hl.typeIs slot_list_iter.lookup ?_)
  refine wpAny_pure ?_
  simp only [Bool.false_eq_true, if_false]
  refine wpAny_bind (wpAny_holding (wpAny_pyIter_list hl ?_))
  refine wpAny_bind (wpAny_holding (PySem.W.kun_draw hlt 1 0 _ _ ⟨_, Heap.get?_push_size _ rfl, rfl, rfl⟩ (hl.push _) (by omega) fun h₁ hit₁ hs₁ => ?_))
  have hl₁ : h₁.IsList l items := (hl.push _).extBut hs₁.extBut hlt
  have hit₁' := hit₁
  obtain ⟨oi, hoi, _⟩ := hit₁'
  have hl₁' := hl₁
  obtain ⟨ol, hol, _⟩ := hl₁'
  rw [List.drop_zero]
  have hfl : (items.toList.take 1).length = 1 := by rw [List.length_take, Array.length_toList]; omega
  rw [if_neg (show ¬ ((items.toList.take 1).length < 1) by rw [hfl]; omega)]
  refine wpAny_bind (wpAny_holding (PySem.W.kun_collect (s := { s with heap := h₁ }) (T := "list_iterator") (.inr (.inr (.inl rfl))) (Walks.list (A := A.in1) hh s.heap.objs.size l hlt items) (fun j u st => st.1.typeIs) (k := 1) (by omega) ⟨hit₁, hl₁⟩ (Heap.lt_size hoi) (Heap.lt_size hol) (fun h₂ tk hk => ?_) (by rw [sizeLine_eq]; omega)))
  have hrl : (items.toList.drop 1).length = items.size - 1 := by rw [List.length_drop, Array.length_toList]
  show wpAny _ _ (if (items.toList.drop 1).length < 2 - 1 - 1 then _ else _) _ _ _
  rw [if_neg (by omega)]
  show wpAny _ _ (newList ((items.toList.drop 1).take ((items.toList.drop 1).length - (2 - 1 - 1))) >>= fun d => pure (items.toList.take 1 ++ [d] ++ (items.toList.drop 1).drop ((items.toList.drop 1).length - (2 - 1 - 1)))) _ _ _
  rw [show (2 - 1 - 1 : Nat) = 0 from rfl, Nat.sub_zero, List.take_length, List.drop_length]
  have he : ∀ b o, s.heap.get? b = some o → h₂.get? b = some o := fun b o e => hk b o (Nat.ne_of_lt (Heap.lt_size e)) (hs₁.extBut b o (Nat.ne_of_lt (Heap.lt_size e)) (Heap.get?_push_of_some _ e))
  refine wpAny_bind ?_
  unfold newList
  refine wpAny_newObj_type (wpAny_pure ?_) (by show (items.toList.drop 1).toArray.size ≤ sizeLine; rw [List.size_toArray, List.length_drop, sizeLine_eq, Array.length_toList]; omega)
  rw [List.append_nil]
  exact h h₂ tk he
theorem pg_starE {es : List Expr} {k : Nat} {pos : Pos} {t : TGs} (hc : X.calm = true) (h : PGs X es t)
    (hn : (assignEach es X.env).length = 2 := by rfl) (hst : (assignEach es X.env).findIdx? (·.1) = some 1 := by rfl) : PG X (.Tuple es k pos) (gStarE X.K t) := by
  refine ⟨fun pins s σ H v u Q I r hw => ?_⟩
  obtain ⟨a, x, xs, e1, hq, hz, hw⟩ := hw
  subst e1
  cases r
  obtain ⟨its, rv, pl, hzz⟩ := I.list hq
  have hlen := rv.length
  rw [List.length_cons] at hlen
  rw [PyProof.Rows.assign_Tuple]
  refine wpAny_bind (wpAny_standAt ?_)
  unfold unpack
  rw [hn, hst]
  refine wpAny_bind (wpAny_holding (unpack_starE pl.isList (I.ok.hd hc) (by rw [List.size_toArray]; omega) (by rw [List.size_toArray]; omega) fun h' tk hx => ?_))
  have rt := rv.take 1
  have rd := rv.drop 1
  have I0 : Inv X pins σ H { s with heap := h', toks := tk } := I.kept (t' := tk) hx
  have I1 : Inv X pins σ (upd H h'.objs.size (.lst xs)) { s with heap := h'.push { cls := .type "list", data := .seq (its.drop 1).toArray 0 }, toks := tk } := I0.laid (t' := tk) (o := .lst xs) (fun b u e => Heap.get?_push_of_some _ e) (Nat.le_refl _) ⟨by show xs.length ≤ sizeLine; rw [sizeLine_eq]; omega, _, 0, rd, Heap.get?_push_size _ rfl⟩
  exact h.run pins _ σ _ _ _ Q I1 (rt.append (.cons (show RelV (.ref h'.objs.size) (.ref h'.objs.size) from rfl) .nil)) (hw _ (I0.hok.fresh (Nat.le_refl _)))
end
/-! ### d.update(e), both of them dicts of the written part's own making -/
def tDUpd (td ty : TE) : TE := fun σ H Q => td σ H fun x H1 => ∃ a, x = .ref a ∧ IsD H1 a ∧ ty σ H1 fun y H2 => ∃ kvs b more, H2 a = some (.dK kvs) ∧ y = .ref b ∧ H2 b = some (.dK more) ∧ a ≠ b ∧ kvs.length + more.length ≤ sizeLine ∧ Q .non (upd H2 a (.dK (mergeK kvs more)))
theorem pe_dupd {X : Cx} {o e : Expr} {apos cpos : Pos} {td ty : TE} (ho : PE X o td) (he : PE X e ty) (m : M1 X o "update" apos e cpos) : PE X (.Call (.Attribute o "update" apos) [e] [] cpos) (tDUpd td ty) := by
  constructor
  intro pz u0 τ H Q I h
  refine wpAny_Call_method m.base m.few m.line PySem.F.plainAttrs_dict PySem.F.slot_dict_update PySem.F.type_dict_update (thn (ho.run pz u0 τ H _ I h) fun u u1 ⟨x, H1, I1, rx, a, ex, d, q1⟩ => ?_)
  subst ex
  cases (show u = Value.ref a from rx)
  obtain ⟨t1, t2, _⟩ := isD_at I1 d
  refine ⟨t1, t2, ?_⟩
  rw [m.trees]
  refine Calls.callWith_builtin rfl (Calls.evalArgs_plain (Calls.spliced_cons (thn (he.run pz u1 τ H1 _ I1 q1) fun v u2 ⟨y, H2, I2, ry, kvs, b, more, ea, ey, eb, ne, hl, q2⟩ => Calls.spliced_nil ?_)))
  subst ey
  cases (show v = Value.ref b from ry)
  obtain ⟨za, la, va, ra, da⟩ := dk_of I2.hok ea
  obtain ⟨zb, lb, vb, rb, db⟩ := dk_of I2.hok eb
  have sz : va.length + vb.length ≤ sizeLine := by rw [← ra.length, ← rb.length]; exact hl
  refine PySem.call_meetsIn PySem.F.slot_dict_update da.typeIs PySem.F.entry_dict_update (PySem.F.args_dict_update_2 _ _) (meets_dict_update (mixKind X.prog X.w) a b ne lb) ⟨va, vb, da, db, sz, fun h' hm _ hs => ?_⟩
  refine ⟨.non, _, d_write (t' := u2.toks) I2 (by rw [ea]; exact True.intro) hs ?_ (dk_new (Nat.le_trans (length_mergeK more kvs) hl) la (KV.merge rb ra) hm), rfl, q2⟩
  obtain ⟨ob, _, _, z, _⟩ := hm
  exact ⟨ob, z⟩
section
variable {P : Program} {w : World} {K : PySem.W.Frag} {mg : Str → Option Value} {base : Heap}
variable {C : Addr} {za : Nat → Addr} {zl : Nat → FuncData}
/-! ### a net's gates -/
theorem flat_rep (m : Nat) (v : V) : (List.replicate m [v]).flatten = List.replicate m v := by
  induction m with
  | zero => rfl
  | succ k ih =>
    rw [List.replicate_succ, List.flatten_cons, ih, List.replicate_succ]
    rfl
def spNetI (C : Addr) : Sp := fun vs H Q _ => ∃ (x dx : Addr) (m : Nat), vs = [.ref x, .int (m : Int)] ∧ H x = some (.ins C dx []) ∧ m ≤ 100000 ∧
  ∀ (p : NetP) (H' : Hp), p.x = x → (∀ y o, H y = some o → y ≠ x → H' y = some o) → (H p.lm = none ∧ H p.ld = none ∧ H p.dn = none) → (∀ Z : List Addr, (∀ z ∈ Z, z ≠ x ∧ H z ≠ none) → NetAt C Z H' p m [] []) → Q .non H'
theorem ok_Net___init__ (B : Bl mg) (L : LL K mg C za zl) : FnOk P w K mg base CX0 1 (za 25) (zl 25) ["self", "many"] (spNetI C) := by
  refine L.F_Net___init__.ok sc_Net___init__ (fun vs H Q E h => ?_) (fun cdv A outer s H vs Q E hr h => ?_)
  · obtain ⟨x, dx, m, rfl, _⟩ := h
    rfl
  obtain ⟨x, dx, m, rfl, hx, hm, q⟩ := h
  refine ⟨_, (pss_cons (ps_fld (pv 0) (pv 1) rfl)
    (pss_cons (ps_fld (pv 0) (pe_lst pa_nil) rfl)
    (pss_cons (ps_fld (pv 0) (pe_op op_rep (pe_lst (pa_cons pe_int pa_nil)) (pv 1)) rfl)
    (pss_one (ps_fld (pv 0) pe_dnewK rfl))))), ?_⟩
  refine ⟨_, rfl, _, rfl, x, C, dx, _, rfl, hx, L.T.cl, L.T.n_input_count, (by show 0 < 1000; decide), ?_⟩
  have a1 : (upd H x (.ins C dx (putF "input_count" (.int (m : Int)) []))) x = some (.ins C dx [("input_count", .int (m : Int))]) := upd_same
  have f1 : ∀ y o, H y = some o → y ≠ x → (upd H x (.ins C dx (putF "input_count" (.int (m : Int)) []))) y = some o := fun y o e n => by rw [upd_ne n]; exact e
  generalize upd H x (.ins C dx (putF "input_count" (.int (m : Int)) [])) = H1 at *
  refine ⟨Nat.zero_le _, fun lm nlm => ?_⟩
  have n1 : x ≠ lm := ne_of_none a1 nlm
  refine ⟨_, rfl, x, C, dx, _, rfl, by rw [upd_ne n1]; exact a1, L.T.cl, L.T.n_made, (by show 1 < 1000; decide), ?_⟩
  have a2 : (upd (upd H1 lm (.lst [])) x (.ins C dx (putF "made" (.ref lm) [("input_count", .int (m : Int))]))) x = some (.ins C dx [("input_count", .int (m : Int)), ("made", .ref lm)]) := upd_same
  have b2 : (upd (upd H1 lm (.lst [])) x (.ins C dx (putF "made" (.ref lm) [("input_count", .int (m : Int))]))) lm = some (.lst []) := by rw [upd_ne n1.symm, upd_same]
  have f2 : ∀ y o, H1 y = some o → y ≠ x → (upd (upd H1 lm (.lst [])) x (.ins C dx (putF "made" (.ref lm) [("input_count", .int (m : Int))]))) y = some o := fun y o e n => by rw [upd_ne n, upd_ne (ne_of_none e nlm)]; exact e
  generalize upd (upd H1 lm (.lst [])) x (.ins C dx (putF "made" (.ref lm) [("input_count", .int (m : Int))])) = H2 at *
  refine ⟨(by show 1 ≤ sizeLine; decide), fun z nz => ?_⟩
  refine ⟨_, rfl, z, (m : Int), _, rfl, rfl, upd_same, by omega, by omega, (by show 1 * ((m : Int)).toNat ≤ _; rw [Int.toNat_natCast, Nat.one_mul]; exact Nat.le_trans hm (by decide)), fun ld nld => ?_⟩
  have e0 : (List.replicate ((m : Int)).toNat [V.int 0]).flatten = (dps m []).map V.int := by
    rw [Int.toNat_natCast]
    show _ = (List.replicate m 0).map V.int
    rw [List.map_replicate]
    exact flat_rep m _
  rw [e0]
  have z1 := ne_of_none a2 nz
  have z2 := ne_of_none b2 nz
  have sz := same_upd (o := .lst [V.int 0]) nz
  have sd := same_upd (o := .lst ((dps m []).map V.int)) nld
  have l1 := ne_of_none (sz _ _ a2) nld
  have l2 := ne_of_none (sz _ _ b2) nld
  refine ⟨_, rfl, x, C, dx, _, rfl, sd _ _ (sz _ _ a2), L.T.cl, L.T.n_depths, (by show 2 < 1000; decide), ?_⟩
  have sA := sz.trans sd
  have b3 := sd _ _ (sz _ _ b2)
  have d3 : (upd (upd H2 z (.lst [V.int 0])) ld (.lst ((dps m []).map V.int))) ld = some (.lst ((dps m []).map V.int)) := upd_same
  generalize upd (upd H2 z (.lst [V.int 0])) ld (.lst ((dps m []).map V.int)) = H3 at *
  have a4 : (upd H3 x (.ins C dx (putF "depths" (.ref ld) [("input_count", .int (m : Int)), ("made", .ref lm)]))) x = some (.ins C dx [("input_count", .int (m : Int)), ("made", .ref lm), ("depths", .ref ld)]) := upd_same
  have f4 : ∀ y o, H3 y = some o → y ≠ x → (upd H3 x (.ins C dx (putF "depths" (.ref ld) [("input_count", .int (m : Int)), ("made", .ref lm)]))) y = some o := fun y o e n => by rw [upd_ne n]; exact e
  have b4 := f4 _ _ b3 n1.symm
  have d4 := f4 _ _ d3 l1.symm
  generalize upd H3 x (.ins C dx (putF "depths" (.ref ld) [("input_count", .int (m : Int)), ("made", .ref lm)])) = H4 at *
  refine fun dn ndn => ?_
  have a5 := ne_of_none a4 ndn
  have b5 := ne_of_none b4 ndn
  have d5 := ne_of_none d4 ndn
  have s5 := same_upd (o := .dK []) ndn
  refine ⟨_, rfl, x, C, dx, _, rfl, s5 _ _ a4, L.T.cl, L.T.n_by_name, (by show 3 < 1000; decide), ?_⟩
  have nn : ∀ (y : Addr), (∀ o, H y = some o → y ≠ x → False) → y ≠ x → H y = none := fun y h n => by
    cases e : H y with
    | none => rfl
    | some o => exact (h o e n).elim
  refine q ⟨x, lm, ld, dn⟩ _ rfl (fun y o e n => ?_) ⟨nn lm (fun o e n => by have := f1 _ _ e n; rw [nlm] at this; cases this) n1.symm, nn ld (fun o e n => by have := sz _ _ (f2 _ _ (f1 _ _ e n) n); rw [nld] at this; cases this) l1.symm, nn dn (fun o e n => by have := f4 _ _ (sA _ _ (f2 _ _ (f1 _ _ e n) n)) n; rw [ndn] at this; cases this) a5.symm⟩ (fun Z hZ => ?_)
  · rw [upd_ne n]
    exact s5 _ _ (f4 _ _ (sA _ _ (f2 _ _ (f1 _ _ e n) n)) n)
  have zz : ∀ a ∈ Z, a ≠ x ∧ a ≠ lm ∧ a ≠ ld ∧ a ≠ dn ∧ H4 a ≠ none := fun a ha => by
    obtain ⟨nx, h0⟩ := hZ a ha
    cases e : H a with
    | none => exact absurd e h0
    | some o =>
      have e1 := f1 _ _ e nx
      have e2 := f2 _ _ e1 nx
      have e4 := f4 _ _ (sA _ _ e2) nx
      exact ⟨nx, ne_of_none e1 nlm, ne_of_none (sz _ _ e2) nld, ne_of_none e4 ndn, some_ne e4⟩
  refine ⟨fun a ha => ?_, l2, ⟨fun h => (zz _ h).1 rfl, fun h => (zz _ h).2.1 rfl, fun h => (zz _ h).2.2.1 rfl, fun h => (zz _ h).2.2.2.1 rfl⟩, dx, [], [], upd_same, ?_, ?_, ?_, ⟨rfl, fun i q g h => by simp at h⟩, rfl, List.nodup_nil, fun i k v n ws h => by simp at h⟩
  · rw [upd_ne (zz a ha).1, upd_ne (zz a ha).2.2.2.1]
    exact (zz a ha).2.2.2.2
  · show (upd (upd H4 dn (.dK [])) x _) lm = _
    rw [upd_ne n1.symm]
    exact s5 _ _ b4
  · show (upd (upd H4 dn (.dK [])) x _) ld = _
    rw [upd_ne l1.symm]
    exact s5 _ _ d4
  · show (upd (upd H4 dn (.dK [])) x _) dn = _
    rw [upd_ne a5.symm, upd_same]
/-! ### gates laid -/
def spNeed (K : PySem.W.Frag) (C : Addr) : Sp := fun vs H Q _ => ∃ (Z : List Addr) (p : NetP) (m : Nat) (gs : List Gt) (nm : List (Str × List Nat)) (t : Addr) (ws : List Nat), vs = [.ref p.x, .ref t] ∧ NetAt C Z H p m gs nm ∧ (SqL K H t (nts ws) ∨ SqT K H t (nts ws)) ∧ (∀ a ∈ ws, a < m + gs.length) ∧
  ∀ H', Same H H' → Q .non H'
theorem ok_Net_need (B : Bl mg) (L : LL K mg C za zl) : FnOk P w K mg base CX0 1 (za 33) (zl 33) ["self", "wires"] (spNeed K C) := by
  refine L.F_Net_need.ok sc_Net_need (fun vs H Q E h => ?_) (fun cdv A outer s H vs Q E hr h => ?_)
  · obtain ⟨Z, p, m, gs, nm, t, ws, rfl, _⟩ := h
    rfl
  obtain ⟨Z, p, m, gs, nm, t, ws, rfl, hN, hT, hw, q⟩ := h
  refine ⟨_, (pss_one (ps_for PassesOwn.never rfl (pi_or (pi_list (pv 1)) (pi_tup (pv 1))) (pg_name (i := 2) sc_Net_need.nd rfl (.inl rfl)) (pss_one (ps_if (pt_not (pt_chain op_le op_lt pe_int (pv 2) (pe_callB call_len_seq (by rfl) B.len PySem.boot_len (pa_cons (pe_fld (pv 0) rfl) pa_nil)))) (pss_one ps_never) pss_nil)))), ?_⟩
  have turn : ∀ (a : Nat), a ∈ ws → ∀ (H9 : Hp) (y : Option V) (T : TS) (D : Ends), Same H H9 → D.nx [some (.ref p.x), some (.ref t), some (.int (a : Int))] H9 → True := fun _ _ _ _ _ _ _ _ => trivial
  rcases hT with hT | hT
  · refine .inl ⟨_, rfl, t, rfl, ⟨_, hT⟩, ?_⟩
    refine for_it (walk_list (K := K) (a := t) (xs := nts ws)) (fun j σ H9 => ∃ y : Option V, σ = [some (.ref p.x), some (.ref t), y] ∧ Same H H9) ⟨_, rfl, Same.refl _⟩ (fun j σ H9 _ ⟨_, _, s9⟩ => s9.seq hT) ?_ ?_
    · rintro j v σ H9 H10 hj ⟨y, rfl, s9⟩ ⟨rfl, hz⟩
      obtain ⟨a, ha, rfl⟩ := nts_at hz
      have la := hw a (List.mem_of_getElem? ha)
      obtain ⟨_, _, _, dx, ps, kvs, e1, e2, e3, _⟩ := hN.same s9
      dsimp only [gName]
      try simp only [L2.start, List.map_cons, List.map_nil, List.length_cons, List.length_nil, List.replicate_succ, List.replicate_zero, List.cons_append, List.nil_append, List.set_cons_succ, List.set_cons_zero, Nat.reduceAdd, Nat.reduceSub, Nat.zero_add]
      refine ⟨_, rfl, _, _, rfl, rfl, _, rfl, ?_⟩
      rw [if_pos (decide_eq_true (by omega))]
      refine ⟨_, rfl, p.x, C, dx, _, _, rfl, e1, L.T.cl, L.T.n_depths, rfl, ?_⟩
      refine ⟨p.ld, _, rfl, .inl (SqL.of e3), _, _, rfl, rfl, _, rfl, ?_⟩
      have lt : decide ((a : Int) < ((((dps m gs).map V.int).length : Nat) : Int)) = true := decide_eq_true (by rw [List.length_map, dps_len]; omega)
      rw [lt]
      refine iteF ?_
      exact ⟨_, rfl, s9⟩
    · rintro σ H9 ⟨y, rfl, s9⟩
      exact q _ s9
  · refine .inr ⟨_, rfl, t, rfl, ⟨_, hT⟩, ?_⟩
    refine for_it (walk_tup (K := K) (a := t) (xs := nts ws)) (fun j σ H9 => ∃ y : Option V, σ = [some (.ref p.x), some (.ref t), y] ∧ Same H H9) ⟨_, rfl, Same.refl _⟩ (fun j σ H9 _ ⟨_, _, s9⟩ => Same.seqT s9 hT) ?_ ?_
    · rintro j v σ H9 H10 hj ⟨y, rfl, s9⟩ ⟨rfl, hz⟩
      obtain ⟨a, ha, rfl⟩ := nts_at hz
      have la := hw a (List.mem_of_getElem? ha)
      obtain ⟨_, _, _, dx, ps, kvs, e1, e2, e3, _⟩ := hN.same s9
      dsimp only [gName]
      try simp only [L2.start, List.map_cons, List.map_nil, List.length_cons, List.length_nil, List.replicate_succ, List.replicate_zero, List.cons_append, List.nil_append, List.set_cons_succ, List.set_cons_zero, Nat.reduceAdd, Nat.reduceSub, Nat.zero_add]
      refine ⟨_, rfl, _, _, rfl, rfl, _, rfl, ?_⟩
      rw [if_pos (decide_eq_true (by omega))]
      refine ⟨_, rfl, p.x, C, dx, _, _, rfl, e1, L.T.cl, L.T.n_depths, rfl, ?_⟩
      refine ⟨p.ld, _, rfl, .inl (SqL.of e3), _, _, rfl, rfl, _, rfl, ?_⟩
      have lt : decide ((a : Int) < ((((dps m gs).map V.int).length : Nat) : Int)) = true := decide_eq_true (by rw [List.length_map, dps_len]; omega)
      rw [lt]
      refine iteF ?_
      exact ⟨_, rfl, s9⟩
    · rintro σ H9 ⟨y, rfl, s9⟩
      exact q _ s9
theorem refs_inj : ∀ {as bs : List Addr}, as.map V.ref = bs.map V.ref → as = bs
  | [], [], _ => rfl
  | [], b :: bs, h => by simp at h
  | a :: as, [], h => by simp at h
  | a :: as, b :: bs, h => by
    rw [List.map_cons, List.map_cons] at h
    injection h with h1 h2
    rw [V.ref.inj h1, refs_inj h2]
theorem NetAt.laid {C : Addr} {Z : List Addr} {H : Hp} {p : NetP} {m : Nat} {gs : List Gt} {nm : List (Str × List Nat)} {q : Addr} {g : Gt} {ps : List Addr}
    (h : NetAt C Z H p m gs nm) (eq : H q = some (.tup g.row)) (nq : q ∉ Z) (em : H p.lm = some (.lst (ps.map V.ref))) :
    NetAt C Z (upd (upd H p.lm (.lst (ps.map V.ref ++ [.ref q]))) p.ld (.lst ((dps m gs).map V.int ++ [.int (dep (dps m gs) g)]))) p m (gs ++ [g]) nm := by
  obtain ⟨a, b, ⟨c1, c2, c3, c4⟩, dx, ps', kvs, e1, e2, e3, e4, ⟨g1, g2⟩, n1, n2, n3⟩ := h
  have hps : ps' = ps := by
    rw [e2] at em
    have := HO.lst.inj (Option.some.inj em)
    exact refs_inj this
  subst hps
  have f : ∀ {y : Addr} {o : HO}, H y = some o → y ≠ p.lm → y ≠ p.ld → (upd (upd H p.lm (.lst (ps'.map V.ref ++ [.ref q]))) p.ld (.lst ((dps m gs).map V.int ++ [.int (dep (dps m gs) g)]))) y = some o := fun e x1 x2 => by
    rw [upd_ne x2, upd_ne x1]
    exact e
  have tn : ∀ {y : Addr} {xs : List V}, H y = some (.tup xs) → y ≠ p.lm ∧ y ≠ p.ld := fun e => ⟨(fun z => by rw [z, e2] at e; cases e), (fun z => by rw [z, e3] at e; cases e)⟩
  refine ⟨fun z hz => ?_, b, ⟨c1, c2, c3, c4⟩, dx, ps' ++ [q], kvs, f e1 (fun z => by rw [z, e2] at e1; cases e1) (fun z => by rw [z, e3] at e1; cases e1), ?_, ?_, f e4 (fun z => by rw [z, e2] at e4; cases e4) (fun z => by rw [z, e3] at e4; cases e4), ⟨?_, fun i r g' hi hg => ?_⟩, n1, n2, fun i k v n ws hi hn => ?_⟩
  · have z1 : z ≠ p.lm := fun y => c2 (y ▸ hz)
    have z2 : z ≠ p.ld := fun y => c3 (y ▸ hz)
    rw [upd_ne z2, upd_ne z1]
    exact a z hz
  · rw [upd_ne b, upd_same, List.map_append]
    rfl
  · rw [upd_same, dps_snoc, List.map_append]
    rfl
  · rw [List.length_append, List.length_append, g1]
    rfl
  · by_cases c : i < ps'.length
    · rw [List.getElem?_append_left c] at hi
      rw [List.getElem?_append_left (by omega)] at hg
      have := g2 i r g' hi hg
      exact ⟨this.1, f this.2 (tn this.2).1 (tn this.2).2⟩
    · have i0 : i = ps'.length := by
        have := (List.getElem?_eq_some_iff.mp hi).1
        rw [List.length_append, List.length_cons, List.length_nil] at this
        omega
      rw [List.getElem?_append_right (by omega), i0, Nat.sub_self] at hi
      rw [List.getElem?_append_right (by omega), i0, g1, Nat.sub_self] at hg
      cases hi
      cases hg
      exact ⟨nq, f eq (tn eq).1 (tn eq).2⟩
  · obtain ⟨ek, l, ev, l1, l2, l3, l4⟩ := n3 i k v n ws hi hn
    exact ⟨ek, l, ev, l1, l2, l3, f l4 l2 l3⟩
def spPutG (C : Addr) : Sp := fun vs H Q _ => ∃ (Z : List Addr) (p : NetP) (m : Nat) (gs : List Gt) (nm : List (Str × List Nat)) (q : Addr) (g : Gt), vs = [.ref p.x, .ref q, .int (dep (dps m gs) g)] ∧ NetAt C Z H p m gs nm ∧ H q = some (.tup g.row) ∧ q ∉ Z ∧ m + gs.length ≤ 500000 ∧
  ∀ H', KeepS [p.lm, p.ld] H H' → NetAt C Z H' p m (gs ++ [g]) nm → Q (.int ((m + gs.length : Nat) : Int)) H'
theorem ok_Net_put_gate (B : Bl mg) (L : LL K mg C za zl) : FnOk P w K mg base CX0 1 (za 32) (zl 32) ["self", "gate", "depth"] (spPutG C) := by
  refine L.F_Net_put_gate.ok sc_Net_put_gate (fun vs H Q E h => ?_) (fun cdv A outer s H vs Q E hr h => ?_)
  · obtain ⟨Z, p, m, gs, nm, q, g, rfl, _⟩ := h
    rfl
  obtain ⟨Z, p, m, gs, nm, a, g, rfl, hN, ea, na, hl, q⟩ := h
  refine ⟨_, (pss_cons (ps_expr (pe_bm PySem.F.plainAttrs_list PySem.F.slot_list_append PySem.F.type_list_append mt_append (pe_fld (pv 0) rfl) (pa_cons (pv 1) pa_nil)))
    (pss_cons (ps_expr (pe_bm PySem.F.plainAttrs_list PySem.F.slot_list_append PySem.F.type_list_append mt_append (pe_fld (pv 0) rfl) (pa_cons (pv 2) pa_nil)))
    (pss_one (ps_ret (pe_op op_sub (pe_callB call_len_seq (by rfl) B.len PySem.boot_len (pa_cons (pe_fld (pv 0) rfl) pa_nil)) pe_int))))), ?_⟩
  obtain ⟨hz, b, _, dx, ps, kvs, e1, e2, e3, e4, g0⟩ := id hN
  have lps : ps.length = gs.length := g0.1.1
  have nx : p.x ≠ p.lm := fun z => by rw [z, e2] at e1; cases e1
  have nx' : p.x ≠ p.ld := fun z => by rw [z, e3] at e1; cases e1
  refine ⟨_, rfl, p.x, C, dx, _, _, rfl, e1, L.T.cl, L.T.n_made, rfl, .inl ⟨rfl, _, SqL.of e2⟩, _, rfl, p.lm, _, _, rfl, rfl, e2, by rw [List.length_map]; exact Nat.lt_of_le_of_lt (by omega) (show 500000 < sizeLine by decide), ?_⟩
  have f1 : (upd H p.lm (.lst (ps.map V.ref ++ [.ref a]))) p.x = _ := (upd_ne nx).trans e1
  have f3 : (upd H p.lm (.lst (ps.map V.ref ++ [.ref a]))) p.ld = _ := (upd_ne b.symm).trans e3
  refine ⟨_, rfl, p.x, C, dx, _, _, rfl, f1, L.T.cl, L.T.n_depths, rfl, .inl ⟨rfl, _, SqL.of f3⟩, _, rfl, p.ld, _, _, rfl, rfl, f3, by rw [List.length_map, dps_len]; exact Nat.lt_of_le_of_lt (by omega) (show 500000 < sizeLine by decide), ?_⟩
  have f1' : (upd (upd H p.lm (.lst (ps.map V.ref ++ [.ref a]))) p.ld (.lst ((dps m gs).map V.int ++ [.int (dep (dps m gs) g)]))) p.x = _ := (upd_ne nx').trans f1
  refine ⟨_, rfl, p.x, C, dx, _, _, rfl, f1', L.T.cl, L.T.n_depths, rfl, ?_⟩
  refine ⟨p.ld, _, rfl, .inl (SqL.of upd_same), _, _, rfl, rfl, ?_⟩
  have w := q _ ⟨fun y o e n => ?_, fun y e => ?_⟩ (hN.laid ea na e2)
  · have ev : (((((dps m gs).map V.int ++ [V.int (dep (dps m gs) g)]).length : Nat) : Int) - 1) = ((m + gs.length : Nat) : Int) := by
      rw [List.length_append, List.length_map, dps_len, List.length_cons, List.length_nil]
      omega
    rw [← ev] at w
    exact w
  · simp only [List.mem_cons, List.not_mem_nil, or_false, not_or] at n
    rw [upd_ne n.2, upd_ne n.1]
    exact e
  · exact ((KeepS.upd (S := [p.lm]) (by simp)).2 y e) |> fun h => (KeepS.upd (S := [p.ld]) (by simp)).2 y h
def spFixed (C : Addr) : Sp := fun vs H Q _ => ∃ (Z : List Addr) (p : NetP) (m : Nat) (gs : List Gt) (nm : List (Str × List Nat)) (b : Nat), vs = [.ref p.x, .int (b : Int)] ∧ NetAt C Z H p m gs nm ∧ m + gs.length ≤ 500000 ∧
  ∀ H', KeepS [p.lm, p.ld] H H' → NetAt C Z H' p m (gs ++ [.fi b]) nm → Q (.int ((m + gs.length : Nat) : Int)) H'
theorem ok_Net_fixed (B : Bl mg) (L : LL K mg C za zl) : FnOk P w K mg base CX0 2 (za 30) (zl 30) ["self", "bit"] (spFixed C) := by
  have G_Net_put_gate : FnOk P w K mg base CX0 1 (za 32) (zl 32) ["self", "gate", "depth"] (spPutG C) := (ok_Net_put_gate B L).mono (by decide)
  refine L.F_Net_fixed.ok sc_Net_fixed (fun vs H Q E h => ?_) (fun cdv A outer s H vs Q E hr h => ?_)
  · obtain ⟨Z, p, m, gs, nm, b, rfl, _⟩ := h
    rfl
  obtain ⟨Z, p, m, gs, nm, b, rfl, hN, hl, q⟩ := h
  refine ⟨_, (pss_one (ps_ret (pe_meth (pv 0) L.T.cl L.M_Net_put_gate G_Net_put_gate hr L.b_Net_put_gate .nil pass0 (pa_cons (pe_tup (pa_cons pe_str (pa_cons (pv 1) pa_nil))) (pa_cons pe_int pa_nil))))), ?_⟩
  obtain ⟨hz, _, _, dx, _, _, e1, _⟩ := id hN
  refine ⟨_, rfl, p.x, dx, _, rfl, e1, rfl, _, rfl, (by show 2 ≤ sizeLine; decide), fun a na => ?_⟩
  have sa := same_upd (o := .tup (Gt.fi b).row) na
  refine ⟨Z, p, m, gs, nm, a, .fi b, rfl, hN.same sa, upd_same, fun z => hz a z na, hl, fun H' k N' => q H' (.trans (.ofSame sa) k) N'⟩
def spPut (K : PySem.W.Frag) (C : Addr) : Sp := fun vs H Q _ => ∃ (Z : List Addr) (p : NetP) (m : Nat) (gs : List Gt) (nm : List (Str × List Nat)) (k : Str) (t : Addr) (ws : List Nat), vs = [.ref p.x, .str k, .ref t] ∧ NetAt C Z H p m gs nm ∧ SqT K H t (nts ws) ∧ ws ≠ [] ∧ ws.length ≤ 2 ∧ (∀ a ∈ ws, a < m + gs.length) ∧ m + gs.length ≤ 500000 ∧
  ∀ H', KeepS [p.lm, p.ld] H H' → NetAt C Z H' p m (gs ++ [.w k ws]) nm → Q (.int ((m + gs.length : Nat) : Int)) H'
theorem ok_Net_put (B : Bl mg) (L : LL K mg C za zl) : FnOk P w K mg base CX0 3 (za 31) (zl 31) ["self", "kind", "wires"] (spPut K C) := by
  have G_Net_put_gate : FnOk P w K mg base CX0 2 (za 32) (zl 32) ["self", "gate", "depth"] (spPutG C) := (ok_Net_put_gate B L).mono (by decide)
  have G_Net_need : FnOk P w K mg base CX0 2 (za 33) (zl 33) ["self", "wires"] (spNeed K C) := (ok_Net_need B L).mono (by decide)
  refine L.F_Net_put.ok sc_Net_put (fun vs H Q E h => ?_) (fun cdv A outer s H vs Q E hr h => ?_)
  · obtain ⟨Z, p, m, gs, nm, k, t, ws, rfl, _⟩ := h
    rfl
  obtain ⟨Z, p, m, gs, nm, k, t, ws, rfl, hN, hT, w0, w2, hw, hl, q⟩ := h
  refine ⟨_, (pss_cons (ps_expr (pe_meth (pv 0) L.T.cl L.M_Net_need G_Net_need hr L.b_Net_need .nil pass0 (pa_cons (pv 2) pa_nil)))
    (pss_cons (ps_set (i := 3) sc_Net_put.nd rfl (.inl rfl) (pe_op op_add pe_int (pe_callB (cr_max rfl) (by rfl) B.max boot_max (pa_cons (pe_lc (own := [("wire", 4)]) (by rfl) sc_Net_put.nd (pi_tup (pv 2)) (blkOk_by (own := [("wire", 4)]) (N := ["self", "kind", "wires", "depth", "wire"]) (sc := defScope s_Net_put) (by decide +kernel)) (fun _ _ _ _ _ => pg_name (i := 4) sc_Net_put.nd rfl (Or.inl rfl)) (fun _ _ _ _ _ => pts_nil) (fun _ _ _ _ _ => (pe_ix (ix_listK (K := K)) (pe_fldK (K := K) (pv 0) rfl) (pv 4) (fun _ _ => rfl)))) pa_nil))))
    (pss_one (ps_ret (pe_meth (pv 0) L.T.cl L.M_Net_put_gate G_Net_put_gate hr L.b_Net_put_gate .nil pass0 (pa_cons (pe_tup (pa_cons (pv 1) (StX.pa_star (pv 2) pa_nil))) (pa_cons (pv 3) pa_nil))))))), ?_⟩
  obtain ⟨hz, _, _, dx, _, _, e1, _⟩ := id hN
  refine ⟨_, rfl, p.x, dx, _, rfl, e1, rfl, _, rfl, Z, p, m, gs, nm, t, ws, rfl, hN, .inr hT, hw, fun H1 s1 => ?_⟩
  have N1 := hN.same s1
  obtain ⟨_, _, _, _, ps, kvs, f1, f2, f3, _⟩ := id N1
  have hT1 := Same.seqT s1 hT
  refine ⟨_, rfl, t, rfl, ⟨_, hT1⟩, fun D nD => ?_⟩
  refine lc_it (walk_tup (K := K) (a := t) (xs := nts ws)) (fun i H9 => Same H1 H9 ∧ H9 D = some (.lst ((ws.take i).map fun a => V.int ((dps m gs).getD a 0)))) ⟨same_upd nD, upd_same⟩ (fun i H9 _ ⟨s9, _⟩ => Same.seqT s9 hT1) ?_ ?_
  · rintro j z H9 H10 hj ⟨s9, eD⟩ ⟨rfl, hz⟩
    obtain ⟨a, ha, rfl⟩ := nts_at hz
    have la := hw a (List.mem_of_getElem? ha)
    refine ⟨rfl, yesT ?_⟩
    have e1' := s9 _ _ f1
    have e3' := s9 _ _ f3
    have hat : atI ((dps m gs).map V.int) (a : Int) = some (.int ((dps m gs).getD a 0)) := atI_nat (by
      rw [List.getElem?_map, List.getElem?_eq_getElem (by rw [dps_len]; exact la)]
      simp [List.getD, List.getElem?_eq_getElem (show a < (dps m gs).length by rw [dps_len]; exact la)])
    refine ⟨_, rfl, p.x, C, _, _, _, rfl, e1', L.T.cl, L.T.n_depths, rfl, _, rfl, p.ld, _, _, _, rfl, rfl, SqL.of e3', hat, ?_⟩
    refine ⟨_, eD, ?_, fun y u e => ?_, ?_⟩
    · rw [List.length_map, List.length_take]
      exact Nat.lt_of_le_of_lt (Nat.min_le_right _ _) (small1000 (by omega))
    · rw [upd_ne (ne_of_none e nD)]
      exact s9 _ _ e
    · rw [upd_same, List.take_add_one, ha, List.map_append]
      rfl
  rintro H2 ⟨s2, eD⟩
  rw [nts_len, List.take_length] at eD
  have mx1 : ∀ y ∈ ws.map (fun a => (dps m gs).getD a 0), 0 ≤ y := fun y hy => by
    obtain ⟨a, ha, rfl⟩ := List.mem_map.mp hy
    have la := hw a ha
    have := dps_nn m gs ((dps m gs)[a]'(by rw [dps_len]; exact la)) (List.getElem_mem _)
    simp only [List.getD, List.getElem?_eq_getElem (show a < (dps m gs).length by rw [dps_len]; exact la), Option.getD_some]
    exact this
  refine ⟨D, ws.map (fun a => (dps m gs).getD a 0), rfl, SqL.of (by rw [List.map_map]; exact eD), by rw [List.length_map]; exact List.length_pos_iff.mpr w0, fun M hM hL => ?_⟩
  have eM := mx_is hM hL mx1
  refine ⟨_, _, rfl, rfl, ?_⟩
  try simp only [L2.start, List.map_cons, List.map_nil, List.length_cons, List.length_nil, List.replicate_succ, List.replicate_zero, List.cons_append, List.nil_append, List.set_cons_succ, List.set_cons_zero, Nat.reduceAdd, Nat.reduceSub, Nat.zero_add]
  have e1' := s2 _ _ f1
  have hT2 := Same.seqT s2 hT1
  refine ⟨_, rfl, p.x, _, _, rfl, e1', rfl, ?_⟩
  try simp only [L2.start, List.map_cons, List.map_nil, List.length_cons, List.length_nil, List.replicate_succ, List.replicate_zero, List.cons_append, List.nil_append, List.set_cons_succ, List.set_cons_zero, Nat.reduceAdd, Nat.reduceSub, Nat.zero_add]
  refine ⟨_, rfl, _, rfl, t, _, rfl, .inl hT2, ?_⟩
  dsimp only [tNil]
  rw [List.append_nil]
  refine ⟨by rw [List.length_cons, nts_len]; exact Nat.le_trans (show ws.length + 1 ≤ 3 by omega) (by decide), fun g ng => ?_⟩
  have sg := same_upd (o := .tup (Gt.w k ws).row) ng
  have ed : (1 + M : Int) = dep (dps m gs) (.w k ws) := by
    show _ = 1 + mx _
    rw [eM]
  have N2 := (N1.same s2).same sg
  refine ⟨_, rfl, Z, p, m, gs, nm, g, .w k ws, by rw [ed]; rfl, N2, upd_same, fun z => N1.1 g z (by
    cases e : H1 g with
    | none => rfl
    | some o =>
      rw [s2 _ _ e] at ng
      cases ng), hl, fun H' k' N' => q H' (.trans (.ofSame ((s1.trans s2).trans sg)) k') N'⟩
def spG2 (C : Addr) (k : Str) : Sp := fun vs H Q _ => ∃ (Z : List Addr) (p : NetP) (m : Nat) (gs : List Gt) (nm : List (Str × List Nat)) (a b : Nat), vs = [.ref p.x, .int (a : Int), .int (b : Int)] ∧ NetAt C Z H p m gs nm ∧ a < m + gs.length ∧ b < m + gs.length ∧ m + gs.length ≤ 500000 ∧
  ∀ H', KeepS [p.lm, p.ld] H H' → NetAt C Z H' p m (gs ++ [.w k [a, b]]) nm → Q (.int ((m + gs.length : Nat) : Int)) H'
theorem ok_Net_both (B : Bl mg) (L : LL K mg C za zl) : FnOk P w K mg base CX0 4 (za 26) (zl 26) ["self", "a", "b"] (spG2 C "both") := by
  have G_Net_put : FnOk P w K mg base CX0 3 (za 31) (zl 31) ["self", "kind", "wires"] (spPut K C) := (ok_Net_put B L).mono (by decide)
  refine L.F_Net_both.ok sc_Net_both (fun vs H Q E h => ?_) (fun cdv A outer s H vs Q E hr h => ?_)
  · obtain ⟨Z, p, m, gs, nm, a, b, rfl, _⟩ := h
    rfl
  obtain ⟨Z, p, m, gs, nm, a, b, rfl, hN, ha, hb, hl, q⟩ := h
  refine ⟨_, (pss_one (ps_ret (pe_meth (pv 0) L.T.cl L.M_Net_put G_Net_put hr L.b_Net_put .nil pass0 (pa_cons pe_str (pa_cons (pe_tup (pa_cons (pv 1) (pa_cons (pv 2) pa_nil))) pa_nil))))), ?_⟩
  obtain ⟨hz, _, _, dx, _, _, e1, _⟩ := id hN
  refine ⟨_, rfl, p.x, dx, _, rfl, e1, rfl, _, rfl, _, rfl, (by show 2 ≤ sizeLine; decide), fun t nt => ?_⟩
  have st := same_upd (o := .tup [.int (a : Int), .int (b : Int)]) nt
  refine ⟨Z, p, m, gs, nm, "both", t, [a, b], rfl, hN.same st, .inl (.inl upd_same), (fun z => nomatch z), (Nat.le_of_ble_eq_true rfl), fun x hx => ?_, hl, fun H' k N' => q H' (.trans (.ofSame st) k) N'⟩
  simp only [List.mem_cons, List.not_mem_nil, or_false] at hx
  rcases hx with z | z <;> rw [z] <;> assumption
theorem ok_Net_either (B : Bl mg) (L : LL K mg C za zl) : FnOk P w K mg base CX0 4 (za 27) (zl 27) ["self", "a", "b"] (spG2 C "either") := by
  have G_Net_put : FnOk P w K mg base CX0 3 (za 31) (zl 31) ["self", "kind", "wires"] (spPut K C) := (ok_Net_put B L).mono (by decide)
  refine L.F_Net_either.ok sc_Net_either (fun vs H Q E h => ?_) (fun cdv A outer s H vs Q E hr h => ?_)
  · obtain ⟨Z, p, m, gs, nm, a, b, rfl, _⟩ := h
    rfl
  obtain ⟨Z, p, m, gs, nm, a, b, rfl, hN, ha, hb, hl, q⟩ := h
  refine ⟨_, (pss_one (ps_ret (pe_meth (pv 0) L.T.cl L.M_Net_put G_Net_put hr L.b_Net_put .nil pass0 (pa_cons pe_str (pa_cons (pe_tup (pa_cons (pv 1) (pa_cons (pv 2) pa_nil))) pa_nil))))), ?_⟩
  obtain ⟨hz, _, _, dx, _, _, e1, _⟩ := id hN
  refine ⟨_, rfl, p.x, dx, _, rfl, e1, rfl, _, rfl, _, rfl, (by show 2 ≤ sizeLine; decide), fun t nt => ?_⟩
  have st := same_upd (o := .tup [.int (a : Int), .int (b : Int)]) nt
  refine ⟨Z, p, m, gs, nm, "either", t, [a, b], rfl, hN.same st, .inl (.inl upd_same), (fun z => nomatch z), (Nat.le_of_ble_eq_true rfl), fun x hx => ?_, hl, fun H' k N' => q H' (.trans (.ofSame st) k) N'⟩
  simp only [List.mem_cons, List.not_mem_nil, or_false] at hx
  rcases hx with z | z <;> rw [z] <;> assumption
theorem ok_Net_unlike (B : Bl mg) (L : LL K mg C za zl) : FnOk P w K mg base CX0 4 (za 28) (zl 28) ["self", "a", "b"] (spG2 C "unlike") := by
  have G_Net_put : FnOk P w K mg base CX0 3 (za 31) (zl 31) ["self", "kind", "wires"] (spPut K C) := (ok_Net_put B L).mono (by decide)
  refine L.F_Net_unlike.ok sc_Net_unlike (fun vs H Q E h => ?_) (fun cdv A outer s H vs Q E hr h => ?_)
  · obtain ⟨Z, p, m, gs, nm, a, b, rfl, _⟩ := h
    rfl
  obtain ⟨Z, p, m, gs, nm, a, b, rfl, hN, ha, hb, hl, q⟩ := h
  refine ⟨_, (pss_one (ps_ret (pe_meth (pv 0) L.T.cl L.M_Net_put G_Net_put hr L.b_Net_put .nil pass0 (pa_cons pe_str (pa_cons (pe_tup (pa_cons (pv 1) (pa_cons (pv 2) pa_nil))) pa_nil))))), ?_⟩
  obtain ⟨hz, _, _, dx, _, _, e1, _⟩ := id hN
  refine ⟨_, rfl, p.x, dx, _, rfl, e1, rfl, _, rfl, _, rfl, (by show 2 ≤ sizeLine; decide), fun t nt => ?_⟩
  have st := same_upd (o := .tup [.int (a : Int), .int (b : Int)]) nt
  refine ⟨Z, p, m, gs, nm, "unlike", t, [a, b], rfl, hN.same st, .inl (.inl upd_same), (fun z => nomatch z), (Nat.le_of_ble_eq_true rfl), fun x hx => ?_, hl, fun H' k N' => q H' (.trans (.ofSame st) k) N'⟩
  simp only [List.mem_cons, List.not_mem_nil, or_false] at hx
  rcases hx with z | z <;> rw [z] <;> assumption
def spG1 (C : Addr) : Sp := fun vs H Q _ => ∃ (Z : List Addr) (p : NetP) (m : Nat) (gs : List Gt) (nm : List (Str × List Nat)) (a : Nat), vs = [.ref p.x, .int (a : Int)] ∧ NetAt C Z H p m gs nm ∧ a < m + gs.length ∧ m + gs.length ≤ 500000 ∧
  ∀ H', KeepS [p.lm, p.ld] H H' → NetAt C Z H' p m (gs ++ [.w "other" [a]]) nm → Q (.int ((m + gs.length : Nat) : Int)) H'
theorem ok_Net_other (B : Bl mg) (L : LL K mg C za zl) : FnOk P w K mg base CX0 4 (za 29) (zl 29) ["self", "a"] (spG1 C) := by
  have G_Net_put : FnOk P w K mg base CX0 3 (za 31) (zl 31) ["self", "kind", "wires"] (spPut K C) := (ok_Net_put B L).mono (by decide)
  refine L.F_Net_other.ok sc_Net_other (fun vs H Q E h => ?_) (fun cdv A outer s H vs Q E hr h => ?_)
  · obtain ⟨Z, p, m, gs, nm, a, rfl, _⟩ := h
    rfl
  obtain ⟨Z, p, m, gs, nm, a, rfl, hN, ha, hl, q⟩ := h
  refine ⟨_, (pss_one (ps_ret (pe_meth (pv 0) L.T.cl L.M_Net_put G_Net_put hr L.b_Net_put .nil pass0 (pa_cons pe_str (pa_cons (pe_tup (pa_cons (pv 1) pa_nil)) pa_nil))))), ?_⟩
  obtain ⟨hz, _, _, dx, _, _, e1, _⟩ := id hN
  refine ⟨_, rfl, p.x, dx, _, rfl, e1, rfl, _, rfl, (by show 1 ≤ sizeLine; decide), fun t nt => ?_⟩
  have st := same_upd (o := .tup [.int (a : Int)]) nt
  refine ⟨Z, p, m, gs, nm, "other", t, [a], rfl, hN.same st, .inl (.inl upd_same), (fun z => nomatch z), (Nat.le_of_ble_eq_true rfl), fun x hx => ?_, hl, fun H' k N' => q H' (.trans (.ofSame st) k) N'⟩
  rw [List.mem_singleton.mp hx]
  exact ha
end
section
variable {P : Program} {w : World} {K : PySem.W.Frag} {mg : Str → Option Value} {base : Heap}
variable {C : Addr} {za : Nat → Addr} {zl : Nat → FuncData}
/-! ### names of a net -/
theorem NmAt.keys {Z : List Addr} {H : Hp} {p : NetP} {kvs : List (Key × V)} {nm : List (Str × List Nat)} (h : NmAt Z H p kvs nm) : kvs.map (·.1) = nm.map fun x => (Sum.inr x.1 : Key) := by
  obtain ⟨h1, h2, h3⟩ := h
  refine List.ext_getElem? fun i => ?_
  rw [List.getElem?_map, List.getElem?_map]
  by_cases c : i < kvs.length
  · have c' : i < nm.length := by omega
    rw [List.getElem?_eq_getElem c, List.getElem?_eq_getElem c']
    have := (h3 i kvs[i].1 kvs[i].2 nm[i].1 nm[i].2 (List.getElem?_eq_getElem c) (List.getElem?_eq_getElem c')).1
    show some kvs[i].1 = some _
    rw [this]
  · rw [List.getElem?_eq_none (by omega), List.getElem?_eq_none (by omega)]
    rfl
theorem valV_out {kvs : List (Key × V)} {k : Key} (h : k ∉ kvs.map (·.1)) : valV kvs k = none := by
  have e := valV_any k kvs
  cases q : valV kvs k with
  | none => rfl
  | some v =>
    rw [q] at e
    obtain ⟨x, hx, hd⟩ := List.any_eq_true.mp e
    exact absurd (List.mem_map.mpr ⟨x, hx, of_decide_eq_true hd⟩) h
theorem valV_at : ∀ {kvs : List (Key × V)} {i : Nat} {k : Key} {v : V}, (kvs.map (·.1)).Nodup → kvs[i]? = some (k, v) → valV kvs k = some v
  | [], i, k, v, _, h => by simp at h
  | q :: kvs, 0, k, v, _, h => by
    cases Option.some.inj h
    exact valV_pos rfl
  | q :: kvs, i + 1, k, v, hn, h => by
    rw [List.map_cons, List.nodup_cons] at hn
    have h' : kvs[i]? = some (k, v) := h
    have : k ∈ kvs.map (·.1) := List.mem_map.mpr ⟨_, List.mem_of_getElem? h', rfl⟩
    rw [valV_neg (fun z => hn.1 (z ▸ this))]
    exact valV_at hn.2 h'
theorem NmAt.nodup {Z : List Addr} {H : Hp} {p : NetP} {kvs : List (Key × V)} {nm : List (Str × List Nat)} (h : NmAt Z H p kvs nm) : (kvs.map (·.1)).Nodup := by
  rw [h.keys]
  have := h.2.1
  rw [show (nm.map fun x => (Sum.inr x.1 : Key)) = (nm.map (·.1)).map Sum.inr from by rw [List.map_map]; rfl]
  exact List.Pairwise.map _ (fun a b n z => n (Sum.inr.inj z)) this
theorem NmAt.out {Z : List Addr} {H : Hp} {p : NetP} {kvs : List (Key × V)} {nm : List (Str × List Nat)} {n : Str} (h : NmAt Z H p kvs nm) (hn : n ∉ nm.map (·.1)) : valV kvs (.inr n) = none := by
  refine valV_out ?_
  rw [h.keys]
  intro z
  obtain ⟨x, hx, e⟩ := List.mem_map.mp z
  exact hn (List.mem_map.mpr ⟨x, hx, Sum.inr.inj e⟩)
theorem NmAt.in_ {Z : List Addr} {H : Hp} {p : NetP} {kvs : List (Key × V)} {nm : List (Str × List Nat)} {i : Nat} {n : Str} {ws : List Nat} (h : NmAt Z H p kvs nm) (hn : nm[i]? = some (n, ws)) : ∃ l, valV kvs (.inr n) = some (.ref l) ∧ H l = some (.lst (nts ws)) := by
  have c : i < kvs.length := by
    have := (List.getElem?_eq_some_iff.mp hn).1
    rw [h.1]
    exact this
  obtain ⟨ek, l, ev, _, _, _, el⟩ := h.2.2 i kvs[i].1 kvs[i].2 n ws (List.getElem?_eq_getElem c) hn
  refine ⟨l, ?_, el⟩
  rw [← ev, ← ek]
  exact valV_at h.nodup (List.getElem?_eq_getElem c)
def spGive (K : PySem.W.Frag) (C : Addr) : Sp := fun vs H Q _ => ∃ (Z : List Addr) (p : NetP) (m : Nat) (gs : List Gt) (nm : List (Str × List Nat)) (n : Str) (t : Addr) (ws : List Nat), vs = [.ref p.x, .str n, .ref t] ∧ NetAt C Z H p m gs nm ∧ n ∉ nm.map (·.1) ∧ (SqL K H t (nts ws) ∨ SqT K H t (nts ws)) ∧ (∀ a ∈ ws, a < m + gs.length) ∧ nm.length ≤ 900 ∧
  ∀ H', KeepS [p.dn] H H' → NetAt C Z H' p m gs (nm ++ [(n, ws)]) → Q .non H'
theorem ok_Net_give (B : Bl mg) (L : LL K mg C za zl) : FnOk P w K mg base CX0 2 (za 34) (zl 34) ["self", "name", "wires"] (spGive K C) := by
  have G_Net_need : FnOk P w K mg base CX0 1 (za 33) (zl 33) ["self", "wires"] (spNeed K C) := (ok_Net_need B L).mono (by decide)
  refine L.F_Net_give.ok sc_Net_give (fun vs H Q E h => ?_) (fun cdv A outer s H vs Q E hr h => ?_)
  · obtain ⟨Z, p, m, gs, nm, n, t, ws, rfl, _⟩ := h
    rfl
  obtain ⟨Z, p, m, gs, nm, n, t, ws, rfl, hN, hn, hT, hw, hl, q⟩ := h
  refine ⟨_, (pss_cons (ps_if (pt_cmp (pc_din (units1 hr) (pv 1) (pe_fld (pv 0) rfl)) (by rfl)) (pss_one ps_never) pss_nil)
    (pss_cons (ps_expr (pe_meth (pv 0) L.T.cl L.M_Net_need G_Net_need hr L.b_Net_need .nil pass0 (pa_cons (pv 2) pa_nil)))
    (pss_one (ps_dput (units1 hr) (pe_fld (pv 0) rfl) (pv 1) (pe_callTy call_list_of (by rfl) B.list PyProof.Rows.boot_list (pa_cons (pv 2) pa_nil)) rfl)))), ?_⟩
  obtain ⟨hz, hb, _, dx, ps, kvs, e1, e2, e3, e4, g0, n0⟩ := id hN
  refine ⟨_, rfl, _, rfl, p.x, C, dx, _, _, rfl, e1, L.T.cl, L.T.n_by_name, rfl, p.dn, _, rfl, DGet.k (k := .inr n) e4, ?_⟩
  rw [n0.out hn]
  refine ⟨_, rfl, iteF ?_⟩
  dsimp only [tNext]
  refine ⟨_, rfl, p.x, dx, _, rfl, e1, rfl, _, rfl, Z, p, m, gs, nm, t, ws, rfl, hN, hT, hw, fun H1 s1 => ?_⟩
  have N1 := hN.same s1
  obtain ⟨_, _, ⟨c1, c2, c3, c4⟩, dx1, ps1, kvs1, f1, f2, f3, f4, g1, n1⟩ := id N1
  have hT1 : SqL K H1 t (nts ws) ∨ SqT K H1 t (nts ws) := hT.elim (fun y => .inl (s1.seq y)) (fun y => .inr (Same.seqT s1 y))
  refine ⟨_, rfl, t, _, rfl, hT1, fun l nl => ?_⟩
  have sl := same_upd (o := .lst (nts ws)) nl
  refine ⟨_, rfl, p.x, C, dx1, _, _, rfl, sl _ _ f1, L.T.cl, L.T.n_by_name, rfl, _, rfl, p.dn, _, rfl, DPut.k (k := .inr n) (sl _ _ f4) (by rw [n1.1]; exact Nat.lt_of_le_of_lt hl (by decide)), ?_⟩
  rw [putK_new _ (n1.out hn)]
  have nlZ : l ∉ Z := fun z => N1.1 l z nl
  have nlm : l ≠ p.lm := (ne_of_none f2 nl).symm
  have nld : l ≠ p.ld := (ne_of_none f3 nl).symm
  have nln : l ≠ p.dn := (ne_of_none f4 nl).symm
  have N2 := N1.same sl
  have k2 : KeepS [p.dn] (upd H1 l (.lst (nts ws))) (upd (upd H1 l (.lst (nts ws))) p.dn (.dK (kvs1 ++ [(.inr n, .ref l)]))) := .upd (by simp)
  refine q _ ((KeepS.ofSame (s1.trans sl)).trans k2) ?_
  have fr : ∀ {y : Addr} {o : HO}, (upd H1 l (.lst (nts ws))) y = some o → y ≠ p.dn → (upd (upd H1 l (.lst (nts ws))) p.dn (.dK (kvs1 ++ [(.inr n, .ref l)]))) y = some o := fun e z => by
    rw [upd_ne z]
    exact e
  have g4 := sl _ _ f4
  refine ⟨fun z hz' => k2.2 z (N2.1 z hz'), hb, ⟨c1, c2, c3, c4⟩, dx1, ps1, kvs1 ++ [(.inr n, .ref l)], fr (sl _ _ f1) (fun z => by rw [z, f4] at f1; cases f1), fr (sl _ _ f2) (fun z => by rw [z, f4] at f2; cases f2), fr (sl _ _ f3) (fun z => by rw [z, f4] at f3; cases f3), upd_same, ⟨g1.1, fun i r g' hi hg => ?_⟩, ?_⟩
  · have := g1.2 i r g' hi hg
    exact ⟨this.1, fr (sl _ _ this.2) (fun z => by
      have := this.2
      rw [z, f4] at this
      cases this)⟩
  · refine ⟨by rw [List.length_append, List.length_append, n1.1]; rfl, ?_, fun i k v n' ws' hi hn' => ?_⟩
    · rw [List.map_append, List.nodup_append]
      refine ⟨n1.2.1, by simp, fun a ha b hb' => ?_⟩
      have hb' : b = n := by simpa using hb'
      rw [hb']
      exact fun z => hn (z ▸ ha)
    · by_cases c : i < kvs1.length
      · rw [List.getElem?_append_left c] at hi
        rw [List.getElem?_append_left (by rw [← n1.1]; exact c)] at hn'
        obtain ⟨ek, l', ev, l1, l2, l3, l4⟩ := n1.2.2 i k v n' ws' hi hn'
        exact ⟨ek, l', ev, l1, l2, l3, fr (sl _ _ l4) (fun z => by rw [z, f4] at l4; cases l4)⟩
      · have i0 : i = kvs1.length := by
          have := (List.getElem?_eq_some_iff.mp hi).1
          rw [List.length_append, List.length_cons, List.length_nil] at this
          omega
        rw [List.getElem?_append_right (by omega), i0, Nat.sub_self] at hi
        rw [List.getElem?_append_right (by rw [i0, n1.1]; exact Nat.le_refl _), i0, n1.1, Nat.sub_self] at hn'
        cases hi
        cases hn'
        exact ⟨rfl, l, rfl, nlZ, nlm, nld, fr upd_same nln⟩
def spGiven (C : Addr) : Sp := fun vs H Q _ => ∃ (Z : List Addr) (p : NetP) (m : Nat) (gs : List Gt) (nm : List (Str × List Nat)) (i : Nat) (n : Str) (ws : List Nat), vs = [.ref p.x, .str n] ∧ NetAt C Z H p m gs nm ∧ nm[i]? = some (n, ws) ∧
  ∀ t, H t = none → Q (.ref t) (upd H t (.lst (nts ws)))
theorem ok_Net_given (B : Bl mg) (L : LL K mg C za zl) : FnOk P w K mg base CX0 1 (za 35) (zl 35) ["self", "name"] (spGiven C) := by
  refine L.F_Net_given.ok sc_Net_given (fun vs H Q E h => ?_) (fun cdv A outer s H vs Q E hr h => ?_)
  · obtain ⟨Z, p, m, gs, nm, i, n, ws, rfl, _⟩ := h
    rfl
  obtain ⟨Z, p, m, gs, nm, i, n, ws, rfl, hN, hn, q⟩ := h
  refine ⟨_, (pss_cons (ps_if (pt_cmp (pc_dnotin (units1 hr) (pv 1) (pe_fld (pv 0) rfl)) (by rfl)) (pss_one ps_never) pss_nil)
    (pss_one (ps_ret (pe_callTy call_list_of (by rfl) B.list PyProof.Rows.boot_list (pa_cons (pe_dget (units1 hr) (pe_fld (pv 0) rfl) (pv 1) (fun _ _ => rfl)) pa_nil))))), ?_⟩
  obtain ⟨hz, hb, _, dx, ps, kvs, e1, e2, e3, e4, g0, n0⟩ := id hN
  obtain ⟨l, ev, el⟩ := n0.in_ hn
  refine ⟨_, rfl, _, rfl, p.x, C, dx, _, _, rfl, e1, L.T.cl, L.T.n_by_name, rfl, p.dn, _, rfl, DGet.k (k := .inr n) e4, ?_⟩
  rw [ev]
  refine ⟨_, rfl, iteF ?_⟩
  dsimp only [tNext]
  refine ⟨_, rfl, p.x, C, dx, _, _, rfl, e1, L.T.cl, L.T.n_by_name, rfl, _, rfl, p.dn, .ref l, rfl, ?_, ?_⟩
  · rw [← ev]
    exact DGet.k (k := .inr n) e4
  exact ⟨l, _, rfl, .inl (SqL.of el), fun t nt => q t nt⟩
def spNames (C : Addr) : Sp := fun vs H Q _ => ∃ (Z : List Addr) (p : NetP) (m : Nat) (gs : List Gt) (nm : List (Str × List Nat)), vs = [.ref p.x] ∧ NetAt C Z H p m gs nm ∧ nm.length < 64 ∧
  ∀ (ys : List Str) (t : Addr) (H' : Hp), ys.Perm (nm.map (·.1)) → sortedS ys = true → Same H H' → H t = none → H' t = some (.lst (ys.map V.str)) → Q (.ref t) H'
theorem ok_Net_names (B : Bl mg) (L : LL K mg C za zl) : FnOk P w K mg base CX0 1 (za 36) (zl 36) ["self"] (spNames C) := by
  refine L.F_Net_names.ok sc_Net_names (fun vs H Q E h => ?_) (fun cdv A outer s H vs Q E hr h => ?_)
  · obtain ⟨Z, p, m, gs, nm, rfl, _⟩ := h
    rfl
  obtain ⟨Z, p, m, gs, nm, rfl, hN, hl, q⟩ := h
  refine ⟨_, (pss_one (ps_ret (pe_callB cr_sortedS (by rfl) L.z_sorted boot_sorted (pa_cons (pe_callTy (call_listD rfl) (by rfl) B.list PyProof.Rows.boot_list (pa_cons (pe_fld (pv 0) rfl) pa_nil)) pa_nil)))), ?_⟩
  obtain ⟨hz, hb, _, dx, ps, kvs, e1, e2, e3, e4, g0, n0⟩ := id hN
  refine ⟨_, rfl, p.x, C, dx, _, _, rfl, e1, L.T.cl, L.T.n_by_name, rfl, p.dn, kvs, rfl, .inl e4, fun l nl => ?_⟩
  have ek : (kvs.map fun kv => kV kv.1) = (nm.map (·.1)).map V.str := by
    rw [show (kvs.map fun kv => kV kv.1) = (kvs.map (·.1)).map kV from by rw [List.map_map]; rfl, n0.keys, List.map_map, List.map_map]
    rfl
  rw [ek]
  have sl := same_upd (o := .lst ((nm.map (·.1)).map V.str)) nl
  refine ⟨l, _, rfl, SqL.of upd_same, by rw [List.length_map]; exact hl, fun ys t hp hs nt => ?_⟩
  refine q ys t _ hp hs (sl.trans (same_upd nt)) ?_ upd_same
  cases e : H t with
  | none => rfl
  | some o =>
    rw [sl _ _ e] at nt
    cases nt
def spGates (C : Addr) : Sp := fun vs H Q _ => ∃ (Z : List Addr) (p : NetP) (m : Nat) (gs : List Gt) (nm : List (Str × List Nat)), vs = [.ref p.x] ∧ NetAt C Z H p m gs nm ∧
  ∀ (t : Addr) (ps : List Addr) , H t = none → ps.length = gs.length → (∀ (i : Nat) (r : Addr) (g : Gt), ps[i]? = some r → gs[i]? = some g → H r = some (.tup g.row)) → Q (.ref t) (upd H t (.lst (ps.map V.ref)))
theorem ok_Net_gates (B : Bl mg) (L : LL K mg C za zl) : FnOk P w K mg base CX0 1 (za 37) (zl 37) ["self"] (spGates C) := by
  refine L.F_Net_gates.ok sc_Net_gates (fun vs H Q E h => ?_) (fun cdv A outer s H vs Q E hr h => ?_)
  · obtain ⟨Z, p, m, gs, nm, rfl, _⟩ := h
    rfl
  obtain ⟨Z, p, m, gs, nm, rfl, hN, q⟩ := h
  refine ⟨_, (pss_one (ps_ret (pe_callTy call_list_of (by rfl) B.list PyProof.Rows.boot_list (pa_cons (pe_fld (pv 0) rfl) pa_nil)))), ?_⟩
  obtain ⟨hz, hb, _, dx, ps, kvs, e1, e2, e3, e4, g0, n0⟩ := id hN
  exact ⟨_, rfl, p.x, C, dx, _, _, rfl, e1, L.T.cl, L.T.n_made, rfl, p.lm, _, rfl, .inl (SqL.of e2), fun t nt => q t ps nt g0.1 (fun i r g hi hg => (g0.2 i r g hi hg).2)⟩
end
section
variable {P : Program} {w : World} {K : PySem.W.Frag} {mg : Str → Option Value} {base : Heap}
variable {C : Addr} {za : Nat → Addr} {zl : Nat → FuncData}
theorem big_lt0 {n : Nat} (h : n ≤ 500000) : n < sizeLine := Nat.lt_of_le_of_lt h (by decide)
/-! ### bits -/
def tb (x : Int) (k : Nat) : Int := x / 2 ^ k % 2
theorem tb_01 (x : Int) (k : Nat) : tb x k = 0 ∨ tb x k = 1 := by
  unfold tb
  omega
theorem tb_succ (x : Int) (k : Nat) : tb x (k + 1) = tb (x / 2) k := by
  unfold tb
  rw [Int.ediv_ediv_of_nonneg (by decide)]
  rw [show (2 : Int) * 2 ^ k = 2 ^ (k + 1) from by rw [GM.pow_s, Int.mul_comm]]
theorem tb_zero (x : Int) : tb x 0 = x % 2 := by
  unfold tb
  rw [Int.pow_zero, Int.ediv_one]
theorem and_bit {a b : Int} (ha : a = 0 ∨ a = 1) (hb : b = 0 ∨ b = 1) : Builtin.bitAnd a b = if a = 1 ∧ b = 1 then 1 else 0 := by
  rcases ha with rfl | rfl <;> rcases hb with rfl | rfl <;> decide
theorem tb_and : ∀ (k : Nat) (x y : Int), tb (Builtin.bitAnd x y) k = Builtin.bitAnd (tb x k) (tb y k)
  | 0, x, y => by
    rw [tb_zero, tb_zero, tb_zero, PySem.W.kbt_halves, and_bit (a := x % 2) (b := y % 2) (by omega) (by omega)]
    split <;> omega
  | k + 1, x, y => by
    rw [tb_succ, tb_succ, tb_succ, ← tb_and k]
    congr 1
    rw [PySem.W.kbt_halves]
    split <;> omega
theorem or_halves (x y : Int) : Builtin.bitOr x y = 2 * Builtin.bitOr (x / 2) (y / 2) + (if x % 2 = 1 ∨ y % 2 = 1 then 1 else 0) := by
  rw [PyProof.Rows.bitOr_and, PyProof.Rows.bitOr_and, PySem.W.kbt_halves]
  split <;> split <;> omega
theorem or_bit {a b : Int} (ha : a = 0 ∨ a = 1) (hb : b = 0 ∨ b = 1) : Builtin.bitOr a b = if a = 1 ∨ b = 1 then 1 else 0 := by
  rcases ha with rfl | rfl <;> rcases hb with rfl | rfl <;> decide
theorem tb_or : ∀ (k : Nat) (x y : Int), tb (Builtin.bitOr x y) k = Builtin.bitOr (tb x k) (tb y k)
  | 0, x, y => by
    rw [tb_zero, tb_zero, tb_zero, or_halves, or_bit (a := x % 2) (b := y % 2) (by omega) (by omega)]
    split <;> omega
  | k + 1, x, y => by
    rw [tb_succ, tb_succ, tb_succ, ← tb_or k]
    congr 1
    rw [or_halves]
    split <;> omega
theorem xor_halves (x y : Int) : Builtin.bitXor x y = 2 * Builtin.bitXor (x / 2) (y / 2) + (if x % 2 = y % 2 then 0 else 1) := by
  rw [bitXor_and, bitXor_and, PySem.W.kbt_halves]
  split <;> split <;> omega
theorem xor_bit {a b : Int} (ha : a = 0 ∨ a = 1) (hb : b = 0 ∨ b = 1) : Builtin.bitXor a b = if a = b then 0 else 1 := by
  rcases ha with rfl | rfl <;> rcases hb with rfl | rfl <;> decide
theorem tb_xor : ∀ (k : Nat) (x y : Int), tb (Builtin.bitXor x y) k = Builtin.bitXor (tb x k) (tb y k)
  | 0, x, y => by
    rw [tb_zero, tb_zero, tb_zero, xor_halves, xor_bit (a := x % 2) (b := y % 2) (by omega) (by omega)]
    split <;> omega
  | k + 1, x, y => by
    rw [tb_succ, tb_succ, tb_succ, ← tb_xor k]
    congr 1
    rw [xor_halves]
    split <;> omega
theorem tb_full : ∀ {n k : Nat}, k < n → tb (2 ^ n - 1) k = 1
  | n + 1, 0, _ => by
    rw [tb_zero, GM.pow_s]
    omega
  | n + 1, k + 1, h => by
    rw [tb_succ, show ((2 : Int) ^ (n + 1) - 1) / 2 = 2 ^ n - 1 from by rw [GM.pow_s]; omega]
    exact tb_full (by omega)
theorem tb_nul (k : Nat) : tb 0 k = 0 := by
  unfold tb
  rw [Int.zero_ediv]
  rfl
theorem tb_mod {n k : Nat} (x : Int) (h : k < n) : tb (x % 2 ^ n) k = tb x k := by
  rw [← PySem.W.kbt_mask, tb_and, tb_full h]
  rcases tb_01 x k with z | z <;> rw [z] <;> decide
/-! ### wires run -/
def gvw (full x y : Int) (k : Str) : Int := if k = "other" then Builtin.bitXor x full else if k = "both" then Builtin.bitAnd x y else if k = "either" then Builtin.bitOr x y else Builtin.bitXor x y
def gv (full : Int) (ws : List Int) : Gt → Int
  | .fi b => if b = 1 then full else 0
  | .w k l => gvw full (ws.getD (l.getD 0 0) 0) (ws.getD (l.getD 1 0) 0) k
def rv (full : Int) (vals : List Int) (gs : List Gt) : List Int := gs.foldl (fun ws g => ws ++ [gv full ws g]) vals
theorem rv_snoc (full : Int) (vals : List Int) (gs : List Gt) (g : Gt) : rv full vals (gs ++ [g]) = rv full vals gs ++ [gv full (rv full vals gs) g] := by
  unfold rv
  rw [List.foldl_append]
  rfl
theorem rv_len : ∀ (gs : List Gt) (full : Int) (vals : List Int), (rv full vals gs).length = vals.length + gs.length
  | [], _, _ => rfl
  | g :: gs, full, vals => by
    have := rv_len gs full (vals ++ [gv full vals g])
    unfold rv at this ⊢
    rw [List.foldl_cons, this, List.length_append, List.length_cons, List.length_cons, List.length_nil]
    omega
theorem getD_map (ws : List Int) (i k : Nat) : (ws.map (tb · k)).getD i 0 = tb (ws.getD i 0) k := by
  simp only [List.getD, List.getElem?_map]
  cases ws[i]? with
  | none => exact (tb_nul k).symm
  | some v => rfl
theorem gv_bit {n k : Nat} (h : k < n) (ws : List Int) (g : Gt) : tb (gv (2 ^ n - 1) ws g) k = gv 1 (ws.map (tb · k)) g := by
  cases g with
  | fi b =>
    show tb (if b = 1 then _ else _) k = if b = 1 then 1 else 0
    split
    · exact tb_full h
    · exact tb_nul k
  | w nm l =>
    show tb (gvw (2 ^ n - 1) _ _ nm) k = gvw 1 _ _ nm
    rw [getD_map, getD_map]
    unfold gvw
    split
    · rw [tb_xor, tb_full h]
    split
    · rw [tb_and]
    split
    · rw [tb_or]
    · rw [tb_xor]
theorem rv_bit {n k : Nat} (h : k < n) : ∀ (gs : List Gt) (vals : List Int), (rv (2 ^ n - 1) vals gs).map (tb · k) = rv 1 (vals.map (tb · k)) gs
  | [], _ => rfl
  | g :: gs, vals => by
    have := rv_bit h gs (vals ++ [gv (2 ^ n - 1) vals g])
    unfold rv at this ⊢
    rw [List.foldl_cons, List.foldl_cons, this, List.map_append, List.map_cons, List.map_nil, gv_bit h]
/-! ### nets run -/
def wf (ds : List Int) : Int := ds.foldl (fun w d => 2 * w + d) 0
theorem wf_snoc (ds : List Int) (d : Int) : wf (ds ++ [d]) = 2 * wf ds + d := by
  unfold wf
  rw [List.foldl_append]
  rfl
theorem at_int46 {xs : List Int} {i : Nat} {x : V} (h : (xs.map V.int)[i]? = some x) : ∃ v, xs[i]? = some v ∧ x = .int v := by
  rw [List.getElem?_map] at h
  cases q : xs[i]? with
  | none => rw [q] at h; cases h
  | some v => rw [q] at h; exact ⟨v, rfl, (Option.some.inj h).symm⟩
def spGateB : Sp := fun vs H Q _ => ∃ (g wl : Addr) (full : Int) (gt : Gt) (ws : List Int), vs = [.ref g, .ref wl, .int full] ∧ H g = some (.tup gt.row) ∧ H wl = some (.lst (ws.map V.int)) ∧ gt.ok ws.length ∧ Q (.int (gv full ws gt)) H
theorem at_getD {ws : List Int} {a : Nat} (h : a < ws.length) : atI (ws.map V.int) (a : Int) = some (.int (ws.getD a 0)) := atI_nat (by
  rw [List.getElem?_map, List.getElem?_eq_getElem h]
  simp [List.getD, List.getElem?_eq_getElem h])
theorem ok_gate_bits (B : Bl mg) (L : LL K mg C za zl) : FnOk P w K mg base CX0 1 (za 18) (zl 18) ["gate", "wires", "full"] spGateB := by
  refine L.F_gate_bits.ok sc_gate_bits (fun vs H Q E h => ?_) (fun cdv A outer s H vs Q E hr h => ?_)
  · obtain ⟨g, wl, full, gt, ws, rfl, _⟩ := h
    rfl
  obtain ⟨g, wl, full, gt, ws, rfl, eg, ew, ok, q⟩ := h
  refine ⟨_, (pss_cons (ps_set (i := 3) sc_gate_bits.nd rfl (.inl rfl) (pe_ix ix_tup (pv 0) pe_int (fun _ _ => rfl)))
    (pss_cons (ps_if (pt_cmpR op_eq (pv 3) pe_str (nomark _)) (pss_one (ps_ret (pe_ifExp (pt_cmpR op_eq (pe_ix ix_tup (pv 0) pe_int (fun _ _ => rfl)) pe_int (nomark _)) (pv 2) pe_int))) pss_nil)
    (pss_cons (ps_set (i := 4) sc_gate_bits.nd rfl (.inl rfl) (pe_ix ix_list (pv 1) (pe_ix ix_tup (pv 0) pe_int (fun _ _ => rfl)) (fun _ _ => rfl)))
    (pss_cons (ps_if (pt_cmpR op_eq (pv 3) pe_str (nomark _)) (pss_one (ps_ret (pe_op op_xor (pv 4) (pv 2)))) pss_nil)
    (pss_cons (ps_set (i := 5) sc_gate_bits.nd rfl (.inl rfl) (pe_ix ix_list (pv 1) (pe_ix ix_tup (pv 0) pe_int (fun _ _ => rfl)) (fun _ _ => rfl)))
    (pss_cons (ps_if (pt_cmpR op_eq (pv 3) pe_str (nomark _)) (pss_one (ps_ret (pe_op op_and (pv 4) (pv 5)))) pss_nil)
    (pss_cons (ps_if (pt_cmpR op_eq (pv 3) pe_str (nomark _)) (pss_one (ps_ret (pe_op op_or (pv 4) (pv 5)))) pss_nil)
    (pss_one (ps_ret (pe_op op_xor (pv 4) (pv 5))))))))))), ?_⟩
  have nS : ∀ {x y : Str}, ¬ x = y → ¬ decide (V.str x = V.str y) = true := fun h z => h (V.str.inj (of_decide_eq_true z))
  cases gt with
  | fi b =>
    refine ⟨_, rfl, g, _, _, _, rfl, rfl, .inl (.inl eg), rfl, ?_⟩
    try simp only [L2.start, List.map_cons, List.map_nil, List.length_cons, List.length_nil, List.replicate_succ, List.replicate_zero, List.cons_append, List.nil_append, List.set_cons_succ, List.set_cons_zero, Nat.reduceAdd, Nat.reduceSub, Nat.zero_add]
    dsimp only [gName]
    try simp only [L2.start, List.map_cons, List.map_nil, List.length_cons, List.length_nil, List.replicate_succ, List.replicate_zero, List.cons_append, List.nil_append, List.set_cons_succ, List.set_cons_zero, Nat.reduceAdd, Nat.reduceSub, Nat.zero_add]
    refine ⟨_, rfl, rfl, _, rfl, ite2 (fun _ => ?_) (fun z => absurd (decide_eq_true rfl) z)⟩
    refine ⟨_, rfl, g, _, _, _, rfl, rfl, .inl (.inl eg), rfl, rfl, _, rfl, ite2 (fun z => ?_) (fun z => ?_)⟩
    · have e : (b : Int) = 1 := V.int.inj (of_decide_eq_true z)
      have q : Q (.int (if b = 1 then full else 0)) H := q
      rw [if_pos (by omega)] at q
      exact ⟨_, rfl, q⟩
    · have e : ¬ (b : Int) = 1 := fun y => z (decide_eq_true (congrArg V.int y))
      have q : Q (.int (if b = 1 then full else 0)) H := q
      rw [if_neg (by omega)] at q
      exact q
  | w k l =>
    have q : Q (.int (gvw full (ws.getD (l.getD 0 0) 0) (ws.getD (l.getD 1 0) 0) k)) H := q
    have nf : ¬ k = "fixed" := by
      rcases ok.1 with ⟨z | z | z, _⟩ | ⟨z, _⟩ <;> rw [z] <;> decide +kernel
    have l0 : 0 < l.length := by
      rcases ok.1 with ⟨_, z⟩ | ⟨_, z⟩ <;> omega
    have ea : (Gt.w k l).row[1]? = some (.int ((l.getD 0 0 : Nat) : Int)) := by
      match l, l0 with
      | a :: l, _ => rfl
    have la : l.getD 0 0 < ws.length := by
      match l, l0, ok with
      | a :: l, _, ok => exact ok.2 a (by simp)
    refine ⟨_, rfl, g, _, _, _, rfl, rfl, .inl (.inl eg), (show atI (Gt.w k l).row 0 = some (.str k) from atI_nat (j := 0) rfl), ?_⟩
    try simp only [L2.start, List.map_cons, List.map_nil, List.length_cons, List.length_nil, List.replicate_succ, List.replicate_zero, List.cons_append, List.nil_append, List.set_cons_succ, List.set_cons_zero, Nat.reduceAdd, Nat.reduceSub, Nat.zero_add]
    dsimp only [gName]
    try simp only [L2.start, List.map_cons, List.map_nil, List.length_cons, List.length_nil, List.replicate_succ, List.replicate_zero, List.cons_append, List.nil_append, List.set_cons_succ, List.set_cons_zero, Nat.reduceAdd, Nat.reduceSub, Nat.zero_add]
    refine ⟨_, rfl, rfl, _, rfl, ite2 (fun z => absurd z (nS nf)) (fun _ => ?_)⟩
    dsimp only [tNext]
    refine ⟨_, rfl, _, rfl, g, _, _, _, rfl, rfl, .inl (.inl eg), (atI_nat (j := 1) ea), wl, _, _, _, rfl, rfl, SqL.of ew, at_getD la, ?_⟩
    try simp only [L2.start, List.map_cons, List.map_nil, List.length_cons, List.length_nil, List.replicate_succ, List.replicate_zero, List.cons_append, List.nil_append, List.set_cons_succ, List.set_cons_zero, Nat.reduceAdd, Nat.reduceSub, Nat.zero_add]
    dsimp only [gName]
    try simp only [L2.start, List.map_cons, List.map_nil, List.length_cons, List.length_nil, List.replicate_succ, List.replicate_zero, List.cons_append, List.nil_append, List.set_cons_succ, List.set_cons_zero, Nat.reduceAdd, Nat.reduceSub, Nat.zero_add]
    unfold gvw at q
    refine ⟨_, rfl, rfl, _, rfl, ite2 (fun z => ?_) (fun z => ?_)⟩
    · rw [if_pos (V.str.inj (of_decide_eq_true z))] at q
      exact ⟨_, rfl, _, rfl, _, _, rfl, rfl, q⟩
    have no : ¬ k = "other" := fun y => z (decide_eq_true (congrArg V.str y))
    rw [if_neg no] at q
    dsimp only [tNext]
    have l2 : l.length = 2 := by
      rcases ok.1 with ⟨_, z⟩ | ⟨z, _⟩
      · exact z
      · exact absurd z no
    have eb : (Gt.w k l).row[2]? = some (.int ((l.getD 1 0 : Nat) : Int)) := by
      match l, l2 with
      | [a, b], _ => rfl
    have lb : l.getD 1 0 < ws.length := by
      match l, l2, ok with
      | [a, b], _, ok => exact ok.2 b (by simp)
    refine ⟨_, rfl, _, rfl, g, _, _, _, rfl, rfl, .inl (.inl eg), (atI_nat (j := 2) eb), wl, _, _, _, rfl, rfl, SqL.of ew, at_getD lb, ?_⟩
    try simp only [L2.start, List.map_cons, List.map_nil, List.length_cons, List.length_nil, List.replicate_succ, List.replicate_zero, List.cons_append, List.nil_append, List.set_cons_succ, List.set_cons_zero, Nat.reduceAdd, Nat.reduceSub, Nat.zero_add]
    dsimp only [gName]
    try simp only [L2.start, List.map_cons, List.map_nil, List.length_cons, List.length_nil, List.replicate_succ, List.replicate_zero, List.cons_append, List.nil_append, List.set_cons_succ, List.set_cons_zero, Nat.reduceAdd, Nat.reduceSub, Nat.zero_add]
    refine ⟨_, rfl, rfl, _, rfl, ite2 (fun z => ?_) (fun z => ?_)⟩
    · rw [if_pos (V.str.inj (of_decide_eq_true z))] at q
      exact ⟨_, rfl, _, rfl, _, _, rfl, rfl, q⟩
    rw [if_neg (fun y => z (decide_eq_true (congrArg V.str y)))] at q
    dsimp only [tNext]
    refine ⟨_, rfl, rfl, _, rfl, ite2 (fun z => ?_) (fun z => ?_)⟩
    · rw [if_pos (V.str.inj (of_decide_eq_true z))] at q
      exact ⟨_, rfl, _, rfl, _, _, rfl, rfl, q⟩
    rw [if_neg (fun y => z (decide_eq_true (congrArg V.str y)))] at q
    dsimp only [tNext]
    exact ⟨_, rfl, _, rfl, _, _, rfl, rfl, q⟩
/-- the rows that a run tells: by name, the wires' values -/
def RunAt (H0 H : Hp) (t : Addr) (ys : List Str) (nm : List (Str × List Nat)) (rs : List Int) : Prop := ∃ ts : List Addr, ts.length = ys.length ∧ H t = some (.lst (ts.map V.ref)) ∧
  ∀ (i : Nat) (u : Addr) (n : Str), ts[i]? = some u → ys[i]? = some n → ∃ (ws : List Nat) (l : Addr), (n, ws) ∈ nm ∧ H0 l = none ∧ H u = some (.tup [.str n, .ref l]) ∧ H l = some (.lst ((ws.map fun a => rs.getD a 0).map V.int))
def spRan (C : Addr) : Sp := fun vs H Q _ => ∃ (Z : List Addr) (p : NetP) (m : Nat) (gs : List Gt) (nm : List (Str × List Nat)) (vl : Addr) (vals : List Int) (n : Nat), vs = [.ref p.x, .ref vl, .int (n : Int)] ∧ NetAt C Z H p m gs nm ∧ H vl = some (.lst (vals.map V.int)) ∧ vals.length = m ∧ n ≤ 5000 ∧ m + gs.length ≤ 400000 ∧ nm.length < 64 ∧
  (∀ (i : Nat) (g : Gt), gs[i]? = some g → g.ok (m + i)) ∧ (∀ x ∈ nm, x.2.length ≤ 900 ∧ ∀ a ∈ x.2, a < m + gs.length) ∧
  ∀ (ys : List Str) (t : Addr) (H' : Hp), ys.Perm (nm.map (·.1)) → sortedS ys = true → Same H H' → RunAt H H' t ys nm (rv (2 ^ n - 1) (vals.map (· % 2 ^ n)) gs) → Q (.ref t) H'
theorem ok_ran (B : Bl mg) (L : LL K mg C za zl) : FnOk P w K mg base CX0 2 (za 17) (zl 17) ["net", "values", "many"] (spRan C) := by
  have G_gate_bits : FnOk P w K mg base CX0 1 (za 18) (zl 18) ["gate", "wires", "full"] spGateB := (ok_gate_bits B L).mono (by decide)
  have G_Net_gates : FnOk P w K mg base CX0 1 (za 37) (zl 37) ["self"] (spGates C) := (ok_Net_gates B L).mono (by decide)
  have G_Net_given : FnOk P w K mg base CX0 1 (za 35) (zl 35) ["self", "name"] (spGiven C) := (ok_Net_given B L).mono (by decide)
  have G_Net_names : FnOk P w K mg base CX0 1 (za 36) (zl 36) ["self"] (spNames C) := (ok_Net_names B L).mono (by decide)
  refine L.F_ran.ok sc_ran (fun vs H Q E h => ?_) (fun cdv A outer s H vs Q E hr h => ?_)
  · obtain ⟨Z, p, m, gs, nm, vl, vals, n, rfl, _⟩ := h
    rfl
  obtain ⟨Z, p, m, gs, nm, vl, vals, n, rfl, hN, ev, lv, hn, hl, hm, hok, hnm, q⟩ := h
  refine ⟨_, (pss_cons (ps_set (i := 3) sc_ran.nd rfl (.inr rfl) (pe_op op_sub (pe_op op_oneShl pe_int (pv 2)) pe_int))
    (pss_cons (ps_set (i := 4) sc_ran.nd rfl (.inr rfl) (pe_lc (own := [("value", 6)]) (by rfl) sc_ran.nd (pi_list (pv 1)) (blkOk_by (own := [("value", 6)]) (N := ["net", "values", "many", "full", "wires", "gate", "value", "name", "wire"]) (sc := defScope s_ran) (by decide +kernel)) (fun _ _ _ _ _ => pg_name (i := 6) sc_ran.nd rfl (Or.inl rfl)) (fun _ _ _ _ _ => pts_nil) (fun _ _ _ _ _ => (pe_op op_andM (pv 6) (pv 3)))))
    (pss_cons (ps_for PassesOwn.never rfl (pi_list (pe_meth0 (pv 0) L.T.cl L.M_Net_gates G_Net_gates hr L.b_Net_gates .nil pass0)) (pg_name (i := 5) sc_ran.nd rfl (.inl rfl)) (pss_one (ps_expr (pe_bm PySem.F.plainAttrs_list PySem.F.slot_list_append PySem.F.type_list_append mt_append (pv 4) (pa_cons (pe_call G_gate_bits hr (by rfl) L.m_gate_bits L.F_gate_bits.kp L.b_gate_bits .nil pass0 (pa_cons (pv 5) (pa_cons (pv 4) (pa_cons (pv 3) pa_nil)))) pa_nil)))))
    (pss_one (ps_ret (pe_lc (own := [("name", 7)]) (by rfl) sc_ran.nd (pi_list (pe_meth0 (pv 0) L.T.cl L.M_Net_names G_Net_names hr L.b_Net_names .nil pass0)) (blkOk_by (own := [("name", 7)]) (N := ["net", "values", "many", "full", "wires", "gate", "value", "name", "wire"]) (sc := defScope s_ran) (by decide +kernel)) (fun _ _ _ _ _ => pg_name (i := 7) sc_ran.nd rfl (Or.inl rfl)) (fun _ _ _ _ _ => pts_nil) (fun _ _ _ _ _ => (pe_tup (pa_cons (pv 7) (pa_cons (pe_lc (own := [("wire", 8)]) (by rfl) sc_ran.nd (pi_listK (K := K) (pe_meth (pv 0) L.T.cl L.M_Net_given G_Net_given hr L.b_Net_given .nil pass0 (pa_cons (pv 7) pa_nil))) (blkOk_by (own := [("wire", 8)]) (N := ["net", "values", "many", "full", "wires", "gate", "value", "name", "wire"]) (sc := ({ kind := ScopeKind.function, names := [(".0", NameKind.local), ("name", NameKind.local), ("net", NameKind.cell), ("wires", NameKind.cell)], isGenerator := false, isCoroutine := false } : Scope)) (by decide +kernel)) (fun _ _ _ _ _ => pg_name (i := 8) sc_ran.nd rfl (Or.inl rfl)) (fun _ _ _ _ _ => pts_nil) (fun _ _ _ _ _ => (pe_ix (ix_listK (K := K)) (pv 4) (pv 8) (fun _ _ => rfl)))) pa_nil)))))))))), ?_⟩
  refine ⟨_, rfl, n, rfl, rfl, by omega, _, _, rfl, rfl, ?_⟩
  try simp only [L2.start, List.map_cons, List.map_nil, List.length_cons, List.length_nil, List.replicate_succ, List.replicate_zero, List.cons_append, List.nil_append, List.set_cons_succ, List.set_cons_zero, Nat.reduceAdd, Nat.reduceSub, Nat.zero_add]
  refine ⟨_, rfl, vl, rfl, ⟨_, SqL.of ev⟩, fun W nW => ?_⟩
  refine lc_it (walk_list (K := K) (a := vl) (xs := vals.map V.int)) (fun i H9 => Same H H9 ∧ H9 W = some (.lst (((vals.map (· % 2 ^ n)).take i).map V.int))) ⟨same_upd nW, upd_same⟩ (fun i H9 _ ⟨s9, _⟩ => SqL.of (s9 _ _ ev)) ?_ ?_
  · rintro j z H9 H10 hj ⟨s9, eW⟩ ⟨rfl, hz⟩
    obtain ⟨v, hv, rfl⟩ := at_int46 hz
    refine ⟨rfl, yesT ?_⟩
    refine ⟨_, rfl, _, rfl, _, n, rfl, rfl, ?_⟩
    refine ⟨_, eW, ?_, fun y u e => ?_, ?_⟩
    · rw [List.length_map, List.length_take, List.length_map]
      exact Nat.lt_of_le_of_lt (Nat.min_le_right _ _) (big_lt0 (by omega))
    · rw [upd_ne (ne_of_none e nW)]
      exact s9 _ _ e
    · rw [upd_same, List.take_add_one, List.getElem?_map, hv, List.map_append]
      rfl
  rintro H1 ⟨s1, eW⟩
  rw [List.length_map, List.take_of_length_le (by rw [List.length_map]; exact Nat.le_refl _)] at eW
  try simp only [L2.start, List.map_cons, List.map_nil, List.length_cons, List.length_nil, List.replicate_succ, List.replicate_zero, List.cons_append, List.nil_append, List.set_cons_succ, List.set_cons_zero, Nat.reduceAdd, Nat.reduceSub, Nat.zero_add]
  obtain ⟨_, _, _, dx, _, _, e1, _⟩ := id hN
  have nWx : ∀ y o, H y = some o → y ≠ W := fun y o e => ne_of_none e nW
  refine ⟨_, rfl, p.x, dx, _, rfl, s1 _ _ e1, rfl, Z, p, m, gs, nm, rfl, hN.same s1, fun G ps nG lps hps => ?_⟩
  have sG := same_upd (o := .lst (ps.map V.ref)) nG
  have eWG := sG _ _ eW
  have nGW : G ≠ W := (ne_of_none eW nG).symm
  have eG0 : (upd H1 G (.lst (ps.map V.ref))) G = some (.lst (ps.map V.ref)) := upd_same
  have w1 := s1.trans sG
  have hps1 : ∀ (i : Nat) (r : Addr) (g : Gt), ps[i]? = some r → gs[i]? = some g → (upd H1 G (.lst (ps.map V.ref))) r = some (.tup g.row) := fun i r g hi hg => sG _ _ (hps i r g hi hg)
  generalize upd H1 G (.lst (ps.map V.ref)) = H2 at *
  refine ⟨G, rfl, ⟨_, SqL.of eG0⟩, ?_⟩
  refine for_it (walk_list (K := K) (a := G) (xs := ps.map V.ref)) (fun j σ H9 => ∃ y : Option V, σ = [some (.ref p.x), some (.ref vl), some (.int (n : Int)), some (.int (2 ^ n - 1)), some (.ref W), y, none, none, none] ∧ Keep W H2 H9 ∧ H9 W = some (.lst ((rv (2 ^ n - 1) (vals.map (· % 2 ^ n)) (gs.take j)).map V.int))) ⟨_, rfl, Keep.refl _ _, eWG⟩ (fun j σ H9 _ ⟨_, _, k9, _⟩ => SqL.of (k9 _ _ eG0 nGW)) ?_ ?_
  · rintro j z σ H9 H10 hj ⟨y, rfl, k9, eW9⟩ ⟨rfl, hz⟩
    rw [List.getElem?_map] at hz
    have hj' : j < ps.length := by
      rw [List.length_map] at hj
      exact hj
    rw [List.getElem?_eq_getElem hj'] at hz
    cases hz
    have hg : gs[j]? = some gs[j] := List.getElem?_eq_getElem (by omega)
    have er : H10 ps[j] = some (.tup (gs[j]'(by omega)).row) := k9 _ _ (hps1 j _ _ (List.getElem?_eq_getElem hj') hg) (fun z => by
      have := hps1 j _ _ (List.getElem?_eq_getElem hj') hg
      rw [z, eWG] at this
      cases this)
    try simp only [L2.start, List.map_cons, List.map_nil, List.length_cons, List.length_nil, List.replicate_succ, List.replicate_zero, List.cons_append, List.nil_append, List.set_cons_succ, List.set_cons_zero, Nat.reduceAdd, Nat.reduceSub, Nat.zero_add]
    refine ⟨_, rfl, .inl ⟨rfl, _, SqL.of eW9⟩, _, rfl, _, rfl, _, rfl, ps[j], W, _, _, _, rfl, er, eW9, ?_, ?_⟩
    · rw [rv_len, List.length_map, List.length_take, lv, Nat.min_eq_left (by omega)]
      exact hok j _ hg
    refine ⟨W, _, _, rfl, rfl, eW9, ?_, ?_⟩
    · rw [List.length_map, rv_len, List.length_map, List.length_take]
      exact big_lt0 (by omega)
    refine ⟨_, rfl, fun y' u e ny => ?_, ?_⟩
    · rw [upd_ne ny]
      exact k9 _ _ e ny
    · rw [upd_same, List.take_add_one, hg]
      show _ = some (HO.lst ((rv (2 ^ n - 1) (vals.map (· % 2 ^ n)) (gs.take j ++ [gs[j]])).map V.int))
      rw [rv_snoc, List.map_append]
      rfl
  rintro σ H9 ⟨y, rfl, k9, eW9⟩
  rw [List.length_map, List.take_of_length_le (by omega)] at eW9
  have s9 : Same H H9 := fun y u e => k9 _ _ (w1 _ _ e) (nWx _ _ e)
  have N9 := hN.same s9
  obtain ⟨_, _, _, dx9, _, _, f1, _⟩ := id N9
  refine ⟨_, rfl, p.x, dx9, _, rfl, f1, rfl, Z, p, m, gs, nm, rfl, N9, hm, fun ys Y HY hp hs sY nY eY => ?_⟩
  have eWY := sY _ _ eW9
  have NY := N9.same sY
  have lys : ys.length < 64 := by
    have := hp.length_eq
    rw [List.length_map] at this
    omega
  have lrv : (rv (2 ^ n - 1) (vals.map (· % 2 ^ n)) gs).length = m + gs.length := by rw [rv_len, List.length_map, lv]
  refine ⟨Y, rfl, ⟨_, SqL.of eY⟩, fun T nT => ?_⟩
  refine lc_it (walk_list (K := K) (a := Y) (xs := ys.map V.str)) (fun i H5 => Same HY H5 ∧ ∃ ts : List Addr, ts.length = i ∧ H5 T = some (.lst (ts.map V.ref)) ∧ ∀ (k : Nat) (u : Addr) (x : Str), ts[k]? = some u → ys[k]? = some x → ∃ (ws : List Nat) (l : Addr), (x, ws) ∈ nm ∧ H l = none ∧ l ≠ T ∧ H5 u = some (.tup [.str x, .ref l]) ∧ H5 l = some (.lst ((ws.map fun a => (rv (2 ^ n - 1) (vals.map (· % 2 ^ n)) gs).getD a 0).map V.int))) ⟨same_upd nT, [], rfl, upd_same, fun k u x h => by simp at h⟩ (fun i H5 _ ⟨s5, _⟩ => SqL.of (s5 _ _ eY)) ?_ ?_
  · rintro j z H5 H6 hj ⟨s5, ts, lt, eT, hts⟩ ⟨rfl, hz⟩
    rw [List.getElem?_map] at hz
    have hj' : j < ys.length := by
      rw [List.length_map] at hj
      exact hj
    have hy : ys[j]? = some ys[j] := List.getElem?_eq_getElem hj'
    rw [hy] at hz
    cases hz
    have N5 := NY.same s5
    obtain ⟨_, _, _, dx5, _, _, g1, _⟩ := id N5
    obtain ⟨⟨x, ws⟩, hx, ex⟩ := List.mem_map.mp (hp.mem_iff.mp (List.mem_of_getElem? hy))
    obtain ⟨i0, hi0, ei0⟩ := List.getElem_of_mem hx
    have hn0 : nm[i0]? = some (ys[j], ws) := by
      rw [List.getElem?_eq_getElem hi0, ei0, ← ex]
    have hws := hnm _ hx
    have hw1 : ws.length ≤ 900 := hws.1
    refine ⟨rfl, yesT ?_⟩
    refine ⟨_, rfl, _, rfl, p.x, dx5, _, rfl, g1, rfl, _, rfl, Z, p, m, gs, nm, i0, ys[j], ws, rfl, N5, hn0, fun g ng => ?_⟩
    have sg := same_upd (o := .lst (nts ws)) ng
    have eWg := sg _ _ (s5 _ _ eWY)
    have egg : (upd H6 g (.lst (nts ws))) g = some (.lst (nts ws)) := upd_same
    have eTg := sg _ _ eT
    generalize upd H6 g (.lst (nts ws)) = H7 at *
    refine ⟨g, rfl, ⟨_, SqL.of egg⟩, fun D nD => ?_⟩
    refine lc_it (walk_list (K := K) (a := g) (xs := nts ws)) (fun i H8 => Same H7 H8 ∧ H8 D = some (.lst (((ws.map fun a => (rv (2 ^ n - 1) (vals.map (· % 2 ^ n)) gs).getD a 0).take i).map V.int))) ⟨same_upd nD, upd_same⟩ (fun i H8 _ ⟨s8, _⟩ => SqL.of (s8 _ _ egg)) ?_ ?_
    · rintro k z H8 H8' hk ⟨s8, eD⟩ ⟨rfl, hz⟩
      obtain ⟨a, ha, rfl⟩ := nts_at hz
      have la := hws.2 a (List.mem_of_getElem? ha)
      refine ⟨rfl, yesT ?_⟩
      refine ⟨_, rfl, _, rfl, W, _, _, _, rfl, rfl, SqL.of (s8 _ _ eWg), at_getD (by rw [lrv]; exact la), ?_⟩
      refine ⟨_, eD, ?_, fun y u e => ?_, ?_⟩
      · rw [List.length_map, List.length_take, List.length_map]
        exact Nat.lt_of_le_of_lt (Nat.min_le_right _ _) (big_lt0 (by omega))
      · rw [upd_ne (ne_of_none e nD)]
        exact s8 _ _ e
      · rw [upd_same, List.take_add_one, List.getElem?_map, ha, List.map_append]
        rfl
    rintro H8 ⟨s8, eD⟩
    rw [nts_len, List.take_of_length_le (by rw [List.length_map]; exact Nat.le_refl _)] at eD
    have eT8 := s8 _ _ eTg
    have nD0 : H D = none := by
      cases e : H D with
      | none => rfl
      | some o =>
        have := sg _ _ (s5 _ _ (sY _ _ (s9 _ _ e)))
        rw [nD] at this
        cases this
    have nDT : D ≠ T := fun z => by
      rw [z, eTg] at nD
      cases nD
    refine ⟨(by show 2 ≤ sizeLine; decide), fun u nu => ?_⟩
    have su := same_upd (o := .tup [.str ys[j], .ref D]) nu
    have nuT : u ≠ T := fun z => by
      rw [z, eT8] at nu
      cases nu
    have sA : Same H6 (upd H8 u (.tup [.str ys[j], .ref D])) := fun y o e => su _ _ (s8 _ _ (sg _ _ e))
    refine ⟨_, su _ _ eT8, ?_, fun y o e => ?_, ts ++ [u], by rw [List.length_append, lt]; rfl, ?_, fun k u' x' hu hx' => ?_⟩
    · rw [List.length_map, lt]
      exact big_lt0 (by omega)
    · rw [upd_ne (ne_of_none e nT)]
      exact sA _ _ (s5 _ _ e)
    · rw [upd_same, List.map_append]
      rfl
    · by_cases c : k < ts.length
      · rw [List.getElem?_append_left c] at hu
        obtain ⟨ws', l', q1, q0, q2, q3, q4⟩ := hts k u' x' hu hx'
        refine ⟨ws', l', q1, q0, q2, ?_, ?_⟩
        · rw [upd_ne (fun z => by rw [z, eT] at q3; cases q3)]
          exact sA _ _ q3
        · rw [upd_ne q2]
          exact sA _ _ q4
      · have k0 : k = ts.length := by
          have := (List.getElem?_eq_some_iff.mp hu).1
          rw [List.length_append, List.length_cons, List.length_nil] at this
          omega
        rw [List.getElem?_append_right (by omega), k0, Nat.sub_self] at hu
        rw [k0, lt, hy] at hx'
        cases hu
        cases hx'
        refine ⟨ws, D, ?_, nD0, nDT, ?_, ?_⟩
        · rw [← ex]
          exact hx
        · rw [upd_ne nuT]
          exact upd_same
        · rw [upd_ne nDT]
          exact su _ _ eD
  · rintro H5 ⟨s5, ts, lt, eT, hts⟩
    refine q ys T H5 hp hs ((s9.trans sY).trans s5) ⟨ts, by rw [lt, List.length_map], eT, fun k u x hu hx => ?_⟩
    obtain ⟨ws, l, q1, q0, _, q3, q4⟩ := hts k u x hu hx
    exact ⟨ws, l, q1, q0, q3, q4⟩
end
end GZ
namespace GZ
open PySem PySem.Spec PyProof.Rows L2
/-! ### enumerate(zip(xs, ys)) of two lists: the pairs stay out, so zip makes new ones -/
abbrev ZF (h : Heap) (z TI TO : Addr) (f0 : Value) (f : Bool) : Prop := h.get? z = some { cls := .type "zip", dict := none, data := .fields #[f0, .bool f, .bool false, .ref TI, .ref TO], slots := #[] }
section
variable {prog : Program} {w : World} {A : Around} {E : Value → Shared → Prop} {s : Shared} {z TI TO i1 i2 l1 l2 e T : Addr} {xs ys : Array Value} {x y a b f0 : Value} {f : Bool} {i : Nat}
theorem zf_none {Q : Bool → Shared → Prop} (hz : ZF s.heap z TI TO .none f) (h : Q true s) : wpAny (model prog w) A (Builtin.SmallTypes.ownedTupleIsFree (.ref z)) Q E s := by
  unfold Builtin.SmallTypes.ownedTupleIsFree; exact wpAny_bind (wpAny_field hz rfl (x := .none) rfl (wpAny_pure h))
theorem zf_gone {Q : Option Obj → Shared → Prop} (ho : s.heap.get? T = none) (h : Q none s) : wpAny (model prog w) A (loadIfAlive T) Q E s := by
  have h2 : Q (s.heap.get? T) s := ho ▸ h
  intro _ _ _; exact h2
theorem zf_dead {Q : Bool → Shared → Prop} (hz : ZF s.heap z TI TO (rawInt T) f) (hT : s.heap.get? T = none) (h : Q true s) : wpAny (model prog w) A (Builtin.SmallTypes.ownedTupleIsFree (.ref z)) Q E s := by
  unfold Builtin.SmallTypes.ownedTupleIsFree; refine wpAny_bind (wpAny_field hz rfl (x := rawInt T) rfl ?_)
  show wpAny _ _ (loadIfAlive ((T : Int).toNat) >>= fun _ => _) _ _ _; rw [Int.toNat_natCast]; refine wpAny_bind (zf_gone hT ?_); simp only [Option.isNone_none, if_true]; exact wpAny_pure h
set_option maxHeartbeats 4000000 in
theorem zA_item {Q : Value → Shared → Prop} (D : ZipApart z TI TO i1 i2 l1 l2) (hz : ZF s.heap z TI TO f0 f) (hf : ∀ {A' : Around} {E' : Value → Shared → Prop} {Q' : Bool → Shared → Prop}, Q' true s → wpAny (model prog w) A' (Builtin.SmallTypes.ownedTupleIsFree (.ref z)) Q' E' s)
    (hTI : IsPair s.heap TI (.ref i1) (.ref i2)) (hTO : IsPair s.heap TO a b) (h1 : s.heap.IsListIter i1 l1 i) (h2 : s.heap.IsListIter i2 l2 i) (hl1 : s.heap.IsList l1 xs) (hl2 : s.heap.IsList l2 ys) (hx : xs[i]? = some x) (hy : ys[i]? = some y)
    (hQ : ∀ h', ZF h' z TI TO (rawInt s.heap.objs.size) false → IsPair h' TO x y → h'.IsListIter i1 l1 (i + 1) → h'.IsListIter i2 l2 (i + 1) → IsPair h' s.heap.objs.size x y →
      (∀ c o, c ≠ z → c ≠ TO → c ≠ i1 → c ≠ i2 → s.heap.get? c = some o → h'.get? c = some o) → h'.objs.size = s.heap.objs.size + 1 → Q (.ref s.heap.objs.size) { s with heap := h' }) :
    wpAny (model prog w) A (Builtin.«zip.__next__» ⟨[.ref z], []⟩) (fun fin s' => ∃ v, fin = .done (.ret v) ∧ Q v s') E s := by
  show wpAny _ _ (field (.ref z) 2 >>= fun _ => _) _ _ _; refine wpAny_bind (wpAny_field hz rfl (x := .bool false) rfl ?_)
  show wpAny _ _ (field (.ref z) 3 >>= fun _ => _) _ _ _; refine wpAny_bind (wpAny_field hz rfl (x := .ref TI) rfl (wpAny_bind (wpAny_seqItems hTI rfl ?_)))
  show wpAny _ _ (Builtin.SmallTypes.ownedTupleIsFree (.ref z) >>= fun _ => _) _ _ _; refine wpAny_bind (hf ?_)
  simp only [if_true]; refine wpAny_bind (wpAny_rule (wpAny_bind (wpAny_field hz rfl (x := .ref TO) rfl ?_)))
  refine wpAny_bind (wpAny_setField_rec hz (by simp) fun g1 hz1 s1 => ?_); replace hz1 : ZF g1 z TI TO .ellipsis f := hz1
  refine wpAny_bind ?_; simp only [List.zipIdx_cons, List.zipIdx_nil, List.forIn_cons, List.forIn_nil]; refine wpAny_bind (wpAny_bind (wpAny_onRaise ?_))
  show wpAny _ _ (Builtin.SmallTypes.nextOf (.ref i1) >>= fun _ => _) _ _ _; refine wpAny_bind (wpAny_nextOf_list_item (h1.extBut s1.extBut D.i1z) (hl1.extBut s1.extBut D.l1z) hx fun g2 h12 s2 => wpAny_pure ?_)
  have hTO2 : IsPair g2 TO a b := s2.extBut _ _ D.TOi1 (s1.extBut _ _ D.TOz hTO)
  refine wpAny_bind (wpAny_seqItems hTO2 rfl (wpAny_bind (wpAny_updateSeq_pair hTO2 fun g3 hTO3 s3 => ?_))); replace hTO3 : IsPair g3 TO x b := hTO3
  refine wpAny_bind (wpAny_letGo (wpAny_pure (wpAny_bind (wpAny_bind (wpAny_onRaise ?_)))))
  show wpAny _ _ (Builtin.SmallTypes.nextOf (.ref i2) >>= fun _ => _) _ _ _; refine wpAny_bind (wpAny_nextOf_list_item (((h2.extBut s1.extBut D.i2z).extBut s2.extBut D.i12.symm).extBut s3.extBut D.TOi2.symm) (((hl2.extBut s1.extBut D.l2z).extBut s2.extBut D.l2i1).extBut s3.extBut D.l2TO) hy fun g4 h24 s4 => wpAny_pure ?_)
  have hTO4 : IsPair g4 TO x b := s4.extBut _ _ D.TOi2 hTO3
  refine wpAny_bind (wpAny_seqItems hTO4 rfl (wpAny_bind (wpAny_updateSeq_pair hTO4 fun g5 hTO5 s5 => ?_))); replace hTO5 : IsPair g5 TO x y := hTO5
  refine wpAny_bind (wpAny_letGo (wpAny_pure (wpAny_pure (wpAny_bind (wpAny_seqItems hTO5 rfl (wpAny_bind (wpAny_newTuple ?_)))))))
  have hsz : g5.objs.size = s.heap.objs.size := by rw [s5.1, s4.1, s3.1, s2.1, s1.1]
  have hz5 : ZF g5 z TI TO .ellipsis f := s5.extBut _ _ D.TOz.symm (s4.extBut _ _ D.i2z.symm (s3.extBut _ _ D.TOz.symm (s2.extBut _ _ D.i1z.symm hz1)))
  have hk5 : ∀ c o, c ≠ z → c ≠ TO → c ≠ i1 → c ≠ i2 → s.heap.get? c = some o → g5.get? c = some o := fun c o n1 n2 n3 n4 q => s5.extBut _ _ n2 (s4.extBut _ _ n4 (s3.extBut _ _ n2 (s2.extBut _ _ n3 (s1.extBut _ _ n1 q))))
  have a1 : g5.IsListIter i1 l1 (i + 1) := ((h12.extBut s3.extBut D.TOi1.symm).extBut s4.extBut D.i12).extBut s5.extBut D.TOi1.symm
  have a2 : g5.IsListIter i2 l2 (i + 1) := h24.extBut s5.extBut D.TOi2.symm
  have zl : z < g5.objs.size := Heap.lt_size hz5
  show wpAny _ _ (Builtin.SmallTypes.ownedTupleHandOut (.ref z) (.ref g5.objs.size) >>= fun _ => _) _ _ _; refine wpAny_bind ?_; unfold Builtin.SmallTypes.ownedTupleHandOut
  have hz6 : ZF (g5.push { cls := .type "tuple", data := .seq #[x, y] }) z TI TO .ellipsis f := Heap.get?_push_of_some _ hz5
  refine wpAny_bind (wpAny_setField_rec hz6 (by simp) fun g7 hz7 s7 => ?_); replace hz7 : ZF g7 z TI TO (rawInt g5.objs.size) f := hz7
  refine wpAny_setField_rec hz7 (by simp) fun g8 hz8 s8 => ?_; replace hz8 : ZF g8 z TI TO (rawInt g5.objs.size) false := hz8
  have up : ∀ c o, c ≠ z → g5.get? c = some o → g8.get? c = some o := fun c o n1 q => s8.extBut _ _ n1 (s7.extBut _ _ n1 (Heap.get?_push_of_some _ q))
  have hT8 : IsPair g8 g5.objs.size x y := s8.extBut _ _ (Nat.ne_of_gt zl) (s7.extBut _ _ (Nat.ne_of_gt zl) (Heap.get?_push_size _ rfl))
  have e8 : g8.objs.size = g5.objs.size + 1 := by rw [s8.1, s7.1, Heap.size_push]
  rw [hsz] at hz8 hT8 e8; refine wpAny_pure ⟨_, rfl, ?_⟩; show Q (.ref g5.objs.size) _; rw [hsz]
  exact hQ g8 hz8 (up _ _ D.TOz hTO5) (a1.at fun o q => up _ o D.i1z q) (a2.at fun o q => up _ o D.i2z q) hT8 (fun c o n1 n2 n3 n4 q => up c o n1 (hk5 c o n1 n2 n3 n4 q)) e8
set_option maxHeartbeats 4000000 in
theorem zA_end {Q : Fin → Shared → Prop} (hh : A.handled = none) (D : ZipApart z TI TO i1 i2 l1 l2) (hz : ZF s.heap z TI TO f0 f) (hf : ∀ {A' : Around} {E' : Value → Shared → Prop} {Q' : Bool → Shared → Prop}, Q' true s → wpAny (model prog w) A' (Builtin.SmallTypes.ownedTupleIsFree (.ref z)) Q' E' s)
    (hTI : IsPair s.heap TI (.ref i1) (.ref i2)) (h1 : s.heap.IsListIter i1 l1 i) (hl1 : s.heap.IsList l1 xs) (hx : xs[i]? = none)
    (hE : ∀ h' q, (∀ c o, c ≠ z → c ≠ i1 → s.heap.get? c = some o → h'.get? c = some o) → (∃ o, h'.get? q = some o ∧ o.cls = .type "StopIteration") → E (.ref q) { s with heap := h' }) :
    wpAny (model prog w) A (Builtin.«zip.__next__» ⟨[.ref z], []⟩) Q E s := by
  show wpAny _ _ (field (.ref z) 2 >>= fun _ => _) _ _ _; refine wpAny_bind (wpAny_field hz rfl (x := .bool false) rfl ?_)
  show wpAny _ _ (field (.ref z) 3 >>= fun _ => _) _ _ _; refine wpAny_bind (wpAny_field hz rfl (x := .ref TI) rfl (wpAny_bind (wpAny_seqItems hTI rfl ?_)))
  show wpAny _ _ (Builtin.SmallTypes.ownedTupleIsFree (.ref z) >>= fun _ => _) _ _ _; refine wpAny_bind (hf ?_)
  simp only [if_true]; refine wpAny_bind (wpAny_rule (wpAny_bind (wpAny_field hz rfl (x := .ref TO) rfl ?_)))
  refine wpAny_bind (wpAny_setField_rec hz (by simp) fun g1 hz1 s1 => ?_); replace hz1 : ZF g1 z TI TO .ellipsis f := hz1
  refine wpAny_bind ?_; simp only [List.zipIdx_cons, List.zipIdx_nil, List.forIn_cons, List.forIn_nil]; refine wpAny_bind (wpAny_bind (wpAny_onRaise ?_))
  show wpAny _ _ (Builtin.SmallTypes.nextOf (.ref i1) >>= fun _ => _) _ _ _; refine wpAny_bind (wpAny_nextOf_list_end hh (h1.extBut s1.extBut D.i1z) (hl1.extBut s1.extBut D.l1z) hx fun g2 q s2 hq => ?_)
  obtain ⟨oe, hoe, hce⟩ := hq
  have hz2 : ZF g2 z TI TO .ellipsis f := s2 _ _ D.i1z.symm hz1
  have ne : q ≠ z := fun r => by
    subst r; rw [hz2] at hoe; cases hoe; simp at hce
  exact wpAny_setField_rec hz2 (by simp) fun g3 _ s3 => hE g3 q (fun c o n1 n2 r => s3.extBut _ _ n1 (s2 _ _ n2 (s1.extBut _ _ n1 r))) ⟨oe, s3.extBut _ _ ne hoe, hce⟩
end
def ZE (z TI TO i1 i2 l1 l2 : Addr) (i : Nat) (h : Heap) : Prop := (∃ f0 f, ZF h z TI TO f0 f ∧ (f0 = .none ∨ ∃ T : Addr, f0 = rawInt T)) ∧ IsPair h TI (.ref i1) (.ref i2) ∧ (∃ a b, IsPair h TO a b) ∧ h.IsListIter i1 l1 i ∧ h.IsListIter i2 l2 i
theorem ZE.keep {z TI TO i1 i2 l1 l2 : Addr} {i : Nat} {h h' : Heap} (st : ZE z TI TO i1 i2 l1 l2 i h) (k : ∀ b ∈ [z, TI, TO, i1, i2], ∀ o, h.get? b = some o → h'.get? b = some o) : ZE z TI TO i1 i2 l1 l2 i h' := by
  obtain ⟨⟨f0, f, hz, hf⟩, a1, ⟨a, b, a2⟩, a3, a4⟩ := st
  exact ⟨⟨f0, f, k z (by simp) _ hz, hf⟩, k TI (by simp) _ a1, ⟨a, b, k TO (by simp) _ a2⟩, a3.at fun o q => k i1 (by simp) o q, a4.at fun o q => k i2 (by simp) o q⟩
section
variable {prog : Program} {w : World} {A : Around} {E : Value → Shared → Prop} {s : Shared} {z TI TO i1 i2 l1 l2 e T : Addr} {xs ys : Array Value} {x y a b f0 : Value} {f : Bool} {i : Nat}
theorem zE_item {Q : Value → Shared → Prop} (D : ZipApart z TI TO i1 i2 l1 l2) (st : ZE z TI TO i1 i2 l1 l2 i s.heap) (hl1 : s.heap.IsList l1 xs) (hl2 : s.heap.IsList l2 ys) (hx : xs[i]? = some x) (hy : ys[i]? = some y)
    (hQ : ∀ h', ZE z TI TO i1 i2 l1 l2 (i + 1) h' → IsPair h' s.heap.objs.size x y → (∀ c o, c ≠ z → c ≠ TO → c ≠ i1 → c ≠ i2 → s.heap.get? c = some o → h'.get? c = some o) → h'.objs.size = s.heap.objs.size + 1 → Q (.ref s.heap.objs.size) { s with heap := h' }) :
    wpAny (model prog w) A (Builtin.SmallTypes.nextOf (.ref z)) Q E s := by
  obtain ⟨⟨f0, f, hz, hf⟩, hTI, ⟨a, b, hTO⟩, h1, h2⟩ := st
  have hTy : s.TypeIs (.ref z) "zip" := ⟨_, hz, rfl⟩
  unfold Builtin.SmallTypes.nextOf; refine wpAny_bind (wpAny_callSpecial?_slot (name := Str.ofString "__next__") hTy F.slot_zip_next (wpAny_call_entry F.slot_zip_next hTy F.entry_zip_next ?_ (F.args_zip_next_1 _)))
  rcases hf with rfl | ⟨T, rfl⟩
  · exact zA_item D hz (fun q => zf_none hz q) hTI hTO h1 h2 hl1 hl2 hx hy fun h' b1 b2 b3 b4 b5 b6 b7 => wpAny_pure (hQ h' ⟨⟨_, _, b1, .inr ⟨_, rfl⟩⟩, b6 _ _ D.TIz D.TITO D.TIi1 D.TIi2 hTI, ⟨_, _, b2⟩, b3, b4⟩ b5 b6 b7)
  · cases hT : s.heap.get? T with
    | none => exact zA_item D hz (fun q => zf_dead hz hT q) hTI hTO h1 h2 hl1 hl2 hx hy fun h' b1 b2 b3 b4 b5 b6 b7 => wpAny_pure (hQ h' ⟨⟨_, _, b1, .inr ⟨_, rfl⟩⟩, b6 _ _ D.TIz D.TITO D.TIi1 D.TIi2 hTI, ⟨_, _, b2⟩, b3, b4⟩ b5 b6 b7)
    | some oT => exact zip_next_item_held D hz hT hTI h1 h2 hl1 hl2 hx hy fun h' b1 b3 b4 b5 b7 b6 => wpAny_pure (hQ h' ⟨⟨_, _, b1, .inr ⟨_, rfl⟩⟩, b6 _ _ D.TIz D.TIi1 D.TIi2 hTI, ⟨_, _, b6 _ _ D.TOz D.TOi1 D.TOi2 hTO⟩, b3, b4⟩ b5 (fun c o n1 _ n3 n4 q => b6 c o n1 n3 n4 q) b7)
theorem zE_end {Q : Value → Shared → Prop} (hh : A.handled = none) (D : ZipApart z TI TO i1 i2 l1 l2) (st : ZE z TI TO i1 i2 l1 l2 i s.heap) (hl1 : s.heap.IsList l1 xs) (hl2 : s.heap.IsList l2 ys) (hx : xs[i]? = none)
    (hE : ∀ h' q, (∀ c o, c ≠ z → c ≠ i1 → c ≠ i2 → s.heap.get? c = some o → h'.get? c = some o) → (∃ o, h'.get? q = some o ∧ o.cls = .type "StopIteration") → E (.ref q) { s with heap := h' }) :
    wpAny (model prog w) A (Builtin.SmallTypes.nextOf (.ref z)) Q E s := by
  obtain ⟨⟨f0, f, hz, hf⟩, hTI, ⟨a, b, hTO⟩, h1, h2⟩ := st
  have hTy : s.TypeIs (.ref z) "zip" := ⟨_, hz, rfl⟩
  unfold Builtin.SmallTypes.nextOf; refine wpAny_bind (wpAny_callSpecial?_slot (name := Str.ofString "__next__") hTy F.slot_zip_next (wpAny_call_entry F.slot_zip_next hTy F.entry_zip_next ?_ (F.args_zip_next_1 _)))
  rcases hf with rfl | ⟨T, rfl⟩
  · exact zA_end hh D hz (fun q => zf_none hz q) hTI h1 hl1 hx fun h' q k r => hE h' q (fun c o n1 n2 _ u => k c o n1 n2 u) r
  · cases hT : s.heap.get? T with
    | none => exact zA_end hh D hz (fun q => zf_dead hz hT q) hTI h1 hl1 hx fun h' q k r => hE h' q (fun c o n1 n2 _ u => k c o n1 n2 u) r
    | some oT => exact zip_next_end_held hh D hz hT hTI h1 h2 hl1 hl2 (.inl hx) fun h' q k r => hE h' q k r
structure EApart (e z TI TO i1 i2 l1 l2 : Addr) : Prop where
  D : ZipApart z TI TO i1 i2 l1 l2
  ez : e ≠ z
  eTI : e ≠ TI
  eTO : e ≠ TO
  ei1 : e ≠ i1
  ei2 : e ≠ i2
  el1 : l1 ≠ e
  el2 : l2 ≠ e
set_option maxHeartbeats 4000000 in
theorem eZ_item {c : Int} {old : Value} {Q : Value → Shared → Prop} (G : EApart e z TI TO i1 i2 l1 l2) (he : IsEnum s.heap e z c old) (st : ZE z TI TO i1 i2 l1 l2 i s.heap) (hl1 : s.heap.IsList l1 xs) (hl2 : s.heap.IsList l2 ys) (hx : xs[i]? = some x) (hy : ys[i]? = some y)
    (hQ : ∀ g1 h' tk it, (∀ c o, c ≠ z → c ≠ TO → c ≠ i1 → c ≠ i2 → s.heap.get? c = some o → g1.get? c = some o) → IsPair g1 s.heap.objs.size x y → g1.objs.size = s.heap.objs.size + 1 →
      (∀ b o, b ≠ e → g1.get? b = some o → h'.get? b = some o) → IsEnumOut h' e z (c + 1) it g1.objs.size → ZE z TI TO i1 i2 l1 l2 (i + 1) h' → h'.get? g1.objs.size = some { cls := .type "tuple", data := .seq #[.int c tk, .ref s.heap.objs.size] } → Q (.ref g1.objs.size) { s with heap := h', toks := tk + 1 }) :
    wpAny (model prog w) A (Builtin.«enumerate.__next__» ⟨[.ref e], []⟩) (fun fin s' => ∃ v, fin = .done (.ret v) ∧ Q v s') E s := by
  obtain ⟨hp, g, d, tk, os⟩ := s
  show wpAny _ _ (field (.ref e) 2 >>= fun _ => _) _ _ _; refine wpAny_bind (wpAny_field he rfl (x := .ref z) rfl (wpAny_bind (zE_item G.D st hl1 hl2 hx hy fun g1 st1 hp1 k1 sz1 => ?_)))
  replace hp1 : IsPair g1 hp.objs.size x y := hp1
  replace sz1 : g1.objs.size = hp.objs.size + 1 := sz1
  have he1 : IsEnum g1 e z c old := k1 e _ G.ez G.eTO G.ei1 G.ei2 he
  show wpAny _ _ (field (.ref e) 3 >>= fun _ => _) _ _ ⟨g1, g, d, tk, os⟩; refine wpAny_bind (wpAny_field he1 rfl (x := rawInt c) rfl ?_)
  show wpAny _ _ (field (.ref e) 4 >>= fun _ => _) _ _ ⟨g1, g, d, tk, os⟩; refine wpAny_bind (wpAny_field he1 rfl (x := .none) rfl ?_)
  show wpAny _ _ (mkInt c >>= fun _ => _) _ _ ⟨g1, g, d, tk, os⟩; refine wpAny_bind (wpAny_mkInt ?_)
  show wpAny _ _ (setField (.ref e) 3 (rawInt (c + 1)) >>= fun _ => _) _ _ ⟨g1, g, d, tk + 1, os⟩; refine wpAny_bind (wpAny_setField_rec he1 (by simp) fun g2 he2 s2 => ?_); replace s2 : Heap.SameBut e g1 g2 := s2
  replace he2 : IsEnum g2 e z (c + 1) old := he2
  show wpAny _ _ (setField (.ref e) 4 .none >>= fun _ => _) _ _ ⟨g2, g, d, tk + 1, os⟩; refine wpAny_bind (wpAny_setField_rec he2 (by simp) fun g3 he3 s3 => ?_); replace s3 : Heap.SameBut e g2 g3 := s3
  replace he3 : IsEnum g3 e z (c + 1) old := he3
  show wpAny _ _ (newTuple [.int c tk, .ref hp.objs.size] >>= fun _ => _) _ _ ⟨g3, g, d, tk + 1, os⟩; refine wpAny_bind (wpAny_newTuple ?_)
  have he4 : IsEnum (g3.push { cls := .type "tuple", data := .seq #[.int c tk, .ref hp.objs.size] }) e z (c + 1) old := Heap.get?_push_of_some _ he3
  have z3 : g3.objs.size = g1.objs.size := by rw [s3.1, s2.1]
  have el : e < g1.objs.size := Heap.lt_size he1
  have t4 : (g3.push { cls := .type "tuple", data := .seq #[.int c tk, .ref hp.objs.size] }).get? g1.objs.size = some { cls := .type "tuple", data := .seq #[.int c tk, .ref hp.objs.size] } := by rw [← z3]; exact Heap.get?_push_size _ rfl
  have k4 : ∀ b o, b ≠ e → g1.get? b = some o → (g3.push { cls := .type "tuple", data := .seq #[.int c tk, .ref hp.objs.size] }).get? b = some o := fun b o nb q => Heap.get?_push_of_some _ (s3.extBut b o nb (s2.extBut b o nb q))
  rw [z3]
  generalize g3.push { cls := .type "tuple", data := .seq #[.int c tk, .ref hp.objs.size] } = g4 at he4 t4 k4 ⊢
  show wpAny _ _ (Builtin.SmallTypes.ownedTupleIsFree (.ref e) >>= fun _ => _) _ _ ⟨g4, g, d, tk + 1, os⟩; refine wpAny_bind ?_
  unfold Builtin.SmallTypes.ownedTupleIsFree; refine wpAny_bind (wpAny_field he4 rfl (x := .none) rfl (wpAny_pure ?_)); simp only [if_true]
  refine wpAny_bind (wpAny_rule (wpAny_bind (wpAny_field he4 rfl (x := old) rfl (wpAny_bind (wpAny_setField_rec he4 (by simp) fun g5 he5 s5 => ?_))))); replace s5 : Heap.SameBut e g4 g5 := s5
  replace he5 : IsEnum g5 e z (c + 1) (.ref hp.objs.size) := he5
  show wpAny _ _ (Builtin.SmallTypes.ownedTupleHandOut (.ref e) (.ref g1.objs.size) >>= fun _ => _) _ _ ⟨g5, g, d, tk + 1, os⟩; refine wpAny_bind ?_
  unfold Builtin.SmallTypes.ownedTupleHandOut; refine wpAny_bind (wpAny_setField_rec he5 (by simp) fun g6 he6 s6 => ?_); replace s6 : Heap.SameBut e g5 g6 := s6
  replace he6 : IsEnumOut g6 e z (c + 1) (.ref hp.objs.size) g1.objs.size := he6
  refine wpAny_setField_rec he6 (by simp) fun g7 he7 s7 => ?_; replace s7 : Heap.SameBut e g6 g7 := s7
  replace he7 : IsEnumOut g7 e z (c + 1) (.ref hp.objs.size) g1.objs.size := he7
  have up : ∀ b o, b ≠ e → g4.get? b = some o → g7.get? b = some o := fun b o nb q => s7.extBut b o nb (s6.extBut b o nb (s5.extBut b o nb q))
  refine wpAny_bind (wpAny_letGo (wpAny_pure ⟨_, rfl, hQ g1 g7 tk _ k1 hp1 sz1 (fun b o nb q => up b o nb (k4 b o nb q)) he7 (st1.keep fun b hb o q => up b o ?_ (k4 b o ?_ q)) (up _ _ (Nat.ne_of_gt el) t4)⟩))
  all_goals
    simp only [List.mem_cons, List.not_mem_nil, or_false] at hb
    rcases hb with r | r | r | r | r <;> rw [r]
    · exact G.ez.symm
    · exact G.eTI.symm
    · exact G.eTO.symm
    · exact G.ei1.symm
    · exact G.ei2.symm
end
section
variable {prog : Program} {w : World} {A : Around} {E : Value → Shared → Prop} {s : Shared} {z TI TO i1 i2 l1 l2 e T : Addr} {xs ys : Array Value} {x y a b f0 : Value} {f : Bool} {i : Nat}
theorem eZ_next {c : Int} {old : Value} {Q : Option Value → Shared → Prop} (G : EApart e z TI TO i1 i2 l1 l2) (he : IsEnum s.heap e z c old) (st : ZE z TI TO i1 i2 l1 l2 i s.heap) (hl1 : s.heap.IsList l1 xs) (hl2 : s.heap.IsList l2 ys) (hx : xs[i]? = some x) (hy : ys[i]? = some y)
    (hQ : ∀ g1 h' tk it, (∀ c o, c ≠ z → c ≠ TO → c ≠ i1 → c ≠ i2 → s.heap.get? c = some o → g1.get? c = some o) → IsPair g1 s.heap.objs.size x y → g1.objs.size = s.heap.objs.size + 1 →
      (∀ b o, b ≠ e → g1.get? b = some o → h'.get? b = some o) → IsEnumOut h' e z (c + 1) it g1.objs.size → ZE z TI TO i1 i2 l1 l2 (i + 1) h' → h'.get? g1.objs.size = some { cls := .type "tuple", data := .seq #[.int c tk, .ref s.heap.objs.size] } → Q (some (.ref g1.objs.size)) { s with heap := h', toks := tk + 1 }) :
    wpAny (model prog w) A (pyNext (.ref e)) Q E s := by
  have hTy : s.TypeIs (.ref e) "enumerate" := ⟨_, he, rfl⟩
  unfold pyNext; exact wpAny_bind (wpAny_attempt (wpAny_callSpecial?_slot (name := Str.ofString "__next__") hTy F.slot_enumerate_next (wpAny_call_entry F.slot_enumerate_next hTy F.entry_enumerate_next
      (eZ_item G he st hl1 hl2 hx hy fun g1 h' tk it b1 b2 b3 b4 b5 b6 b7 => wpAny_pure (hQ g1 h' tk it b1 b2 b3 b4 b5 b6 b7)) (F.args_enumerate_next_1 _))))
theorem eZ_end {c : Int} {old : Value} {Q : Option Value → Shared → Prop} (hh : A.handled = none) (G : EApart e z TI TO i1 i2 l1 l2) (he : IsEnum s.heap e z c old) (st : ZE z TI TO i1 i2 l1 l2 i s.heap) (hl1 : s.heap.IsList l1 xs) (hl2 : s.heap.IsList l2 ys) (hx : xs[i]? = none)
    (hQ : ∀ h', (∀ c o, c ≠ z → c ≠ i1 → c ≠ i2 → s.heap.get? c = some o → h'.get? c = some o) → Q none { s with heap := h' }) : wpAny (model prog w) A (pyNext (.ref e)) Q E s := by
  have hTy : s.TypeIs (.ref e) "enumerate" := ⟨_, he, rfl⟩
  unfold pyNext; refine wpAny_bind (wpAny_attempt (wpAny_callSpecial?_slot (name := Str.ofString "__next__") hTy F.slot_enumerate_next (wpAny_call_entry F.slot_enumerate_next hTy F.entry_enumerate_next ?_ (F.args_enumerate_next_1 _))))
  show wpAny _ _ (field (.ref e) 2 >>= fun _ => _) _ _ _; refine wpAny_bind (wpAny_field he rfl (x := .ref z) rfl (wpAny_bind (zE_end hh G.D st hl1 hl2 hx fun h' q k r => ?_)))
  obtain ⟨o, ho, hc⟩ := r
  refine wpAny_bind (wpAny_isInstance (T := "StopIteration") (b := true) ⟨o, ho, hc⟩ isSubtype_stop (wpAny_pure (hQ _ k)))
set_option maxHeartbeats 1000000 in
theorem meets_enumerate_newZ :
    Meets (Builtin.«enumerate.__new__» ⟨[.type "enumerate", .ref z], []⟩) (fun _ R s => IsZip s.heap z TI TO f0 ∧
      R (.ok (.ret (.ref s.heap.objs.size))) { s with heap := s.heap.push { cls := .type "enumerate", data := .fields #[.none, .bool false, .ref z, rawInt 0, .none, .none] } }) :=
  .of_wp fun prog w A R s h => by
    obtain ⟨hp, g, d, tk, os⟩ := s; obtain ⟨h1, h⟩ := h
    have hsub := sub_enumerate
    have q1 : ∀ {A' : Around} {E : Value → Shared → Prop} {Q : Value → Shared → Prop}, Q (.ref z) ⟨hp, g, d, tk, os⟩ → wpAny (model prog w) A' (pyIter (.ref z)) Q E ⟨hp, g, d, tk, os⟩ := fun q => wpAny_pyIter_zip h1 q
    wp_walk using q1; refine wpAny_stack_any fun st => wpAny_pure ?_; split
    · rename_i c _ _ _ _ _
      cases (c == Value.type "enumerate") <;> (wp_walk using q1; exact ⟨_, rfl, h⟩)
    · wp_walk using q1; exact ⟨_, rfl, h⟩
theorem call_enumerate_z {Q : Value → Shared → Prop} (h1 : IsZip s.heap z TI TO f0)
    (h : ∀ h', IsEnum h' s.heap.objs.size z 0 .none → h'.objs.size = s.heap.objs.size + 1 → (∀ b o, s.heap.get? b = some o → h'.get? b = some o) → Q (.ref s.heap.objs.size) { s with heap := h' }) :
    wpAny (model prog w) A (call (.type "enumerate") [.ref z]) Q E s := by
  refine callType_new F.called_enumerate (by decide) (F.typeCall_enumerate_1 _) (F.newCall_enumerate_1 _) (fun obj => F.args_object_init_2 obj _) F.entry_enumerate_new (meets_enumerate_newZ (TI := TI) (TO := TO) (f0 := f0)) ⟨h1, ?_⟩
  show _ ∧ _
  have he : IsEnum (s.heap.push { cls := .type "enumerate", data := .fields #[.none, .bool false, .ref z, rawInt 0, .none, .none] }) s.heap.objs.size z 0 .none := Heap.get?_push_size _ rfl
  refine ⟨⟨_, he, rfl⟩, h _ he (by rw [Heap.size_push]) fun b o q => Heap.get?_push_of_some _ q⟩
end
def Itez (K : PySem.W.Frag) (a b : Addr) : It :=
  ⟨fun i H => ∃ (xs ys : List V), SqL K H a xs ∧ SqL K H b ys ∧ i < xs.length ∧ i < ys.length,
   fun i H v H' => ∃ T T2 x y, v = .ref T ∧ H T2 = none ∧ H T = none ∧ T ≠ T2 ∧ H' = upd (upd H T2 (.tup [x, y])) T (.tup [.int (i : Nat), .ref T2]) ∧ (∀ xs, SqL K H a xs → xs[i]? = some x) ∧ ∀ ys, SqL K H b ys → ys[i]? = some y,
   fun i H => ∃ (xs ys : List V), SqL K H a xs ∧ SqL K H b ys ∧ i = xs.length⟩
def StEz (a b e z TI TO i1 i2 : Addr) (i : Nat) (h : Heap) : Prop := (∃ old, IsEnum h e z ((i : Nat) : Int) old) ∧ ZE z TI TO i1 i2 a b i h
theorem turn_ez_obj {a b e z TI TO i1 i2 : Addr} {i : Nat} {h : Heap} (st : StEz a b e z TI TO i1 i2 i h) : ∀ c ∈ [e, z, TI, TO, i1, i2], ∃ o, h.get? c = some o := fun c hm => by
  obtain ⟨⟨old, a0⟩, ⟨f0, f, a1, _⟩, a2, ⟨u, v, a3⟩, s1, s2⟩ := st
  simp only [List.mem_cons, List.not_mem_nil, or_false] at hm
  rcases hm with r | r | r | r | r | r <;> subst r
  · exact ⟨_, a0⟩
  · exact ⟨_, a1⟩
  · exact ⟨_, a2⟩
  · exact ⟨_, a3⟩
  · obtain ⟨o2, e2, _⟩ := SqIt.ex (t := false) s1
    exact ⟨o2, e2⟩
  · obtain ⟨o2, e2, _⟩ := SqIt.ex (t := false) s2
    exact ⟨o2, e2⟩
theorem turn_ez {P : Program} {w : World} {K : PySem.W.Frag} {elts : List Expr} {kk : Nat} {tpos : Pos} {a b e z TI TO i1 i2 : Addr} (G : EApart e z TI TO i1 i2 a b) :
    Turn P w K (.Tuple elts kk tpos) (Itez K a b) [e, z, TI, TO, i1, i2] e (StEz a b e z TI TO i1 i2) where
  mem := List.mem_cons_self
  obj := by
    rintro i h ⟨⟨old, a0⟩, ⟨f0, f, a1, _⟩, a2, ⟨u, v, a3⟩, s1, s2⟩ c hm
    simp only [List.mem_cons, List.not_mem_nil, or_false] at hm
    rcases hm with r | r | r | r | r | r <;> subst r
    · exact ⟨_, a0, (fun _ q => nomatch q)⟩
    · exact ⟨_, a1, (fun _ q => nomatch q)⟩
    · exact ⟨_, a2, (fun _ q => nomatch q)⟩
    · exact ⟨_, a3, (fun _ q => nomatch q)⟩
    · obtain ⟨o2, e2, n2⟩ := SqIt.ex (t := false) s1
      exact ⟨o2, e2, n2⟩
    · obtain ⟨o2, e2, n2⟩ := SqIt.ex (t := false) s2
      exact ⟨o2, e2, n2⟩
  keep := by
    rintro i h h' ⟨⟨old, a0⟩, st⟩ k
    exact ⟨⟨old, k e (by simp) _ a0⟩, st.keep fun c hc o q => k c (List.mem_cons_of_mem _ hc) o q⟩
  item := by
    intro X hP hw hK hc i pins s σ H E I hf st hg
    subst hP hw hK
    obtain ⟨xs, ys, hx, hy, m1, m2⟩ := hg
    obtain ⟨its1, rv1, p1⟩ := sq_val (t := false) I hx
    obtain ⟨its2, rv2, p2⟩ := sq_val (t := false) I hy
    obtain ⟨u, hu, ru⟩ := rv1.get (List.getElem?_eq_getElem m1)
    obtain ⟨v, hv, rv⟩ := rv2.get (List.getElem?_eq_getElem m2)
    obtain ⟨⟨old, a0⟩, st'⟩ := id st
    refine eZ_next G a0 st' p1 p2 (by rw [List.getElem?_toArray]; exact hu) (by rw [List.getElem?_toArray]; exact hv) fun g1 h' tk it k1 q1 sz1 k2 out st2 tup => ?_
    refine ⟨_, rfl, wpAny_letOwnedTupleGo_enum out fun h2 he2 s2 => ?_⟩
    have n0 : H s.heap.objs.size = none := I.hok.fresh (Nat.le_refl _)
    have k1' : ∀ c o, c ∉ [e, z, TI, TO, i1, i2] → s.heap.get? c = some o → g1.get? c = some o := fun c o hc q => k1 c o (fun r => hc (by simp [r])) (fun r => hc (by simp [r])) (fun r => hc (by simp [r])) (fun r => hc (by simp [r])) q
    have new1 : ObjOk X.prog X.w (upd H s.heap.objs.size (.tup [xs[i], ys[i]])) g1 s.heap.objs.size (.tup [xs[i], ys[i]]) := ⟨by show 2 ≤ sizeLine; decide, [u, v], .cons ru (.cons rv .nil), ⟨_, q1, rfl, _, rfl⟩⟩
    have I1 : Inv X pins σ (upd H s.heap.objs.size (.tup [xs[i], ys[i]])) { s with heap := g1, toks := tk } := I.turnedNew (t' := tk) k1' hf (Nat.le_refl _) new1
    have lts : ∀ c ∈ [e, z, TI, TO, i1, i2], c < s.heap.objs.size := fun c hm => by
      have ob := (turn_ez_obj st c hm)
      obtain ⟨o, eo⟩ := ob
      exact Heap.lt_size eo
    have hf1 : ∀ c ∈ [e, z, TI, TO, i1, i2], FpOk X pins (upd H s.heap.objs.size (.tup [xs[i], ys[i]])) c := fun c hm => ⟨by rw [upd_ne (Nat.ne_of_lt (lts c hm))]; exact (hf c hm).1, (hf c hm).2⟩
    have ne : g1.objs.size ≠ s.heap.objs.size := by rw [sz1]; exact Nat.succ_ne_self _
    have n1 : (upd H s.heap.objs.size (.tup [xs[i], ys[i]])) g1.objs.size = none := I1.hok.fresh (Nat.le_refl _)
    have gne : g1.objs.size ≠ e := fun r => by
      have := lts e (by simp)
      rw [← r, sz1] at this
      exact absurd this (Nat.not_lt.mpr (Nat.le_add_right _ _))
    have tup2 : h2.get? g1.objs.size = some { cls := .type "tuple", data := .seq #[.int ((i : Nat) : Int) tk, .ref s.heap.objs.size] } := s2.extBut _ _ gne tup
    have new2 : ObjOk X.prog X.w (upd (upd H s.heap.objs.size (.tup [xs[i], ys[i]])) g1.objs.size (.tup [.int (i : Nat), .ref s.heap.objs.size])) h2 g1.objs.size (.tup [.int (i : Nat), .ref s.heap.objs.size]) :=
      ⟨by show 2 ≤ sizeLine; decide, [.int ((i : Nat) : Int) tk, .ref s.heap.objs.size], .cons ⟨tk, rfl⟩ (.cons rfl .nil), ⟨_, tup2, rfl, _, rfl⟩⟩
    have I2 := I1.turnedNew (t' := tk + 1) (h' := h2) (ch := [e, z, TI, TO, i1, i2]) (fun c o hc q => s2.extBut c o (fun r => hc (by simp [r])) (k2 c o (fun r => hc (by simp [r])) q)) hf1 (Nat.le_refl _) new2
    refine ⟨.ref g1.objs.size, _, I2, rfl, ⟨_, _, _, _, rfl, n0, ?_, ne, rfl, fun zs hz => ?_, fun zs hz => ?_⟩, ⟨⟨_, he2⟩, ?_⟩, fun c hm => ?_⟩
    · rw [upd_ne ne] at n1
      exact n1
    · rw [sq_inj (t := false) I hz hx]
      exact List.getElem?_eq_getElem m1
    · rw [sq_inj (t := false) I hz hy]
      exact List.getElem?_eq_getElem m2
    · refine st2.keep fun c hc o q => s2.extBut c o (fun r => ?_) q
      rw [r] at hc
      simp only [List.mem_cons, List.not_mem_nil, or_false] at hc
      rcases hc with r | r | r | r | r
      · exact G.ez r
      · exact G.eTI r
      · exact G.eTO r
      · exact G.ei1 r
      · exact G.ei2 r
    · have l := lts c hm
      rw [upd_ne (Nat.ne_of_lt (Nat.lt_of_lt_of_le l (by rw [sz1]; exact Nat.le_succ _)))]
      exact (hf1 c hm).1
  done := by
    intro X hP hw hK hc i pins s σ H E I hf st hg
    subst hP hw hK
    obtain ⟨xs, ys, hx, hy, hi⟩ := hg
    obtain ⟨its1, rv1, p1⟩ := sq_val (t := false) I hx
    obtain ⟨its2, rv2, p2⟩ := sq_val (t := false) I hy
    obtain ⟨⟨old, a0⟩, st'⟩ := id st
    have e1 := rv1.length
    refine eZ_end (I.ok.hd hc) G a0 st' p1 p2 (by rw [List.getElem?_toArray]; exact List.getElem?_eq_none (by omega)) fun h' k => ⟨rfl, I.turnedL (t' := s.toks) (ch := [e, z, TI, TO, i1, i2]) (fun c o nb q => k c o (fun r => nb (by simp [r])) (fun r => nb (by simp [r])) (fun r => nb (by simp [r])) q) hf⟩
  self := fun A i s Q E st h => by
    obtain ⟨⟨old, a1⟩, _⟩ := st
    exact wpAny_pyIter_enum a1 h
theorem ez_ap {n a b : Nat} (la : a < n) (lb : b < n) : EApart (n + 5) (n + 4) (n + 2) (n + 3) n (n + 1) a b := by
  have ne : ∀ {x y : Nat}, x < y ∨ y < x → (x : Addr) ≠ y := fun h => h.elim Nat.ne_of_lt Nat.ne_of_gt
  constructor
  · constructor <;> exact ne (by omega)
  all_goals exact ne (by omega)
def iEz (K : PySem.W.Frag) (ta : TA) : TI := fun σ H R => ta σ H fun vs H1 => ∃ (a b : Addr) (xs ys : List V), vs = [.ref a, .ref b] ∧ SqL K H1 a xs ∧ SqL K H1 b ys ∧ R (Itez K a b) H1
theorem pi_ez {X : Cx} {e e2 : Expr} {ta : TA} {p p2 pos pos2 tpos : Pos} {elts : List Expr} {kk : Nat} (hg : Gl X "enumerate") (hm : X.mg "enumerate" = none) (hgz : Gl X "zip") (hmz : X.mg "zip" = none) (ha : PA X [e, e2] ta)
    (hs : starEach [e, e2] X.env = (false, eval e X.env) :: starEach [e2] X.env := by rfl) (hp : (backTo pos2 (starEach [e2] X.env)).any (·.1) = false := by rfl)
    (hs1 : starEach [Expr.Call (.Name "zip" p2) [e, e2] [] pos2] X.env = [(false, eval (.Call (.Name "zip" p2) [e, e2] [] pos2) X.env)] := by rfl) :
    PI X (.Tuple elts kk tpos) (.Call (.Name "enumerate" p) [.Call (.Name "zip" p2) [e, e2] [] pos2] [] pos) (iEz X.K ta) := by
  constructor
  intro pins s σ H R I h
  refine Call_ (ld_blt I hg hm boot_enumerate (PyProof.Rows.callWith_type1 ?_ hs1 rfl))
  rw [hs1]
  refine Calls.spliced_cons (Call_ (ld_blt I hgz hmz PyProof.Rows.boot_zip (PyProof.Rows.callWith_type1 (thn (ha.run pos2 pins s σ H _ I h) fun us s1 hh => ?_) hs hp)))
  obtain ⟨vs, H1, I1, r1, a, b, xs, ys, rfl, hx, hy, q⟩ := hh
  match us, r1 with
  | [v1, v2], .cons hv1 (.cons hv2 .nil) =>
    cases hv1
    cases hv2
    obtain ⟨its1, rv1, p1⟩ := sq_val (t := false) I1 hx
    obtain ⟨its2, rv2, p2⟩ := sq_val (t := false) I1 hy
    have la : a < s1.heap.objs.size := let ⟨_, eo, _⟩ := p1; Heap.lt_size eo
    have lb : b < s1.heap.objs.size := let ⟨_, eo, _⟩ := p2; Heap.lt_size eo
    refine zip_begins2 (begins_sq false a its1.toArray) (begins_sq false b its2.toArray) p1 p2 fun h' a1 a2 a3 g1 g2 sz k => Calls.spliced_nil ?_
    refine call_enumerate_z (s := { s1 with heap := h' }) a1 fun h2 b1 sz2 k2 => wpAny_pyIter_enum b1 ?_
    have hsz : h'.objs.size = s1.heap.objs.size + 5 := sz
    have I2 : Inv X pins σ H1 { s1 with heap := h2 } := I1.kept (t' := s1.toks) fun c o r => k2 c o (k c o r)
    have ap : EApart h'.objs.size (s1.heap.objs.size + 4) (s1.heap.objs.size + 2) (s1.heap.objs.size + 3) s1.heap.objs.size (s1.heap.objs.size + 1) a b := by
      rw [hsz]
      exact ez_ap la lb
    have fr : ∀ c ∈ [h'.objs.size, s1.heap.objs.size + 4, s1.heap.objs.size + 2, s1.heap.objs.size + 3, s1.heap.objs.size, s1.heap.objs.size + 1], FpOk X pins H1 c := fun b hb => by
      have le : s1.heap.objs.size ≤ b := by
        rw [hsz] at hb
        simp only [List.mem_cons, List.not_mem_nil, or_false] at hb
        rcases hb with z | z | z | z | z | z <;> rw [z]
        · exact Nat.le_add_right _ _
        · exact Nat.le_add_right _ _
        · exact Nat.le_add_right _ _
        · exact Nat.le_add_right _ _
        · exact Nat.le_refl _
        · exact Nat.le_add_right _ _
      exact I1.fpOk le (I1.hok.fresh le)
    refine ⟨h'.objs.size, _, _, _, H1, rfl, I2, turn_ez ap, ⟨⟨_, b1⟩, ⟨_, _, k2 _ _ a1, .inl rfl⟩, k2 _ _ a2, ⟨_, _, k2 _ _ a3⟩, ?_, ?_⟩, fr, q⟩
    · exact ⟨_, k2 _ _ g1, rfl, rfl⟩
    · exact ⟨_, k2 _ _ g2, rfl, rfl⟩
theorem walk_ez {K : PySem.W.Frag} {a b : Addr} {xs ys : List V} {n : Nat} (hx : xs.length = n) (hy : ys.length = n) : Walk (Itez K a b) n (fun H => SqL K H a xs ∧ SqL K H b ys) (fun i H v H' => ∃ T T2 x y, v = .ref T ∧ H T2 = none ∧ H T = none ∧ T ≠ T2 ∧ H' = upd (upd H T2 (.tup [x, y])) T (.tup [.int (i : Nat), .ref T2]) ∧ xs[i]? = some x ∧ ys[i]? = some y) := by
  refine ⟨fun i _ hi q => ⟨xs, ys, q.1, q.2, by omega, by omega⟩, fun _ q => ⟨xs, ys, q.1, q.2, by omega⟩, fun i H v H' hi q z => ?_⟩
  obtain ⟨T, T2, x, y, h1, h2, h3, h4, h5, h6, h7⟩ := z
  exact ⟨T, T2, x, y, h1, h2, h3, h4, h5, h6 xs q.1, h7 ys q.2⟩
/-! ### one case of a run, in truths -/
def bi (b : Bool) : Int := if b = true then 1 else 0
theorem bi_01 (b : Bool) : bi b = 0 ∨ bi b = 1 := by cases b <;> simp [bi]
def gbw (x y : Bool) (k : Str) : Bool := if k = "other" then !x else if k = "both" then x && y else if k = "either" then x || y else xor x y
def gb (ws : List Bool) : Gt → Bool
  | .fi b => decide (b = 1)
  | .w k l => gbw (ws.getD (l.getD 0 0) false) (ws.getD (l.getD 1 0) false) k
def rb (vals : List Bool) (gs : List Gt) : List Bool := gs.foldl (fun ws g => ws ++ [gb ws g]) vals
theorem rb_app (vals : List Bool) (gs es : List Gt) : rb vals (gs ++ es) = rb (rb vals gs) es := by
  unfold rb
  rw [List.foldl_append]
theorem rb_pre : ∀ (gs : List Gt) (vals : List Bool), ∃ r, rb vals gs = vals ++ r ∧ r.length = gs.length
  | [], vals => ⟨[], (List.append_nil _).symm, rfl⟩
  | g :: gs, vals => by
    obtain ⟨r, e, l⟩ := rb_pre gs (vals ++ [gb vals g])
    refine ⟨gb vals g :: r, ?_, by rw [List.length_cons, List.length_cons, l]⟩
    unfold rb at e ⊢
    rw [List.foldl_cons, e, List.append_assoc]
    rfl
theorem rb_len (gs : List Gt) (vals : List Bool) : (rb vals gs).length = vals.length + gs.length := by
  obtain ⟨r, e, l⟩ := rb_pre gs vals
  rw [e, List.length_append, l]
def wb (vals : List Bool) (gs : List Gt) (a : Nat) : Bool := (rb vals gs).getD a false
theorem getD_app {α : Type} {xs ys : List α} {a : Nat} {d : α} (h : a < xs.length) : (xs ++ ys).getD a d = xs.getD a d := by
  simp only [List.getD, List.getElem?_append_left h]
theorem wb_app {vals : List Bool} {gs es : List Gt} {a : Nat} (h : a < vals.length + gs.length) : wb vals (gs ++ es) a = wb vals gs a := by
  unfold wb
  rw [rb_app]
  obtain ⟨r, e, _⟩ := rb_pre es (rb vals gs)
  rw [e]
  exact getD_app (by rw [rb_len]; exact h)
theorem wb_new {vals : List Bool} {gs : List Gt} {g : Gt} {n : Nat} (h : n = vals.length + gs.length) : wb vals (gs ++ [g]) n = gb (rb vals gs) g := by
  unfold wb
  rw [rb_app]
  show (rb vals gs ++ [gb (rb vals gs) g]).getD n false = _
  have : n = (rb vals gs).length := by rw [rb_len]; exact h
  subst this
  simp [List.getD]
theorem wb_both {vals : List Bool} {gs : List Gt} {a b n : Nat} (h : n = vals.length + gs.length) : wb vals (gs ++ [.w "both" [a, b]]) n = (wb vals gs a && wb vals gs b) := by
  rw [wb_new h]
  show gbw _ _ "both" = _
  unfold gbw
  rw [if_neg (by decide), if_pos rfl]
  rfl
theorem wb_either {vals : List Bool} {gs : List Gt} {a b n : Nat} (h : n = vals.length + gs.length) : wb vals (gs ++ [.w "either" [a, b]]) n = (wb vals gs a || wb vals gs b) := by
  rw [wb_new h]
  show gbw _ _ "either" = _
  unfold gbw
  rw [if_neg (by decide), if_neg (by decide), if_pos rfl]
  rfl
theorem wb_unlike {vals : List Bool} {gs : List Gt} {a b n : Nat} (h : n = vals.length + gs.length) : wb vals (gs ++ [.w "unlike" [a, b]]) n = (xor (wb vals gs a) (wb vals gs b)) := by
  rw [wb_new h]
  show gbw _ _ "unlike" = _
  unfold gbw
  rw [if_neg (by decide), if_neg (by decide), if_neg (by decide)]
  rfl
theorem wb_other {vals : List Bool} {gs : List Gt} {a n : Nat} (h : n = vals.length + gs.length) : wb vals (gs ++ [.w "other" [a]]) n = !(wb vals gs a) := by
  rw [wb_new h]
  show gbw _ _ "other" = _
  unfold gbw
  rw [if_pos rfl]
  rfl
theorem wb_fixed {vals : List Bool} {gs : List Gt} {b n : Nat} (h : n = vals.length + gs.length) : wb vals (gs ++ [.fi b]) n = decide (b = 1) := wb_new h
/-! ### nets that grow -/
def GsOk (m : Nat) (gs : List Gt) : Prop := ∀ (i : Nat) (g : Gt), gs[i]? = some g → g.ok (m + i)
def Ext (m : Nat) (gs gs' : List Gt) (n : Nat) : Prop := (∃ e, gs' = gs ++ e ∧ e.length ≤ n) ∧ (GsOk m gs → GsOk m gs')
theorem Ext.refl {m : Nat} {gs : List Gt} : Ext m gs gs 0 := ⟨⟨[], (List.append_nil _).symm, Nat.le_refl _⟩, id⟩
theorem Ext.trans {m : Nat} {gs g1 g2 : List Gt} {a b : Nat} (h : Ext m gs g1 a) (k : Ext m g1 g2 b) : Ext m gs g2 (a + b) := by
  obtain ⟨⟨e1, rfl, l1⟩, o1⟩ := h
  obtain ⟨⟨e2, rfl, l2⟩, o2⟩ := k
  exact ⟨⟨e1 ++ e2, List.append_assoc .., by rw [List.length_append]; omega⟩, fun o => o2 (o1 o)⟩
theorem Ext.mono {m : Nat} {gs g1 : List Gt} {a b : Nat} (h : Ext m gs g1 a) (k : a ≤ b) : Ext m gs g1 b := ⟨h.1.imp fun _ x => ⟨x.1, Nat.le_trans x.2 k⟩, h.2⟩
theorem Ext.one {m : Nat} {gs : List Gt} {g : Gt} (h : g.ok (m + gs.length)) : Ext m gs (gs ++ [g]) 1 := by
  refine ⟨⟨[g], rfl, Nat.le_refl _⟩, fun o i g' hi => ?_⟩
  by_cases c : i < gs.length
  · rw [List.getElem?_append_left c] at hi
    exact o i g' hi
  · rw [List.getElem?_append_right (by omega)] at hi
    have : i - gs.length = 0 := by
      have := (List.getElem?_eq_some_iff.mp hi).1
      rw [List.length_singleton] at this
      omega
    rw [this] at hi
    cases hi
    rw [show i = gs.length by omega]
    exact h
theorem Ext.len {m : Nat} {gs g1 : List Gt} {a : Nat} (h : Ext m gs g1 a) : gs.length ≤ g1.length ∧ g1.length ≤ gs.length + a := by
  obtain ⟨⟨e1, rfl, l1⟩, o1⟩ := h
  rw [List.length_append]
  omega
theorem Ext.wb {m : Nat} {gs g1 : List Gt} {a : Nat} (h : Ext m gs g1 a) {vals : List Bool} (hv : vals.length = m) {w : Nat} (hw : w < m + gs.length) : GZ.wb vals g1 w = GZ.wb vals gs w := by
  obtain ⟨⟨e1, rfl, l1⟩, o1⟩ := h
  exact wb_app (by rw [hv]; exact hw)
theorem Ext.wbs {m : Nat} {gs g1 : List Gt} {a : Nat} (h : Ext m gs g1 a) {vals : List Bool} (hv : vals.length = m) {ws : List Nat} (hw : ∀ w ∈ ws, w < m + gs.length) : ws.map (GZ.wb vals g1) = ws.map (GZ.wb vals gs) := List.map_congr_left fun w m' => h.wb hv (hw w m')
theorem Ext.both {m : Nat} {gs : List Gt} {a b : Nat} (ha : a < m + gs.length) (hb : b < m + gs.length) : Ext m gs (gs ++ [.w "both" [a, b]]) 1 := .one ⟨.inl ⟨.inl rfl, rfl⟩, by simp only [List.mem_cons, List.not_mem_nil, or_false]; rintro x (rfl | rfl) <;> assumption⟩
theorem Ext.either {m : Nat} {gs : List Gt} {a b : Nat} (ha : a < m + gs.length) (hb : b < m + gs.length) : Ext m gs (gs ++ [.w "either" [a, b]]) 1 := .one ⟨.inl ⟨.inr (.inl rfl), rfl⟩, by simp only [List.mem_cons, List.not_mem_nil, or_false]; rintro x (rfl | rfl) <;> assumption⟩
theorem Ext.unlike {m : Nat} {gs : List Gt} {a b : Nat} (ha : a < m + gs.length) (hb : b < m + gs.length) : Ext m gs (gs ++ [.w "unlike" [a, b]]) 1 := .one ⟨.inl ⟨.inr (.inr rfl), rfl⟩, by simp only [List.mem_cons, List.not_mem_nil, or_false]; rintro x (rfl | rfl) <;> assumption⟩
theorem Ext.other {m : Nat} {gs : List Gt} {a : Nat} (ha : a < m + gs.length) : Ext m gs (gs ++ [.w "other" [a]]) 1 := .one ⟨.inr ⟨rfl, rfl⟩, by simp only [List.mem_cons, List.not_mem_nil, or_false]; rintro x rfl; assumption⟩
theorem Ext.fixed {m : Nat} {gs : List Gt} {b : Nat} (hb : b ≤ 1) : Ext m gs (gs ++ [.fi b]) 1 := .one hb
theorem fold_inv {α β : Type} (P : Nat → β → Prop) (step : β → α → β) : ∀ (l : List α) (b : β), P 0 b → (∀ (i : Nat) (x : α) (b : β), l[i]? = some x → P i b → P (i + 1) (step b x)) → P l.length (l.foldl step b)
  | [], b, h, _ => h
  | x :: l, b, h, hs => fold_inv (fun i => P (i + 1)) step l (step b x) (hs 0 x b rfl h) fun i y b hi => hs (i + 1) y b hi
theorem fold_take {α β : Type} (step : β → α → β) {l : List α} {i : Nat} {x : α} (h : l[i]? = some x) (b : β) : (l.take (i + 1)).foldl step b = step ((l.take i).foldl step b) x := by
  rw [List.take_add_one, h, List.foldl_append]
  rfl
/-! ### numbers of bits, the greatest ahead -/
def numB (bs : List Bool) : Nat := bs.foldl (fun n b => 2 * n + b.toNat) 0
theorem numB_fold : ∀ (bs : List Bool) (k : Nat), bs.foldl (fun n b => 2 * n + b.toNat) k = k * 2 ^ bs.length + numB bs
  | [], k => by simp [numB]
  | b :: bs, k => by
    unfold numB
    rw [List.foldl_cons, List.foldl_cons, numB_fold bs, numB_fold bs (2 * 0 + b.toNat), List.length_cons, Nat.pow_succ, Nat.mul_comm (2 ^ bs.length) 2, ← Nat.mul_assoc, Nat.add_mul, Nat.add_mul, Nat.mul_comm k 2]
    omega
theorem numB_nil : numB [] = 0 := rfl
theorem numB_app (xs ys : List Bool) : numB (xs ++ ys) = numB xs * 2 ^ ys.length + numB ys := by
  unfold numB
  rw [List.foldl_append, numB_fold]
  rfl
theorem numB_cons (b : Bool) (bs : List Bool) : numB (b :: bs) = b.toNat * 2 ^ bs.length + numB bs := numB_app [b] bs |>.trans (by cases b <;> simp [numB])
theorem numB_snoc (bs : List Bool) (b : Bool) : numB (bs ++ [b]) = 2 * numB bs + b.toNat := by
  rw [numB_app]
  cases b <;> simp [numB] <;> omega
theorem numB_lt : ∀ bs : List Bool, numB bs < 2 ^ bs.length
  | [] => by decide
  | b :: bs => by
    have := numB_lt bs
    rw [numB_cons, List.length_cons, Nat.pow_succ]
    cases b <;> simp <;> omega
theorem numB_rep (n : Nat) : numB (List.replicate n false) = 0 := by
  induction n with
  | zero => rfl
  | succ k ih => rw [List.replicate_succ, numB_cons, ih]; simp
theorem numB_zero : ∀ {bs : List Bool}, numB bs = 0 → ∀ b ∈ bs, b = false
  | [], _, b, h => nomatch h
  | x :: bs, e, b, h => by
    rw [numB_cons] at e
    have hp : 0 < 2 ^ bs.length := Nat.pow_pos (by decide)
    cases x with
    | true => simp at e
    | false =>
      rcases List.mem_cons.mp h with rfl | h
      · rfl
      · exact numB_zero (by simpa using e) b h
theorem wf_num (bs : List Bool) : wf (bs.map bi) = (numB bs : Int) := by
  have key : ∀ (bs : List Bool) (n : Nat), (bs.map bi).foldl (fun w d => 2 * w + d) (n : Int) = ((bs.foldl (fun n b => 2 * n + b.toNat) n : Nat) : Int) := by
    intro bs
    induction bs with
    | nil => intro n; rfl
    | cons b bs ih =>
      intro n
      rw [List.map_cons, List.foldl_cons, List.foldl_cons, ← ih]
      congr 1
      cases b <;> simp [bi]
  exact key bs 0
/-! ### many cases at once -/
theorem tb_bi (x : Int) (k : Nat) : tb x k = bi (decide (tb x k = 1)) := by
  rcases tb_01 x k with h | h <;> rw [h] <;> decide
theorem gv_gb (ws : List Bool) (g : Gt) : gv 1 (ws.map bi) g = bi (gb ws g) := by
  have hg : ∀ i, (ws.map bi).getD i 0 = bi (ws.getD i false) := fun i => by
    simp only [List.getD, List.getElem?_map]
    cases ws[i]? <;> rfl
  cases g with
  | fi b =>
    show (if b = 1 then (1 : Int) else 0) = bi (decide (b = 1))
    by_cases c : b = 1 <;> simp [c, bi]
  | w k l =>
    show gvw 1 _ _ k = bi (gbw _ _ k)
    rw [hg, hg]
    generalize ws.getD (l.getD 0 0) false = x
    generalize ws.getD (l.getD 1 0) false = y
    unfold gvw gbw
    by_cases c1 : k = "other"
    · rw [if_pos c1, if_pos c1]; cases x <;> decide
    rw [if_neg c1, if_neg c1]
    by_cases c2 : k = "both"
    · rw [if_pos c2, if_pos c2]; cases x <;> cases y <;> decide
    rw [if_neg c2, if_neg c2]
    by_cases c3 : k = "either"
    · rw [if_pos c3, if_pos c3]; cases x <;> cases y <;> decide
    rw [if_neg c3, if_neg c3]
    cases x <;> cases y <;> decide
theorem rv_rb : ∀ (gs : List Gt) (vals : List Bool), rv 1 (vals.map bi) gs = (rb vals gs).map bi
  | [], _ => rfl
  | g :: gs, vals => by
    have := rv_rb gs (vals ++ [gb vals g])
    unfold rv rb at this ⊢
    rw [List.foldl_cons, List.foldl_cons, ← this, List.map_append, List.map_cons, List.map_nil, gv_gb]
def bitsOf (vals : List Int) (k : Nat) : List Bool := vals.map fun v => decide (tb v k = 1)
theorem bitsOf_len (vals : List Int) (k : Nat) : (bitsOf vals k).length = vals.length := by
  unfold bitsOf
  rw [List.length_map]
theorem rv_case {n k : Nat} (h : k < n) (gs : List Gt) (vals : List Int) (a : Nat) : tb ((rv (2 ^ n - 1) (vals.map (· % 2 ^ n)) gs).getD a 0) k = bi (wb (bitsOf vals k) gs a) := by
  rw [← getD_map, rv_bit h, List.map_map, show (vals.map ((tb · k) ∘ (· % 2 ^ n))) = (bitsOf vals k).map bi from by
    unfold bitsOf
    rw [List.map_map]
    exact List.map_congr_left fun v _ => (tb_mod v h).trans (tb_bi v k), rv_rb]
  unfold wb
  simp only [List.getD, List.getElem?_map]
  cases (rb (bitsOf vals k) gs)[a]? <;> rfl
/-! ### wires of parts, what they come to -/
structure W1 (m : Nat) (gs : List Gt) (n : Nat) (s : List Gt × Nat) (f : (Nat → Bool) → Bool) : Prop where
  ext : Ext m gs s.1 n
  lt : s.2 < m + s.1.length
  val : ∀ vals : List Bool, vals.length = m → wb vals s.1 s.2 = f (wb vals gs)
structure WL (m : Nat) (gs : List Gt) (n : Nat) (s : List Gt × List Nat) (f : (Nat → Bool) → List Bool) : Prop where
  ext : Ext m gs s.1 n
  lt : ∀ w ∈ s.2, w < m + s.1.length
  val : ∀ vals : List Bool, vals.length = m → s.2.map (wb vals s.1) = f (wb vals gs)
def anyW (m : Nat) (gs : List Gt) : List Nat → List Gt × Nat
  | [] => (gs ++ [.fi 0], m + gs.length)
  | w :: ws => ws.foldl (fun s x => (s.1 ++ [.w "either" [s.2, x]], m + s.1.length)) (gs, w)
theorem len1 {m : Nat} {gs : List Gt} {g : Gt} : m + gs.length < m + (gs ++ [g]).length := by
  rw [List.length_append, List.length_singleton]
  omega
theorem lt1 {m a : Nat} {gs : List Gt} {g : Gt} (h : a < m + gs.length) : a < m + (gs ++ [g]).length := Nat.lt_trans h len1
theorem anyW_ok {m : Nat} {gs : List Gt} {ws : List Nat} (hw : ∀ w ∈ ws, w < m + gs.length) : W1 m gs (ws.length + 1) (anyW m gs ws) (fun e => ws.any e) := by
  cases ws with
  | nil => exact ⟨(Ext.fixed (Nat.zero_le _)).mono (Nat.le_refl _), len1, fun vals hv => wb_fixed (hv ▸ rfl)⟩
  | cons w ws =>
    have h := fold_inv (fun i (s : List Gt × Nat) => Ext m gs s.1 i ∧ s.2 < m + s.1.length ∧ ∀ vals : List Bool, vals.length = m → wb vals s.1 s.2 = ((w :: ws).take (i + 1)).any (wb vals gs)) (fun s x => (s.1 ++ [Gt.w "either" [s.2, x]], m + s.1.length)) ws (gs, w) ⟨.refl, hw w (by simp), fun vals _ => by simp⟩ (fun i x s hx ⟨h1, h2, h3⟩ => by
      have lx : x < m + s.1.length := by
        have := hw x (List.mem_cons_of_mem _ (List.mem_of_getElem? hx))
        have := h1.len
        omega
      refine ⟨h1.trans (.either h2 lx), len1, fun vals hv => ?_⟩
      rw [wb_either (hv ▸ rfl), h3 vals hv, h1.wb hv (hw x (List.mem_cons_of_mem _ (List.mem_of_getElem? hx))), List.take_add_one (i := i + 1), List.getElem?_cons_succ, hx, List.any_append]
      simp)
    obtain ⟨h1, h2, h3⟩ := h
    refine ⟨h1.mono (by rw [List.length_cons]; omega), h2, fun vals hv => ?_⟩
    rw [show (w :: ws).any (wb vals gs) = ((w :: ws).take (ws.length + 1)).any (wb vals gs) from by rw [List.take_of_length_le (by simp)]]
    exact h3 vals hv
def chS (m w st : Nat) (s : List Gt × List Nat) (p : Nat × Nat) : List Gt × List Nat := (s.1 ++ [.w "both" [w, p.1]] ++ [.w "both" [st, p.2]] ++ [.w "either" [m + s.1.length, m + (s.1 ++ [Gt.w "both" [w, p.1]]).length]], s.2 ++ [m + (s.1 ++ [Gt.w "both" [w, p.1]] ++ [Gt.w "both" [st, p.2]]).length])
def chosenW (m : Nat) (gs : List Gt) (w : Nat) (ps : List (Nat × Nat)) : List Gt × List Nat := ps.foldl (chS m w (m + gs.length)) (gs ++ [.w "other" [w]], [])
theorem chosenW_ok {m w : Nat} {gs : List Gt} {ps : List (Nat × Nat)} (h0 : w < m + gs.length) (hw : ∀ p ∈ ps, p.1 < m + gs.length ∧ p.2 < m + gs.length) : WL m gs (3 * ps.length + 1) (chosenW m gs w ps) (fun e => ps.map fun p => if e w = true then e p.1 else e p.2) := by
  have h := fold_inv (fun i (s : List Gt × List Nat) => Ext m gs s.1 (3 * i + 1) ∧ (∀ w ∈ s.2, w < m + s.1.length) ∧ (∀ vals : List Bool, vals.length = m → wb vals s.1 (m + gs.length) = !(wb vals gs w)) ∧ m + gs.length < m + s.1.length ∧ ∀ vals : List Bool, vals.length = m → s.2.map (wb vals s.1) = (ps.take i).map fun p => if wb vals gs w = true then wb vals gs p.1 else wb vals gs p.2) (chS m w (m + gs.length)) ps (gs ++ [.w "other" [w]], []) ⟨(Ext.other h0).mono (by omega), (fun _ z => nomatch z), fun vals hv => wb_other (hv ▸ rfl), len1, fun _ _ => rfl⟩ (fun i p s hp ⟨h1, h2, h4, h5, h3⟩ => by
    obtain ⟨q1, q2⟩ := hw p (List.mem_of_getElem? hp)
    have l := h1.len
    have e1 : Ext m s.1 (s.1 ++ [.w "both" [w, p.1]]) 1 := .both (by omega) (by omega)
    have e2 : Ext m (s.1 ++ [.w "both" [w, p.1]]) (s.1 ++ [.w "both" [w, p.1]] ++ [.w "both" [m + gs.length, p.2]]) 1 := .both (lt1 h5) (lt1 (by omega))
    have e3 : Ext m (s.1 ++ [.w "both" [w, p.1]] ++ [.w "both" [m + gs.length, p.2]]) (s.1 ++ [.w "both" [w, p.1]] ++ [.w "both" [m + gs.length, p.2]] ++ [.w "either" [m + s.1.length, m + (s.1 ++ [Gt.w "both" [w, p.1]]).length]]) 1 := .either (lt1 len1) len1
    have e := (e1.trans e2).trans e3
    have l' := e.len
    refine ⟨(h1.trans e).mono (by omega), fun a ha => ?_, fun vals hv => ?_, Nat.lt_of_lt_of_le h5 (by show _ ≤ m + List.length (s.1 ++ _ ++ _ ++ _); omega), fun vals hv => ?_⟩
    · rcases List.mem_append.mp ha with z | z
      · exact lt1 (lt1 (lt1 (h2 a z)))
      · rw [List.mem_singleton.mp z]
        exact len1
    · exact (e.wb hv h5).trans (h4 vals hv)
    · show (s.2 ++ [_]).map _ = _
      rw [List.map_append, List.take_add_one, hp, List.map_append]
      congr 1
      · exact (e.wbs hv h2).trans (h3 vals hv)
      · show [_] = [_]
        congr 1
        show wb vals (s.1 ++ [.w "both" [w, p.1]] ++ [.w "both" [m + gs.length, p.2]] ++ [.w "either" [m + s.1.length, m + (s.1 ++ [Gt.w "both" [w, p.1]]).length]]) _ = _
        rw [wb_either (hv ▸ rfl), e2.wb hv len1, wb_both (hv ▸ rfl), wb_both (hv ▸ rfl), e1.wb hv h5, e1.wb hv (by omega), h4 vals hv, h1.wb hv h0, h1.wb hv q1, h1.wb hv q2]
        cases wb vals gs w <;> simp)
  obtain ⟨h1, h2, _, _, h3⟩ := h
  refine ⟨h1, h2, fun vals hv => ?_⟩
  rw [show chosenW m gs w ps = ps.foldl (chS m w (m + gs.length)) (gs ++ [.w "other" [w]], []) from rfl]
  rw [h3 vals hv, List.take_of_length_le (Nat.le_refl _)]
theorem chW_len (m w st : Nat) : ∀ (ps : List (Nat × Nat)) (s : List Gt × List Nat), s.1.length ≤ (ps.foldl (chS m w st) s).1.length
  | [], _ => Nat.le_refl _
  | p :: ps, s => Nat.le_trans (by unfold chS; simp only [List.length_append]; omega) (chW_len m w st ps (chS m w st s p))
/-! ### the first one, noughts ahead -/
def firstB : Bool → List Bool → List Bool
  | c, [] => [c]
  | c, b :: bs => (c && b) :: firstB (c && !b) bs
def fiS (m : Nat) (s : List Gt × List Nat × Nat) (a : Nat) : List Gt × List Nat × Nat := (s.1 ++ [.w "both" [s.2.2, a]] ++ [.w "other" [a]] ++ [.w "both" [s.2.2, m + (s.1 ++ [Gt.w "both" [s.2.2, a]]).length]], s.2.1 ++ [m + s.1.length], m + (s.1 ++ [Gt.w "both" [s.2.2, a]] ++ [Gt.w "other" [a]]).length)
def firstF (m : Nat) (gs : List Gt) (ws : List Nat) : List Gt × List Nat × Nat := ws.foldl (fiS m) (gs ++ [.fi 1], [], m + gs.length)
def firstW (m : Nat) (gs : List Gt) (ws : List Nat) : List Gt × List Nat := ((firstF m gs ws).1, (firstF m gs ws).2.1 ++ [(firstF m gs ws).2.2])
def clr : List Bool → Bool
  | [] => true
  | b :: bs => !b && clr bs
theorem clr_snoc : ∀ (xs : List Bool) (b : Bool), clr (xs ++ [b]) = (clr xs && !b)
  | [], b => by cases b <;> rfl
  | x :: xs, b => by
    rw [List.cons_append]
    show (!x && clr (xs ++ [b])) = ((!x && clr xs) && !b)
    rw [clr_snoc xs b, Bool.and_assoc]
def heads : List Bool → List Bool → List Bool
  | _, [] => []
  | pre, b :: bs => (clr pre && b) :: heads (pre ++ [b]) bs
theorem firstB_heads : ∀ (bs pre : List Bool), firstB (clr pre) bs = heads pre bs ++ [clr (pre ++ bs)]
  | [], pre => by
    rw [List.append_nil]
    rfl
  | b :: bs, pre => by
    show (clr pre && b) :: firstB (clr pre && !b) bs = (clr pre && b) :: (heads (pre ++ [b]) bs ++ [clr (pre ++ b :: bs)])
    rw [← clr_snoc, firstB_heads bs (pre ++ [b]), List.append_assoc]
    rfl
theorem heads_snoc : ∀ (bs pre : List Bool) (b : Bool), heads pre (bs ++ [b]) = heads pre bs ++ [clr (pre ++ bs) && b]
  | [], pre, b => by
    rw [List.append_nil]
    rfl
  | x :: bs, pre, b => by
    show (clr pre && x) :: heads (pre ++ [x]) (bs ++ [b]) = (clr pre && x) :: (heads (pre ++ [x]) bs ++ _)
    rw [heads_snoc bs, List.append_assoc]
    rfl
theorem firstW_ok {m : Nat} {gs : List Gt} {ws : List Nat} (hw : ∀ w ∈ ws, w < m + gs.length) : WL m gs (3 * ws.length + 1) (firstW m gs ws) (fun e => firstB true (ws.map e)) := by
  have h := fold_inv (fun i (s : List Gt × List Nat × Nat) => Ext m gs s.1 (3 * i + 1) ∧ (∀ w ∈ s.2.1, w < m + s.1.length) ∧ s.2.2 < m + s.1.length ∧ ∀ vals : List Bool, vals.length = m → wb vals s.1 s.2.2 = clr ((ws.take i).map (wb vals gs)) ∧ s.2.1.map (wb vals s.1) = heads [] ((ws.take i).map (wb vals gs))) (fiS m) ws (gs ++ [.fi 1], [], m + gs.length) ⟨(Ext.fixed (Nat.le_refl _)).mono (by omega), (fun _ z => nomatch z), len1, fun vals hv => ⟨wb_fixed (hv ▸ rfl), rfl⟩⟩ (fun i a s hp ⟨h1, h2, h4, h3⟩ => by
    have q := hw a (List.mem_of_getElem? hp)
    have l := h1.len
    have la : a < m + s.1.length := by omega
    have e1 : Ext m s.1 (s.1 ++ [.w "both" [s.2.2, a]]) 1 := .both h4 la
    have e2 : Ext m (s.1 ++ [.w "both" [s.2.2, a]]) (s.1 ++ [.w "both" [s.2.2, a]] ++ [.w "other" [a]]) 1 := .other (lt1 la)
    have e3 : Ext m (s.1 ++ [.w "both" [s.2.2, a]] ++ [.w "other" [a]]) (s.1 ++ [.w "both" [s.2.2, a]] ++ [.w "other" [a]] ++ [.w "both" [s.2.2, m + (s.1 ++ [Gt.w "both" [s.2.2, a]]).length]]) 1 := .both (lt1 (lt1 h4)) len1
    have e := (e1.trans e2).trans e3
    refine ⟨(h1.trans e).mono (by omega), fun b hb => ?_, len1, fun vals hv => ⟨?_, ?_⟩⟩
    · rcases List.mem_append.mp hb with z | z
      · exact lt1 (lt1 (lt1 (h2 b z)))
      · rw [List.mem_singleton.mp z]
        exact lt1 (lt1 len1)
    · show wb vals (s.1 ++ [.w "both" [s.2.2, a]] ++ [.w "other" [a]] ++ [.w "both" [s.2.2, m + (s.1 ++ [Gt.w "both" [s.2.2, a]]).length]]) _ = _
      rw [wb_both (hv ▸ rfl), (e1.trans e2).wb hv h4, wb_other (hv ▸ rfl), e1.wb hv la, (h3 vals hv).1, h1.wb hv q, List.take_add_one, hp, List.map_append]
      exact (clr_snoc _ _).symm
    · show (s.2.1 ++ [_]).map (wb vals (s.1 ++ [Gt.w "both" [s.2.2, a]] ++ [Gt.w "other" [a]] ++ [Gt.w "both" [s.2.2, m + (s.1 ++ [Gt.w "both" [s.2.2, a]]).length]])) = _
      rw [List.map_append, e.wbs hv h2, (h3 vals hv).2, List.take_add_one, hp, List.map_append]
      show _ = heads [] (_ ++ [_])
      rw [heads_snoc]
      congr 1
      show [_] = [_]
      congr 1
      rw [(e2.trans e3).wb hv len1, wb_both (hv ▸ rfl), (h3 vals hv).1, h1.wb hv q]
      rfl)
  obtain ⟨h1, h2, h4, h3⟩ := h
  refine ⟨h1, fun w hw' => ?_, fun vals hv => ?_⟩
  · rcases List.mem_append.mp hw' with z | z
    · exact h2 w z
    · rw [List.mem_singleton.mp z]
      exact h4
  · obtain ⟨e1, e2⟩ := h3 vals hv
    show List.map (wb vals _) (_ ++ [_]) = firstB (clr []) _
    rw [firstB_heads, List.map_append]
    rw [List.take_of_length_le (Nat.le_refl _)] at e1 e2
    exact congr (congrArg HAppend.hAppend e2) (congrArg (fun b => [b]) e1)
/-- the place of the first one, or how many there are -/
def fst1 : List Bool → Nat
  | [] => 0
  | true :: _ => 0
  | false :: bs => fst1 bs + 1
theorem fst1_le : ∀ bs : List Bool, fst1 bs ≤ bs.length
  | [] => Nat.le_refl _
  | true :: _ => Nat.zero_le _
  | false :: bs => Nat.succ_le_succ (fst1_le bs)
theorem firstB_len : ∀ (bs : List Bool) (c : Bool), (firstB c bs).length = bs.length + 1
  | [], _ => rfl
  | _ :: bs, c => congrArg (· + 1) (firstB_len bs _)
theorem firstB_false : ∀ (bs : List Bool) (j : Nat), (firstB false bs).getD j false = false
  | [], 0 => rfl
  | [], j + 1 => rfl
  | b :: bs, 0 => rfl
  | b :: bs, j + 1 => firstB_false bs j
theorem firstB_at : ∀ (bs : List Bool) (j : Nat), (firstB true bs).getD j false = decide (j = fst1 bs)
  | [], 0 => rfl
  | [], j + 1 => by show false = decide (j + 1 = 0); simp
  | true :: bs, 0 => rfl
  | true :: bs, j + 1 => (firstB_false bs j).trans (by show false = decide (j + 1 = 0); simp)
  | false :: bs, 0 => by show false = decide (0 = fst1 bs + 1); simp
  | false :: bs, j + 1 => (firstB_at bs j).trans (by show decide (j = fst1 bs) = decide (j + 1 = fst1 bs + 1); simp)
def selN (place : Nat) (l : List Nat) : List Nat := ((List.range l.length).filter (·.testBit place)).map fun i => l.getD i 0
theorem selN_mem {place : Nat} {l : List Nat} {x : Nat} (h : x ∈ selN place l) : x ∈ l := by
  obtain ⟨i, hi, rfl⟩ := List.mem_map.mp h
  have := List.mem_range.mp (List.mem_filter.mp hi).1
  simp only [List.getD, List.getElem?_eq_getElem this, Option.getD_some]
  exact List.getElem_mem _
theorem selN_len (place : Nat) (l : List Nat) : (selN place l).length ≤ l.length := by
  unfold selN
  rw [List.length_map]
  exact Nat.le_trans (List.length_filter_le _ _) (by rw [List.length_range]; exact Nat.le_refl _)
def downs (k : Nat) : List Nat := (List.range k).reverse
def zeS (m : Nat) (fs : List Nat) (s : List Gt × List Nat) (place : Nat) : List Gt × List Nat := ((anyW m s.1 (selN place fs)).1, s.2 ++ [(anyW m s.1 (selN place fs)).2])
def zeroW (m : Nat) (gs : List Gt) (ws : List Nat) (k : Nat) : List Gt × List Nat := (downs k).foldl (zeS m (firstW m gs ws).2) ((firstW m gs ws).1, [])
theorem any_sel {α : Type} (e : Nat → Bool) (place : Nat) (l : List Nat) : (selN place l).any e = (List.range l.length).any fun i => i.testBit place && e (l.getD i 0) := by
  unfold selN
  rw [List.any_map, List.any_filter]
  rfl
theorem numB_downs (J : Nat) : ∀ k : Nat, numB ((downs k).map fun p => J.testBit p) = J % 2 ^ k
  | 0 => by
    rw [Nat.pow_zero, Nat.mod_one]
    rfl
  | k + 1 => by
    show numB (((List.range (k + 1)).reverse).map _) = _
    rw [List.range_succ, List.reverse_append, List.reverse_singleton, List.singleton_append, List.map_cons, numB_cons]
    have := numB_downs J k
    unfold downs at this
    rw [this, List.length_map, List.length_reverse, List.length_range, Nat.pow_succ, Nat.mod_mul, Nat.testBit_eq_decide_div_mod_eq, Nat.add_comm, Nat.mul_comm]
    congr 2
    rcases Nat.mod_two_eq_zero_or_one (J / 2 ^ k) with z | z <;> rw [z] <;> rfl
theorem zeroW_ok {m k : Nat} {gs : List Gt} {ws : List Nat} (hw : ∀ w ∈ ws, w < m + gs.length) : WL m gs (3 * ws.length + 1 + k * (ws.length + 2)) (zeroW m gs ws k) (fun e => (downs k).map fun p => (fst1 (ws.map e)).testBit p) := by
  have F := firstW_ok hw
  generalize hfs : firstW m gs ws = F0 at F
  have lf : F0.2.length = ws.length + 1 := by
    have := congrArg List.length (F.val (List.replicate m false) (by simp))
    rw [List.length_map, firstB_len, List.length_map] at this
    exact this
  have h := fold_inv (fun i (s : List Gt × List Nat) => Ext m F0.1 s.1 (i * (ws.length + 2)) ∧ (∀ w ∈ s.2, w < m + s.1.length) ∧ ∀ vals : List Bool, vals.length = m → s.2.map (wb vals s.1) = ((downs k).take i).map fun p => (fst1 (ws.map (wb vals gs))).testBit p) (zeS m F0.2) (downs k) (F0.1, []) ⟨Ext.refl.mono (Nat.zero_le _), (fun _ z => nomatch z), fun _ _ => rfl⟩ (fun i p s hp ⟨h1, h2, h3⟩ => by
    have l := h1.len
    have hs : ∀ w ∈ selN p F0.2, w < m + s.1.length := fun w hw' => by
      have := F.lt w (selN_mem hw')
      omega
    have A := anyW_ok hs
    refine ⟨(h1.trans A.ext).mono ?_, fun w hw' => ?_, fun vals hv => ?_⟩
    · have := selN_len p F0.2
      rw [Nat.succ_mul]
      omega
    · have := A.ext.len
      rcases List.mem_append.mp hw' with z | z
      · exact Nat.lt_of_lt_of_le (h2 w z) (by show m + s.1.length ≤ m + (anyW m s.1 (selN p F0.2)).1.length; omega)
      · rw [List.mem_singleton.mp z]
        exact A.lt
    · show List.map (wb vals (anyW m s.1 (selN p F0.2)).1) (_ ++ [_]) = _
      rw [List.map_append, A.ext.wbs hv h2, h3 vals hv, List.take_add_one, hp, List.map_append]
      congr 1
      show [_] = [_]
      congr 1
      rw [A.val vals hv, any_sel (α := Nat), lf, Bool.eq_iff_iff, List.any_eq_true]
      have at' : ∀ j, j < ws.length + 1 → wb vals s.1 (F0.2.getD j 0) = decide (j = fst1 (ws.map (wb vals gs))) := fun j hj => by
        rw [← firstB_at, ← F.val vals hv]
        have e : F0.2.getD j 0 ∈ F0.2 := by
          simp only [List.getD, List.getElem?_eq_getElem (show j < F0.2.length by omega), Option.getD_some]
          exact List.getElem_mem _
        rw [h1.wb hv (F.lt _ e)]
        simp only [List.getD, List.getElem?_map, List.getElem?_eq_getElem (show j < F0.2.length by omega), Option.getD_some, Option.map_some]
      have lJ := fst1_le (ws.map (wb vals gs))
      rw [List.length_map] at lJ
      constructor
      · rintro ⟨j, hj, e⟩
        rw [at' j (List.mem_range.mp hj)] at e
        have e := Bool.and_eq_true_iff.mp e
        rw [← of_decide_eq_true e.2]
        exact e.1
      · intro e
        refine ⟨fst1 (ws.map (wb vals gs)), List.mem_range.mpr (by omega), ?_⟩
        exact Bool.and_eq_true_iff.mpr ⟨e, (at' _ (by omega)).trans (decide_eq_true rfl)⟩)
  obtain ⟨h1, h2, h3⟩ := h
  have lk : (downs k).length = k := by
    unfold downs
    rw [List.length_reverse, List.length_range]
  have ez : zeroW m gs ws k = (downs k).foldl (zeS m F0.2) (F0.1, []) := by
    unfold zeroW
    rw [hfs]
  rw [ez]
  refine ⟨(F.ext.trans h1).mono (by rw [lk]; omega), h2, fun vals hv => ?_⟩
  rw [h3 vals hv, List.take_of_length_le (Nat.le_refl _)]
theorem numB_fst1 : ∀ bs : List Bool, (numB bs = 0 ∧ fst1 bs = bs.length) ∨ (fst1 bs < bs.length ∧ 2 ^ (bs.length - 1 - fst1 bs) ≤ numB bs ∧ numB bs < 2 ^ (bs.length - fst1 bs))
  | [] => .inl ⟨rfl, rfl⟩
  | true :: bs => by
    have h := numB_lt bs
    refine .inr ⟨by simp [fst1], ?_, ?_⟩
    · rw [numB_cons]
      simp [fst1]
    · rw [numB_cons]
      simp only [fst1, List.length_cons, Nat.sub_zero, Nat.pow_succ, Bool.toNat_true]
      omega
  | false :: bs => by
    have e : numB (false :: bs) = numB bs := by rw [numB_cons]; simp
    rw [e, List.length_cons]
    rcases numB_fst1 bs with ⟨a, b⟩ | ⟨a, b, c⟩
    · exact .inl ⟨a, by show fst1 bs + 1 = _; omega⟩
    · refine .inr ⟨by show fst1 bs + 1 < _; omega, ?_, ?_⟩
      · rw [show bs.length + 1 - 1 - fst1 (false :: bs) = bs.length - 1 - fst1 bs from by show _ - (fst1 bs + 1) = _; omega]
        exact b
      · rw [show bs.length + 1 - fst1 (false :: bs) = bs.length - fst1 bs from by show _ - (fst1 bs + 1) = _; omega]
        exact c
/-! ### marks of two rows of wires -/
def dgS (m : Nat) (s : List Gt × List Nat) (p : Nat × Nat) : List Gt × List Nat := (s.1 ++ [.w "unlike" [p.1, p.2]], s.2 ++ [m + s.1.length])
theorem digW_ok {m : Nat} {gs : List Gt} {ps : List (Nat × Nat)} (hw : ∀ p ∈ ps, p.1 < m + gs.length ∧ p.2 < m + gs.length) : WL m gs ps.length (ps.foldl (dgS m) (gs, [])) (fun e => ps.map fun p => xor (e p.1) (e p.2)) := by
  have h := fold_inv (fun i (s : List Gt × List Nat) => Ext m gs s.1 i ∧ (∀ w ∈ s.2, w < m + s.1.length) ∧ ∀ vals : List Bool, vals.length = m → s.2.map (wb vals s.1) = (ps.take i).map fun p => xor (wb vals gs p.1) (wb vals gs p.2)) (dgS m) ps (gs, []) ⟨.refl, (fun _ z => nomatch z), fun _ _ => rfl⟩ (fun i p s hp ⟨h1, h2, h3⟩ => by
    obtain ⟨q1, q2⟩ := hw p (List.mem_of_getElem? hp)
    have l := h1.len
    have e : Ext m s.1 (s.1 ++ [.w "unlike" [p.1, p.2]]) 1 := .unlike (by omega) (by omega)
    refine ⟨h1.trans e, fun a ha => ?_, fun vals hv => ?_⟩
    · rcases List.mem_append.mp ha with z | z
      · exact lt1 (h2 a z)
      · rw [List.mem_singleton.mp z]
        exact len1
    · show (s.2 ++ [_]).map (wb vals (s.1 ++ [Gt.w "unlike" [p.1, p.2]])) = _
      rw [List.map_append, e.wbs hv h2, h3 vals hv, List.take_add_one, hp, List.map_append]
      congr 1
      show [_] = [_]
      congr 1
      rw [wb_unlike (hv ▸ rfl), h1.wb hv q1, h1.wb hv q2])
  obtain ⟨h1, h2, h3⟩ := h
  exact ⟨h1, h2, fun vals hv => by rw [h3 vals hv, List.take_of_length_le (Nat.le_refl _)]⟩
def barW (m : Nat) (os ds : List Nat) (gs : List Gt) (p : Nat) : List Gt × Nat := if p = 0 then (gs ++ [.w "unlike" [os.getD p 0, os.getD (p + 1) 0]], m + gs.length) else (gs ++ [.w "unlike" [os.getD p 0, os.getD (p + 1) 0]] ++ [.w "unlike" [m + gs.length, ds.getD (p - 1) 0]], m + (gs ++ [Gt.w "unlike" [os.getD p 0, os.getD (p + 1) 0]]).length)
theorem barW_ok {m p : Nat} {os ds : List Nat} {gs : List Gt} (h0 : os.getD p 0 < m + gs.length) (h1 : os.getD (p + 1) 0 < m + gs.length) (h2 : p ≠ 0 → ds.getD (p - 1) 0 < m + gs.length) : W1 m gs 2 (barW m os ds gs p) (fun e => xor (xor (e (os.getD p 0)) (e (os.getD (p + 1) 0))) (if p = 0 then false else e (ds.getD (p - 1) 0))) := by
  have e1 : Ext m gs (gs ++ [.w "unlike" [os.getD p 0, os.getD (p + 1) 0]]) 1 := .unlike h0 h1
  unfold barW
  by_cases c : p = 0
  · rw [if_pos c]
    refine ⟨e1.mono (by decide), len1, fun vals hv => ?_⟩
    show wb vals (gs ++ [.w "unlike" [os.getD p 0, os.getD (p + 1) 0]]) (m + gs.length) = _
    rw [wb_unlike (hv ▸ rfl), if_pos c]
    simp
  · rw [if_neg c]
    have e2 : Ext m (gs ++ [.w "unlike" [os.getD p 0, os.getD (p + 1) 0]]) (gs ++ [.w "unlike" [os.getD p 0, os.getD (p + 1) 0]] ++ [.w "unlike" [m + gs.length, ds.getD (p - 1) 0]]) 1 := .unlike len1 (lt1 (h2 c))
    refine ⟨e1.trans e2, len1, fun vals hv => ?_⟩
    show wb vals (gs ++ [.w "unlike" [os.getD p 0, os.getD (p + 1) 0]] ++ [.w "unlike" [m + gs.length, ds.getD (p - 1) 0]]) (m + (gs ++ [Gt.w "unlike" [os.getD p 0, os.getD (p + 1) 0]]).length) = _
    rw [wb_unlike (hv ▸ rfl), wb_unlike (hv ▸ rfl), e1.wb hv (h2 c), if_neg c]
def maS (m : Nat) (os ds : List Nat) (s : List Gt × List Nat) (p : Nat) : List Gt × List Nat :=
  ((barW m os ds s.1 p).1 ++ [.w "both" [ds.getD (p + 1) 0, (barW m os ds s.1 p).2]] ++ [.w "other" [m + (barW m os ds s.1 p).1.length]] ++ [.w "both" [ds.getD p 0, m + ((barW m os ds s.1 p).1 ++ [Gt.w "both" [ds.getD (p + 1) 0, (barW m os ds s.1 p).2]]).length]],
    s.2 ++ [m + ((barW m os ds s.1 p).1 ++ [Gt.w "both" [ds.getD (p + 1) 0, (barW m os ds s.1 p).2]] ++ [Gt.w "other" [m + (barW m os ds s.1 p).1.length]]).length])
def markD (m : Nat) (gs : List Gt) (os ts : List Nat) : List Gt × List Nat := (os.zip ts).foldl (dgS m) (gs, [])
def markM (m : Nat) (gs : List Gt) (os ts : List Nat) : List Gt × List Nat := (List.range (os.length - 1)).foldl (maS m os (markD m gs os ts).2) ((markD m gs os ts).1, [])
def markW (m : Nat) (gs : List Gt) (os ts : List Nat) : List Gt × List Nat := ((markM m gs os ts).1, (markM m gs os ts).2 ++ (markD m gs os ts).2.drop (os.length - 1))
def dB (os ts : List Bool) (p : Nat) : Bool := xor (os.getD p false) (ts.getD p false)
def mkB (os ts : List Bool) (p : Nat) : Bool := dB os ts p && !(dB os ts (p + 1) && xor (xor (os.getD p false) (os.getD (p + 1) false)) (if p = 0 then false else dB os ts (p - 1)))
def markB (os ts : List Bool) : List Bool := (List.range os.length).map (mkB os ts)
theorem getD_mapB {l : List Nat} {e : Nat → Bool} {p : Nat} (h : p < l.length) : (l.map e).getD p false = e (l.getD p 0) := by
  simp only [List.getD, List.getElem?_map, List.getElem?_eq_getElem h, Option.map_some, Option.getD_some]
theorem getD_in {l : List Nat} {p : Nat} (h : p < l.length) : l.getD p 0 ∈ l := by
  simp only [List.getD, List.getElem?_eq_getElem h, Option.getD_some]
  exact List.getElem_mem _
theorem markW_ok {m : Nat} {gs : List Gt} {os ts : List Nat} (hl : os.length = ts.length) (h0 : 0 < os.length) (ho : ∀ w ∈ os, w < m + gs.length) (ht : ∀ w ∈ ts, w < m + gs.length) : WL m gs (6 * os.length) (markW m gs os ts) (fun e => markB (os.map e) (ts.map e)) := by
  have D := digW_ok (m := m) (gs := gs) (ps := os.zip ts) (fun p hp => ⟨ho _ (List.of_mem_zip hp).1, ht _ (List.of_mem_zip hp).2⟩)
  have lz : (os.zip ts).length = os.length := by rw [List.length_zip]; omega
  rw [lz] at D
  have ed : (os.zip ts).foldl (dgS m) (gs, []) = markD m gs os ts := rfl
  rw [ed] at D
  have eM : markM m gs os ts = (List.range (os.length - 1)).foldl (maS m os (markD m gs os ts).2) ((markD m gs os ts).1, []) := rfl
  have eW : markW m gs os ts = ((markM m gs os ts).1, (markM m gs os ts).2 ++ (markD m gs os ts).2.drop (os.length - 1)) := rfl
  generalize markD m gs os ts = S0 at *
  have ld : S0.2.length = os.length := by
    have := congrArg List.length (D.val (List.replicate m false) (by simp))
    rw [List.length_map, List.length_map, lz] at this
    exact this
  have dv : ∀ (vals : List Bool), vals.length = m → ∀ p, p < os.length → wb vals S0.1 (S0.2.getD p 0) = dB (os.map (wb vals gs)) (ts.map (wb vals gs)) p := fun vals hv p hp => by
    rw [← getD_mapB (e := wb vals S0.1) (by omega), D.val vals hv]
    unfold dB
    rw [getD_mapB hp, getD_mapB (by omega)]
    simp only [List.getD, List.getElem?_map, List.getElem?_zip_eq_some, List.getElem?_eq_getElem (show p < (os.zip ts).length by omega), List.getElem_zip, Option.map_some, Option.getD_some, List.getElem?_eq_getElem hp, List.getElem?_eq_getElem (show p < ts.length by omega)]
  have h := fold_inv (fun i (s : List Gt × List Nat) => Ext m S0.1 s.1 (5 * i) ∧ (∀ w ∈ s.2, w < m + s.1.length) ∧ ∀ vals : List Bool, vals.length = m → s.2.map (wb vals s.1) = (List.range i).map (mkB (os.map (wb vals gs)) (ts.map (wb vals gs)))) (maS m os S0.2) (List.range (os.length - 1)) (S0.1, []) ⟨.refl, (fun _ z => nomatch z), fun _ _ => rfl⟩ (fun i p s hp ⟨h1, h2, h3⟩ => by
    obtain ⟨hi, rfl⟩ := List.getElem?_eq_some_iff.mp hp
    rw [List.length_range] at hi
    rw [List.getElem_range] at hp ⊢
    have l := h1.len
    have lD := D.ext.len
    have dlt : ∀ q, q < os.length → S0.2.getD q 0 < m + S0.1.length := fun q hq => D.lt _ (getD_in (by omega))
    have olt : ∀ q, q < os.length → os.getD q 0 < m + gs.length := fun q hq => ho _ (getD_in hq)
    have B := barW_ok (m := m) (p := i) (os := os) (ds := S0.2) (gs := s.1) (by have := olt i (by omega); omega) (by have := olt (i + 1) (by omega); omega) (fun _ => by have := dlt (i - 1) (by omega); omega)
    have hms : maS m os S0.2 s i = ((barW m os S0.2 s.1 i).1 ++ [.w "both" [S0.2.getD (i + 1) 0, (barW m os S0.2 s.1 i).2]] ++ [.w "other" [m + (barW m os S0.2 s.1 i).1.length]] ++ [.w "both" [S0.2.getD i 0, m + ((barW m os S0.2 s.1 i).1 ++ [Gt.w "both" [S0.2.getD (i + 1) 0, (barW m os S0.2 s.1 i).2]]).length]],
      s.2 ++ [m + ((barW m os S0.2 s.1 i).1 ++ [Gt.w "both" [S0.2.getD (i + 1) 0, (barW m os S0.2 s.1 i).2]] ++ [Gt.w "other" [m + (barW m os S0.2 s.1 i).1.length]]).length]) := rfl
    rw [hms]
    clear hms
    generalize barW m os S0.2 s.1 i = b at *
    have lb := B.ext.len
    have d0 := dlt i (by omega)
    have d1 := dlt (i + 1) (by omega)
    have e1 : Ext m b.1 (b.1 ++ [.w "both" [S0.2.getD (i + 1) 0, b.2]]) 1 := .both (by omega) B.lt
    have e2 : Ext m (b.1 ++ [.w "both" [S0.2.getD (i + 1) 0, b.2]]) (b.1 ++ [.w "both" [S0.2.getD (i + 1) 0, b.2]] ++ [.w "other" [m + b.1.length]]) 1 := .other len1
    have e3 : Ext m (b.1 ++ [.w "both" [S0.2.getD (i + 1) 0, b.2]] ++ [.w "other" [m + b.1.length]]) (b.1 ++ [.w "both" [S0.2.getD (i + 1) 0, b.2]] ++ [.w "other" [m + b.1.length]] ++ [.w "both" [S0.2.getD i 0, m + (b.1 ++ [Gt.w "both" [S0.2.getD (i + 1) 0, b.2]]).length]]) 1 := .both (lt1 (lt1 (by omega))) len1
    have e := (e1.trans e2).trans e3
    have E := B.ext.trans e
    refine ⟨(h1.trans E).mono (by omega), fun a ha => ?_, fun vals hv => ?_⟩
    · rcases List.mem_append.mp ha with z | z
      · have := h2 a z
        have := E.len
        show a < m + (b.1 ++ [Gt.w "both" [S0.2.getD (i + 1) 0, b.2]] ++ [Gt.w "other" [m + b.1.length]] ++ [Gt.w "both" [S0.2.getD i 0, m + (b.1 ++ [Gt.w "both" [S0.2.getD (i + 1) 0, b.2]]).length]]).length
        omega
      · rw [List.mem_singleton.mp z]
        exact len1
    · show (s.2 ++ [_]).map (wb vals (b.1 ++ [Gt.w "both" [S0.2.getD (i + 1) 0, b.2]] ++ [Gt.w "other" [m + b.1.length]] ++ [Gt.w "both" [S0.2.getD i 0, m + (b.1 ++ [Gt.w "both" [S0.2.getD (i + 1) 0, b.2]]).length]])) = _
      rw [List.map_append, E.wbs hv h2, h3 vals hv, List.range_succ, List.map_append]
      congr 1
      show [_] = [_]
      congr 1
      rw [wb_both (hv ▸ rfl), (e1.trans e2).wb hv (by omega), wb_other (hv ▸ rfl), wb_both (hv ▸ rfl), B.ext.wb hv (by omega), B.ext.wb hv (by omega), B.val vals hv, h1.wb hv d0, h1.wb hv d1, dv vals hv i (by omega), dv vals hv (i + 1) (by omega)]
      unfold mkB
      rw [getD_mapB (by omega), getD_mapB (by omega), (D.ext.trans h1).wb hv (olt i (by omega)), (D.ext.trans h1).wb hv (olt (i + 1) (by omega))]
      by_cases c : i = 0
      · rw [if_pos c, if_pos c]
      · rw [if_neg c, if_neg c, h1.wb hv (dlt (i - 1) (by omega)), dv vals hv (i - 1) (by omega)])
  rw [← eM] at h
  generalize markM m gs os ts = S1 at *
  obtain ⟨h1, h2, h3⟩ := h
  rw [List.length_range] at h1 h3
  rw [eW]
  have l1 := h1.len
  refine ⟨(D.ext.trans h1).mono (by omega), fun w hw => ?_, fun vals hv => ?_⟩
  · rcases List.mem_append.mp hw with z | z
    · exact h2 w z
    · have := D.lt w (List.mem_of_mem_drop z)
      show w < m + S1.1.length
      omega
  · show (S1.2 ++ S0.2.drop (os.length - 1)).map (wb vals S1.1) = _
    unfold markB
    rw [List.map_append, h3 vals hv, List.length_map]
    conv => rhs; rw [show os.length = os.length - 1 + 1 from by omega, List.range_succ, List.map_append]
    congr 1
    have es : S0.2.drop (os.length - 1) = [S0.2.getD (os.length - 1) 0] := by
      rw [List.drop_eq_getElem_cons (by omega), List.drop_eq_nil_of_le (by omega)]
      simp only [List.getD, List.getElem?_eq_getElem (show os.length - 1 < S0.2.length by omega), Option.getD_some]
    rw [es]
    show [_] = [_]
    congr 1
    rw [h1.wb hv (D.lt _ (getD_in (by omega))), dv vals hv _ (by omega)]
    unfold mkB
    have e0 : dB (os.map (wb vals gs)) (ts.map (wb vals gs)) (os.length - 1 + 1) = false := by
      unfold dB
      rw [show os.length - 1 + 1 = os.length from by omega]
      simp [List.getD, hl]
    rw [e0]
    simp
/-! ### sums, products, orders of wires -/
theorem mem_zipR {os ts : List Nat} {p : Nat × Nat} (h : p ∈ os.reverse.zip ts.reverse) : p.1 ∈ os ∧ p.2 ∈ ts := ⟨List.mem_reverse.mp (List.of_mem_zip h).1, List.mem_reverse.mp (List.of_mem_zip h).2⟩
theorem zipR_len {os ts : List Nat} (h : os.length = ts.length) : (os.reverse.zip ts.reverse).length = os.length := by
  rw [List.length_zip, List.length_reverse, List.length_reverse]
  omega
theorem zipR_map (e : Nat → Bool) (os ts : List Nat) : (os.reverse.zip ts.reverse).map (fun p => (e p.1, e p.2)) = (os.map e).reverse.zip (ts.map e).reverse := by
  rw [← List.map_reverse, ← List.map_reverse, List.zip_map]
  rfl
theorem numB_rev_snoc (xs : List Bool) (b : Bool) : numB (xs ++ [b]).reverse = b.toNat * 2 ^ xs.length + numB xs.reverse := by
  rw [List.reverse_append, List.reverse_singleton, List.singleton_append, numB_cons, List.length_reverse]
theorem fst_zip' {α β : Type} : ∀ {l : List α} {r : List β}, l.length = r.length → (l.zip r).map (·.1) = l
  | [], [], _ => rfl
  | a :: l, b :: r, h => congrArg (a :: ·) (fst_zip' (Nat.succ.inj h))
theorem snd_zip' {α β : Type} : ∀ {l : List α} {r : List β}, l.length = r.length → (l.zip r).map (·.2) = r
  | [], [], _ => rfl
  | a :: l, b :: r, h => congrArg (b :: ·) (snd_zip' (Nat.succ.inj h))
def adF (s : List Bool × Bool) (p : Bool × Bool) : List Bool × Bool := (s.1 ++ [xor (xor p.1 p.2) s.2], (p.1 && p.2) || (xor p.1 p.2 && s.2))
def sumB (os ts : List Bool) (c : Bool) : List Bool := ((os.reverse.zip ts.reverse).foldl adF ([], c)).2 :: ((os.reverse.zip ts.reverse).foldl adF ([], c)).1.reverse
theorem adF_num (c : Bool) (ps : List (Bool × Bool)) : (ps.foldl adF ([], c)).1.length = ps.length ∧ numB (ps.foldl adF ([], c)).1.reverse + 2 ^ ps.length * (ps.foldl adF ([], c)).2.toNat = numB (ps.map (·.1)).reverse + numB (ps.map (·.2)).reverse + c.toNat := by
  have h := fold_inv (fun i (s : List Bool × Bool) => s.1.length = i ∧ numB s.1.reverse + 2 ^ i * s.2.toNat = numB ((ps.take i).map (·.1)).reverse + numB ((ps.take i).map (·.2)).reverse + c.toNat) adF ps ([], c) ⟨rfl, by simp [numB]⟩ (fun i p s hp ⟨h1, h2⟩ => by
    obtain ⟨hi, e⟩ := List.getElem?_eq_some_iff.mp hp
    have lt : (ps.take i).length = i := by rw [List.length_take]; omega
    refine ⟨by show (s.1 ++ [_]).length = _; rw [List.length_append, h1]; rfl, ?_⟩
    rw [List.take_add_one, hp]
    show numB (s.1 ++ [_]).reverse + 2 ^ (i + 1) * ((p.1 && p.2) || (xor p.1 p.2 && s.2)).toNat = numB ((ps.take i ++ [p]).map (·.1)).reverse + numB ((ps.take i ++ [p]).map (·.2)).reverse + c.toNat
    rw [List.map_append, List.map_append]
    show numB (s.1 ++ [_]).reverse + _ = numB ((ps.take i).map (·.1) ++ [p.1]).reverse + numB ((ps.take i).map (·.2) ++ [p.2]).reverse + _
    rw [numB_rev_snoc, numB_rev_snoc, numB_rev_snoc, h1, List.length_map, List.length_map, lt, Nat.pow_succ]
    generalize numB ((ps.take i).map (·.1)).reverse = A at *
    generalize numB ((ps.take i).map (·.2)).reverse = B at *
    generalize numB s.1.reverse = D at *
    generalize 2 ^ i = K at *
    generalize s.2 = d at *
    generalize p.1 = a
    generalize p.2 = b
    cases a <;> cases b <;> cases d <;> simp at h2 ⊢ <;> omega)
  rw [List.take_of_length_le (Nat.le_refl _)] at h
  exact h
theorem sumB_num {os ts : List Bool} {c : Bool} (h : os.length = ts.length) : numB (sumB os ts c) = numB os + numB ts + c.toNat := by
  have hz : (os.reverse.zip ts.reverse).length = os.length := by rw [List.length_zip, List.length_reverse, List.length_reverse]; omega
  obtain ⟨h1, h2⟩ := adF_num c (os.reverse.zip ts.reverse)
  rw [fst_zip' (by simpa using h), snd_zip' (by simpa using h), List.reverse_reverse, List.reverse_reverse] at h2
  unfold sumB
  rw [numB_cons, List.length_reverse, h1]
  rw [Nat.mul_comm] at h2
  omega
theorem sumB_len {os ts : List Bool} {c : Bool} (h : os.length = ts.length) : (sumB os ts c).length = os.length + 1 := by
  have hz : (os.reverse.zip ts.reverse).length = os.length := by rw [List.length_zip, List.length_reverse, List.length_reverse]; omega
  obtain ⟨h1, _⟩ := adF_num c (os.reverse.zip ts.reverse)
  unfold sumB
  rw [List.length_cons, List.length_reverse, h1, hz]
def suS (m : Nat) (s : List Gt × List Nat × Nat) (p : Nat × Nat) : List Gt × List Nat × Nat :=
  let g1 := s.1 ++ [.w "unlike" [p.1, p.2]]
  let g2 := g1 ++ [.w "unlike" [m + s.1.length, s.2.2]]
  let g3 := g2 ++ [.w "both" [p.1, p.2]]
  let g4 := g3 ++ [.w "both" [m + s.1.length, s.2.2]]
  let g5 := g4 ++ [.w "either" [m + g2.length, m + g3.length]]
  (g5, s.2.1 ++ [m + g1.length], m + g4.length)
def sumF (m : Nat) (gs : List Gt) (ps : List (Nat × Nat)) (c : Nat) : List Gt × List Nat × Nat := ps.foldl (suS m) (gs, [], c)
def sumW (m : Nat) (gs : List Gt) (os ts : List Nat) (c : Nat) : List Gt × List Nat := ((sumF m gs (os.reverse.zip ts.reverse) c).1, (sumF m gs (os.reverse.zip ts.reverse) c).2.2 :: (sumF m gs (os.reverse.zip ts.reverse) c).2.1.reverse)
theorem sumF_ok {m : Nat} {gs : List Gt} {ps : List (Nat × Nat)} {c : Nat} (hw : ∀ p ∈ ps, p.1 < m + gs.length ∧ p.2 < m + gs.length) (hc : c < m + gs.length) : ∀ i, i ≤ ps.length → ∀ s, s = sumF m gs (ps.take i) c → Ext m gs s.1 (5 * i) ∧ s.1.length = gs.length + 5 * i ∧ s.2.1.length = i ∧ (∀ w ∈ s.2.1, w < m + s.1.length) ∧ s.2.2 < m + s.1.length ∧ ∀ vals : List Bool, vals.length = m → (s.2.1.map (wb vals s.1), wb vals s.1 s.2.2) = ((ps.take i).map fun p => (wb vals gs p.1, wb vals gs p.2)).foldl adF ([], wb vals gs c) := by
  intro i
  induction i with
  | zero => exact fun _ s e => by subst e; exact ⟨.refl, rfl, rfl, (fun _ z => nomatch z), hc, fun vals _ => rfl⟩
  | succ i ih =>
    intro hi s e
    obtain ⟨p, hp⟩ : ∃ p, ps[i]? = some p := ⟨ps[i], List.getElem?_eq_getElem (by omega)⟩
    have es : sumF m gs (ps.take (i + 1)) c = suS m (sumF m gs (ps.take i) c) p := fold_take _ hp _
    obtain ⟨h1, hl, ht, h2, h4, h3⟩ := ih (by omega) _ rfl
    rw [e, es]
    clear e es
    generalize sumF m gs (ps.take i) c = s at *
    obtain ⟨q1, q2⟩ := hw p (List.mem_of_getElem? hp)
    have l := h1.len
    obtain ⟨g1, eg1⟩ : ∃ g, g = s.1 ++ [.w "unlike" [p.1, p.2]] := ⟨_, rfl⟩
    obtain ⟨g2, eg2⟩ : ∃ g, g = g1 ++ [.w "unlike" [m + s.1.length, s.2.2]] := ⟨_, rfl⟩
    obtain ⟨g3, eg3⟩ : ∃ g, g = g2 ++ [.w "both" [p.1, p.2]] := ⟨_, rfl⟩
    obtain ⟨g4, eg4⟩ : ∃ g, g = g3 ++ [.w "both" [m + s.1.length, s.2.2]] := ⟨_, rfl⟩
    obtain ⟨g5, eg5⟩ : ∃ g, g = g4 ++ [.w "either" [m + g2.length, m + g3.length]] := ⟨_, rfl⟩
    have hs : suS m s p = (g5, s.2.1 ++ [m + g1.length], m + g4.length) := by rw [eg5, eg4, eg3, eg2, eg1]; rfl
    have l1 : g1.length = s.1.length + 1 := by rw [eg1]; simp
    have l2 : g2.length = s.1.length + 2 := by rw [eg2]; simp [l1]
    have l3 : g3.length = s.1.length + 3 := by rw [eg3]; simp [l2]
    have l4 : g4.length = s.1.length + 4 := by rw [eg4]; simp [l3]
    have l5 : g5.length = s.1.length + 5 := by rw [eg5]; simp [l4]
    have e1 : Ext m s.1 g1 1 := eg1 ▸ .unlike (by omega) (by omega)
    have e2 : Ext m g1 g2 1 := eg2 ▸ .unlike (by omega) (by omega)
    have e3 : Ext m g2 g3 1 := eg3 ▸ .both (by omega) (by omega)
    have e4 : Ext m g3 g4 1 := eg4 ▸ .both (by omega) (by omega)
    have e5 : Ext m g4 g5 1 := eg5 ▸ .either (by omega) (by omega)
    have e35 := (e3.trans e4).trans e5
    have e25 := e2.trans e35
    have e := e1.trans e25
    rw [hs]
    refine ⟨(h1.trans e).mono (by omega), by show g5.length = _; omega, by show (s.2.1 ++ [_]).length = _; rw [List.length_append, ht]; rfl, fun a ha => ?_, by show m + g4.length < m + g5.length; omega, fun vals hv => ?_⟩
    · rcases List.mem_append.mp ha with z | z
      · have := h2 a z
        show a < m + g5.length
        omega
      · rw [List.mem_singleton.mp z]
        show m + g1.length < m + g5.length
        omega
    · have ef : ((ps.take (i + 1)).map (fun p => (wb vals gs p.1, wb vals gs p.2))).foldl adF ([], wb vals gs c) = adF (((ps.take i).map (fun p => (wb vals gs p.1, wb vals gs p.2))).foldl adF ([], wb vals gs c)) (wb vals gs p.1, wb vals gs p.2) := by
        rw [List.take_add_one, hp, List.map_append, List.foldl_append]
        rfl
      rw [ef, ← h3 vals hv]
      have v1 : wb vals g1 (m + s.1.length) = xor (wb vals gs p.1) (wb vals gs p.2) := by
        rw [eg1, wb_unlike (hv ▸ rfl), h1.wb hv q1, h1.wb hv q2]
      have v2 : wb vals g2 (m + g1.length) = xor (xor (wb vals gs p.1) (wb vals gs p.2)) (wb vals s.1 s.2.2) := by
        rw [eg2, wb_unlike (hv ▸ rfl), v1, e1.wb hv h4]
      have v3 : wb vals g3 (m + g2.length) = (wb vals gs p.1 && wb vals gs p.2) := by
        rw [eg3, wb_both (hv ▸ rfl), (e1.trans e2).wb hv (by omega), (e1.trans e2).wb hv (by omega), h1.wb hv q1, h1.wb hv q2]
      have v4 : wb vals g4 (m + g3.length) = (xor (wb vals gs p.1) (wb vals gs p.2) && wb vals s.1 s.2.2) := by
        rw [eg4, wb_both (hv ▸ rfl), (e2.trans e3).wb hv (by omega), ((e1.trans e2).trans e3).wb hv h4, v1]
      have v5 : wb vals g5 (m + g4.length) = ((wb vals gs p.1 && wb vals gs p.2) || (xor (wb vals gs p.1) (wb vals gs p.2) && wb vals s.1 s.2.2)) := by
        rw [eg5, wb_either (hv ▸ rfl), e4.wb hv (by omega), v3, v4]
      show ((s.2.1 ++ [m + g1.length]).map (wb vals g5), wb vals g5 (m + g4.length)) = (s.2.1.map (wb vals s.1) ++ [_], _)
      rw [List.map_append, e.wbs hv h2, v5]
      congr 1
      congr 1
      show [_] = [_]
      congr 1
      rw [e35.wb hv (by omega), v2]
theorem sumW_ok {m : Nat} {gs : List Gt} {os ts : List Nat} {c : Nat} (hl : os.length = ts.length) (ho : ∀ w ∈ os, w < m + gs.length) (ht : ∀ w ∈ ts, w < m + gs.length) (hc : c < m + gs.length) : WL m gs (5 * os.length) (sumW m gs os ts c) (fun e => sumB (os.map e) (ts.map e) (e c)) := by
  obtain ⟨h1, _, _, h2, h4, h3⟩ := sumF_ok (ps := os.reverse.zip ts.reverse) (fun p hp => ⟨ho _ (mem_zipR hp).1, ht _ (mem_zipR hp).2⟩) hc _ (Nat.le_refl _) _ rfl
  rw [List.take_length] at h1 h2 h4 h3
  rw [zipR_len hl] at h1
  unfold sumW
  generalize sumF m gs (os.reverse.zip ts.reverse) c = s at *
  refine ⟨h1, fun w hw => ?_, fun vals hv => ?_⟩
  · rcases List.mem_cons.mp hw with z | z
    · exact z ▸ h4
    · exact h2 w (List.mem_reverse.mp z)
  · show (s.2.2 :: s.2.1.reverse).map (wb vals s.1) = _
    have h := h3 vals hv
    unfold sumB
    rw [← zipR_map, ← h, List.map_cons, List.map_reverse]
theorem sumW_len {m : Nat} {gs : List Gt} {os ts : List Nat} {c : Nat} (hl : os.length = ts.length) (ho : ∀ w ∈ os, w < m + gs.length) (ht : ∀ w ∈ ts, w < m + gs.length) (hc : c < m + gs.length) : (sumW m gs os ts c).2.length = os.length + 1 := by
  have := congrArg List.length ((sumW_ok hl ho ht hc).val (List.replicate m false) (by simp))
  rw [List.length_map, sumB_len (by rw [List.length_map, List.length_map, hl]), List.length_map] at this
  exact this
/-! ### less -/
def leF (l : Bool) (p : Bool × Bool) : Bool := (!p.1 && p.2) || ((!p.1 || p.2) && l)
def lessB (os ts : List Bool) : Bool := (os.reverse.zip ts.reverse).foldl leF false
theorem leF_num (ps : List (Bool × Bool)) : ps.foldl leF false = decide (numB (ps.map (·.1)).reverse < numB (ps.map (·.2)).reverse) := by
  have h := fold_inv (fun i (s : Bool) => s = decide (numB ((ps.take i).map (·.1)).reverse < numB ((ps.take i).map (·.2)).reverse)) leF ps false (by simp [numB]) (fun i p s hp h2 => by
    obtain ⟨hi, e⟩ := List.getElem?_eq_some_iff.mp hp
    have lt : (ps.take i).length = i := by rw [List.length_take]; omega
    rw [List.take_add_one, hp]
    show leF s p = decide (numB ((ps.take i ++ [p]).map (·.1)).reverse < numB ((ps.take i ++ [p]).map (·.2)).reverse)
    rw [List.map_append, List.map_append]
    show _ = decide (numB ((ps.take i).map (·.1) ++ [p.1]).reverse < numB ((ps.take i).map (·.2) ++ [p.2]).reverse)
    have b1 := numB_lt ((ps.take i).map (·.1)).reverse
    have b2 := numB_lt ((ps.take i).map (·.2)).reverse
    rw [List.length_reverse, List.length_map, lt] at b1 b2
    rw [numB_rev_snoc, numB_rev_snoc, List.length_map, List.length_map, lt, h2]
    generalize numB ((ps.take i).map (·.1)).reverse = A at *
    generalize numB ((ps.take i).map (·.2)).reverse = B at *
    generalize 2 ^ i = K at *
    unfold leF
    generalize p.1 = a
    generalize p.2 = b
    cases a <;> cases b <;> simp <;> omega)
  rw [List.take_of_length_le (Nat.le_refl _)] at h
  exact h
theorem lessB_num {os ts : List Bool} (h : os.length = ts.length) : lessB os ts = decide (numB os < numB ts) := by
  unfold lessB
  rw [leF_num, fst_zip' (by simpa using h), snd_zip' (by simpa using h), List.reverse_reverse, List.reverse_reverse]
def leS (m : Nat) (s : List Gt × Nat) (p : Nat × Nat) : List Gt × Nat :=
  let g1 := s.1 ++ [.w "other" [p.1]]
  let g2 := g1 ++ [.w "both" [m + s.1.length, p.2]]
  let g3 := g2 ++ [.w "either" [m + s.1.length, p.2]]
  let g4 := g3 ++ [.w "both" [m + g2.length, s.2]]
  let g5 := g4 ++ [.w "either" [m + g1.length, m + g3.length]]
  (g5, m + g4.length)
def lessF (m : Nat) (gs : List Gt) (ps : List (Nat × Nat)) : List Gt × Nat := ps.foldl (leS m) (gs ++ [.fi 0], m + gs.length)
def lessW (m : Nat) (gs : List Gt) (os ts : List Nat) : List Gt × Nat := lessF m gs (os.reverse.zip ts.reverse)
theorem lessF_ok {m : Nat} {gs : List Gt} {ps : List (Nat × Nat)} (hw : ∀ p ∈ ps, p.1 < m + gs.length ∧ p.2 < m + gs.length) : ∀ i, i ≤ ps.length → ∀ s, s = lessF m gs (ps.take i) → Ext m gs s.1 (5 * i + 1) ∧ s.1.length = gs.length + 5 * i + 1 ∧ s.2 < m + s.1.length ∧ ∀ vals : List Bool, vals.length = m → wb vals s.1 s.2 = ((ps.take i).map fun p => (wb vals gs p.1, wb vals gs p.2)).foldl leF false := by
  intro i
  induction i with
  | zero =>
    intro _ s e
    subst e
    refine ⟨(Ext.fixed (Nat.zero_le _)).mono (Nat.le_refl _), by show (gs ++ [_]).length = _; simp, len1, fun vals hv => ?_⟩
    show wb vals (gs ++ [.fi 0]) (m + gs.length) = false
    rw [wb_fixed (hv ▸ rfl)]
    rfl
  | succ i ih =>
    intro hi s e
    obtain ⟨p, hp⟩ : ∃ p, ps[i]? = some p := ⟨ps[i], List.getElem?_eq_getElem (by omega)⟩
    have es : lessF m gs (ps.take (i + 1)) = leS m (lessF m gs (ps.take i)) p := fold_take _ hp _
    obtain ⟨h1, hl, h4, h3⟩ := ih (by omega) _ rfl
    rw [e, es]
    clear e es
    generalize lessF m gs (ps.take i) = s at *
    obtain ⟨q1, q2⟩ := hw p (List.mem_of_getElem? hp)
    have l := h1.len
    obtain ⟨g1, eg1⟩ : ∃ g, g = s.1 ++ [.w "other" [p.1]] := ⟨_, rfl⟩
    obtain ⟨g2, eg2⟩ : ∃ g, g = g1 ++ [.w "both" [m + s.1.length, p.2]] := ⟨_, rfl⟩
    obtain ⟨g3, eg3⟩ : ∃ g, g = g2 ++ [.w "either" [m + s.1.length, p.2]] := ⟨_, rfl⟩
    obtain ⟨g4, eg4⟩ : ∃ g, g = g3 ++ [.w "both" [m + g2.length, s.2]] := ⟨_, rfl⟩
    obtain ⟨g5, eg5⟩ : ∃ g, g = g4 ++ [.w "either" [m + g1.length, m + g3.length]] := ⟨_, rfl⟩
    have hs : leS m s p = (g5, m + g4.length) := by rw [eg5, eg4, eg3, eg2, eg1]; rfl
    have l1 : g1.length = s.1.length + 1 := by rw [eg1]; simp
    have l2 : g2.length = s.1.length + 2 := by rw [eg2]; simp [l1]
    have l3 : g3.length = s.1.length + 3 := by rw [eg3]; simp [l2]
    have l4 : g4.length = s.1.length + 4 := by rw [eg4]; simp [l3]
    have l5 : g5.length = s.1.length + 5 := by rw [eg5]; simp [l4]
    have e1 : Ext m s.1 g1 1 := eg1 ▸ .other (by omega)
    have e2 : Ext m g1 g2 1 := eg2 ▸ .both (by omega) (by omega)
    have e3 : Ext m g2 g3 1 := eg3 ▸ .either (by omega) (by omega)
    have e4 : Ext m g3 g4 1 := eg4 ▸ .both (by omega) (by omega)
    have e5 : Ext m g4 g5 1 := eg5 ▸ .either (by omega) (by omega)
    have e12 := e1.trans e2
    have e13 := e12.trans e3
    have e := (e13.trans e4).trans e5
    rw [hs]
    refine ⟨(h1.trans e).mono (by omega), by show g5.length = _; omega, by show m + g4.length < m + g5.length; omega, fun vals hv => ?_⟩
    · have ef : ((ps.take (i + 1)).map (fun p => (wb vals gs p.1, wb vals gs p.2))).foldl leF false = leF (((ps.take i).map (fun p => (wb vals gs p.1, wb vals gs p.2))).foldl leF false) (wb vals gs p.1, wb vals gs p.2) := by
        rw [List.take_add_one, hp, List.map_append, List.foldl_append]
        rfl
      rw [ef, ← h3 vals hv]
      have v1 : wb vals g1 (m + s.1.length) = !(wb vals gs p.1) := by
        rw [eg1, wb_other (hv ▸ rfl), h1.wb hv q1]
      have v2 : wb vals g2 (m + g1.length) = (!(wb vals gs p.1) && wb vals gs p.2) := by
        rw [eg2, wb_both (hv ▸ rfl), v1, e1.wb hv (by omega), h1.wb hv q2]
      have v3 : wb vals g3 (m + g2.length) = (!(wb vals gs p.1) || wb vals gs p.2) := by
        rw [eg3, wb_either (hv ▸ rfl), e2.wb hv (by omega), v1, e12.wb hv (by omega), h1.wb hv q2]
      have v4 : wb vals g4 (m + g3.length) = ((!(wb vals gs p.1) || wb vals gs p.2) && wb vals s.1 s.2) := by
        rw [eg4, wb_both (hv ▸ rfl), v3, e13.wb hv h4]
      show wb vals g5 (m + g4.length) = leF (wb vals s.1 s.2) (wb vals gs p.1, wb vals gs p.2)
      rw [eg5, wb_either (hv ▸ rfl), (e3.trans e4).wb hv (by omega), v2, v4]
      rfl
theorem lessW_ok {m : Nat} {gs : List Gt} {os ts : List Nat} (hl : os.length = ts.length) (ho : ∀ w ∈ os, w < m + gs.length) (ht : ∀ w ∈ ts, w < m + gs.length) : W1 m gs (5 * os.length + 1) (lessW m gs os ts) (fun e => lessB (os.map e) (ts.map e)) := by
  obtain ⟨h1, _, h4, h3⟩ := lessF_ok (ps := os.reverse.zip ts.reverse) (fun p hp => ⟨ho _ (mem_zipR hp).1, ht _ (mem_zipR hp).2⟩) _ (Nat.le_refl _) _ rfl
  rw [List.take_length] at h1 h4 h3
  rw [zipR_len hl] at h1
  unfold lessW
  refine ⟨h1, h4, fun vals hv => ?_⟩
  have h := h3 vals hv
  unfold lessB
  rw [← zipR_map, ← h]
/-! ### one more by a bit -/
def raS (m : Nat) (s : List Gt × List Nat × Nat) (a : Nat) : List Gt × List Nat × Nat :=
  let g1 := s.1 ++ [.w "unlike" [a, s.2.2]]
  let g2 := g1 ++ [.w "both" [a, s.2.2]]
  (g2, s.2.1 ++ [m + s.1.length], m + g1.length)
def raiF (m : Nat) (gs : List Gt) (os : List Nat) (w : Nat) : List Gt × List Nat × Nat := os.foldl (raS m) (gs, [], w)
def raiW (m : Nat) (gs : List Gt) (os : List Nat) (w : Nat) : List Gt × List Nat := ((raiF m gs os.reverse w).1, (raiF m gs os.reverse w).2.2 :: (raiF m gs os.reverse w).2.1.reverse)
def raF (s : List Bool × Bool) (a : Bool) : List Bool × Bool := (s.1 ++ [xor a s.2], a && s.2)
def raiB (os : List Bool) (w : Bool) : List Bool := (os.reverse.foldl raF ([], w)).2 :: (os.reverse.foldl raF ([], w)).1.reverse
theorem raF_num (c : Bool) (ps : List Bool) : (ps.foldl raF ([], c)).1.length = ps.length ∧ numB (ps.foldl raF ([], c)).1.reverse + 2 ^ ps.length * (ps.foldl raF ([], c)).2.toNat = numB ps.reverse + c.toNat := by
  have h := fold_inv (fun i (s : List Bool × Bool) => s.1.length = i ∧ numB s.1.reverse + 2 ^ i * s.2.toNat = numB (ps.take i).reverse + c.toNat) raF ps ([], c) ⟨rfl, by simp [numB]⟩ (fun i p s hp ⟨h1, h2⟩ => by
    obtain ⟨hi, e⟩ := List.getElem?_eq_some_iff.mp hp
    have lt : (ps.take i).length = i := by rw [List.length_take]; omega
    refine ⟨by show (s.1 ++ [_]).length = _; rw [List.length_append, h1]; rfl, ?_⟩
    rw [List.take_add_one, hp]
    show numB (s.1 ++ [_]).reverse + 2 ^ (i + 1) * (p && s.2).toNat = numB (ps.take i ++ [p]).reverse + c.toNat
    rw [numB_rev_snoc, numB_rev_snoc, h1, lt, Nat.pow_succ]
    generalize numB (ps.take i).reverse = A at *
    generalize numB s.1.reverse = D at *
    generalize 2 ^ i = K at *
    generalize s.2 = d at *
    cases p <;> cases d <;> simp at h2 ⊢ <;> omega)
  rw [List.take_of_length_le (Nat.le_refl _)] at h
  exact h
theorem raiB_num {os : List Bool} {c : Bool} : numB (raiB os c) = numB os + c.toNat := by
  obtain ⟨h1, h2⟩ := raF_num c os.reverse
  rw [List.reverse_reverse, Nat.mul_comm] at h2
  unfold raiB
  rw [numB_cons, List.length_reverse, h1]
  omega
theorem raiB_len {os : List Bool} {c : Bool} : (raiB os c).length = os.length + 1 := by
  obtain ⟨h1, _⟩ := raF_num c os.reverse
  unfold raiB
  rw [List.length_cons, List.length_reverse, h1, List.length_reverse]
theorem raiF_ok {m : Nat} {gs : List Gt} {ps : List Nat} {c : Nat} (hw : ∀ p ∈ ps, p < m + gs.length) (hc : c < m + gs.length) : ∀ i, i ≤ ps.length → ∀ s, s = raiF m gs (ps.take i) c → Ext m gs s.1 (2 * i) ∧ s.1.length = gs.length + 2 * i ∧ s.2.1.length = i ∧ (∀ w ∈ s.2.1, w < m + s.1.length) ∧ s.2.2 < m + s.1.length ∧ ∀ vals : List Bool, vals.length = m → (s.2.1.map (wb vals s.1), wb vals s.1 s.2.2) = ((ps.take i).map (wb vals gs)).foldl raF ([], wb vals gs c) := by
  intro i
  induction i with
  | zero => exact fun _ s e => by subst e; exact ⟨.refl, rfl, rfl, (fun _ z => nomatch z), hc, fun vals _ => rfl⟩
  | succ i ih =>
    intro hi s e
    obtain ⟨p, hp⟩ : ∃ p, ps[i]? = some p := ⟨ps[i], List.getElem?_eq_getElem (by omega)⟩
    have es : raiF m gs (ps.take (i + 1)) c = raS m (raiF m gs (ps.take i) c) p := fold_take _ hp _
    obtain ⟨h1, hl, ht, h2, h4, h3⟩ := ih (by omega) _ rfl
    rw [e, es]
    clear e es
    generalize raiF m gs (ps.take i) c = s at *
    have q1 := hw p (List.mem_of_getElem? hp)
    have l := h1.len
    obtain ⟨g1, eg1⟩ : ∃ g, g = s.1 ++ [.w "unlike" [p, s.2.2]] := ⟨_, rfl⟩
    obtain ⟨g2, eg2⟩ : ∃ g, g = g1 ++ [.w "both" [p, s.2.2]] := ⟨_, rfl⟩
    have hs : raS m s p = (g2, s.2.1 ++ [m + s.1.length], m + g1.length) := by rw [eg2, eg1]; rfl
    have l1 : g1.length = s.1.length + 1 := by rw [eg1]; simp
    have l2 : g2.length = s.1.length + 2 := by rw [eg2]; simp [l1]
    have e1 : Ext m s.1 g1 1 := eg1 ▸ .unlike (by omega) (by omega)
    have e2 : Ext m g1 g2 1 := eg2 ▸ .both (by omega) (by omega)
    have e := e1.trans e2
    rw [hs]
    refine ⟨(h1.trans e).mono (by omega), by show g2.length = _; omega, by show (s.2.1 ++ [_]).length = _; rw [List.length_append, ht]; rfl, fun a ha => ?_, by show m + g1.length < m + g2.length; omega, fun vals hv => ?_⟩
    · rcases List.mem_append.mp ha with z | z
      · have := h2 a z
        show a < m + g2.length
        omega
      · rw [List.mem_singleton.mp z]
        show m + s.1.length < m + g2.length
        omega
    · have ef : ((ps.take (i + 1)).map (wb vals gs)).foldl raF ([], wb vals gs c) = raF (((ps.take i).map (wb vals gs)).foldl raF ([], wb vals gs c)) (wb vals gs p) := by
        rw [List.take_add_one, hp, List.map_append, List.foldl_append]
        rfl
      rw [ef, ← h3 vals hv]
      have v1 : wb vals g1 (m + s.1.length) = xor (wb vals gs p) (wb vals s.1 s.2.2) := by
        rw [eg1, wb_unlike (hv ▸ rfl), h1.wb hv q1]
      have v2 : wb vals g2 (m + g1.length) = (wb vals gs p && wb vals s.1 s.2.2) := by
        rw [eg2, wb_both (hv ▸ rfl), e1.wb hv (by omega), e1.wb hv h4, h1.wb hv q1]
      show ((s.2.1 ++ [m + s.1.length]).map (wb vals g2), wb vals g2 (m + g1.length)) = (s.2.1.map (wb vals s.1) ++ [_], _)
      rw [List.map_append, e.wbs hv h2, v2]
      congr 1
      congr 1
      show [_] = [_]
      congr 1
      rw [e2.wb hv (by omega), v1]
theorem raiW_ok {m : Nat} {gs : List Gt} {os : List Nat} {c : Nat} (ho : ∀ w ∈ os, w < m + gs.length) (hc : c < m + gs.length) : WL m gs (2 * os.length) (raiW m gs os c) (fun e => raiB (os.map e) (e c)) := by
  obtain ⟨h1, _, _, h2, h4, h3⟩ := raiF_ok (ps := os.reverse) (fun p hp => ho _ (List.mem_reverse.mp hp)) hc _ (Nat.le_refl _) _ rfl
  rw [List.take_length] at h1 h2 h4 h3
  rw [List.length_reverse] at h1
  unfold raiW
  generalize raiF m gs os.reverse c = s at *
  refine ⟨h1, fun w hw => ?_, fun vals hv => ?_⟩
  · rcases List.mem_cons.mp hw with z | z
    · exact z ▸ h4
    · exact h2 w (List.mem_reverse.mp z)
  · show (s.2.2 :: s.2.1.reverse).map (wb vals s.1) = _
    have h := h3 vals hv
    unfold raiB
    rw [← List.map_reverse, ← h, List.map_cons, List.map_reverse]
theorem raiW_len {m : Nat} {gs : List Gt} {os : List Nat} {c : Nat} (ho : ∀ w ∈ os, w < m + gs.length) (hc : c < m + gs.length) : (raiW m gs os c).2.length = os.length + 1 := by
  have := congrArg List.length ((raiW_ok ho hc).val (List.replicate m false) (by simp))
  rw [List.length_map, raiB_len, List.length_map] at this
  exact this
/-! ### products -/
def rwS (m o : Nat) (s : List Gt × List Nat) (a : Nat) : List Gt × List Nat := (s.1 ++ [.w "both" [a, o]], s.2 ++ [m + s.1.length])
def rowW (m : Nat) (gs : List Gt) (os : List Nat) (o : Nat) : List Gt × List Nat := os.foldl (rwS m o) (gs, [])
theorem rowW_at {m o : Nat} {gs : List Gt} : ∀ (os : List Nat) (s : List Gt × List Nat), (os.foldl (rwS m o) s).1.length = s.1.length + os.length ∧ (os.foldl (rwS m o) s).2.length = s.2.length + os.length
  | [], s => ⟨rfl, rfl⟩
  | a :: l, s => by
    obtain ⟨h1, h2⟩ := rowW_at (gs := gs) l (rwS m o s a)
    rw [List.foldl_cons, h1, h2]
    unfold rwS
    simp only [List.length_append, List.length_cons, List.length_nil]
    omega
theorem rowW_ok {m o : Nat} {gs : List Gt} {os : List Nat} (hw : ∀ p ∈ os, p < m + gs.length) (hO : o < m + gs.length) : WL m gs os.length (rowW m gs os o) (fun e => os.map fun p => (e p && e o)) := by
  have h := fold_inv (fun i (s : List Gt × List Nat) => Ext m gs s.1 i ∧ (∀ w ∈ s.2, w < m + s.1.length) ∧ ∀ vals : List Bool, vals.length = m → s.2.map (wb vals s.1) = (os.take i).map fun p => (wb vals gs p && wb vals gs o)) (rwS m o) os (gs, []) ⟨.refl, (fun _ z => nomatch z), fun _ _ => rfl⟩ (fun i p s hp ⟨h1, h2, h3⟩ => by
    have q1 := hw p (List.mem_of_getElem? hp)
    have l := h1.len
    have e : Ext m s.1 (s.1 ++ [.w "both" [p, o]]) 1 := .both (by omega) (by omega)
    refine ⟨h1.trans e, fun a ha => ?_, fun vals hv => ?_⟩
    · rcases List.mem_append.mp ha with z | z
      · exact lt1 (h2 a z)
      · rw [List.mem_singleton.mp z]
        exact len1
    · show (s.2 ++ [_]).map (wb vals (s.1 ++ [Gt.w "both" [p, o]])) = _
      rw [List.map_append, e.wbs hv h2, h3 vals hv, List.take_add_one, hp, List.map_append]
      congr 1
      show [_] = [_]
      congr 1
      rw [wb_both (hv ▸ rfl), h1.wb hv q1, h1.wb hv hO])
  obtain ⟨h1, h2, h3⟩ := h
  exact ⟨h1, h2, fun vals hv => by
    rw [List.take_of_length_le (Nat.le_refl _)] at h3
    exact h3 vals hv⟩
theorem rowB_num (b : Bool) : ∀ os : List Bool, numB (os.map (· && b)) = numB os * b.toNat
  | [] => by simp [numB]
  | a :: os => by
    rw [List.map_cons, numB_cons, numB_cons, List.length_map, rowB_num b os]
    cases a <;> cases b <;> simp
def tiS (m : Nat) (os : List Nat) (z : Nat) (s : List Gt × List Nat × List Nat) (o : Nat) : List Gt × List Nat × List Nat :=
  let R := rowW m s.1 os o
  let S := sumW m R.1 s.2.1 R.2 z
  (S.1, S.2.dropLast, s.2.2 ++ [S.2.getLastD 0])
def timF (m : Nat) (gs : List Gt) (os ts : List Nat) : List Gt × List Nat × List Nat := ts.foldl (tiS m os (m + gs.length)) (gs ++ [.fi 0], List.replicate os.length (m + gs.length), [])
def timW (m : Nat) (gs : List Gt) (os ts : List Nat) : List Gt × List Nat := ((timF m gs os ts.reverse).1, (timF m gs os ts.reverse).2.1 ++ (timF m gs os ts.reverse).2.2.reverse)
theorem dl_last {α : Type} {l : List α} {d : α} (h : l ≠ []) : l = l.dropLast ++ [l.getLastD d] := by
  have := (List.dropLast_concat_getLast h).symm
  rw [List.getLastD_eq_getLast?, List.getLast?_eq_some_getLast h]
  exact this
theorem timF_ok {m : Nat} {gs : List Gt} {os ts : List Nat} (ho : ∀ p ∈ os, p < m + gs.length) (ht : ∀ p ∈ ts, p < m + gs.length) (h0 : 0 < os.length) : ∀ i, i ≤ ts.length → ∀ s, s = timF m gs os (ts.take i) → Ext m gs s.1 (6 * os.length * i + 1) ∧ gs.length < s.1.length ∧ s.2.1.length = os.length ∧ s.2.2.length = i ∧ (∀ w ∈ s.2.1, w < m + s.1.length) ∧ (∀ w ∈ s.2.2, w < m + s.1.length) ∧ (∀ vals : List Bool, vals.length = m → wb vals s.1 (m + gs.length) = false) ∧ ∀ vals : List Bool, vals.length = m → numB (s.2.1.map (wb vals s.1)) * 2 ^ i + numB (s.2.2.map (wb vals s.1)).reverse = numB (os.map (wb vals gs)) * numB ((ts.take i).map (wb vals gs)).reverse := by
  intro i
  induction i with
  | zero =>
    intro _ s e
    subst e
    have e0 : Ext m gs (gs ++ [.fi 0]) 1 := .fixed (Nat.zero_le _)
    have v0 : ∀ vals : List Bool, vals.length = m → wb vals (gs ++ [.fi 0]) (m + gs.length) = false := fun vals hv => by
      rw [wb_fixed (hv ▸ rfl)]
      rfl
    refine ⟨e0.mono (Nat.le_add_left _ _), by show _ < (gs ++ [_]).length; simp, by show (List.replicate _ _).length = _; simp, rfl, fun w hw => ?_, (fun _ z => nomatch z), v0, fun vals hv => ?_⟩
    · have : w = m + gs.length := (List.mem_replicate.mp hw).2
      rw [this]
      exact len1
    · show numB ((List.replicate os.length (m + gs.length)).map (wb vals (gs ++ [.fi 0]))) * 2 ^ 0 + 0 = numB _ * 0
      rw [List.map_replicate, v0 vals hv, numB_rep]
      simp
  | succ i ih =>
    intro hi s e
    obtain ⟨p, hp⟩ : ∃ p, ts[i]? = some p := ⟨ts[i], List.getElem?_eq_getElem (by omega)⟩
    have es : timF m gs os (ts.take (i + 1)) = tiS m os (m + gs.length) (timF m gs os (ts.take i)) p := fold_take _ hp _
    obtain ⟨h1, hl, ht1, ht2, h2, h2', h4, h3⟩ := ih (by omega) _ rfl
    rw [e, es]
    clear e es
    generalize timF m gs os (ts.take i) = s at *
    have q1 := ht p (List.mem_of_getElem? hp)
    have l := h1.len
    have R := rowW_ok (m := m) (o := p) (gs := s.1) (os := os) (fun a ha => by have := ho a ha; omega) (by omega)
    have hs : tiS m os (m + gs.length) s p = ((sumW m (rowW m s.1 os p).1 s.2.1 (rowW m s.1 os p).2 (m + gs.length)).1, (sumW m (rowW m s.1 os p).1 s.2.1 (rowW m s.1 os p).2 (m + gs.length)).2.dropLast, s.2.2 ++ [(sumW m (rowW m s.1 os p).1 s.2.1 (rowW m s.1 os p).2 (m + gs.length)).2.getLastD 0]) := rfl
    rw [hs]
    clear hs
    have lR : (rowW m s.1 os p).2.length = os.length := by
      have := (rowW_at (m := m) (o := p) (gs := gs) os (s.1, [])).2
      rw [List.length_nil, Nat.zero_add] at this
      exact this
    have lRe := R.ext.len
    generalize rowW m s.1 os p = R0 at *
    have hl2 : s.2.1.length = R0.2.length := by omega
    have S := sumW_ok (m := m) (gs := R0.1) (os := s.2.1) (ts := R0.2) (c := m + gs.length) hl2 (fun a ha => by have := h2 a ha; omega) R.lt (by omega)
    have lS := sumW_len (m := m) (gs := R0.1) (os := s.2.1) (ts := R0.2) (c := m + gs.length) hl2 (fun a ha => by have := h2 a ha; omega) R.lt (by omega)
    generalize sumW m R0.1 s.2.1 R0.2 (m + gs.length) = S0 at *
    have lSe := S.ext.len
    have hne : S0.2 ≠ [] := fun z => by rw [z] at lS; cases lS
    have dl := dl_last (d := 0) hne
    have lD : S0.2.dropLast.length = os.length := by rw [List.length_dropLast]; omega
    have eRS := R.ext.trans S.ext
    refine ⟨((h1.trans R.ext).trans S.ext).mono ?_, by show _ < S0.1.length; omega, lD, by show (s.2.2 ++ [_]).length = _; rw [List.length_append, ht2]; rfl, fun w hw => S.lt w (List.dropLast_subset _ hw), fun w hw => ?_, fun vals hv => ?_, fun vals hv => ?_⟩
    · rw [ht1, Nat.mul_succ, show 6 * os.length = 5 * os.length + os.length by omega]
      omega
    · show w < m + S0.1.length
      rcases List.mem_append.mp hw with z | z
      · have := h2' w z
        omega
      · rw [List.mem_singleton.mp z]
        refine S.lt _ ?_
        have t : S0.2.getLastD 0 ∈ S0.2.dropLast ++ [S0.2.getLastD 0] := List.mem_append.mpr (.inr (List.mem_singleton.mpr rfl))
        rw [← dl] at t
        exact t
    · exact (eRS.wb hv (by omega)).trans (h4 vals hv)
    · have v := S.val vals hv
      rw [dl, List.map_append] at v
      have vn := congrArg numB v
      rw [sumB_num (by simpa using hl2)] at vn
      rw [R.ext.wbs hv h2, R.val vals hv] at vn
      have z0 : wb vals R0.1 (m + gs.length) = false := (R.ext.wb hv (by omega)).trans (h4 vals hv)
      rw [z0] at vn
      have er : (os.map fun q => (wb vals s.1 q && wb vals s.1 p)) = (os.map (wb vals gs)).map (· && wb vals gs p) := by
        rw [List.map_map]
        refine List.map_congr_left fun q hq => ?_
        show _ = (wb vals gs q && wb vals gs p)
        rw [h1.wb hv (ho q hq), h1.wb hv q1]
      rw [er, rowB_num] at vn
      have e1 : numB (List.map (wb vals S0.1) S0.2.dropLast ++ List.map (wb vals S0.1) [S0.2.getLastD 0]) = 2 * numB (S0.2.dropLast.map (wb vals S0.1)) + (wb vals S0.1 (S0.2.getLastD 0)).toNat := numB_snoc _ _
      rw [e1] at vn
      have h := h3 vals hv
      show numB (S0.2.dropLast.map (wb vals S0.1)) * 2 ^ (i + 1) + numB ((s.2.2 ++ [S0.2.getLastD 0]).map (wb vals S0.1)).reverse = _
      rw [List.map_append, eRS.wbs hv h2']
      show _ + numB (List.map (wb vals s.1) s.2.2 ++ [_]).reverse = _
      rw [numB_rev_snoc, List.length_map, ht2, List.take_add_one, hp, List.map_append]
      show _ = numB _ * numB ((ts.take i).map (wb vals gs) ++ [_]).reverse
      rw [numB_rev_snoc, List.length_map, show (ts.take i).length = i by rw [List.length_take]; omega, Nat.mul_add, ← h]
      generalize numB (S0.2.dropLast.map (wb vals S0.1)) = D at *
      generalize (wb vals S0.1 (S0.2.getLastD 0)).toNat = L at *
      generalize numB (s.2.1.map (wb vals s.1)) = T at *
      generalize numB (os.map (wb vals gs)) = O at *
      generalize (wb vals gs p).toNat = B at *
      generalize numB (s.2.2.map (wb vals s.1)).reverse = F at *
      have vn' : (2 * D + L) * 2 ^ i = (T + O * B) * 2 ^ i := by
        rw [vn]
        simp
      rw [Nat.add_mul, Nat.add_mul, Nat.mul_assoc O, Nat.mul_comm 2 D, Nat.mul_assoc D 2] at vn'
      rw [Nat.pow_succ, Nat.mul_comm (2 ^ i) 2]
      omega
theorem timW_ok {m : Nat} {gs : List Gt} {os ts : List Nat} (ho : ∀ p ∈ os, p < m + gs.length) (ht : ∀ p ∈ ts, p < m + gs.length) (h0 : 0 < os.length) : Ext m gs (timW m gs os ts).1 (6 * os.length * ts.length + 1) ∧ (timW m gs os ts).2.length = os.length + ts.length ∧ (∀ w ∈ (timW m gs os ts).2, w < m + (timW m gs os ts).1.length) ∧ ∀ vals : List Bool, vals.length = m → numB ((timW m gs os ts).2.map (wb vals (timW m gs os ts).1)) = numB (os.map (wb vals gs)) * numB (ts.map (wb vals gs)) := by
  obtain ⟨h1, _, ht1, ht2, h2, h2', _, h3⟩ := timF_ok (ts := ts.reverse) ho (fun p hp => ht p (List.mem_reverse.mp hp)) h0 _ (Nat.le_refl _) _ rfl
  rw [List.take_length] at h1 ht1 ht2 h2 h2' h3
  rw [List.length_reverse] at h1 ht2 h3
  unfold timW
  generalize timF m gs os ts.reverse = s at *
  refine ⟨h1, by rw [List.length_append, List.length_reverse, ht1, ht2], fun w hw => ?_, fun vals hv => ?_⟩
  · rcases List.mem_append.mp hw with z | z
    · exact h2 w z
    · exact h2' w (List.mem_reverse.mp z)
  · have h := h3 vals hv
    show numB ((s.2.1 ++ s.2.2.reverse).map (wb vals s.1)) = _
    rw [List.map_append, numB_app, List.length_map, List.length_reverse, ht2, List.map_reverse, h, List.map_reverse, List.reverse_reverse]
/-! ### shifts of wires -/
def nearL (n : Nat) (ws : List Nat) : List (Nat × Nat) := (ws.zipIdx.filter fun p => decide (2 ^ p.2 < n)).map fun p => (2 ^ p.2, p.1)
def farL (n : Nat) (ws : List Nat) : List Nat := (ws.zipIdx.filter fun p => !decide (2 ^ p.2 < n)).map (·.1)
theorem idx_step {ws : List Nat} {i w : Nat} (h : ws[i]? = some w) : (ws.take (i + 1)).zipIdx = (ws.take i).zipIdx ++ [(w, i)] := by
  have hi := (List.getElem?_eq_some_iff.mp h).1
  rw [List.take_add_one, h, List.zipIdx_append]
  show _ ++ [(w, _)] = _
  rw [List.length_take, Nat.min_eq_left (Nat.le_of_lt hi), Nat.zero_add]
theorem near_step {n : Nat} {ws : List Nat} {i w : Nat} (h : ws[i]? = some w) : nearL n (ws.take (i + 1)) = nearL n (ws.take i) ++ (if 2 ^ i < n then [(2 ^ i, w)] else []) := by
  unfold nearL
  rw [idx_step h, List.filter_append, List.map_append]
  congr 1
  by_cases c : 2 ^ i < n <;> simp [c]
theorem far_step {n : Nat} {ws : List Nat} {i w : Nat} (h : ws[i]? = some w) : farL n (ws.take (i + 1)) = farL n (ws.take i) ++ (if 2 ^ i < n then [] else [w]) := by
  unfold farL
  rw [idx_step h, List.filter_append, List.map_append]
  congr 1
  by_cases c : 2 ^ i < n <;> simp [c]
theorem near_mem {n : Nat} {ws : List Nat} {p : Nat × Nat} (h : p ∈ nearL n ws) : p.1 < n ∧ p.2 ∈ ws := by
  obtain ⟨q, hq, rfl⟩ := List.mem_map.mp h
  obtain ⟨a, b⟩ := List.mem_filter.mp hq
  refine ⟨of_decide_eq_true b, ?_⟩
  obtain ⟨c, d⟩ := q
  exact (List.mem_zipIdx a).2.2 ▸ List.getElem_mem _
theorem far_mem {n : Nat} {ws : List Nat} {w : Nat} (h : w ∈ farL n ws) : w ∈ ws := by
  obtain ⟨q, hq, rfl⟩ := List.mem_map.mp h
  obtain ⟨a, b⟩ := List.mem_filter.mp hq
  obtain ⟨c, d⟩ := q
  exact (List.mem_zipIdx a).2.2 ▸ List.getElem_mem _
theorem near_far_len (n : Nat) (ws : List Nat) : (nearL n ws).length + (farL n ws).length = ws.length := by
  unfold nearL farL
  rw [List.length_map, List.length_map]
  have key : ∀ l : List (Nat × Nat), (l.filter fun p => decide (2 ^ p.2 < n)).length + (l.filter fun p => !decide (2 ^ p.2 < n)).length = l.length := by
    intro l
    induction l with
    | nil => rfl
    | cons a l ih =>
      rw [List.filter_cons, List.filter_cons]
      cases decide (2 ^ a.2 < n) <;> simp <;> omega
  rw [key, List.length_zipIdx]
/-- how far the near ones shift -/
def amT (e : Nat → Bool) (ps : List (Nat × Nat)) : Nat := (ps.map fun p => if e p.2 = true then p.1 else 0).sum
theorem amT_app (e : Nat → Bool) (a b : List (Nat × Nat)) : amT e (a ++ b) = amT e a + amT e b := by
  unfold amT
  rw [List.map_append, List.sum_append]
theorem or_rest {v u M : Nat} (h : 0 < M) : (decide (v ≠ 0) || decide (u ≠ 0)) = decide (v + M * u ≠ 0) := by
  rw [Bool.eq_iff_iff, Bool.or_eq_true, decide_eq_true_iff, decide_eq_true_iff, decide_eq_true_iff]
  constructor
  · rintro (a | a) e
    · exact a (Nat.add_eq_zero_iff.mp e).1
    · rcases Nat.mul_eq_zero.mp (Nat.add_eq_zero_iff.mp e).2 with z | z
      · omega
      · exact a z
  · intro e
    by_cases c : v = 0
    · refine .inr fun z => e ?_
      rw [c, z]
      rfl
    · exact .inl c
theorem am_by (e : Nat → Bool) (n : Nat) (ws : List Nat) : ∀ i, i ≤ ws.length → ((farL n (ws.take i)).any e = false → amT e (nearL n (ws.take i)) = numB ((ws.take i).map e).reverse) ∧ ((farL n (ws.take i)).any e = true → n ≤ numB ((ws.take i).map e).reverse) := by
  intro i
  induction i with
  | zero => exact fun _ => ⟨fun _ => rfl, fun z => nomatch z⟩
  | succ i ih =>
    intro hi
    obtain ⟨w, hw⟩ : ∃ w, ws[i]? = some w := ⟨ws[i], List.getElem?_eq_getElem (by omega)⟩
    obtain ⟨h1, h2⟩ := ih (by omega)
    rw [near_step hw, far_step hw, amT_app, List.any_append, List.take_add_one, hw, List.map_append]
    show (_ → _ = numB (_ ++ [e w]).reverse) ∧ (_ → n ≤ numB (_ ++ [e w]).reverse)
    rw [numB_rev_snoc, List.length_map, List.length_take, Nat.min_eq_left (show i ≤ ws.length by omega)]
    by_cases c : 2 ^ i < n
    · rw [if_pos c, if_pos c]
      show ((_ || false) = false → _) ∧ ((_ || false) = true → _)
      rw [Bool.or_false]
      refine ⟨fun z => ?_, fun z => ?_⟩
      · have e3 : amT e [(2 ^ i, w)] = (e w).toNat * 2 ^ i := by
          show (if e w = true then 2 ^ i else 0) + 0 = _
          cases e w <;> simp
        rw [h1 z, e3, Nat.add_comm]
      · have := h2 z
        exact Nat.le_trans this (Nat.le_add_left _ _)
    · rw [if_neg c, if_neg c]
      have e1 : [w].any e = e w := by simp
      rw [e1]
      have e2 : amT e [] = 0 := rfl
      rw [e2]
      cases hb : e w with
      | false =>
        rw [Bool.or_false, Nat.add_zero, Bool.toNat_false, Nat.zero_mul, Nat.zero_add]
        exact ⟨h1, h2⟩
      | true =>
        rw [Bool.or_true]
        refine ⟨(fun z => nomatch z), fun _ => ?_⟩
        show n ≤ 1 * 2 ^ i + _
        omega
def shaW (m : Nat) (gs : List Gt) (n : Nat) (ws : List Nat) : List Gt × List (Nat × Nat) := if farL n ws = [] then (gs, nearL n ws) else ((anyW m gs (farL n ws)).1, nearL n ws ++ [(n, (anyW m gs (farL n ws)).2)])
theorem shaW_ok {m n : Nat} {gs : List Gt} {ws : List Nat} (hw : ∀ w ∈ ws, w < m + gs.length) : Ext m gs (shaW m gs n ws).1 (ws.length + 1) ∧ (∀ p ∈ (shaW m gs n ws).2, p.1 ≤ n ∧ p.2 < m + (shaW m gs n ws).1.length) ∧ (shaW m gs n ws).2.length ≤ ws.length + 1 ∧
    ∀ vals : List Bool, vals.length = m → amT (wb vals (shaW m gs n ws).1) (shaW m gs n ws).2 = numB (ws.map (wb vals gs)).reverse ∨ (n ≤ amT (wb vals (shaW m gs n ws).1) (shaW m gs n ws).2 ∧ n ≤ numB (ws.map (wb vals gs)).reverse) := by
  have ll := near_far_len n ws
  have ha := fun vals => am_by (wb vals gs) n ws _ (Nat.le_refl _)
  rw [List.take_length] at ha
  unfold shaW
  by_cases c : farL n ws = []
  · rw [if_pos c]
    refine ⟨Ext.refl.mono (Nat.zero_le _), fun p hp => ⟨Nat.le_of_lt (near_mem hp).1, hw _ (near_mem hp).2⟩, by show (nearL n ws).length ≤ _; omega, fun vals hv => .inl ?_⟩
    exact (ha vals).1 (by rw [c]; rfl)
  · rw [if_neg c]
    have A := anyW_ok (m := m) (gs := gs) (ws := farL n ws) (fun w h => hw w (far_mem h))
    have l := A.ext.len
    refine ⟨A.ext.mono (by omega), fun p hp => ?_, by show (nearL n ws ++ [_]).length ≤ _; rw [List.length_append]; show _ + 1 ≤ _; omega, fun vals hv => ?_⟩
    · rcases List.mem_append.mp hp with z | z
      · have := hw _ (near_mem z).2
        exact ⟨Nat.le_of_lt (near_mem z).1, by show p.2 < m + (anyW m gs (farL n ws)).1.length; omega⟩
      · rw [List.mem_singleton.mp z]
        exact ⟨Nat.le_refl _, A.lt⟩
    · show amT (wb vals (anyW m gs (farL n ws)).1) (nearL n ws ++ [(n, (anyW m gs (farL n ws)).2)]) = _ ∨ n ≤ amT (wb vals (anyW m gs (farL n ws)).1) (nearL n ws ++ [(n, (anyW m gs (farL n ws)).2)]) ∧ _
      rw [amT_app]
      have e1 : amT (wb vals (anyW m gs (farL n ws)).1) (nearL n ws) = amT (wb vals gs) (nearL n ws) := by
        unfold amT
        congr 1
        refine List.map_congr_left fun p hp => ?_
        rw [A.ext.wb hv (hw _ (near_mem hp).2)]
      have e2 : amT (wb vals (anyW m gs (farL n ws)).1) [(n, (anyW m gs (farL n ws)).2)] = if (farL n ws).any (wb vals gs) = true then n else 0 := by
        unfold amT
        show (if wb vals (anyW m gs (farL n ws)).1 (anyW m gs (farL n ws)).2 = true then n else 0) + 0 = _
        rw [A.val vals hv, Nat.add_zero]
      rw [e1, e2]
      cases hf : (farL n ws).any (wb vals gs) with
      | false => exact .inl (((ha vals).1 hf).trans (Nat.add_zero _).symm ▸ rfl)
      | true =>
        refine .inr ⟨?_, (ha vals).2 hf⟩
        rw [if_pos rfl]
        omega
/-! ### numbers shifted -/
theorem numB_cut (bs : List Bool) (k : Nat) (h : k ≤ bs.length) : numB bs = numB (bs.take (bs.length - k)) * 2 ^ k + numB (bs.drop (bs.length - k)) ∧ numB (bs.drop (bs.length - k)) < 2 ^ k := by
  have l : (bs.drop (bs.length - k)).length = k := by rw [List.length_drop]; omega
  refine ⟨?_, by have := numB_lt (bs.drop (bs.length - k)); rw [l] at this; exact this⟩
  conv => lhs; rw [← List.take_append_drop (bs.length - k) bs, numB_app, l]
theorem numB_shr {bs : List Bool} {k : Nat} (h : k ≤ bs.length) : numB (List.replicate k false ++ bs.take (bs.length - k)) = numB bs / 2 ^ k := by
  obtain ⟨h1, h2⟩ := numB_cut bs k h
  rw [numB_app, numB_rep, h1, Nat.mul_comm (numB (bs.take _)), Nat.mul_add_div (Nat.pow_pos (by decide)), Nat.div_eq_of_lt h2]
  omega
theorem any_num : ∀ bs : List Bool, bs.any id = decide (numB bs ≠ 0)
  | [] => by simp [numB]
  | b :: bs => by
    have p : 0 < 2 ^ bs.length := Nat.pow_pos (by decide)
    rw [List.any_cons, any_num bs, numB_cons]
    cases b <;> simp
theorem numB_lost {bs : List Bool} {k : Nat} (h : k ≤ bs.length) : (bs.drop (bs.length - k)).any id = decide (numB bs % 2 ^ k ≠ 0) := by
  obtain ⟨h1, h2⟩ := numB_cut bs k h
  rw [any_num, h1, Nat.mul_comm (numB (bs.take _)), Nat.mul_add_mod, Nat.mod_eq_of_lt h2]
theorem numB_shl {bs : List Bool} {k : Nat} (h : k ≤ bs.length) : numB (bs.drop k ++ List.replicate k false) = numB bs * 2 ^ k % 2 ^ bs.length := by
  have l : (bs.drop k).length = bs.length - k := List.length_drop
  have h2 := numB_lt (bs.drop k)
  rw [l] at h2
  have e : numB bs = numB (bs.take k) * 2 ^ (bs.length - k) + numB (bs.drop k) := by
    conv => lhs; rw [← List.take_append_drop k bs, numB_app, l]
  have ep : 2 ^ bs.length = 2 ^ (bs.length - k) * 2 ^ k := by rw [← Nat.pow_add]; congr 1; omega
  rw [numB_app, numB_rep, List.length_replicate, Nat.add_zero, ep, Nat.mul_mod_mul_right]
  congr 1
  rw [e, Nat.mul_comm (numB (bs.take k)), Nat.mul_add_mod, Nat.mod_eq_of_lt h2]
theorem sh_same {X n T B : Nat} (hX : X < 2 ^ n) (h : T = B ∨ (n ≤ T ∧ n ≤ B)) : X / 2 ^ T = X / 2 ^ B ∧ X % 2 ^ T = X % 2 ^ B ∧ X * 2 ^ T % 2 ^ n = X * 2 ^ B % 2 ^ n := by
  rcases h with rfl | ⟨h1, h2⟩
  · exact ⟨rfl, rfl, rfl⟩
  · have a : X < 2 ^ T := Nat.lt_of_lt_of_le hX (Nat.pow_le_pow_right (by decide) h1)
    have b : X < 2 ^ B := Nat.lt_of_lt_of_le hX (Nat.pow_le_pow_right (by decide) h2)
    have c : ∀ S, n ≤ S → X * 2 ^ S % 2 ^ n = 0 := fun S hS => by
      rw [show S = n + (S - n) by omega, Nat.pow_add, ← Nat.mul_assoc, Nat.mul_comm X, Nat.mul_assoc, Nat.mul_mod_right]
    rw [Nat.div_eq_of_lt a, Nat.div_eq_of_lt b, Nat.mod_eq_of_lt a, Nat.mod_eq_of_lt b, c T h1, c B h2]
    exact ⟨rfl, rfl, rfl⟩
/-! ### to the right -/
def shS (m z n : Nat) (s : List Gt × List Nat × Nat) (p : Nat × Nat) : List Gt × List Nat × Nat :=
  let L := anyW m s.1 (s.2.1.drop (n - p.1))
  let g2 := L.1 ++ [.w "both" [p.2, L.2]]
  let g3 := g2 ++ [.w "either" [s.2.2, m + L.1.length]]
  let C := chosenW m g3 p.2 ((List.replicate p.1 z ++ s.2.1.take (n - p.1)).zip s.2.1)
  (C.1, C.2, m + g2.length)
def shF (m z n : Nat) (gs : List Gt) (os : List Nat) (ps : List (Nat × Nat)) : List Gt × List Nat × Nat := ps.foldl (shS m z n) (gs, os, z)
theorem map_zipC (e : Nat → Bool) (c : Bool) : ∀ (xs ys : List Nat), xs.length = ys.length → ((xs.zip ys).map fun p => if c = true then e p.1 else e p.2) = if c = true then xs.map e else ys.map e
  | [], [], _ => by cases c <;> rfl
  | x :: xs, y :: ys, h => by
    rw [List.zip_cons_cons, List.map_cons, map_zipC e c xs ys (Nat.succ.inj h)]
    cases c <;> rfl
theorem shF_ok {m z n : Nat} {gs : List Gt} {os : List Nat} {ps : List (Nat × Nat)} (hn : os.length = n) (hz : z < m + gs.length) (hzv : ∀ vals : List Bool, vals.length = m → wb vals gs z = false) (ho : ∀ w ∈ os, w < m + gs.length) (hp : ∀ p ∈ ps, p.1 ≤ n ∧ p.2 < m + gs.length) : ∀ i, i ≤ ps.length → ∀ s, s = shF m z n gs os (ps.take i) → Ext m gs s.1 ((4 * n + 4) * i) ∧ s.2.1.length = n ∧ (∀ w ∈ s.2.1, w < m + s.1.length) ∧ s.2.2 < m + s.1.length ∧
    ∀ vals : List Bool, vals.length = m → numB (s.2.1.map (wb vals s.1)) = numB (os.map (wb vals gs)) / 2 ^ amT (wb vals gs) (ps.take i) ∧ wb vals s.1 s.2.2 = decide (numB (os.map (wb vals gs)) % 2 ^ amT (wb vals gs) (ps.take i) ≠ 0) := by
  intro i
  induction i with
  | zero =>
    intro _ s e
    subst e
    refine ⟨Ext.refl.mono (Nat.zero_le _), hn, ho, hz, fun vals hv => ⟨?_, ?_⟩⟩
    · show numB (os.map (wb vals gs)) = _ / 2 ^ 0
      simp
    · show wb vals gs z = decide (_ % 2 ^ 0 ≠ 0)
      rw [hzv vals hv]
      simp [Nat.mod_one]
  | succ i ih =>
    intro hi s e
    obtain ⟨p, hpi⟩ : ∃ p, ps[i]? = some p := ⟨ps[i], List.getElem?_eq_getElem (by omega)⟩
    have es : shF m z n gs os (ps.take (i + 1)) = shS m z n (shF m z n gs os (ps.take i)) p := fold_take _ hpi _
    obtain ⟨h1, hl, h2, h4, h3⟩ := ih (by omega) _ rfl
    rw [e, es]
    clear e es
    generalize shF m z n gs os (ps.take i) = s at *
    obtain ⟨q1, q2⟩ := hp p (List.mem_of_getElem? hpi)
    have l := h1.len
    have A := anyW_ok (m := m) (gs := s.1) (ws := s.2.1.drop (n - p.1)) (fun w hw => h2 w (List.mem_of_mem_drop hw))
    have ld : (s.2.1.drop (n - p.1)).length = p.1 := by rw [List.length_drop]; omega
    rw [ld] at A
    obtain ⟨L, eL⟩ : ∃ L, L = anyW m s.1 (s.2.1.drop (n - p.1)) := ⟨_, rfl⟩
    rw [← eL] at A
    have lA := A.ext.len
    have ltA := A.lt
    obtain ⟨g2, eg2⟩ : ∃ g, g = L.1 ++ [.w "both" [p.2, L.2]] := ⟨_, rfl⟩
    obtain ⟨g3, eg3⟩ : ∃ g, g = g2 ++ [.w "either" [s.2.2, m + L.1.length]] := ⟨_, rfl⟩
    have l2 : g2.length = L.1.length + 1 := by rw [eg2]; simp
    have l3 : g3.length = L.1.length + 2 := by rw [eg3]; simp [l2]
    have e2 : Ext m L.1 g2 1 := eg2 ▸ .both (by omega) ltA
    have e3 : Ext m g2 g3 1 := eg3 ▸ .either (by omega) (by omega)
    have lt' : (s.2.1.take (n - p.1)).length = n - p.1 := by rw [List.length_take]; omega
    have lx : (List.replicate p.1 z ++ s.2.1.take (n - p.1)).length = s.2.1.length := by rw [List.length_append, List.length_replicate, lt']; omega
    have hx : ∀ w ∈ List.replicate p.1 z ++ s.2.1.take (n - p.1), w < m + g3.length := fun w hw => by
      rcases List.mem_append.mp hw with y | y
      · rw [(List.mem_replicate.mp y).2]
        omega
      · have := h2 w (List.mem_of_mem_take y)
        omega
    have C := chosenW_ok (m := m) (w := p.2) (gs := g3) (ps := (List.replicate p.1 z ++ s.2.1.take (n - p.1)).zip s.2.1) (by omega) (fun q hq => ⟨hx _ (List.of_mem_zip hq).1, by have := h2 _ (List.of_mem_zip hq).2; omega⟩)
    have lz : ((List.replicate p.1 z ++ s.2.1.take (n - p.1)).zip s.2.1).length = n := by rw [List.length_zip, lx, hl]; omega
    rw [lz] at C
    have hs : shS m z n s p = ((chosenW m g3 p.2 ((List.replicate p.1 z ++ s.2.1.take (n - p.1)).zip s.2.1)).1, (chosenW m g3 p.2 ((List.replicate p.1 z ++ s.2.1.take (n - p.1)).zip s.2.1)).2, m + g2.length) := by rw [eg3, eg2, eL]; rfl
    rw [hs]
    have lC : (chosenW m g3 p.2 ((List.replicate p.1 z ++ s.2.1.take (n - p.1)).zip s.2.1)).2.length = n := by
      have := congrArg List.length (C.val (List.replicate m false) (by simp))
      rw [List.length_map, List.length_map, lz] at this
      exact this
    have e13 := (A.ext.trans e2).trans e3
    have eC := C.ext
    have vC := C.val
    have ltC := C.lt
    clear C hs
    generalize chosenW m g3 p.2 ((List.replicate p.1 z ++ s.2.1.take (n - p.1)).zip s.2.1) = C0 at *
    have lCe := eC.len
    refine ⟨((h1.trans e13).trans eC).mono (by rw [Nat.mul_succ]; omega), lC, ltC, by show m + g2.length < m + C0.1.length; omega, fun vals hv => ?_⟩
    obtain ⟨v1, v2⟩ := h3 vals hv
    have eb : wb vals g3 p.2 = wb vals gs p.2 := ((h1.trans e13).wb hv q2)
    have ez : wb vals g3 z = false := ((h1.trans e13).wb hv hz).trans (hzv vals hv)
    have ek : s.2.1.map (wb vals g3) = s.2.1.map (wb vals s.1) := e13.wbs hv h2
    have vc := vC vals hv
    rw [map_zipC _ _ _ _ lx] at vc
    rw [eb, List.map_append, List.map_replicate, ez, List.map_take, ek] at vc
    have hbl : (s.2.1.map (wb vals s.1)).length = n := by rw [List.length_map, hl]
    have sa : amT (wb vals gs) (ps.take (i + 1)) = amT (wb vals gs) (ps.take i) + if wb vals gs p.2 = true then p.1 else 0 := by
      rw [List.take_add_one, hpi, amT_app]
      rfl
    have w2 : wb vals g2 (m + L.1.length) = (wb vals gs p.2 && decide (numB (s.2.1.map (wb vals s.1)) % 2 ^ p.1 ≠ 0)) := by
      rw [eg2, wb_both (hv ▸ rfl), A.val vals hv, (h1.trans A.ext).wb hv q2]
      congr 1
      have hd := numB_lost (bs := s.2.1.map (wb vals s.1)) (k := p.1) (by omega)
      rw [hbl, ← List.map_drop, List.any_map] at hd
      exact hd
    have w3 : wb vals g3 (m + g2.length) = (wb vals s.1 s.2.2 || (wb vals gs p.2 && decide (numB (s.2.1.map (wb vals s.1)) % 2 ^ p.1 ≠ 0))) := by
      rw [eg3, wb_either (hv ▸ rfl), (A.ext.trans e2).wb hv h4, w2]
    refine ⟨?_, ?_⟩
    · dsimp only
      rw [vc, sa]
      cases hb : wb vals gs p.2 with
      | false => simpa using v1
      | true =>
        rw [if_pos rfl, if_pos rfl, ← hbl, numB_shr (by omega), v1, Nat.div_div_eq_div_mul, ← Nat.pow_add]
    · dsimp only
      rw [eC.wb hv (by omega), w3, v2, sa, v1]
      cases hb : wb vals gs p.2 with
      | false => simp
      | true =>
        rw [if_pos rfl, Bool.true_and]
        generalize numB (os.map (wb vals gs)) = X
        generalize amT (wb vals gs) (ps.take i) = T
        rw [Nat.pow_add, Nat.mod_mul]
        have pT : 0 < 2 ^ T := Nat.pow_pos (by decide)
        exact or_rest pT
def shiW (m : Nat) (gs : List Gt) (os bs : List Nat) : List Gt × List Nat × Nat := shF m (m + gs.length) os.length (shaW m (gs ++ [.fi 0]) os.length bs.reverse).1 os (shaW m (gs ++ [.fi 0]) os.length bs.reverse).2
theorem shiW_ok {m : Nat} {gs : List Gt} {os bs : List Nat} (ho : ∀ w ∈ os, w < m + gs.length) (hb : ∀ w ∈ bs, w < m + gs.length) : Ext m gs (shiW m gs os bs).1 ((4 * os.length + 4) * (bs.length + 1) + bs.length + 2) ∧ (shiW m gs os bs).2.1.length = os.length ∧ (∀ w ∈ (shiW m gs os bs).2.1, w < m + (shiW m gs os bs).1.length) ∧ (shiW m gs os bs).2.2 < m + (shiW m gs os bs).1.length ∧
    ∀ vals : List Bool, vals.length = m → numB ((shiW m gs os bs).2.1.map (wb vals (shiW m gs os bs).1)) = numB (os.map (wb vals gs)) / 2 ^ numB (bs.map (wb vals gs)) ∧ wb vals (shiW m gs os bs).1 (shiW m gs os bs).2.2 = decide (numB (os.map (wb vals gs)) % 2 ^ numB (bs.map (wb vals gs)) ≠ 0) := by
  have e0 : Ext m gs (gs ++ [.fi 0]) 1 := .fixed (Nat.zero_le _)
  obtain ⟨a1, a2, a3, a4⟩ := shaW_ok (m := m) (n := os.length) (gs := gs ++ [.fi 0]) (ws := bs.reverse) (fun w h => lt1 (hb w (List.mem_reverse.mp h)))
  rw [List.length_reverse] at a1 a3
  unfold shiW
  have z0 : ∀ vals : List Bool, vals.length = m → wb vals (gs ++ [.fi 0]) (m + gs.length) = false := fun vals hv => by
    rw [wb_fixed (hv ▸ rfl)]
    rfl
  have ebs : ∀ vals : List Bool, vals.length = m → numB (bs.reverse.map (wb vals (gs ++ [.fi 0]))).reverse = numB (bs.map (wb vals gs)) := fun vals hv => by
    rw [List.map_reverse, List.reverse_reverse, e0.wbs hv hb]
  generalize shaW m (gs ++ [.fi 0]) os.length bs.reverse = S at *
  have la := a1.len
  have l0 : (gs ++ [Gt.fi 0]).length = gs.length + 1 := by simp
  have e01 := e0.trans a1
  have H := shF_ok (m := m) (z := m + gs.length) (n := os.length) (gs := S.1) (os := os) (ps := S.2) rfl (by omega) (fun vals hv => (a1.wb hv len1).trans (z0 vals hv)) (fun w h => by have := ho w h; omega) a2 _ (Nat.le_refl _) _ rfl
  rw [List.take_length] at H
  obtain ⟨h1, h2, h3, h4, h5⟩ := H
  generalize shF m (m + gs.length) os.length S.1 os S.2 = F at *
  refine ⟨(e01.trans h1).mono ?_, h2, h3, h4, fun vals hv => ?_⟩
  · have := Nat.mul_le_mul_left (4 * os.length + 4) a3
    omega
  · obtain ⟨v1, v2⟩ := h5 vals hv
    have hX : numB (os.map (wb vals gs)) < 2 ^ os.length := by
      have := numB_lt (os.map (wb vals gs))
      rwa [List.length_map] at this
    have hs := a4 vals hv
    rw [ebs vals hv] at hs
    obtain ⟨s1, s2, _⟩ := sh_same hX hs
    rw [e01.wbs hv ho] at v1 v2
    rw [v1, v2, s1, s2]
    exact ⟨rfl, rfl⟩
/-! ### to the left -/
def lfS (m z : Nat) (s : List Gt × List Nat) (p : Nat × Nat) : List Gt × List Nat := chosenW m s.1 p.2 ((s.2.drop p.1 ++ List.replicate p.1 z).zip s.2)
def lfF (m z : Nat) (gs : List Gt) (os : List Nat) (ps : List (Nat × Nat)) : List Gt × List Nat := ps.foldl (lfS m z) (gs, os)
theorem lfF_ok {m z n : Nat} {gs : List Gt} {os : List Nat} {ps : List (Nat × Nat)} (hn : os.length = n) (hz : z < m + gs.length) (hzv : ∀ vals : List Bool, vals.length = m → wb vals gs z = false) (ho : ∀ w ∈ os, w < m + gs.length) (hp : ∀ p ∈ ps, p.1 ≤ n ∧ p.2 < m + gs.length) : ∀ i, i ≤ ps.length → ∀ s, s = lfF m z gs os (ps.take i) → Ext m gs s.1 ((3 * n + 1) * i) ∧ s.2.length = n ∧ (∀ w ∈ s.2, w < m + s.1.length) ∧
    ∀ vals : List Bool, vals.length = m → numB (s.2.map (wb vals s.1)) = numB (os.map (wb vals gs)) * 2 ^ amT (wb vals gs) (ps.take i) % 2 ^ n := by
  intro i
  induction i with
  | zero =>
    intro _ s e
    subst e
    refine ⟨Ext.refl.mono (Nat.zero_le _), hn, ho, fun vals hv => ?_⟩
    show numB (os.map (wb vals gs)) = numB (os.map (wb vals gs)) * 2 ^ 0 % 2 ^ n
    have := numB_lt (os.map (wb vals gs))
    rw [List.length_map, hn] at this
    rw [Nat.pow_zero, Nat.mul_one, Nat.mod_eq_of_lt this]
  | succ i ih =>
    intro hi s e
    obtain ⟨p, hpi⟩ : ∃ p, ps[i]? = some p := ⟨ps[i], List.getElem?_eq_getElem (by omega)⟩
    have es : lfF m z gs os (ps.take (i + 1)) = lfS m z (lfF m z gs os (ps.take i)) p := fold_take _ hpi _
    obtain ⟨h1, hl, h2, h3⟩ := ih (by omega) _ rfl
    rw [e, es]
    clear e es
    generalize lfF m z gs os (ps.take i) = s at *
    obtain ⟨q1, q2⟩ := hp p (List.mem_of_getElem? hpi)
    have l := h1.len
    have ld : (s.2.drop p.1).length = n - p.1 := by rw [List.length_drop]; omega
    have lx : (s.2.drop p.1 ++ List.replicate p.1 z).length = s.2.length := by rw [List.length_append, List.length_replicate, ld]; omega
    have hx : ∀ w ∈ s.2.drop p.1 ++ List.replicate p.1 z, w < m + s.1.length := fun w hw => by
      rcases List.mem_append.mp hw with y | y
      · exact h2 w (List.mem_of_mem_drop y)
      · rw [(List.mem_replicate.mp y).2]
        omega
    have C := chosenW_ok (m := m) (w := p.2) (gs := s.1) (ps := (s.2.drop p.1 ++ List.replicate p.1 z).zip s.2) (by omega) (fun q hq => ⟨hx _ (List.of_mem_zip hq).1, h2 _ (List.of_mem_zip hq).2⟩)
    have lz : ((s.2.drop p.1 ++ List.replicate p.1 z).zip s.2).length = n := by rw [List.length_zip, lx, hl]; omega
    rw [lz] at C
    have hs : lfS m z s p = chosenW m s.1 p.2 ((s.2.drop p.1 ++ List.replicate p.1 z).zip s.2) := rfl
    rw [hs]
    have lC : (chosenW m s.1 p.2 ((s.2.drop p.1 ++ List.replicate p.1 z).zip s.2)).2.length = n := by
      have := congrArg List.length (C.val (List.replicate m false) (by simp))
      rw [List.length_map, List.length_map, lz] at this
      exact this
    refine ⟨(h1.trans C.ext).mono (by rw [Nat.mul_succ]; omega), lC, C.lt, fun vals hv => ?_⟩
    have v1 := h3 vals hv
    rw [C.val vals hv, map_zipC _ _ _ _ lx]
    have eb : wb vals s.1 p.2 = wb vals gs p.2 := h1.wb hv q2
    have ez : wb vals s.1 z = false := (h1.wb hv hz).trans (hzv vals hv)
    have sa : amT (wb vals gs) (ps.take (i + 1)) = amT (wb vals gs) (ps.take i) + if wb vals gs p.2 = true then p.1 else 0 := by
      rw [List.take_add_one, hpi, amT_app]
      rfl
    have hbl : (s.2.map (wb vals s.1)).length = n := by rw [List.length_map, hl]
    rw [eb, List.map_append, List.map_replicate, ez, List.map_drop, sa]
    cases hb : wb vals gs p.2 with
    | false => simpa using v1
    | true =>
      rw [if_pos rfl, if_pos rfl]
      have := numB_shl (bs := s.2.map (wb vals s.1)) (k := p.1) (by omega)
      rw [hbl] at this
      rw [this, v1, Nat.mod_mul_mod, Nat.mul_assoc, ← Nat.pow_add]
def lefW (m : Nat) (gs : List Gt) (os bs : List Nat) : List Gt × List Nat := lfF m (m + gs.length) (shaW m (gs ++ [.fi 0]) os.length bs.reverse).1 os (shaW m (gs ++ [.fi 0]) os.length bs.reverse).2
theorem lefW_ok {m : Nat} {gs : List Gt} {os bs : List Nat} (ho : ∀ w ∈ os, w < m + gs.length) (hb : ∀ w ∈ bs, w < m + gs.length) : Ext m gs (lefW m gs os bs).1 ((3 * os.length + 1) * (bs.length + 1) + bs.length + 2) ∧ (lefW m gs os bs).2.length = os.length ∧ (∀ w ∈ (lefW m gs os bs).2, w < m + (lefW m gs os bs).1.length) ∧
    ∀ vals : List Bool, vals.length = m → numB ((lefW m gs os bs).2.map (wb vals (lefW m gs os bs).1)) = numB (os.map (wb vals gs)) * 2 ^ numB (bs.map (wb vals gs)) % 2 ^ os.length := by
  have e0 : Ext m gs (gs ++ [.fi 0]) 1 := .fixed (Nat.zero_le _)
  obtain ⟨a1, a2, a3, a4⟩ := shaW_ok (m := m) (n := os.length) (gs := gs ++ [.fi 0]) (ws := bs.reverse) (fun w h => lt1 (hb w (List.mem_reverse.mp h)))
  rw [List.length_reverse] at a1 a3
  unfold lefW
  have z0 : ∀ vals : List Bool, vals.length = m → wb vals (gs ++ [.fi 0]) (m + gs.length) = false := fun vals hv => by
    rw [wb_fixed (hv ▸ rfl)]
    rfl
  have ebs : ∀ vals : List Bool, vals.length = m → numB (bs.reverse.map (wb vals (gs ++ [.fi 0]))).reverse = numB (bs.map (wb vals gs)) := fun vals hv => by
    rw [List.map_reverse, List.reverse_reverse, e0.wbs hv hb]
  generalize shaW m (gs ++ [.fi 0]) os.length bs.reverse = S at *
  have la := a1.len
  have l0 : (gs ++ [Gt.fi 0]).length = gs.length + 1 := by simp
  have e01 := e0.trans a1
  have H := lfF_ok (m := m) (z := m + gs.length) (n := os.length) (gs := S.1) (os := os) (ps := S.2) rfl (by omega) (fun vals hv => (a1.wb hv len1).trans (z0 vals hv)) (fun w h => by have := ho w h; omega) a2 _ (Nat.le_refl _) _ rfl
  rw [List.take_length] at H
  obtain ⟨h1, h2, h3, h5⟩ := H
  generalize lfF m (m + gs.length) S.1 os S.2 = F at *
  refine ⟨(e01.trans h1).mono ?_, h2, h3, fun vals hv => ?_⟩
  · have := Nat.mul_le_mul_left (3 * os.length + 1) a3
    omega
  · have v1 := h5 vals hv
    have hX : numB (os.map (wb vals gs)) < 2 ^ os.length := by
      have := numB_lt (os.map (wb vals gs))
      rwa [List.length_map] at this
    have hs := a4 vals hv
    rw [ebs vals hv] at hs
    obtain ⟨_, _, s3⟩ := sh_same hX hs
    rw [e01.wbs hv ho] at v1
    rw [v1, s3]
/-! ### differences of wires, and the guess's net -/
def noS (m : Nat) (s : List Gt × List Nat) (a : Nat) : List Gt × List Nat := (s.1 ++ [.w "other" [a]], s.2 ++ [m + s.1.length])
def notW (m : Nat) (gs : List Gt) (ws : List Nat) : List Gt × List Nat := ws.foldl (noS m) (gs, [])
theorem notW_at {m : Nat} : ∀ (os : List Nat) (s : List Gt × List Nat), (os.foldl (noS m) s).1.length = s.1.length + os.length ∧ (os.foldl (noS m) s).2.length = s.2.length + os.length
  | [], s => ⟨rfl, rfl⟩
  | a :: l, s => by
    obtain ⟨h1, h2⟩ := notW_at l (noS m s a)
    rw [List.foldl_cons, h1, h2]
    unfold noS
    simp only [List.length_append, List.length_cons, List.length_nil]
    omega
theorem notW_ok {m : Nat} {gs : List Gt} {os : List Nat} (hw : ∀ p ∈ os, p < m + gs.length) : WL m gs os.length (notW m gs os) (fun e => os.map fun p => !(e p)) := by
  have h := fold_inv (fun i (s : List Gt × List Nat) => Ext m gs s.1 i ∧ (∀ w ∈ s.2, w < m + s.1.length) ∧ ∀ vals : List Bool, vals.length = m → s.2.map (wb vals s.1) = (os.take i).map fun p => !(wb vals gs p)) (noS m) os (gs, []) ⟨.refl, (fun _ z => nomatch z), fun _ _ => rfl⟩ (fun i p s hp ⟨h1, h2, h3⟩ => by
    have q1 := hw p (List.mem_of_getElem? hp)
    have l := h1.len
    have e : Ext m s.1 (s.1 ++ [.w "other" [p]]) 1 := .other (by omega)
    refine ⟨h1.trans e, fun a ha => ?_, fun vals hv => ?_⟩
    · rcases List.mem_append.mp ha with z | z
      · exact lt1 (h2 a z)
      · rw [List.mem_singleton.mp z]
        exact len1
    · show (s.2 ++ [_]).map (wb vals (s.1 ++ [Gt.w "other" [p]])) = _
      rw [List.map_append, e.wbs hv h2, h3 vals hv, List.take_add_one, hp, List.map_append]
      congr 1
      show [_] = [_]
      congr 1
      rw [wb_other (hv ▸ rfl), h1.wb hv q1])
  obtain ⟨h1, h2, h3⟩ := h
  exact ⟨h1, h2, fun vals hv => by
    rw [List.take_of_length_le (Nat.le_refl _)] at h3
    exact h3 vals hv⟩
theorem numB_not : ∀ bs : List Bool, numB (bs.map (!·)) + numB bs + 1 = 2 ^ bs.length
  | [] => rfl
  | b :: bs => by
    have := numB_not bs
    rw [List.map_cons, numB_cons, numB_cons, List.length_map, List.length_cons, Nat.pow_succ]
    cases b <;> simp <;> omega
def lsW (m : Nat) (gs : List Gt) (os ts : List Nat) : List Gt × List Nat := sumW m ((notW m gs ts).1 ++ [.fi 1]) os (notW m gs ts).2 (m + (notW m gs ts).1.length)
theorem lsW_ok {m : Nat} {gs : List Gt} {os ts : List Nat} (hl : os.length = ts.length) (ho : ∀ w ∈ os, w < m + gs.length) (ht : ∀ w ∈ ts, w < m + gs.length) : Ext m gs (lsW m gs os ts).1 (6 * os.length + 1) ∧ (lsW m gs os ts).2.length = os.length + 1 ∧ (∀ w ∈ (lsW m gs os ts).2, w < m + (lsW m gs os ts).1.length) ∧
    ∀ vals : List Bool, vals.length = m → numB (ts.map (wb vals gs)) ≤ numB (os.map (wb vals gs)) → numB ((lsW m gs os ts).2.tail.map (wb vals (lsW m gs os ts).1)) = numB (os.map (wb vals gs)) - numB (ts.map (wb vals gs)) := by
  have T := notW_ok (m := m) ht
  have lT := (notW_at (m := m) ts (gs, [])).2
  rw [show ts.foldl (noS m) (gs, []) = notW m gs ts from rfl] at lT
  dsimp only [List.length_nil] at lT
  unfold lsW
  generalize notW m gs ts = T0 at *
  have lTe := T.ext.len
  have e1 : Ext m T0.1 (T0.1 ++ [.fi 1]) 1 := .fixed (Nat.le_refl _)
  have l1 : (T0.1 ++ [Gt.fi 1]).length = T0.1.length + 1 := by simp
  have hl2 : os.length = T0.2.length := by omega
  have ho' : ∀ w ∈ os, w < m + (T0.1 ++ [Gt.fi 1]).length := fun w h => by have := ho w h; omega
  have ht' : ∀ w ∈ T0.2, w < m + (T0.1 ++ [Gt.fi 1]).length := fun w h => by have := T.lt w h; omega
  have S := sumW_ok (m := m) (gs := T0.1 ++ [.fi 1]) (os := os) (ts := T0.2) (c := m + T0.1.length) hl2 ho' ht' len1
  have lS := sumW_len (m := m) (gs := T0.1 ++ [.fi 1]) (os := os) (ts := T0.2) (c := m + T0.1.length) hl2 ho' ht' len1
  generalize sumW m (T0.1 ++ [.fi 1]) os T0.2 (m + T0.1.length) = S0 at *
  refine ⟨((T.ext.trans e1).trans S.ext).mono (by omega), lS, S.lt, fun vals hv hle => ?_⟩
  have v := congrArg numB (S.val vals hv)
  rw [sumB_num (by simpa using hl2)] at v
  have ec : wb vals (T0.1 ++ [.fi 1]) (m + T0.1.length) = true := by
    rw [wb_fixed (hv ▸ rfl)]
    rfl
  rw [ec, (T.ext.trans e1).wbs hv ho, e1.wbs hv T.lt, T.val vals hv] at v
  have en : (ts.map fun p => !(wb vals gs p)) = (ts.map (wb vals gs)).map (!·) := by rw [List.map_map]; rfl
  rw [en] at v
  have hn := numB_not (ts.map (wb vals gs))
  rw [List.length_map] at hn
  cases hS : S0.2 with
  | nil => rw [hS] at lS; cases lS
  | cons x xs =>
    rw [hS] at v lS
    rw [List.map_cons, numB_cons, List.length_map] at v
    rw [List.length_cons] at lS
    have lx : xs.length = ts.length := by omega
    have b1 := numB_lt (xs.map (wb vals S0.1))
    rw [List.length_map] at b1
    have b2 := numB_lt (os.map (wb vals gs))
    rw [List.length_map, hl] at b2
    show numB (xs.map (wb vals S0.1)) = _
    rw [lx] at v b1
    simp only [Bool.toNat_true] at v
    generalize numB ((ts.map (wb vals gs)).map (!·)) = A at *
    generalize numB (ts.map (wb vals gs)) = B at *
    generalize numB (os.map (wb vals gs)) = O at *
    generalize numB (xs.map (wb vals S0.1)) = R at *
    generalize 2 ^ ts.length = P at *
    generalize wb vals S0.1 x = b at *
    cases b
    · simp at v
      omega
    · simp at v
      omega
/-! ### depths -/
def dpW (m : Nat) (gs : List Gt) (w : Nat) : Int := (dps m gs).getD w 0
theorem dpW_app {m w : Nat} : ∀ (es gs : List Gt), w < m + gs.length → dpW m (gs ++ es) w = dpW m gs w
  | [], gs, _ => by rw [List.append_nil]
  | g :: es, gs, h => by
    rw [show gs ++ g :: es = (gs ++ [g]) ++ es by simp, dpW_app es (gs ++ [g]) (lt1 h)]
    unfold dpW
    rw [dps_snoc]
    exact getD_app (by rw [dps_len]; exact h)
theorem Ext.dp {m n w : Nat} {gs g1 : List Gt} (h : Ext m gs g1 n) (hw : w < m + gs.length) : dpW m g1 w = dpW m gs w := by
  obtain ⟨⟨e, rfl, _⟩, _⟩ := h
  exact dpW_app e gs hw
theorem dpW_in {m w : Nat} (gs : List Gt) (h : w < m) : dpW m gs w = 0 := by
  have := dpW_app (m := m) (w := w) gs [] (by simpa using h)
  rw [List.nil_append] at this
  rw [this]
  show (List.replicate m (0 : Int)).getD w 0 = 0
  simp [List.getD, List.getElem?_replicate, h]
theorem dpW_new {m a b n : Nat} {gs : List Gt} {k : Str} {d : Int} (h : n = m + gs.length) (d0 : 0 ≤ d) (ha : dpW m gs a ≤ d) (hb : dpW m gs b ≤ d) : dpW m (gs ++ [.w k [a, b]]) n ≤ d + 1 := by
  subst h
  unfold dpW at *
  rw [dps_snoc]
  have e : (dps m gs ++ [dep (dps m gs) (.w k [a, b])]).getD (m + gs.length) 0 = dep (dps m gs) (.w k [a, b]) := by
    rw [← dps_len m gs]
    simp [List.getD]
  rw [e]
  show 1 + mx [(dps m gs).getD a 0, (dps m gs).getD b 0] ≤ d + 1
  have := (mx_fold [(dps m gs).getD a 0, (dps m gs).getD b 0] 0).2.2
  unfold mx
  rcases this with z | z
  · rw [z]
    omega
  · simp only [List.mem_cons, List.not_mem_nil, or_false] at z
    rcases z with z | z <;> rw [z] <;> omega
/-! ### gates of two wires each -/
def hvS (m : Nat) (k : Str) (s : List Gt × List Nat) (p : Nat × Nat) : List Gt × List Nat := (s.1 ++ [.w k [p.1, p.2]], s.2 ++ [m + s.1.length])
def hvF (m : Nat) (k : Str) (gs : List Gt) (ps : List (Nat × Nat)) : List Gt × List Nat := ps.foldl (hvS m k) (gs, [])
theorem wb_two {vals : List Bool} {gs : List Gt} {a b n : Nat} {k : Str} (h : n = vals.length + gs.length) : wb vals (gs ++ [.w k [a, b]]) n = gbw (wb vals gs a) (wb vals gs b) k := by
  rw [wb_new h]
  rfl
theorem hvF_ok {m : Nat} {k : Str} {gs : List Gt} {ps : List (Nat × Nat)} {D : Prop} {d : Int} (hk : k = "both" ∨ k = "unlike") (d0 : 0 ≤ d) (hw : ∀ p ∈ ps, p.1 < m + gs.length ∧ p.2 < m + gs.length) (hD : D → ∀ p ∈ ps, dpW m gs p.1 ≤ d ∧ dpW m gs p.2 ≤ d) : ∀ i, i ≤ ps.length → ∀ s, s = hvF m k gs (ps.take i) → Ext m gs s.1 i ∧ s.1.length = gs.length + i ∧ s.2.length = i ∧ ∀ (j w : Nat) (p : Nat × Nat), s.2[j]? = some w → ps[j]? = some p → w < m + s.1.length ∧ (D → dpW m s.1 w ≤ d + 1) ∧ ∀ vals : List Bool, vals.length = m → wb vals s.1 w = gbw (wb vals gs p.1) (wb vals gs p.2) k := by
  intro i
  induction i with
  | zero => exact fun _ s e => by subst e; exact ⟨.refl, rfl, rfl, fun j w p h => by simp [hvF] at h⟩
  | succ i ih =>
    intro hi s e
    obtain ⟨p, hp⟩ : ∃ p, ps[i]? = some p := ⟨ps[i], List.getElem?_eq_getElem (by omega)⟩
    have es : hvF m k gs (ps.take (i + 1)) = hvS m k (hvF m k gs (ps.take i)) p := fold_take _ hp _
    obtain ⟨h1, hl, ht, h2⟩ := ih (by omega) _ rfl
    rw [e, es]
    clear e es
    generalize hvF m k gs (ps.take i) = s at *
    have hm := List.mem_of_getElem? hp
    obtain ⟨q1, q2⟩ := hw p hm
    have e1 : Ext m s.1 (s.1 ++ [.w k [p.1, p.2]]) 1 := .one ⟨.inl ⟨by rcases hk with z | z <;> rw [z] <;> simp, rfl⟩, by simp only [List.mem_cons, List.not_mem_nil, or_false]; rintro x (rfl | rfl) <;> omega⟩
    have l1 : (s.1 ++ [Gt.w k [p.1, p.2]]).length = s.1.length + 1 := by simp
    refine ⟨h1.trans e1, by show (s.1 ++ [_]).length = _; omega, by show (s.2 ++ [_]).length = _; rw [List.length_append, ht]; rfl, fun j w p' hj hp' => ?_⟩
    replace hj : (s.2 ++ [m + s.1.length])[j]? = some w := hj
    show w < m + (s.1 ++ [_]).length ∧ (D → dpW m (s.1 ++ [_]) w ≤ d + 1) ∧ ∀ vals : List Bool, vals.length = m → wb vals (s.1 ++ [_]) w = _
    by_cases c : j < s.2.length
    · rw [List.getElem?_append_left c] at hj
      obtain ⟨a1, a2, a3⟩ := h2 j w p' hj hp'
      exact ⟨by omega, fun x => by rw [e1.dp a1]; exact a2 x, fun vals hv => (e1.wb hv a1).trans (a3 vals hv)⟩
    · have j0 : j = s.2.length := by
        have := (List.getElem?_eq_some_iff.mp hj).1
        rw [List.length_append, List.length_cons, List.length_nil] at this
        omega
      rw [List.getElem?_append_right (by omega), j0, Nat.sub_self] at hj
      cases hj
      rw [j0, ht, hp] at hp'
      cases hp'
      exact ⟨by omega, fun x => dpW_new rfl d0 (by rw [h1.dp q1]; exact (hD x _ hm).1) (by rw [h1.dp q2]; exact (hD x _ hm).2), fun vals hv => by
        rw [wb_two (by rw [hv]), h1.wb hv q1, h1.wb hv q2]⟩
/-! ### what is carried out of some places -/
def sgB (g p : Nat → Bool) (lo : Nat) : Nat → Bool
  | 0 => g lo
  | d + 1 => g (lo + (d + 1)) || (p (lo + (d + 1)) && sgB g p lo d)
def spB (p : Nat → Bool) (lo : Nat) : Nat → Bool
  | 0 => p lo
  | d + 1 => p (lo + (d + 1)) && spB p lo d
theorem sg_split (g p : Nat → Bool) (lo d1 : Nat) : ∀ d2, sgB g p lo (d1 + 1 + d2) = (sgB g p (lo + d1 + 1) d2 || (spB p (lo + d1 + 1) d2 && sgB g p lo d1))
  | 0 => rfl
  | d2 + 1 => by
    show (g (lo + (d1 + 1 + d2 + 1)) || (p (lo + (d1 + 1 + d2 + 1)) && sgB g p lo (d1 + 1 + d2))) = ((g (lo + d1 + 1 + (d2 + 1)) || (p (lo + d1 + 1 + (d2 + 1)) && sgB g p (lo + d1 + 1) d2)) || ((p (lo + d1 + 1 + (d2 + 1)) && spB p (lo + d1 + 1) d2) && sgB g p lo d1))
    rw [sg_split g p lo d1 d2, show lo + (d1 + 1 + d2 + 1) = lo + d1 + 1 + (d2 + 1) by omega]
    cases g (lo + d1 + 1 + (d2 + 1)) <;> cases p (lo + d1 + 1 + (d2 + 1)) <;> cases sgB g p (lo + d1 + 1) d2 <;> rfl
theorem sp_split (p : Nat → Bool) (lo d1 : Nat) : ∀ d2, spB p lo (d1 + 1 + d2) = (spB p (lo + d1 + 1) d2 && spB p lo d1)
  | 0 => rfl
  | d2 + 1 => by
    show (p (lo + (d1 + 1 + d2 + 1)) && spB p lo (d1 + 1 + d2)) = ((p (lo + d1 + 1 + (d2 + 1)) && spB p (lo + d1 + 1) d2) && spB p lo d1)
    rw [sp_split p lo d1 d2, show lo + (d1 + 1 + d2 + 1) = lo + d1 + 1 + (d2 + 1) by omega, Bool.and_assoc]
abbrev Spn := Nat × Option Nat
structure Sp1 (m : Nat) (gs : List Gt) (gf pf : List Bool → Nat → Bool) (D : Prop) (d : Int) (z i : Nat) (s : Spn) : Prop where
  lt : s.1 < m + gs.length
  non : s.2 = none ↔ i < z
  ltp : ∀ w, s.2 = some w → w < m + gs.length
  dp : D → dpW m gs s.1 ≤ d ∧ ∀ w, s.2 = some w → dpW m gs w ≤ d
  val : ∀ vals : List Bool, vals.length = m → wb vals gs s.1 = sgB (gf vals) (pf vals) (i / z * z) (i % z)
  valp : ∀ vals : List Bool, vals.length = m → ∀ w, s.2 = some w → wb vals gs w = spB (pf vals) (i / z * z) (i % z)
section
variable {m n z i : Nat} {gs g1 : List Gt} {gf pf : List Bool → Nat → Bool} {D : Prop} {d : Int} {s : Spn}
theorem Sp1.ext (h : Sp1 m gs gf pf D d z i s) (e : Ext m gs g1 n) : Sp1 m g1 gf pf D d z i s :=
  ⟨by have := e.len; have := h.lt; omega, h.non, fun w hw => by have := e.len; have := h.ltp w hw; omega, fun x => ⟨by rw [e.dp h.lt]; exact (h.dp x).1, fun w hw => by rw [e.dp (h.ltp w hw)]; exact (h.dp x).2 w hw⟩, fun vals hv => (e.wb hv h.lt).trans (h.val vals hv), fun vals hv w hw => (e.wb hv (h.ltp w hw)).trans (h.valp vals hv w hw)⟩
theorem Sp1.mono {d' : Int} (h : Sp1 m gs gf pf D d z i s) (l : d ≤ d') : Sp1 m gs gf pf D d' z i s :=
  ⟨h.lt, h.non, h.ltp, fun x => ⟨Int.le_trans (h.dp x).1 l, fun w hw => Int.le_trans ((h.dp x).2 w hw) l⟩, h.val, h.valp⟩
theorem dm {a q z r : Nat} (e : a = q * z + r) (h : r < z) : a / z = q ∧ a % z = r := by
  subst e
  constructor
  · rw [Nat.mul_comm, Nat.mul_add_div (by omega), Nat.div_eq_of_lt h, Nat.add_zero]
  · rw [Nat.mul_comm, Nat.mul_add_mod, Nat.mod_eq_of_lt h]
theorem Sp1.even (h : Sp1 m gs gf pf D d z i s) (hz : 0 < z) (he : i / z % 2 = 0) : Sp1 m gs gf pf D d (2 * z) i s := by
  obtain ⟨k, ek⟩ : ∃ k, i / z = 2 * k := ⟨i / z / 2, by omega⟩
  have ei := Nat.div_add_mod i z
  have hr := Nat.mod_lt i hz
  rw [ek, Nat.mul_comm] at ei
  have e0 : k * (2 * z) = 2 * k * z := by rw [← Nat.mul_assoc, Nat.mul_comm k 2]
  obtain ⟨a1, a2⟩ := dm (a := i) (q := k) (z := 2 * z) (r := i % z) (by rw [e0]; omega) (by omega)
  have e1 : i / (2 * z) * (2 * z) = i / z * z := by rw [a1, ek, e0]
  refine ⟨h.lt, h.non.trans ?_, h.ltp, h.dp, fun vals hv => by rw [e1, a2]; exact h.val vals hv, fun vals hv w hw => by rw [e1, a2]; exact h.valp vals hv w hw⟩
  rcases Nat.eq_zero_or_pos k with q | q
  · rw [q] at ei
    simp at ei
    omega
  · have := Nat.mul_le_mul_right z (show 2 ≤ 2 * k by omega)
    omega
def sdO (m : Nat) (gs : List Gt) (s b : Spn) : List Gt × Spn :=
  let pw := s.2.getD 0
  let g1 := gs ++ [.w "both" [pw, b.1]]
  let g2 := g1 ++ [.w "either" [s.1, m + gs.length]]
  match b.2 with
  | none => (g2, m + g1.length, none)
  | some bw => (g2 ++ [.w "both" [pw, bw]], m + g1.length, some (m + g2.length))
theorem Sp1.odd {b : Spn} (h : Sp1 m gs gf pf D d z i s) (hb : Sp1 m gs gf pf D d z (i / z * z - 1) b) (d0 : 0 ≤ d) (hz : 0 < z) (he : i / z % 2 = 1) : Ext m gs (sdO m gs s b).1 3 ∧ Sp1 m (sdO m gs s b).1 gf pf D (d + 2) (2 * z) i (sdO m gs s b).2 := by
  obtain ⟨k, ek⟩ : ∃ k, i / z = 2 * k + 1 := ⟨i / z / 2, by omega⟩
  have ei := Nat.div_add_mod i z
  have hr := Nat.mod_lt i hz
  rw [ek, Nat.mul_comm] at ei
  rw [ek] at hb
  have e0 : k * (2 * z) = 2 * k * z := by rw [← Nat.mul_assoc, Nat.mul_comm k 2]
  have e1 : (2 * k + 1) * z = 2 * k * z + z := by rw [Nat.add_mul, Nat.one_mul]
  rw [e1] at ei hb
  obtain ⟨a1, a2⟩ := dm (a := i) (q := k) (z := 2 * z) (r := z + i % z) (by rw [e0]; omega) (by omega)
  obtain ⟨b1, b2⟩ := dm (a := 2 * k * z + z - 1) (q := 2 * k) (z := z) (r := z - 1) (by omega) (by omega)
  have v1 := h.val
  have v2 := h.valp
  rw [ek, e1] at v1 v2
  have u1 := hb.val
  have u2 := hb.valp
  have hnb := hb.non
  rw [b1, b2] at u1 u2
  obtain ⟨pw, epw⟩ : ∃ pw, s.2 = some pw := by
    cases e : s.2 with
    | none =>
      have := h.non.mp e
      omega
    | some pw => exact ⟨pw, rfl⟩
  have lp := h.ltp pw epw
  have lb := hb.lt
  have ls := h.lt
  obtain ⟨g1, eg1⟩ : ∃ g, g = gs ++ [.w "both" [pw, b.1]] := ⟨_, rfl⟩
  obtain ⟨g2, eg2⟩ : ∃ g, g = g1 ++ [.w "either" [s.1, m + gs.length]] := ⟨_, rfl⟩
  have l1 : g1.length = gs.length + 1 := by rw [eg1]; simp
  have l2 : g2.length = gs.length + 2 := by rw [eg2]; simp [l1]
  have x1 : Ext m gs g1 1 := eg1 ▸ .both (by omega) (by omega)
  have x2 : Ext m g1 g2 1 := eg2 ▸ .either (by omega) (by omega)
  have x12 := x1.trans x2
  have vm : ∀ vals : List Bool, vals.length = m → wb vals g2 (m + g1.length) = sgB (gf vals) (pf vals) (k * (2 * z)) (z + i % z) := fun vals hv => by
    rw [eg2, wb_either (by rw [hv]), x1.wb hv ls, eg1, wb_both (by rw [hv]), v1 vals hv, v2 vals hv pw epw, u1 vals hv]
    have := sg_split (gf vals) (pf vals) (k * (2 * z)) (z - 1) (i % z)
    rw [show z - 1 + 1 + i % z = z + i % z by omega, show k * (2 * z) + (z - 1) + 1 = 2 * k * z + z by rw [e0]; omega] at this
    rw [this, e0]
  have dm2 : D → dpW m g2 (m + g1.length) ≤ d + 2 := fun x => by
    obtain ⟨y1, y2⟩ := h.dp x
    have y3 := (hb.dp x).1
    have c1 : dpW m g1 (m + gs.length) ≤ d + 1 := eg1 ▸ dpW_new rfl d0 (y2 pw epw) y3
    have c2 : dpW m g1 s.1 ≤ d + 1 := by rw [x1.dp ls]; omega
    have := eg2 ▸ dpW_new (k := "either") (n := m + g1.length) rfl (show 0 ≤ d + 1 by omega) c2 c1
    omega
  have nn : b.2 = none ↔ i < 2 * z := hnb.trans (by
    rcases Nat.eq_zero_or_pos k with q | q
    · rw [q] at ei ⊢
      simp at ei ⊢
      omega
    · have := Nat.mul_le_mul_right z (show 2 ≤ 2 * k by omega)
      omega)
  cases eb : b.2 with
  | none =>
    have hs : sdO m gs s b = (g2, m + g1.length, none) := by
      rw [eg2, eg1]
      unfold sdO
      rw [eb, epw]
      rfl
    rw [hs]
    refine ⟨x12.mono (by omega), ⟨by show m + g1.length < m + g2.length; omega, by rw [← nn, eb], (fun w hw => nomatch hw), fun x => ⟨dm2 x, fun w hw => nomatch hw⟩, fun vals hv => by rw [a1, a2]; exact vm vals hv, fun vals hv w hw => nomatch hw⟩⟩
  | some bw =>
    have lbw := hb.ltp bw eb
    have hs : sdO m gs s b = (g2 ++ [.w "both" [pw, bw]], m + g1.length, some (m + g2.length)) := by
      rw [eg2, eg1]
      unfold sdO
      rw [eb, epw]
      rfl
    have x3 : Ext m g2 (g2 ++ [.w "both" [pw, bw]]) 1 := .both (by omega) (by omega)
    have l3 : (g2 ++ [Gt.w "both" [pw, bw]]).length = gs.length + 3 := by simp [l2]
    rw [hs]
    refine ⟨(x12.trans x3).mono (by omega), ⟨by show m + g1.length < m + (g2 ++ [_]).length; omega, ?_, fun w hw => ?_, fun x => ⟨?_, fun w hw => ?_⟩, fun vals hv => ?_, fun vals hv w hw => ?_⟩⟩
    · rw [← nn, eb]
      exact ⟨(fun z => nomatch z), (fun z => nomatch z)⟩
    · cases hw
      show m + g2.length < m + (g2 ++ [_]).length
      omega
    · show dpW m (g2 ++ [_]) (m + g1.length) ≤ _
      rw [x3.dp (by omega)]
      exact dm2 x
    · cases hw
      have c1 : dpW m g2 pw ≤ d := by rw [x12.dp lp]; exact (h.dp x).2 pw epw
      have c2 : dpW m g2 bw ≤ d := by rw [x12.dp lbw]; exact (hb.dp x).2 bw eb
      have := dpW_new (m := m) (k := "both") (n := m + g2.length) (gs := g2) rfl d0 c1 c2
      exact Int.le_trans this (by omega)
    · rw [a1, a2]
      exact (x3.wb hv (w := m + g1.length) (by omega)).trans (vm vals hv)
    · cases hw
      rw [a1, a2]
      show wb vals (g2 ++ [_]) (m + g2.length) = _
      rw [wb_both (by rw [hv]), x12.wb hv lp, x12.wb hv lbw, v2 vals hv pw epw, u2 vals hv bw eb]
      have := sp_split (pf vals) (k * (2 * z)) (z - 1) (i % z)
      rw [show z - 1 + 1 + i % z = z + i % z by omega, show k * (2 * z) + (z - 1) + 1 = 2 * k * z + z by rw [e0]; omega] at this
      rw [this, e0]
end
def sdW (m : Nat) (gs : List Gt) (S : List Spn) (z pl : Nat) : List Gt × Spn :=
  if pl / z % 2 = 0 then (gs, S.getD pl (0, none)) else sdO m gs (S.getD pl (0, none)) (S.getD (pl / z * z - 1) (0, none))
def SpsOk (m : Nat) (gs : List Gt) (gf pf : List Bool → Nat → Bool) (D : Prop) (d : Int) (z N : Nat) (S : List Spn) : Prop := S.length = N ∧ ∀ (i : Nat) (s : Spn), S[i]? = some s → Sp1 m gs gf pf D d z i s
section
variable {m n z N : Nat} {gs g1 : List Gt} {gf pf : List Bool → Nat → Bool} {D : Prop} {d : Int} {S : List Spn}
theorem SpsOk.ext (h : SpsOk m gs gf pf D d z N S) (e : Ext m gs g1 n) : SpsOk m g1 gf pf D d z N S := ⟨h.1, fun i s hs => (h.2 i s hs).ext e⟩
theorem SpsOk.at (h : SpsOk m gs gf pf D d z N S) {i : Nat} (hi : i < N) : S[i]? = some (S.getD i (0, none)) ∧ Sp1 m gs gf pf D d z i (S.getD i (0, none)) := by
  have e : S[i]? = some (S.getD i (0, none)) := by
    rw [List.getElem?_eq_getElem (by have := h.1; omega)]
    simp [List.getD, List.getElem?_eq_getElem (show i < S.length by have := h.1; omega)]
  exact ⟨e, h.2 i _ e⟩
theorem sdW_ok {pl : Nat} (h : SpsOk m gs gf pf D d z N S) (d0 : 0 ≤ d) (hz : 0 < z) (hp : pl < N) : Ext m gs (sdW m gs S z pl).1 3 ∧ Sp1 m (sdW m gs S z pl).1 gf pf D (d + 2) (2 * z) pl (sdW m gs S z pl).2 := by
  unfold sdW
  split
  · rename_i c
    exact ⟨Ext.refl.mono (by omega), ((h.at hp).2.even hz c).mono (by omega)⟩
  · rename_i c
    have lt : pl / z * z - 1 < N := by
      have := Nat.div_mul_le_self pl z
      omega
    exact (h.at hp).2.odd (h.at lt).2 d0 hz (by omega)
def rdS (m : Nat) (S : List Spn) (z : Nat) (s : List Gt × List Spn) (pl : Nat) : List Gt × List Spn := ((sdW m s.1 S z pl).1, s.2 ++ [(sdW m s.1 S z pl).2])
def rdF (m : Nat) (S : List Spn) (z : Nat) (gs : List Gt) (pls : List Nat) : List Gt × List Spn := pls.foldl (rdS m S z) (gs, [])
theorem rdF_ok (h : SpsOk m gs gf pf D d z N S) (d0 : 0 ≤ d) (hz : 0 < z) : ∀ i, i ≤ N → ∀ s, s = rdF m S z gs ((List.range N).take i) → Ext m gs s.1 (3 * i) ∧ s.2.length = i ∧ ∀ (j : Nat) (t : Spn), s.2[j]? = some t → Sp1 m s.1 gf pf D (d + 2) (2 * z) j t := by
  intro i
  induction i with
  | zero => exact fun _ s e => by subst e; exact ⟨.refl, rfl, fun j t h => by simp [rdF] at h⟩
  | succ i ih =>
    intro hi s e
    have hp : (List.range N)[i]? = some i := List.getElem?_range (by omega)
    have es : rdF m S z gs ((List.range N).take (i + 1)) = rdS m S z (rdF m S z gs ((List.range N).take i)) i := fold_take _ hp _
    obtain ⟨h1, ht, h2⟩ := ih (by omega) _ rfl
    rw [e, es]
    clear e es
    generalize rdF m S z gs ((List.range N).take i) = s at *
    obtain ⟨x1, x2⟩ := sdW_ok (h.ext h1) d0 hz (pl := i) (by omega)
    unfold rdS
    generalize sdW m s.1 S z i = r at *
    refine ⟨(h1.trans x1).mono (by omega), by show (s.2 ++ [_]).length = _; rw [List.length_append, ht]; rfl, fun j t hj => ?_⟩
    replace hj : (s.2 ++ [r.2])[j]? = some t := hj
    by_cases c : j < s.2.length
    · rw [List.getElem?_append_left c] at hj
      exact (h2 j t hj).ext x1
    · have j0 : j = s.2.length := by
        have := (List.getElem?_eq_some_iff.mp hj).1
        rw [List.length_append, List.length_cons, List.length_nil] at this
        omega
      rw [List.getElem?_append_right (by omega), j0, Nat.sub_self] at hj
      cases hj
      rw [j0, ht]
      exact x2
end
/-! ### the sum -/
def cgB (c : Bool) (ps : List (Bool × Bool)) : Nat → Bool
  | 0 => c
  | i + 1 => (ps.getD i (false, false)).1 && (ps.getD i (false, false)).2
def cpB (ps : List (Bool × Bool)) : Nat → Bool
  | 0 => false
  | i + 1 => xor (ps.getD i (false, false)).1 (ps.getD i (false, false)).2
theorem cpB_s (ps : List (Bool × Bool)) (i : Nat) : cpB ps (i + 1) = xor (ps.getD i (false, false)).1 (ps.getD i (false, false)).2 := rfl
theorem cgB_s (c : Bool) (ps : List (Bool × Bool)) (i : Nat) : cgB c ps (i + 1) = ((ps.getD i (false, false)).1 && (ps.getD i (false, false)).2) := rfl
theorem adF_closed (c : Bool) (ps : List (Bool × Bool)) : ∀ i, i ≤ ps.length → (ps.take i).foldl adF ([], c) = ((List.range i).map (fun j => xor (cpB ps (j + 1)) (sgB (cgB c ps) (cpB ps) 0 j)), sgB (cgB c ps) (cpB ps) 0 i)
  | 0, _ => rfl
  | i + 1, hi => by
    have hp : ps[i]? = some ps[i] := List.getElem?_eq_getElem (by omega)
    have e := fold_take adF hp ([], c)
    rw [e, adF_closed c ps i (by omega)]
    have g : ps.getD i (false, false) = ps[i] := by simp [List.getD, hp]
    have q1 : cpB ps (i + 1) = xor ps[i].1 ps[i].2 := by rw [cpB_s, g]
    have q2 : cgB c ps (i + 1) = (ps[i].1 && ps[i].2) := by rw [cgB_s, g]
    rw [List.range_succ, List.map_append, List.map_cons, List.map_nil]
    show ((List.range i).map _ ++ [xor (xor ps[i].1 ps[i].2) (sgB (cgB c ps) (cpB ps) 0 i)], _) = _
    rw [q1]
    show (_, (ps[i].1 && ps[i].2) || (xor ps[i].1 ps[i].2 && sgB (cgB c ps) (cpB ps) 0 i)) = (_, cgB c ps (0 + (i + 1)) || (cpB ps (0 + (i + 1)) && sgB (cgB c ps) (cpB ps) 0 i))
    rw [Nat.zero_add, q1, q2]
def QF (m : Nat) (gs gs' : List Gt) (os ts : List Nat) (c : Nat) (ws : List Nat) : Prop := Ext m gs gs' (24 * os.length + 21) ∧ ws.length = os.length + 1 ∧ (∀ w ∈ ws, w < m + gs'.length) ∧ (∀ vals : List Bool, vals.length = m → ws.map (wb vals gs') = sumB (os.map (wb vals gs)) (ts.map (wb vals gs)) (wb vals gs c)) ∧ ((∀ w ∈ os, w < m) → (∀ w ∈ ts, w < m) → c < m → ∃ K : Nat, (K = 0 ∨ 2 ^ (K - 1) ≤ os.length) ∧ ∀ w ∈ ws, dpW m gs' w ≤ 2 + 2 * (K : Int))
theorem gbw_both (x y : Bool) : gbw x y "both" = (x && y) := by
  unfold gbw
  rw [if_neg (by decide), if_pos rfl]
theorem gbw_unlike (x y : Bool) : gbw x y "unlike" = xor x y := by
  unfold gbw
  rw [if_neg (by decide), if_neg (by decide), if_neg (by decide)]
def qps (vals : List Bool) (gs : List Gt) (ps : List (Nat × Nat)) : List (Bool × Bool) := ps.map fun p => (wb vals gs p.1, wb vals gs p.2)
theorem qps_at {vals : List Bool} {gs : List Gt} {ps : List (Nat × Nat)} {j : Nat} {p : Nat × Nat} (h : ps[j]? = some p) : (qps vals gs ps).getD j (false, false) = (wb vals gs p.1, wb vals gs p.2) := by
  unfold qps
  simp [List.getD, h]
def spans0 (c : Nat) (P H : List Nat) : List Spn := (c, none) :: (P.zip H).map fun q => (q.1, some q.2)
section
variable {m c : Nat} {gs : List Gt} {ps : List (Nat × Nat)} {D : Prop}
theorem hv_two (hw : ∀ p ∈ ps, p.1 < m + gs.length ∧ p.2 < m + gs.length) (hD : D → ∀ p ∈ ps, p.1 < m ∧ p.2 < m) :
    (∀ s, s = hvF m "unlike" gs ps → Ext m gs s.1 ps.length ∧ s.1.length = gs.length + ps.length ∧ s.2.length = ps.length ∧ ∀ (j w : Nat) (p : Nat × Nat), s.2[j]? = some w → ps[j]? = some p → w < m + s.1.length ∧ (D → dpW m s.1 w ≤ 1) ∧ ∀ vals : List Bool, vals.length = m → wb vals s.1 w = xor (wb vals gs p.1) (wb vals gs p.2)) ∧
    ∀ s, s = hvF m "both" (hvF m "unlike" gs ps).1 ps → Ext m (hvF m "unlike" gs ps).1 s.1 ps.length ∧ s.1.length = gs.length + 2 * ps.length ∧ s.2.length = ps.length ∧ ∀ (j w : Nat) (p : Nat × Nat), s.2[j]? = some w → ps[j]? = some p → w < m + s.1.length ∧ (D → dpW m s.1 w ≤ 1) ∧ ∀ vals : List Bool, vals.length = m → wb vals s.1 w = (wb vals gs p.1 && wb vals gs p.2) := by
  have A := hvF_ok (m := m) (k := "unlike") (gs := gs) (ps := ps) (D := D) (d := 0) (.inr rfl) (Int.le_refl _) hw (fun x p hp => ⟨by rw [dpW_in _ (hD x p hp).1]; decide, by rw [dpW_in _ (hD x p hp).2]; decide⟩) ps.length (Nat.le_refl _) _ rfl
  rw [List.take_length] at A
  obtain ⟨a1, a2, a3, a4⟩ := A
  have B := hvF_ok (m := m) (k := "both") (gs := (hvF m "unlike" gs ps).1) (ps := ps) (D := D) (d := 0) (.inl rfl) (Int.le_refl _) (fun p hp => by have := hw p hp; omega) (fun x p hp => ⟨by rw [dpW_in _ (hD x p hp).1]; decide, by rw [dpW_in _ (hD x p hp).2]; decide⟩) ps.length (Nat.le_refl _) _ rfl
  rw [List.take_length] at B
  obtain ⟨b1, b2, b3, b4⟩ := B
  refine ⟨fun s e => ?_, fun s e => ?_⟩
  · subst e
    refine ⟨a1, a2, a3, fun j w p h1 h2 => ?_⟩
    obtain ⟨x, y, v⟩ := a4 j w p h1 h2
    exact ⟨x, y, fun vals hv => (v vals hv).trans (gbw_unlike _ _)⟩
  · subst e
    refine ⟨b1, by omega, b3, fun j w p h1 h2 => ?_⟩
    obtain ⟨x, y, v⟩ := b4 j w p h1 h2
    have hp := hw p (List.mem_of_getElem? h2)
    exact ⟨x, y, fun vals hv => (v vals hv).trans (by rw [gbw_both, a1.wb hv hp.1, a1.wb hv hp.2])⟩
theorem spans0_ok (hw : ∀ p ∈ ps, p.1 < m + gs.length ∧ p.2 < m + gs.length) (hc : c < m + gs.length) (hD : D → ∀ p ∈ ps, p.1 < m ∧ p.2 < m) (hDc : D → c < m) :
    SpsOk m (hvF m "both" (hvF m "unlike" gs ps).1 ps).1 (fun vals => cgB (wb vals gs c) (qps vals gs ps)) (fun vals => cpB (qps vals gs ps)) D 1 1 (ps.length + 1) (spans0 c (hvF m "both" (hvF m "unlike" gs ps).1 ps).2 (hvF m "unlike" gs ps).2) := by
  obtain ⟨A, B⟩ := hv_two (m := m) (D := D) hw hD
  obtain ⟨a1, a2, a3, a4⟩ := A _ rfl
  obtain ⟨b1, b2, b3, b4⟩ := B _ rfl
  clear A B
  generalize hvF m "both" (hvF m "unlike" gs ps).1 ps = P at *
  generalize hvF m "unlike" gs ps = U at *
  unfold spans0
  refine ⟨by rw [List.length_cons, List.length_map, List.length_zip]; omega, fun i s hs => ?_⟩
  cases i with
  | zero =>
    cases hs
    refine ⟨by show c < _; omega, ⟨fun _ => by decide, fun _ => rfl⟩, (fun w h => nomatch h), fun x => ⟨by show dpW m P.1 c ≤ 1; rw [dpW_in _ (hDc x)]; decide, fun w h => nomatch h⟩, fun vals hv => ?_, fun vals hv w h => nomatch h⟩
    show wb vals P.1 c = wb vals gs c
    rw [b1.wb hv (by omega), a1.wb hv hc]
  | succ j =>
    rw [List.getElem?_cons_succ, List.getElem?_map] at hs
    cases hq : (P.2.zip U.2)[j]? with
    | none => rw [hq] at hs; cases hs
    | some q =>
      rw [hq] at hs
      cases hs
      obtain ⟨h1, h2⟩ := List.getElem?_zip_eq_some.mp hq
      have jl : j < ps.length := by
        have := (List.getElem?_eq_some_iff.mp h1).1
        omega
      have hp : ps[j]? = some ps[j] := List.getElem?_eq_getElem jl
      obtain ⟨x1, x2, x3⟩ := b4 j _ _ h1 hp
      obtain ⟨y1, y2, y3⟩ := a4 j _ _ h2 hp
      refine ⟨x1, ⟨(fun h => nomatch h), fun h => by omega⟩, fun w h => ?_, fun x => ⟨x2 x, fun w h => ?_⟩, fun vals hv => ?_, fun vals hv w h => ?_⟩
      · cases h
        omega
      · cases h
        rw [b1.dp y1]
        exact y2 x
      · rw [Nat.div_one, Nat.mul_one, Nat.mod_one]
        show wb vals P.1 q.1 = cgB _ _ (j + 1)
        rw [x3 vals hv]
        rw [cgB_s, qps_at hp]
      · cases h
        rw [Nat.div_one, Nat.mul_one, Nat.mod_one]
        show wb vals P.1 q.2 = cpB _ (j + 1)
        rw [b1.wb hv y1, y3 vals hv]
        rw [cpB_s, qps_at hp]
theorem tot_ok {K x n : Nat} {g3 : List Gt} {S : List Spn} (hn : ps.length = n) (hw : ∀ p ∈ ps, p.1 < m + gs.length ∧ p.2 < m + gs.length) (hD : D → ∀ p ∈ ps, p.1 < m ∧ p.2 < m)
    (e3 : Ext m (hvF m "both" (hvF m "unlike" gs ps).1 ps).1 g3 x) (hN : n + 1 ≤ 2 ^ K) (hS : SpsOk m g3 (fun vals => cgB (wb vals gs c) (qps vals gs ps)) (fun vals => cpB (qps vals gs ps)) D (1 + 2 * (K : Int)) (2 ^ K) (n + 1) S) :
    ∀ i, i ≤ n → ∀ s, s = hvF m "unlike" g3 (((hvF m "unlike" gs ps).2.zip (S.map (·.1))).take i) → Ext m g3 s.1 i ∧ s.1.length = g3.length + i ∧ s.2.length = i ∧ (∀ w ∈ s.2, w < m + s.1.length ∧ (D → dpW m s.1 w ≤ 2 + 2 * (K : Int))) ∧ ∀ vals : List Bool, vals.length = m → s.2.map (wb vals s.1) = (List.range i).map (fun j => xor (cpB (qps vals gs ps) (j + 1)) (sgB (cgB (wb vals gs c) (qps vals gs ps)) (cpB (qps vals gs ps)) 0 j)) := by
  obtain ⟨A, B⟩ := hv_two (m := m) (D := D) hw hD
  obtain ⟨a1, a2, a3, a4⟩ := A _ rfl
  obtain ⟨b1, b2, b3, b4⟩ := B _ rfl
  clear A B
  generalize hvF m "both" (hvF m "unlike" gs ps).1 ps = P at *
  generalize hvF m "unlike" gs ps = U at *
  have le := e3.len
  have lz : (U.2.zip (S.map (·.1))).length = n := by rw [List.length_zip, List.length_map, hS.1]; omega
  have each : ∀ (j : Nat) (q : Nat × Nat), (U.2.zip (S.map (·.1)))[j]? = some q → j < n ∧ q.1 < m + g3.length ∧ q.2 < m + g3.length ∧ (D → dpW m g3 q.1 ≤ 1 + 2 * (K : Int) ∧ dpW m g3 q.2 ≤ 1 + 2 * (K : Int)) ∧ ∀ vals : List Bool, vals.length = m → wb vals g3 q.1 = cpB (qps vals gs ps) (j + 1) ∧ wb vals g3 q.2 = sgB (cgB (wb vals gs c) (qps vals gs ps)) (cpB (qps vals gs ps)) 0 j := fun j q hq => by
    obtain ⟨h1, h2⟩ := List.getElem?_zip_eq_some.mp hq
    rw [List.getElem?_map] at h2
    cases hs : S[j]? with
    | none => rw [hs] at h2; cases h2
    | some s =>
      rw [hs] at h2
      replace h2 : s.1 = q.2 := Option.some.inj h2
      have jl : j < n := by
        have := (List.getElem?_eq_some_iff.mp h1).1
        omega
      have hp : ps[j]? = some ps[j] := List.getElem?_eq_getElem (by omega)
      obtain ⟨y1, y2, y3⟩ := a4 j _ _ h1 hp
      have z := hS.2 j s hs
      have yl : q.1 < m + P.1.length := by have := b1.len; omega
      refine ⟨jl, by omega, by rw [← h2]; exact z.lt, fun x => ⟨?_, by rw [← h2]; exact (z.dp x).1⟩, fun vals hv => ⟨?_, ?_⟩⟩
      · rw [e3.dp yl, b1.dp y1]
        have := y2 x
        omega
      · rw [e3.wb hv yl, b1.wb hv y1, y3 vals hv]
        rw [cpB_s, qps_at hp]
      · rw [← h2, z.val vals hv, Nat.div_eq_of_lt (by omega), Nat.zero_mul, Nat.mod_eq_of_lt (by omega)]
  intro i hi s e
  have T := hvF_ok (m := m) (k := "unlike") (gs := g3) (ps := U.2.zip (S.map (·.1))) (D := D) (d := 1 + 2 * (K : Int)) (.inr rfl) (by omega) (fun q hq => by
    obtain ⟨j, hj⟩ := List.mem_iff_getElem?.mp hq
    exact ⟨(each j q hj).2.1, (each j q hj).2.2.1⟩) (fun x q hq => by
    obtain ⟨j, hj⟩ := List.mem_iff_getElem?.mp hq
    exact (each j q hj).2.2.2.1 x) i (by omega) s e
  clear e
  obtain ⟨t1, t2, t3, t4⟩ := T
  refine ⟨t1, t2, t3, fun w hwm => ?_, fun vals hv => ?_⟩
  · obtain ⟨j, hj⟩ := List.mem_iff_getElem?.mp hwm
    have jl := (List.getElem?_eq_some_iff.mp hj).1
    obtain ⟨y1, y2, _⟩ := t4 j w _ hj (List.getElem?_eq_getElem (by omega))
    exact ⟨y1, fun x => by have := y2 x; omega⟩
  · apply List.ext_getElem?
    intro j
    rw [List.getElem?_map, List.getElem?_map]
    by_cases c' : j < i
    · have hj : s.2[j]? = some (s.2[j]'(by omega)) := List.getElem?_eq_getElem (by omega)
      have hq : (U.2.zip (S.map (·.1)))[j]? = some ((U.2.zip (S.map (·.1)))[j]'(by omega)) := List.getElem?_eq_getElem (by omega)
      obtain ⟨_, _, v⟩ := t4 j _ _ hj hq
      obtain ⟨_, _, _, _, u⟩ := each j _ hq
      obtain ⟨u1, u2⟩ := u vals hv
      rw [hj, List.getElem?_range c']
      show some (wb vals s.1 _) = some _
      rw [v vals hv, gbw_unlike, u1, u2]
    · rw [List.getElem?_eq_none (by omega), List.getElem?_eq_none (by rw [List.length_range]; omega)]
      rfl
end
theorem quick_ok {m c K x n : Nat} {gs g3 : List Gt} {os ts : List Nat} {S : List Spn} (hn : os.length = n) (hl : os.length = ts.length) (ho : ∀ w ∈ os, w < m + gs.length) (ht : ∀ w ∈ ts, w < m + gs.length) (hc : c < m + gs.length)
    (e3 : Ext m (hvF m "both" (hvF m "unlike" gs (os.reverse.zip ts.reverse)).1 (os.reverse.zip ts.reverse)).1 g3 x) (hx : x ≤ 21 * (n + 1)) (hK : K = 0 ∨ 2 ^ (K - 1) ≤ n) (hN : n + 1 ≤ 2 ^ K)
    (hS : SpsOk m g3 (fun vals => cgB (wb vals gs c) (qps vals gs (os.reverse.zip ts.reverse))) (fun vals => cpB (qps vals gs (os.reverse.zip ts.reverse))) ((∀ w ∈ os, w < m) ∧ (∀ w ∈ ts, w < m) ∧ c < m) (1 + 2 * (K : Int)) (2 ^ K) (n + 1) S) :
    ∀ T, T = hvF m "unlike" g3 ((hvF m "unlike" gs (os.reverse.zip ts.reverse)).2.zip (S.map (·.1))) → QF m gs T.1 os ts c ((S.getD n (0, none)).1 :: T.2.reverse) := by
  intro T eT
  have lz := zipR_len hl
  have hw : ∀ p ∈ os.reverse.zip ts.reverse, p.1 < m + gs.length ∧ p.2 < m + gs.length := fun p hp => ⟨ho _ (mem_zipR hp).1, ht _ (mem_zipR hp).2⟩
  have hD : ((∀ w ∈ os, w < m) ∧ (∀ w ∈ ts, w < m) ∧ c < m) → ∀ p ∈ os.reverse.zip ts.reverse, p.1 < m ∧ p.2 < m := fun x p hp => ⟨x.1 _ (mem_zipR hp).1, x.2.1 _ (mem_zipR hp).2⟩
  have lS := hS.1
  obtain ⟨A, B⟩ := hv_two (m := m) hw hD
  obtain ⟨a1, a2, a3, _⟩ := A _ rfl
  obtain ⟨b1, b2, b3, _⟩ := B _ rfl
  have F := tot_ok (c := c) (hn := by omega) hw hD e3 hN hS n (Nat.le_refl _) T (by
    rw [eT, List.take_of_length_le (by rw [List.length_zip, a3]; omega)])
  obtain ⟨f1, f2, f3, f4, f5⟩ := F
  obtain ⟨_, sl⟩ := hS.at (i := n) (by omega)
  have eA := ((a1.trans b1).trans e3).trans f1
  have sT : (S.getD n (0, none)).1 < m + T.1.length := by have := sl.lt; have := f1.len; omega
  refine ⟨eA.mono (by omega), by rw [List.length_cons, List.length_reverse]; omega, fun w hw' => ?_, fun vals hv => ?_, fun h1 h2 h3 => ⟨K, by rw [hn]; exact hK, fun w hw' => ?_⟩⟩
  · rcases List.mem_cons.mp hw' with z | z
    · rw [z]
      exact sT
    · exact (f4 w (List.mem_reverse.mp z)).1
  · rw [List.map_cons, List.map_reverse, f5 vals hv, f1.wb hv sl.lt, sl.val vals hv, Nat.div_eq_of_lt (by omega), Nat.zero_mul, Nat.mod_eq_of_lt (by omega)]
    unfold sumB
    have lq : (qps vals gs (os.reverse.zip ts.reverse)).length = n := by unfold qps; rw [List.length_map]; omega
    have e := adF_closed (wb vals gs c) (qps vals gs (os.reverse.zip ts.reverse)) n (by omega)
    rw [List.take_of_length_le (by omega)] at e
    rw [← zipR_map]
    show _ = (List.foldl adF ([], wb vals gs c) (qps vals gs (os.reverse.zip ts.reverse))).2 :: (List.foldl adF ([], wb vals gs c) (qps vals gs (os.reverse.zip ts.reverse))).1.reverse
    rw [e]
  · rcases List.mem_cons.mp hw' with z | z
    · rw [z, f1.dp sl.lt]
      have := (sl.dp ⟨h1, h2, h3⟩).1
      omega
    · exact (f4 w (List.mem_reverse.mp z)).2 ⟨h1, h2, h3⟩
section
variable {P : Program} {w : World} {K : PySem.W.Frag} {mg : Str → Option Value} {base : Heap}
variable {C : Addr} {za : Nat → Addr} {zl : Nat → FuncData}
/-! ### wires of parts: the program's own -/
theorem at_nts {ws : List Nat} {a : Nat} (h : a < ws.length) : atI (nts ws) (a : Int) = some (.int ((ws.getD a 0 : Nat) : Int)) := atI_nat (by
  unfold nts
  rw [List.getElem?_map, List.getElem?_eq_getElem h]
  simp [List.getD, List.getElem?_eq_getElem h])
theorem cutN_to (ws : List Nat) (p : Nat) (h : p ≤ ws.length) : cutV (nts ws) none (some (p : Int)) = nts (ws.take p) := by
  unfold cutV nts
  rw [HT.sIx_none, HT.sIx_nat, List.drop_zero, List.length_map, Nat.sub_zero, Nat.min_eq_left h, List.map_take]
theorem cutN_from (ws : List Nat) (p : Nat) (h : p ≤ ws.length) : cutV (nts ws) (some (p : Int)) none = nts (ws.drop p) := by
  unfold cutV nts
  rw [HT.sIx_none, HT.sIx_nat, List.length_map, Nat.min_eq_left h, ← List.map_drop, List.take_of_length_le (by rw [List.length_map, List.length_drop]; exact Nat.le_refl _)]
theorem nts_app (a b : List Nat) : nts (a ++ b) = nts a ++ nts b := List.map_append
theorem big_lt {n : Nat} (h : n ≤ 500000) : n < sizeLine := Nat.lt_of_le_of_lt h (by decide)
theorem ks_none {S : List Addr} {H H' : Hp} (k : KeepS S H H') {a : Addr} (h : H' a = none) : H a = none := by
  cases e : H a with
  | none => rfl
  | some o => exact absurd h (k.2 a (some_ne e))
theorem ks_updN {S : List Addr} {H H' : Hp} (k : KeepS S H H') {D : Addr} {o : HO} (n : H D = none) : KeepS S H (upd H' D o) := ⟨fun y u e z => by
  rw [upd_ne (ne_of_none e n)]
  exact k.1 y u e z, fun y e => by
  rw [upd_ne (show y ≠ D from fun z => e (by rw [z]; exact n))]
  exact k.2 y e⟩
theorem NetAt.nin {C : Addr} {Z : List Addr} {H : Hp} {p : NetP} {m : Nat} {gs : List Gt} {nm : List (Str × List Nat)} (h : NetAt C Z H p m gs nm) {a : Addr} (n : H a = none) : a ∉ [p.lm, p.ld] := by
  obtain ⟨_, _, _, dx, ps, kvs, e1, e2, e3, _⟩ := h
  intro z
  rcases List.mem_cons.mp z with rfl | z
  · rw [e2] at n; cases n
  · rw [List.mem_singleton.mp z, e3] at n; cases n
theorem NetAt.add {C : Addr} {Z : List Addr} {H : Hp} {p : NetP} {m : Nat} {gs : List Gt} {nm : List (Str × List Nat)} {D : Addr} {o : HO} (h : NetAt C Z H p m gs nm) (n : H D = none) : NetAt C (D :: Z) (upd H D o) p m gs nm := by
  have k := same_upd (o := o) n
  obtain ⟨a, b, ⟨c1, c2, c3, c4⟩, dx, ps, kvs, e1, e2, e3, e4, ⟨g1, g2⟩, n1, n2, n3⟩ := h
  have ne : ∀ {y : Addr} {u : HO}, H y = some u → y ≠ D := fun e z => by rw [z, n] at e; cases e
  have ni : ∀ {y : Addr} {u : HO}, H y = some u → y ∉ Z → y ∉ D :: Z := fun e z y => by
    rcases List.mem_cons.mp y with w | w
    · exact ne e w
    · exact z w
  refine ⟨fun z hz => ?_, b, ⟨ni e1 c1, ni e2 c2, ni e3 c3, ni e4 c4⟩, dx, ps, kvs, k _ _ e1, k _ _ e2, k _ _ e3, k _ _ e4, ⟨g1, fun i q g hi hg => ?_⟩, n1, n2, fun i k' v n' ws hi hn => ?_⟩
  · rcases List.mem_cons.mp hz with w | w
    · rw [w, upd_same]
      exact fun z => nomatch z
    · exact (KeepS.ofSame (S := []) k).2 z (a z w)
  · have := g2 i q g hi hg
    exact ⟨ni this.2 this.1, k _ _ this.2⟩
  · obtain ⟨ek, l, ev, l1, l2, l3, l4⟩ := n3 i k' v n' ws hi hn
    exact ⟨ek, l, ev, ni l4 l1, l2, l3, k _ _ l4⟩
theorem NetAt.less {C : Addr} {Z : List Addr} {H : Hp} {p : NetP} {m : Nat} {gs : List Gt} {nm : List (Str × List Nat)} {D : Addr} (h : NetAt C (D :: Z) H p m gs nm) : NetAt C Z H p m gs nm := by
  obtain ⟨a, b, ⟨c1, c2, c3, c4⟩, dx, ps, kvs, e1, e2, e3, e4, ⟨g1, g2⟩, n1, n2, n3⟩ := h
  have ni : ∀ {y : Addr}, y ∉ D :: Z → y ∉ Z := fun z y => z (List.mem_cons_of_mem _ y)
  refine ⟨fun z hz => a z (List.mem_cons_of_mem _ hz), b, ⟨ni c1, ni c2, ni c3, ni c4⟩, dx, ps, kvs, e1, e2, e3, e4, ⟨g1, fun i q g hi hg => ?_⟩, n1, n2, fun i k' v n' ws hi hn => ?_⟩
  · have := g2 i q g hi hg
    exact ⟨ni this.1, this.2⟩
  · obtain ⟨ek, l, ev, l1, l2, l3, l4⟩ := n3 i k' v n' ws hi hn
    exact ⟨ek, l, ev, ni l1, l2, l3, l4⟩
theorem NetAt.put {C : Addr} {Z : List Addr} {H : Hp} {p : NetP} {m : Nat} {gs : List Gt} {nm : List (Str × List Nat)} {D : Addr} {o : HO} (h : NetAt C Z H p m gs nm) (hD : D ∈ Z) : NetAt C Z (upd H D o) p m gs nm := h.keep (S := [D]) (.upd (List.mem_singleton.mpr rfl)) (fun y hy => by rw [List.mem_singleton.mp hy]; exact hD)
theorem Sq2.keepS {t : Bool} {K : PySem.W.Frag} {S : List Addr} {a : Addr} {H H' : Hp} {xs : List V} (h : Sq2 t K H a xs) (e : KeepS S H H') (n : a ∉ S) : Sq2 t K H' a xs := by
  cases t
  · exact e.seq n h
  · exact e.seqT n h
theorem nts_zip {os ts : List Nat} {i : Nat} {x y : V} (hx : (nts os)[i]? = some x) (hy : (nts ts)[i]? = some y) : ∃ a b, (os.zip ts)[i]? = some (a, b) ∧ x = .int ((a : Nat) : Int) ∧ y = .int ((b : Nat) : Int) := by
  obtain ⟨a, ha, rfl⟩ := nts_at hx
  obtain ⟨b, hb, rfl⟩ := nts_at hy
  exact ⟨a, b, List.getElem?_zip_eq_some.mpr ⟨ha, hb⟩, rfl, rfl⟩
theorem Sq2.at {t : Bool} {K : PySem.W.Frag} {H : Hp} {a : Addr} {xs : List V} {i : Int} {v : V} {y : Str → Prop} {Q : VK} (h : Sq2 t K H a xs) (e : atI xs i = some v) (q : Q v H) : rIx K (.ref a) (.int i) H Q := by
  cases t
  · exact .inl ⟨a, xs, i, v, rfl, rfl, h, e, q⟩
  · exact .inr (.inl ⟨a, xs, i, v, rfl, rfl, h, e, q⟩)
/-! ### sums of wires, walked -/
theorem ks_drop {S : List Addr} {H H2 H9 : Hp} {R : Addr} (a : KeepS S H H2) (b : KeepS (R :: S) H2 H9) (n : H R = none) : KeepS S H H9 := ⟨fun y o e ny => b.1 y o (a.1 y o e ny) (fun z => by
  rcases List.mem_cons.mp z with z | z
  · rw [z, n] at e
    cases e
  · exact ny z), fun y e => b.2 y (a.2 y e)⟩
theorem nts_rev (ws : List Nat) : (nts ws).reverse = nts ws.reverse := List.map_reverse.symm
theorem ninR {R a : Addr} {S : List Addr} (h : a ∉ S) (n : a ≠ R) : a ∉ R :: S := fun z => by
  rcases List.mem_cons.mp z with z | z
  · exact n z
  · exact h z
def spSum (K : PySem.W.Frag) (C : Addr) : Sp := fun vs H Q _ => ∃ (Z : List Addr) (p : NetP) (m : Nat) (gs : List Gt) (nm : List (Str × List Nat)) (t u : Addr) (b1 b2 : Bool) (os ts : List Nat) (c : Nat), vs = [.ref p.x, .ref t, .ref u, .int (c : Int)] ∧ NetAt C Z H p m gs nm ∧ Sq2 b1 K H t (nts os) ∧ Sq2 b2 K H u (nts ts) ∧ os.length = ts.length ∧ (∀ w ∈ os, w < m + gs.length) ∧ (∀ w ∈ ts, w < m + gs.length) ∧ c < m + gs.length ∧ os.length ≤ 2000 ∧ m + gs.length ≤ 300000 ∧
  ∀ D H', KeepS [p.lm, p.ld] H H' → NetAt C Z H' p m (sumW m gs os ts c).1 nm → H D = none → H' D = some (.lst (nts (sumW m gs os ts c).2)) → Q (.ref D) H'
theorem ok_sum_wires (B : Bl mg) (L : LL K mg C za zl) : FnOk P w K mg base CX0 5 (za 1) (zl 1) ["net", "ones", "others", "carry"] (spSum K C) := by
  have G_Net_unlike : FnOk P w K mg base CX0 4 (za 28) (zl 28) ["self", "a", "b"] (spG2 C "unlike") := (ok_Net_unlike B L).mono (by decide)
  have G_Net_both : FnOk P w K mg base CX0 4 (za 26) (zl 26) ["self", "a", "b"] (spG2 C "both") := (ok_Net_both B L).mono (by decide)
  have G_Net_either : FnOk P w K mg base CX0 4 (za 27) (zl 27) ["self", "a", "b"] (spG2 C "either") := (ok_Net_either B L).mono (by decide)
  refine L.F_sum_wires.ok sc_sum_wires (fun vs H Q E h => ?_) (fun cdv A outer s H vs Q E hr h => ?_)
  · obtain ⟨Z, p, m, gs, nm, t, u, b1, b2, os, ts, c, rfl, _⟩ := h
    rfl
  obtain ⟨Z, p, m, gs, nm, t, u, b1, b2, os, ts, c, rfl, hN, hT, hU, hlen, ho, hs, hc, hl, hl2, q⟩ := h
  refine ⟨_, (pss_cons (ps_set (i := 4) sc_sum_wires.nd rfl (.inl rfl) (pe_lst pa_nil))
    (pss_cons (ps_for PassesOwn.never rfl (pi_zb (by rfl) B.zip (pa_cons (pe_revS (pv 1)) (pa_cons (pe_revS (pv 2)) pa_nil))) (pg_tup (by rfl) (pgs_cons (pg_name (i := 5) sc_sum_wires.nd rfl (.inl rfl)) (pgs_cons (pg_name (i := 6) sc_sum_wires.nd rfl (.inl rfl)) pgs_nil))) (pss_cons (ps_set (i := 7) sc_sum_wires.nd rfl (.inl rfl) (pe_meth (pv 0) L.T.cl L.M_Net_unlike G_Net_unlike hr L.b_Net_unlike .nil pass0 (pa_cons (pv 5) (pa_cons (pv 6) pa_nil))))
    (pss_cons (ps_expr (pe_bm PySem.F.plainAttrs_list PySem.F.slot_list_append PySem.F.type_list_append mt_append (pv 4) (pa_cons (pe_meth (pv 0) L.T.cl L.M_Net_unlike G_Net_unlike hr L.b_Net_unlike .nil pass0 (pa_cons (pv 7) (pa_cons (pv 3) pa_nil))) pa_nil)))
    (pss_one (ps_set (i := 3) sc_sum_wires.nd rfl (.inl rfl) (pe_meth (pv 0) L.T.cl L.M_Net_either G_Net_either hr L.b_Net_either .nil pass0 (pa_cons (pe_meth (pv 0) L.T.cl L.M_Net_both G_Net_both hr L.b_Net_both .nil pass0 (pa_cons (pv 5) (pa_cons (pv 6) pa_nil))) (pa_cons (pe_meth (pv 0) L.T.cl L.M_Net_both G_Net_both hr L.b_Net_both .nil pass0 (pa_cons (pv 7) (pa_cons (pv 3) pa_nil))) pa_nil))))))))
    (pss_one (ps_ret (pe_lst (pa_cons (pv 3) (StX.pa_star (pe_revL (pv 4)) pa_nil))))))), ?_⟩
  refine ⟨Nat.zero_le _, fun R nR => ?_⟩
  have nR2 := hN.nin nR
  have N0 := hN.add (o := .lst []) nR
  have k0 : KeepS [p.lm, p.ld] H (upd H R (.lst [])) := KeepS.new nR
  have eR0 : (upd H R (.lst [])) R = some (.lst []) := upd_same
  have hT0 := hT.keepS (S := []) (KeepS.new (o := .lst []) nR) (fun z => nomatch z)
  have hU0 := hU.keepS (S := []) (KeepS.new (o := .lst []) nR) (fun z => nomatch z)
  generalize upd H R (.lst []) = H0 at *
  try simp only [L2.start, List.map_cons, List.map_nil, List.length_cons, List.length_nil, List.replicate_succ, List.replicate_zero, List.cons_append, List.nil_append, List.set_cons_succ, List.set_cons_zero, Nat.reduceAdd, Nat.reduceSub, Nat.zero_add]
  dsimp only [gName]
  try simp only [L2.start, List.map_cons, List.map_nil, List.length_cons, List.length_nil, List.replicate_succ, List.replicate_zero, List.cons_append, List.nil_append, List.set_cons_succ, List.set_cons_zero, Nat.reduceAdd, Nat.reduceSub, Nat.zero_add]
  refine ⟨_, rfl, b1, t, _, rfl, hT0, fun A1 nA1 => ?_⟩
  rw [nts_rev]
  have sA1 := same_upd (o := sqO b1 (nts os.reverse)) nA1
  have eA1 : Sq2 b1 K (upd H0 A1 (sqO b1 (nts os.reverse))) A1 (nts os.reverse) := Sq2.new
  have nA12 := N0.nin nA1
  have nA1R : A1 ≠ R := fun z => by rw [z, eR0] at nA1; cases nA1
  have N1 := N0.same sA1
  have hU1 := hU0.keepS (S := []) (.ofSame sA1) (fun z => nomatch z)
  have eR1 := sA1 _ _ eR0
  have k1 := k0.trans (.ofSame sA1)
  generalize upd H0 A1 (sqO b1 (nts os.reverse)) = H1 at *
  refine ⟨_, rfl, b2, u, _, rfl, hU1, fun A2 nA2 => ?_⟩
  rw [nts_rev]
  have sA2 := same_upd (o := sqO b2 (nts ts.reverse)) nA2
  have eA2 : Sq2 b2 K (upd H1 A2 (sqO b2 (nts ts.reverse))) A2 (nts ts.reverse) := Sq2.new
  have nA22 := N1.nin nA2
  have nA2R : A2 ≠ R := fun z => by rw [z, eR1] at nA2; cases nA2
  have N2 := N1.same sA2
  have eA1' := eA1.keepS (S := []) (.ofSame sA2) (fun z => nomatch z)
  have eR2 := sA2 _ _ eR1
  have k2 := k1.trans (.ofSame sA2)
  generalize upd H1 A2 (sqO b2 (nts ts.reverse)) = H2 at *
  refine ⟨b1, b2, A1, A2, _, _, rfl, eA1', eA2, ?_⟩
  have hF := fun i hi => sumF_ok (m := m) (gs := gs) (ps := os.reverse.zip ts.reverse) (c := c) (fun p hp => ⟨ho _ (mem_zipR hp).1, hs _ (mem_zipR hp).2⟩) hc i hi _ rfl
  have lz := zipR_len hlen
  rw [lz] at hF
  refine for_it (walk_zb (K := K) (t1 := b1) (t2 := b2) (a := A1) (b := A2) (xs := nts os.reverse) (ys := nts ts.reverse) (n := os.length) (by rw [nts_len, List.length_reverse]) (by rw [nts_len, List.length_reverse, hlen])) (fun j σ H9 => ∃ y5 y6 y7 : Option V, σ = [some (.ref p.x), some (.ref t), some (.ref u), some (.int ((sumF m gs ((os.reverse.zip ts.reverse).take j) c).2.2 : Nat)), some (.ref R), y5, y6, y7] ∧ KeepS [R, p.lm, p.ld] H2 H9 ∧ NetAt C (R :: Z) H9 p m (sumF m gs ((os.reverse.zip ts.reverse).take j) c).1 nm ∧ H9 R = some (.lst (nts (sumF m gs ((os.reverse.zip ts.reverse).take j) c).2.1))) ⟨_, _, _, rfl, KeepS.refl _ _, N2, eR2⟩ (fun j σ H9 _ ⟨_, _, _, _, k9, _⟩ => ⟨eA1'.keepS k9 (ninR nA12 nA1R), eA2.keepS k9 (ninR nA22 nA2R)⟩) ?_ ?_
  · rintro j v σ H9 H10 hj ⟨y5, y6, y7, rfl, k9, N9, eR⟩ ⟨T, x, y, rfl, nT, rfl, hx, hy⟩
    obtain ⟨a, b, hab, rfl, rfl⟩ := nts_zip hx hy
    have hp := List.mem_of_getElem? hab
    have la := ho _ (mem_zipR hp).1
    have lb := hs _ (mem_zipR hp).2
    have estep : sumF m gs ((os.reverse.zip ts.reverse).take (j + 1)) c = suS m (sumF m gs ((os.reverse.zip ts.reverse).take j) c) (a, b) := fold_take _ hab _
    rw [estep]
    obtain ⟨_, lg, lt', _, l4, _⟩ := hF j (by omega)
    generalize sumF m gs ((os.reverse.zip ts.reverse).take j) c = S at *
    have sT := same_upd (o := .tup [.int (a : Int), .int (b : Int)]) nT
    have N10 := N9.same sT
    have eT : (upd H9 T (.tup [.int (a : Int), .int (b : Int)])) T = some (.tup [.int (a : Int), .int (b : Int)]) := upd_same
    have eR10 := sT _ _ eR
    have k10 := k9.trans (.ofSame sT)
    generalize upd H9 T (.tup [.int (a : Int), .int (b : Int)]) = H10 at *
    refine ⟨T, _, rfl, .inl (.inl eT), rfl, _, _, rfl, _, _, rfl, rfl, ?_⟩
    try simp only [L2.start, List.map_cons, List.map_nil, List.length_cons, List.length_nil, List.replicate_succ, List.replicate_zero, List.cons_append, List.nil_append, List.set_cons_succ, List.set_cons_zero, Nat.reduceAdd, Nat.reduceSub, Nat.zero_add]
    obtain ⟨_, _, _, dx2, _, _, f1, _⟩ := id N10
    refine ⟨_, rfl, p.x, dx2, _, rfl, f1, rfl, _, rfl, _, rfl, R :: Z, p, m, S.1, nm, a, b, rfl, N10, by omega, by omega, by omega, fun H3 k3 N3 => ?_⟩
    have l1 : (S.1 ++ [Gt.w "unlike" [a, b]]).length = S.1.length + 1 := by simp
    have eR3 := k3.1 _ _ eR10 nR2
    dsimp only [gName]
    try simp only [L2.start, List.map_cons, List.map_nil, List.length_cons, List.length_nil, List.replicate_succ, List.replicate_zero, List.cons_append, List.nil_append, List.set_cons_succ, List.set_cons_zero, Nat.reduceAdd, Nat.reduceSub, Nat.zero_add]
    obtain ⟨_, _, _, dx3, _, _, f3, _⟩ := id N3
    refine ⟨_, rfl, .inl ⟨rfl, _, SqL.of eR3⟩, _, rfl, p.x, dx3, _, rfl, f3, rfl, _, rfl, _, rfl, R :: Z, p, m, _, nm, m + S.1.length, S.2.2, rfl, N3, by omega, by omega, by omega, fun H4 k4 N4 => ?_⟩
    have l2 : (S.1 ++ [Gt.w "unlike" [a, b]] ++ [Gt.w "unlike" [m + S.1.length, S.2.2]]).length = S.1.length + 2 := by simp
    have eR4 := k4.1 _ _ eR3 nR2
    have k34 := k3.trans k4
    refine ⟨R, _, _, rfl, rfl, eR4, by rw [nts_len]; exact big_lt (by omega), ?_⟩
    have N5 := N4.put (D := R) (o := .lst (nts S.2.1 ++ [.int ((m + (S.1 ++ [Gt.w "unlike" [a, b]]).length : Nat) : Int)])) (by simp)
    have k5 : KeepS [R, p.lm, p.ld] H2 (upd H4 R (.lst (nts S.2.1 ++ [.int ((m + (S.1 ++ [Gt.w "unlike" [a, b]]).length : Nat) : Int)]))) := (k10.trans (k34.mono fun y hy => List.mem_cons_of_mem _ hy)).trans (KeepS.upd (by simp))
    have eR5 : (upd H4 R (.lst (nts S.2.1 ++ [.int ((m + (S.1 ++ [Gt.w "unlike" [a, b]]).length : Nat) : Int)]))) R = some (.lst (nts (S.2.1 ++ [m + (S.1 ++ [Gt.w "unlike" [a, b]]).length]))) := by
      rw [upd_same, nts_app]
      rfl
    generalize upd H4 R (.lst (nts S.2.1 ++ [.int ((m + (S.1 ++ [Gt.w "unlike" [a, b]]).length : Nat) : Int)])) = H5 at *
    obtain ⟨_, _, _, dx5, _, _, f5, _⟩ := id N5
    refine ⟨_, rfl, p.x, dx5, _, rfl, f5, rfl, ?_⟩
    refine ⟨_, rfl, p.x, dx5, _, rfl, f5, rfl, _, rfl, _, rfl, R :: Z, p, m, _, nm, a, b, rfl, N5, by omega, by omega, by omega, fun H6 k6 N6 => ?_⟩
    have l3 : (S.1 ++ [Gt.w "unlike" [a, b]] ++ [Gt.w "unlike" [m + S.1.length, S.2.2]] ++ [Gt.w "both" [a, b]]).length = S.1.length + 3 := by simp
    obtain ⟨_, _, _, dx6, _, _, f6, _⟩ := id N6
    refine ⟨_, rfl, p.x, dx6, _, rfl, f6, rfl, _, rfl, _, rfl, R :: Z, p, m, _, nm, m + S.1.length, S.2.2, rfl, N6, by omega, by omega, by omega, fun H7 k7 N7 => ?_⟩
    have l4' : (S.1 ++ [Gt.w "unlike" [a, b]] ++ [Gt.w "unlike" [m + S.1.length, S.2.2]] ++ [Gt.w "both" [a, b]] ++ [Gt.w "both" [m + S.1.length, S.2.2]]).length = S.1.length + 4 := by simp
    refine ⟨R :: Z, p, m, _, nm, _, _, rfl, N7, by omega, by omega, by omega, fun H8 k8 N8 => ?_⟩
    have k68 := (k6.trans k7).trans k8
    exact ⟨_, _, _, rfl, k5.trans (k68.mono fun y hy => List.mem_cons_of_mem _ hy), N8, k68.1 _ _ eR5 nR2⟩
  · rintro σ H9 ⟨y5, y6, y7, rfl, k9, N9, eR⟩
    rw [← lz, List.take_length] at N9 eR
    have eW : sumW m gs os ts c = ((sumF m gs (os.reverse.zip ts.reverse) c).1, (sumF m gs (os.reverse.zip ts.reverse) c).2.2 :: (sumF m gs (os.reverse.zip ts.reverse) c).2.1.reverse) := rfl
    have hF' := hF _ (Nat.le_refl _)
    rw [← lz, List.take_length] at hF' ⊢
    rw [eW] at q
    obtain ⟨_, _, lt', _, _, _⟩ := hF'
    generalize sumF m gs (os.reverse.zip ts.reverse) c = S at *
    dsimp only at q
    try simp only [L2.start, List.map_cons, List.map_nil, List.length_cons, List.length_nil, List.replicate_succ, List.replicate_zero, List.cons_append, List.nil_append, List.set_cons_succ, List.set_cons_zero, Nat.reduceAdd, Nat.reduceSub, Nat.zero_add]
    refine ⟨_, rfl, _, rfl, R, _, rfl, SqL.of eR, fun B nB => ?_⟩
    rw [nts_rev]
    have sB := same_upd (o := .lst (nts S.2.1.reverse)) nB
    have eB : (upd H9 B (.lst (nts S.2.1.reverse))) B = some (.lst (nts S.2.1.reverse)) := upd_same
    generalize upd H9 B (.lst (nts S.2.1.reverse)) = H10 at *
    refine ⟨B, _, rfl, .inr (SqL.of eB), ?_⟩
    have k9' := ks_drop k2 k9 nR
    refine ⟨by
      rw [List.append_nil, List.length_cons, nts_len, List.length_reverse]
      exact Nat.le_of_lt (big_lt (by omega)), fun D nD => ?_⟩
    rw [List.append_nil]
    have sD := same_upd (o := .lst (.int (S.2.2 : Int) :: nts S.2.1.reverse)) nD
    exact q D _ (k9'.trans (.ofSame (sB.trans sD))) (N9.less.same (sB.trans sD)) (ks_none (k9'.trans (.ofSame sB)) nD) upd_same
def spAny (K : PySem.W.Frag) (C : Addr) : Sp := fun vs H Q _ => ∃ (Z : List Addr) (p : NetP) (m : Nat) (gs : List Gt) (nm : List (Str × List Nat)) (t : Addr) (ws : List Nat), vs = [.ref p.x, .ref t] ∧ NetAt C Z H p m gs nm ∧ SqL K H t (nts ws) ∧ t ∉ [p.lm, p.ld] ∧ (∀ w ∈ ws, w < m + gs.length) ∧ m + gs.length + ws.length ≤ 400000 ∧
  ∀ H', KeepS [p.lm, p.ld] H H' → NetAt C Z H' p m (anyW m gs ws).1 nm → Q (.int ((anyW m gs ws).2 : Nat)) H'
theorem ok_any_wire (B : Bl mg) (L : LL K mg C za zl) : FnOk P w K mg base CX0 5 (za 8) (zl 8) ["net", "wires"] (spAny K C) := by
  have G_Net_fixed : FnOk P w K mg base CX0 4 (za 30) (zl 30) ["self", "bit"] (spFixed C) := (ok_Net_fixed B L).mono (by decide)
  have G_Net_either : FnOk P w K mg base CX0 4 (za 27) (zl 27) ["self", "a", "b"] (spG2 C "either") := (ok_Net_either B L).mono (by decide)
  refine L.F_any_wire.ok sc_any_wire (fun vs H Q E h => ?_) (fun cdv A outer s H vs Q E hr h => ?_)
  · obtain ⟨Z, p, m, gs, nm, t, ws, rfl, _⟩ := h
    rfl
  obtain ⟨Z, p, m, gs, nm, t, ws, rfl, hN, hT, nt, hw, hl, q⟩ := h
  refine ⟨_, (pss_cons (ps_if (pt_cmpR op_eq (pe_callB call_len_seq (by rfl) B.len PySem.boot_len (pa_cons (pv 1) pa_nil)) pe_int (nomark _)) (pss_one (ps_ret (pe_meth (pv 0) L.T.cl L.M_Net_fixed G_Net_fixed hr L.b_Net_fixed .nil pass0 (pa_cons pe_int pa_nil)))) pss_nil)
    (pss_cons (ps_set (i := 2) sc_any_wire.nd rfl (.inl rfl) (pe_ix ix_list (pv 1) pe_int (fun _ _ => rfl)))
    (pss_cons (ps_for PassesOwn.never rfl (pi_list (pe_slice sl_list (pv 1) (po_some pe_int) po_none)) (pg_name (i := 3) sc_any_wire.nd rfl (.inl rfl)) (pss_one (ps_set (i := 2) sc_any_wire.nd rfl (.inl rfl) (pe_meth (pv 0) L.T.cl L.M_Net_either G_Net_either hr L.b_Net_either .nil pass0 (pa_cons (pv 2) (pa_cons (pv 3) pa_nil))))))
    (pss_one (ps_ret (pv 2)))))), ?_⟩
  obtain ⟨_, _, _, dx, _, _, e1, _⟩ := id hN
  refine ⟨_, rfl, t, _, rfl, .inl hT, rfl, _, rfl, ?_⟩
  cases ws with
  | nil =>
    refine iteT ?_
    exact ⟨_, rfl, p.x, dx, _, rfl, e1, rfl, Z, p, m, gs, nm, 0, rfl, hN, by omega, fun H' k N' => q H' k N'⟩
  | cons w ws =>
    refine iteF ?_
    dsimp only [tNext]
    refine ⟨_, rfl, t, _, _, _, rfl, rfl, hT, atI_nat (j := 0) rfl, ?_⟩
    try simp only [L2.start, List.map_cons, List.map_nil, List.length_cons, List.length_nil, List.replicate_succ, List.replicate_zero, List.cons_append, List.nil_append, List.set_cons_succ, List.set_cons_zero, Nat.reduceAdd, Nat.reduceSub, Nat.zero_add]
    dsimp only [gName]
    try simp only [L2.start, List.map_cons, List.map_nil, List.length_cons, List.length_nil, List.replicate_succ, List.replicate_zero, List.cons_append, List.nil_append, List.set_cons_succ, List.set_cons_zero, Nat.reduceAdd, Nat.reduceSub, Nat.zero_add]
    refine ⟨_, rfl, _, rfl, t, _, rfl, hT, fun u nu => ?_⟩
    rw [show cutV (nts (w :: ws)) (some 1) none = nts ws from cutN_from (w :: ws) 1 (by rw [List.length_cons]; omega)]
    have su := same_upd (o := .lst (nts ws)) nu
    have nU := hN.nin nu
    have N1 := hN.same su
    have eu : (upd H u (.lst (nts ws))) u = some (.lst (nts ws)) := upd_same
    generalize upd H u (.lst (nts ws)) = H1 at *
    refine ⟨u, rfl, ⟨_, SqL.of eu⟩, ?_⟩
    refine for_it (walk_list (K := K) (a := u) (xs := nts ws)) (fun j σ H9 => ∃ y : Option V, σ = [some (.ref p.x), some (.ref t), some (.int ((anyW m gs (w :: ws.take j)).2 : Nat)), y] ∧ KeepS [p.lm, p.ld] H1 H9 ∧ NetAt C Z H9 p m (anyW m gs (w :: ws.take j)).1 nm) ⟨_, rfl, KeepS.refl _ _, N1⟩ (fun j σ H9 _ ⟨_, _, k9, _⟩ => k9.seq nU (SqL.of eu)) ?_ ?_
    · rintro j v σ H9 H10 hj ⟨y, rfl, k9, N9⟩ ⟨rfl, hz⟩
      obtain ⟨a, ha, rfl⟩ := nts_at hz
      have A := anyW_ok (m := m) (gs := gs) (ws := w :: ws.take j) (fun x hx => by
        rcases List.mem_cons.mp hx with z | z
        · exact hw x (by rw [z]; simp)
        · exact hw x (List.mem_cons_of_mem _ (List.mem_of_mem_take z)))
      have lA := A.ext.len
      have ltA := A.lt
      have la := hw a (List.mem_cons_of_mem _ (List.mem_of_getElem? ha))
      have lt' : (ws.take j).length ≤ ws.length := by rw [List.length_take]; exact Nat.min_le_right _ _
      simp only [List.length_cons] at lA hl
      have estep : anyW m gs (w :: ws.take (j + 1)) = ((anyW m gs (w :: ws.take j)).1 ++ [.w "either" [(anyW m gs (w :: ws.take j)).2, a]], m + (anyW m gs (w :: ws.take j)).1.length) := fold_take _ ha (gs, w)
      generalize anyW m gs (w :: ws.take j) = S at *
      obtain ⟨_, _, _, dx9, _, _, f1, _⟩ := id N9
      dsimp only [gName]
      try simp only [L2.start, List.map_cons, List.map_nil, List.length_cons, List.length_nil, List.replicate_succ, List.replicate_zero, List.cons_append, List.nil_append, List.set_cons_succ, List.set_cons_zero, Nat.reduceAdd, Nat.reduceSub, Nat.zero_add]
      refine ⟨_, rfl, p.x, dx9, _, rfl, f1, rfl, _, rfl, _, rfl, Z, p, m, S.1, nm, S.2, a, rfl, N9, ltA, by omega, by omega, fun H' k' N' => ?_⟩
      refine ⟨some (.int (a : Int)), ?_, k9.trans k', ?_⟩
      · rw [estep]
        rfl
      · rw [estep]
        exact N'
    · rintro σ H9 ⟨y, rfl, k9, N9⟩
      rw [nts_len, List.take_of_length_le (Nat.le_refl _)] at N9 ⊢
      exact ⟨_, rfl, q H9 ((KeepS.ofSame su).trans k9) N9⟩
def spChosen (K : PySem.W.Frag) (C : Addr) : Sp := fun vs H Q _ => ∃ (Z : List Addr) (p : NetP) (m : Nat) (gs : List Gt) (nm : List (Str × List Nat)) (t u : Addr) (w : Nat) (os ts : List Nat) (b1 b2 : Bool), vs = [.ref p.x, .int (w : Int), .ref t, .ref u] ∧ NetAt C Z H p m gs nm ∧ Sq2 b1 K H t (nts os) ∧ Sq2 b2 K H u (nts ts) ∧ t ∉ [p.lm, p.ld] ∧ u ∉ [p.lm, p.ld] ∧ os.length = ts.length ∧ w < m + gs.length ∧ (∀ w ∈ os, w < m + gs.length) ∧ (∀ w ∈ ts, w < m + gs.length) ∧ m + gs.length + 3 * os.length ≤ 400000 ∧
  ∀ D H', KeepS [p.lm, p.ld] H H' → NetAt C Z H' p m (chosenW m gs w (os.zip ts)).1 nm → H D = none → H' D = some (.lst (nts (chosenW m gs w (os.zip ts)).2)) → Q (.ref D) H'
theorem ok_chosen_wires (B : Bl mg) (L : LL K mg C za zl) : FnOk P w K mg base CX0 5 (za 12) (zl 12) ["net", "wire", "ones", "others"] (spChosen K C) := by
  have G_Net_other : FnOk P w K mg base CX0 4 (za 29) (zl 29) ["self", "a"] (spG1 C) := (ok_Net_other B L).mono (by decide)
  have G_Net_either : FnOk P w K mg base CX0 4 (za 27) (zl 27) ["self", "a", "b"] (spG2 C "either") := (ok_Net_either B L).mono (by decide)
  have G_Net_both : FnOk P w K mg base CX0 4 (za 26) (zl 26) ["self", "a", "b"] (spG2 C "both") := (ok_Net_both B L).mono (by decide)
  refine L.F_chosen_wires.ok sc_chosen_wires (fun vs H Q E h => ?_) (fun cdv A outer s H vs Q E hr h => ?_)
  · obtain ⟨Z, p, m, gs, nm, t, u, w, os, ts, b1, b2, rfl, _⟩ := h
    rfl
  obtain ⟨Z, p, m, gs, nm, t, u, w, os, ts, b1, b2, rfl, hN, hT, hU, nt, nu, hlen, hw, ho, hs, hl, q⟩ := h
  refine ⟨_, (pss_cons (ps_set (i := 4) sc_chosen_wires.nd rfl (.inr rfl) (pe_meth (pv 0) L.T.cl L.M_Net_other G_Net_other hr L.b_Net_other .nil pass0 (pa_cons (pv 1) pa_nil)))
    (pss_one (ps_ret (pe_lc (own := [("one", 5), ("other", 6)]) (g := gTup K 2 (gCons (gName 5) (gCons (gName 6) gNil))) (by rfl) sc_chosen_wires.nd (pi_zb (by rfl) B.zip (pa_cons (pv 2) (pa_cons (pv 3) pa_nil))) (blkOk_by (own := [("one", 5), ("other", 6)]) (N := ["net", "wire", "ones", "others", "stays", "one", "other"]) (sc := defScope s_chosen_wires) (by decide +kernel)) (fun _ _ _ _ _ => pg_tup rfl (pgs_cons (pg_name (i := 5) sc_chosen_wires.nd rfl (Or.inl rfl) (.inr rfl)) (pgs_cons (pg_name (i := 6) sc_chosen_wires.nd rfl (Or.inl rfl) (.inr rfl)) pgs_nil))) (fun _ _ _ _ _ => pts_nil) (fun _ _ _ _ _ => (pe_meth (pv 0) L.T.cl L.M_Net_either G_Net_either hr L.b_Net_either .nil pass0 (pa_cons (pe_meth (pv 0) L.T.cl L.M_Net_both G_Net_both hr L.b_Net_both .nil pass0 (pa_cons (pv 1) (pa_cons (pv 5) pa_nil))) (pa_cons (pe_meth (pv 0) L.T.cl L.M_Net_both G_Net_both hr L.b_Net_both .nil pass0 (pa_cons (pv 4) (pa_cons (pv 6) pa_nil))) pa_nil)))))))), ?_⟩
  obtain ⟨_, _, _, dx, _, _, e1, _⟩ := id hN
  refine ⟨_, rfl, p.x, dx, _, rfl, e1, rfl, _, rfl, Z, p, m, gs, nm, w, rfl, hN, hw, by omega, fun H1 k1 N1 => ?_⟩
  try simp only [L2.start, List.map_cons, List.map_nil, List.length_cons, List.length_nil, List.replicate_succ, List.replicate_zero, List.cons_append, List.nil_append, List.set_cons_succ, List.set_cons_zero, Nat.reduceAdd, Nat.reduceSub, Nat.zero_add]
  dsimp only [gName]
  try simp only [L2.start, List.map_cons, List.map_nil, List.length_cons, List.length_nil, List.replicate_succ, List.replicate_zero, List.cons_append, List.nil_append, List.set_cons_succ, List.set_cons_zero, Nat.reduceAdd, Nat.reduceSub, Nat.zero_add]
  refine ⟨_, rfl, _, rfl, b1, b2, t, u, _, _, rfl, hT.keepS k1 nt, hU.keepS k1 nu, fun D nD => ?_⟩
  have nD1 := N1.nin nD
  have N2 := N1.add (o := .lst []) nD
  refine lc_it (walk_zb (K := K) (t1 := b1) (t2 := b2) (a := t) (b := u) (xs := nts os) (ys := nts ts) (n := os.length) (nts_len os) (by rw [nts_len, hlen])) (fun j H9 => KeepS [p.lm, p.ld] H1 H9 ∧ NetAt C (D :: Z) H9 p m (((os.zip ts).take j).foldl (chS m w (m + gs.length)) (gs ++ [Gt.w "other" [w]], [])).1 nm ∧ H9 D = some (.lst (nts (((os.zip ts).take j).foldl (chS m w (m + gs.length)) (gs ++ [Gt.w "other" [w]], [])).2))) ⟨KeepS.new nD, N2, upd_same⟩ (fun j H9 _ ⟨k9, _⟩ => ⟨(hT.keepS k1 nt).keepS k9 nt, (hU.keepS k1 nu).keepS k9 nu⟩) ?_ ?_
  · rintro j v H9 H10 hj ⟨k9, N9, eD⟩ ⟨T, x, y, rfl, nT, rfl, hx, hy⟩
    obtain ⟨a, b, hab, rfl, rfl⟩ := nts_zip hx hy
    have sT := same_upd (o := .tup [.int (a : Int), .int (b : Int)]) nT
    have N10 := N9.same sT
    have hp := List.mem_of_getElem? hab
    have la := ho _ (List.of_mem_zip hp).1
    have lb := hs _ (List.of_mem_zip hp).2
    have W := chosenW_ok (m := m) (w := w) (gs := gs) (ps := (os.zip ts).take j) hw (fun p hp => ⟨ho _ (List.of_mem_zip (List.mem_of_mem_take hp)).1, hs _ (List.of_mem_zip (List.mem_of_mem_take hp)).2⟩)
    have lW := W.ext.len
    have lz : ((os.zip ts).take j).length ≤ os.length := by
      rw [List.length_take, List.length_zip]
      omega
    have st : m + gs.length < m + (chosenW m gs w ((os.zip ts).take j)).1.length := by
      have := chW_len m w (m + gs.length) ((os.zip ts).take j) (gs ++ [Gt.w "other" [w]], [])
      simp only [List.length_append, List.length_singleton] at this
      unfold chosenW
      omega
    have wlt : w < m + (chosenW m gs w ((os.zip ts).take j)).1.length := by omega
    have estep : ((os.zip ts).take (j + 1)).foldl (chS m w (m + gs.length)) (gs ++ [Gt.w "other" [w]], []) = chS m w (m + gs.length) (chosenW m gs w ((os.zip ts).take j)) (a, b) := fold_take _ hab _
    have eS : ((os.zip ts).take j).foldl (chS m w (m + gs.length)) (gs ++ [Gt.w "other" [w]], []) = chosenW m gs w ((os.zip ts).take j) := rfl
    rw [eS] at N10 eD
    rw [estep]
    have nw := W.lt
    generalize chosenW m gs w ((os.zip ts).take j) = S at *
    have eD10 := sT _ _ eD
    refine ⟨T, _, rfl, .inl (.inl upd_same), rfl, _, _, rfl, _, _, rfl, rfl, rfl, ?_⟩
    refine yesT ?_
    try simp only [L2.start, List.map_cons, List.map_nil, List.length_cons, List.length_nil, List.replicate_succ, List.replicate_zero, List.cons_append, List.nil_append, List.set_cons_succ, List.set_cons_zero, Nat.reduceAdd, Nat.reduceSub, Nat.zero_add]
    obtain ⟨_, _, _, dx2, _, _, f1, _⟩ := id N10
    refine ⟨_, rfl, p.x, dx2, _, rfl, f1, rfl, ?_⟩
    refine ⟨_, rfl, p.x, dx2, _, rfl, f1, rfl, _, rfl, _, rfl, D :: Z, p, m, S.1, nm, w, a, rfl, N10, wlt, by omega, by omega, fun H3 k3 N3 => ?_⟩
    have l0 := len1 (m := m) (gs := S.1) (g := Gt.w "both" [w, a])
    obtain ⟨_, _, _, dx3, _, _, f3, _⟩ := id N3
    have lS1 : (S.1 ++ [Gt.w "both" [w, a]]).length = S.1.length + 1 := by simp
    refine ⟨_, rfl, p.x, dx3, _, rfl, f3, rfl, _, rfl, _, rfl, D :: Z, p, m, _, nm, m + gs.length, b, rfl, N3, by omega, by omega, by omega, fun H4 k4 N4 => ?_⟩
    have lS2 : (S.1 ++ [Gt.w "both" [w, a]] ++ [Gt.w "both" [m + gs.length, b]]).length = S.1.length + 2 := by simp
    refine ⟨D :: Z, p, m, _, nm, _, _, rfl, N4, by omega, by omega, by omega, fun H5 k5 N5 => ?_⟩
    have kk : KeepS [p.lm, p.ld] H9 H5 := (((KeepS.ofSame sT).trans k3).trans k4).trans k5
    have eD5 := kk.1 _ _ eD nD1
    have lS : S.2.length ≤ 3 * os.length + 1 := by
      have := congrArg List.length (W.val (List.replicate m false) (by simp))
      rw [List.length_map, List.length_map] at this
      omega
    refine ⟨_, eD5, by rw [nts_len]; exact big_lt (by omega), ks_updN (k9.trans kk) nD, N5.put (by simp), ?_⟩
    rw [upd_same]
    show _ = some (HO.lst (nts (S.2 ++ [_])))
    rw [nts_app]
    rfl
  · rintro H9 ⟨k9, N9, eD⟩
    rw [List.take_of_length_le (by rw [List.length_zip]; omega)] at N9 eD
    exact q D H9 (k1.trans k9) N9.less (ks_none k1 nD) eD
def spFirst (K : PySem.W.Frag) (C : Addr) : Sp := fun vs H Q _ => ∃ (Z : List Addr) (p : NetP) (m : Nat) (gs : List Gt) (nm : List (Str × List Nat)) (t : Addr) (b : Bool) (ws : List Nat), vs = [.ref p.x, .ref t] ∧ NetAt C Z H p m gs nm ∧ Sq2 b K H t (nts ws) ∧ t ∉ [p.lm, p.ld] ∧ (∀ w ∈ ws, w < m + gs.length) ∧ m + gs.length + 3 * ws.length ≤ 400000 ∧
  ∀ D H', KeepS [p.lm, p.ld] H H' → NetAt C Z H' p m (firstW m gs ws).1 nm → H D = none → H' D = some (.lst (nts (firstW m gs ws).2)) → Q (.ref D) H'
theorem firstF_lt {m : Nat} : ∀ (ws : List Nat) (s : List Gt × List Nat × Nat), s.2.2 < m + s.1.length → (ws.foldl (fiS m) s).2.2 < m + (ws.foldl (fiS m) s).1.length
  | [], s, h => h
  | a :: ws, s, h => firstF_lt ws (fiS m s a) len1
theorem firstF_len {m : Nat} : ∀ (ws : List Nat) (s : List Gt × List Nat × Nat), (ws.foldl (fiS m) s).1.length = s.1.length + 3 * ws.length ∧ (ws.foldl (fiS m) s).2.1.length = s.2.1.length + ws.length
  | [], s => ⟨rfl, rfl⟩
  | a :: ws, s => by
    obtain ⟨h1, h2⟩ := firstF_len ws (fiS m s a)
    rw [List.foldl_cons, h1, h2]
    unfold fiS
    simp only [List.length_append, List.length_cons, List.length_nil]
    omega
theorem ok_first_wires (B : Bl mg) (L : LL K mg C za zl) : FnOk P w K mg base CX0 5 (za 10) (zl 10) ["net", "ones"] (spFirst K C) := by
  have G_Net_fixed : FnOk P w K mg base CX0 4 (za 30) (zl 30) ["self", "bit"] (spFixed C) := (ok_Net_fixed B L).mono (by decide)
  have G_Net_both : FnOk P w K mg base CX0 4 (za 26) (zl 26) ["self", "a", "b"] (spG2 C "both") := (ok_Net_both B L).mono (by decide)
  have G_Net_other : FnOk P w K mg base CX0 4 (za 29) (zl 29) ["self", "a"] (spG1 C) := (ok_Net_other B L).mono (by decide)
  refine L.F_first_wires.ok sc_first_wires (fun vs H Q E h => ?_) (fun cdv A outer s H vs Q E hr h => ?_)
  · obtain ⟨Z, p, m, gs, nm, t, b, ws, rfl, _⟩ := h
    rfl
  obtain ⟨Z, p, m, gs, nm, t, b, ws, rfl, hN, hT, nt, hw, hl, q⟩ := h
  refine ⟨_, (pss_cons (ps_set (i := 2) sc_first_wires.nd rfl (.inl rfl) (pe_lst pa_nil))
    (pss_cons (ps_set (i := 3) sc_first_wires.nd rfl (.inl rfl) (pe_meth (pv 0) L.T.cl L.M_Net_fixed G_Net_fixed hr L.b_Net_fixed .nil pass0 (pa_cons pe_int pa_nil)))
    (pss_cons (ps_for PassesOwn.never rfl (pi_sq (pv 1)) (pg_name (i := 4) sc_first_wires.nd rfl (.inl rfl)) (pss_cons (ps_expr (pe_bm PySem.F.plainAttrs_list PySem.F.slot_list_append PySem.F.type_list_append mt_append (pv 2) (pa_cons (pe_meth (pv 0) L.T.cl L.M_Net_both G_Net_both hr L.b_Net_both .nil pass0 (pa_cons (pv 3) (pa_cons (pv 4) pa_nil))) pa_nil)))
    (pss_one (ps_set (i := 3) sc_first_wires.nd rfl (.inl rfl) (pe_meth (pv 0) L.T.cl L.M_Net_both G_Net_both hr L.b_Net_both .nil pass0 (pa_cons (pv 3) (pa_cons (pe_meth (pv 0) L.T.cl L.M_Net_other G_Net_other hr L.b_Net_other .nil pass0 (pa_cons (pv 4) pa_nil)) pa_nil)))))))
    (pss_one (ps_ret (pe_lst (StX.pa_star (pv 2) (pa_cons (pv 3) pa_nil)))))))), ?_⟩
  refine ⟨Nat.zero_le _, fun F nF => ?_⟩
  have nF2 := hN.nin nF
  have N0 := hN.add (o := .lst []) nF
  have T0 : Sq2 b K (upd H F (.lst [])) t (nts ws) := hT.keepS (KeepS.new (S := []) nF) (fun z => nomatch z)
  obtain ⟨_, _, _, dx, _, _, e1, _⟩ := id N0
  try simp only [L2.start, List.map_cons, List.map_nil, List.length_cons, List.length_nil, List.replicate_succ, List.replicate_zero, List.cons_append, List.nil_append, List.set_cons_succ, List.set_cons_zero, Nat.reduceAdd, Nat.reduceSub, Nat.zero_add]
  dsimp only [gName]
  try simp only [L2.start, List.map_cons, List.map_nil, List.length_cons, List.length_nil, List.replicate_succ, List.replicate_zero, List.cons_append, List.nil_append, List.set_cons_succ, List.set_cons_zero, Nat.reduceAdd, Nat.reduceSub, Nat.zero_add]
  refine ⟨_, rfl, p.x, dx, _, rfl, e1, rfl, F :: Z, p, m, gs, nm, 1, rfl, N0, by omega, fun H1 k1 N1 => ?_⟩
  have T1 := T0.keepS k1 nt
  have eF1 := k1.1 _ _ upd_same nF2
  have k01 : KeepS [p.lm, p.ld] H H1 := (KeepS.new nF).trans k1
  try simp only [L2.start, List.map_cons, List.map_nil, List.length_cons, List.length_nil, List.replicate_succ, List.replicate_zero, List.cons_append, List.nil_append, List.set_cons_succ, List.set_cons_zero, Nat.reduceAdd, Nat.reduceSub, Nat.zero_add]
  dsimp only [gName]
  try simp only [L2.start, List.map_cons, List.map_nil, List.length_cons, List.length_nil, List.replicate_succ, List.replicate_zero, List.cons_append, List.nil_append, List.set_cons_succ, List.set_cons_zero, Nat.reduceAdd, Nat.reduceSub, Nat.zero_add]
  refine ⟨_, rfl, b, t, _, rfl, T1, ?_⟩
  refine for_it (walk_q (K := K) (t := b) (a := t) (xs := nts ws)) (fun j σ H9 => ∃ y : Option V, σ = [some (.ref p.x), some (.ref t), some (.ref F), some (.int ((firstF m gs (ws.take j)).2.2 : Nat)), y] ∧ KeepS [p.lm, p.ld] H H9 ∧ Sq2 b K H9 t (nts ws) ∧ NetAt C (F :: Z) H9 p m (firstF m gs (ws.take j)).1 nm ∧ H9 F = some (.lst (nts (firstF m gs (ws.take j)).2.1))) ⟨_, rfl, k01, T1, N1, eF1⟩ (fun j σ H9 _ ⟨_, _, _, T9, _⟩ => T9) ?_ ?_
  · rintro j v σ H9 H10 hj ⟨y, rfl, k9, T9, N9, eF⟩ ⟨rfl, hz⟩
    obtain ⟨a, ha, rfl⟩ := nts_at hz
    have la := hw a (List.mem_of_getElem? ha)
    obtain ⟨l1, l2⟩ := firstF_len (m := m) (ws.take j) (gs ++ [.fi 1], [], m + gs.length)
    have lc := firstF_lt (m := m) (ws.take j) (gs ++ [.fi 1], [], m + gs.length) len1
    have lj : (ws.take j).length ≤ ws.length := by rw [List.length_take]; omega
    simp only [List.length_append, List.length_cons, List.length_nil] at l1 l2
    have estep : firstF m gs (ws.take (j + 1)) = fiS m (firstF m gs (ws.take j)) a := fold_take _ ha _
    rw [show (ws.take j).foldl (fiS m) (gs ++ [.fi 1], [], m + gs.length) = firstF m gs (ws.take j) from rfl] at l1 l2 lc
    rw [estep]
    generalize firstF m gs (ws.take j) = S at *
    obtain ⟨_, _, _, dx9, _, _, f1, _⟩ := id N9
    dsimp only [gName]
    try simp only [L2.start, List.map_cons, List.map_nil, List.length_cons, List.length_nil, List.replicate_succ, List.replicate_zero, List.cons_append, List.nil_append, List.set_cons_succ, List.set_cons_zero, Nat.reduceAdd, Nat.reduceSub, Nat.zero_add]
    refine ⟨_, rfl, .inl ⟨rfl, _, SqL.of eF⟩, _, rfl, p.x, dx9, _, rfl, f1, rfl, _, rfl, _, rfl, F :: Z, p, m, S.1, nm, S.2.2, a, rfl, N9, lc, by omega, by omega, fun H3 k3 N3 => ?_⟩
    have eF3 := k3.1 _ _ eF nF2
    refine ⟨F, _, _, rfl, rfl, eF3, by rw [nts_len]; exact big_lt (by omega), ?_⟩
    have k4 := ks_updN (k9.trans k3) (D := F) (o := .lst (nts S.2.1 ++ [.int ((m + S.1.length : Nat) : Int)])) nF
    have N4 := N3.put (D := F) (o := .lst (nts S.2.1 ++ [.int ((m + S.1.length : Nat) : Int)])) (by simp)
    have T4 : Sq2 b K (upd H3 F (.lst (nts S.2.1 ++ [.int ((m + S.1.length : Nat) : Int)]))) t (nts ws) := hT.keepS k4 nt
    have eF4 : (upd H3 F (.lst (nts S.2.1 ++ [.int ((m + S.1.length : Nat) : Int)]))) F = some (.lst (nts S.2.1 ++ [.int ((m + S.1.length : Nat) : Int)])) := upd_same
    generalize upd H3 F (.lst (nts S.2.1 ++ [.int ((m + S.1.length : Nat) : Int)])) = H4 at *
    dsimp only
    obtain ⟨_, _, _, dx4, _, _, f4, _⟩ := id N4
    have lS1 : (S.1 ++ [Gt.w "both" [S.2.2, a]]).length = S.1.length + 1 := by simp
    have l0 := len1 (m := m) (gs := S.1) (g := Gt.w "both" [S.2.2, a])
    refine ⟨_, rfl, p.x, dx4, _, rfl, f4, rfl, _, rfl, ?_⟩
    refine ⟨_, rfl, p.x, dx4, _, rfl, f4, rfl, _, rfl, F :: Z, p, m, _, nm, a, rfl, N4, by omega, by omega, fun H5 k5 N5 => ?_⟩
    have lS2 : (S.1 ++ [Gt.w "both" [S.2.2, a]] ++ [Gt.w "other" [a]]).length = S.1.length + 2 := by simp
    refine ⟨F :: Z, p, m, _, nm, S.2.2, _, rfl, N5, by omega, by omega, by omega, fun H6 k6 N6 => ?_⟩
    refine ⟨some (.int (a : Int)), rfl, (k4.trans k5).trans k6, (T4.keepS k5 nt).keepS k6 nt, N6, ?_⟩
    rw [k6.1 _ _ (k5.1 _ _ eF4 nF2) nF2]
    show _ = some (HO.lst (nts (S.2.1 ++ [_])))
    rw [nts_app]
    rfl
  · rintro σ H9 ⟨y, rfl, k9, T9, N9, eF⟩
    rw [nts_len, List.take_of_length_le (Nat.le_refl _)] at N9 eF ⊢
    obtain ⟨l1, l2⟩ := firstF_len (m := m) ws (gs ++ [.fi 1], [], m + gs.length)
    simp only [List.length_append, List.length_cons, List.length_nil] at l1 l2
    refine ⟨_, rfl, F, _, rfl, .inr (SqL.of eF), _, rfl, ?_⟩
    dsimp only [tNil]
    rw [show nts (firstF m gs ws).2.1 ++ [V.int ((firstF m gs ws).2.2 : Nat)] = nts (firstW m gs ws).2 from by
      show _ = nts ((firstF m gs ws).2.1 ++ [(firstF m gs ws).2.2])
      rw [nts_app]
      rfl]
    have hlen : (nts (firstW m gs ws).2).length ≤ sizeLine := by
      rw [nts_len]
      show ((firstF m gs ws).2.1 ++ [_]).length ≤ _
      rw [List.length_append, show (firstF m gs ws).2.1.length = 0 + ws.length from l2]
      exact Nat.le_of_lt (big_lt (by show 0 + ws.length + 1 ≤ 500000; omega))
    refine ⟨hlen, fun D nD => ?_⟩
    have sD := same_upd (o := .lst (nts (firstW m gs ws).2)) nD
    exact q D _ (k9.trans (.ofSame sD)) (N9.less.same sD) (ks_none k9 nD) upd_same
def spZero (K : PySem.W.Frag) (C : Addr) : Sp := fun vs H Q _ => ∃ (Z : List Addr) (p : NetP) (m : Nat) (gs : List Gt) (nm : List (Str × List Nat)) (t : Addr) (b : Bool) (ws : List Nat), vs = [.ref p.x, .ref t] ∧ NetAt C Z H p m gs nm ∧ Sq2 b K H t (nts ws) ∧ t ∉ [p.lm, p.ld] ∧ (∀ w ∈ ws, w < m + gs.length) ∧ ws.length ≤ 2000 ∧ m + gs.length ≤ 300000 ∧
  ∀ D H', KeepS [p.lm, p.ld] H H' → NetAt C Z H' p m (zeroW m gs ws (Builtin.Int.intBits (ws.length : Int))).1 nm → H D = none → H' D = some (.lst (nts (zeroW m gs ws (Builtin.Int.intBits (ws.length : Int))).2)) → Q (.ref D) H'
theorem and_pow : ∀ (b : Nat) (x : Nat), Builtin.bitAnd (x : Int) (2 ^ b) = if x.testBit b = true then 2 ^ b else 0
  | 0, x => by
    rw [PySem.W.kbt_halves, Int.pow_zero, show (1 : Int) / 2 = 0 from rfl]
    have e : Builtin.bitAnd ((x : Int) / 2) 0 = 0 := by
      have := PySem.W.kbt_mask ((x : Int) / 2) 0
      rw [Int.pow_zero, Int.sub_self, Int.emod_one] at this
      exact this
    rw [e, Nat.testBit_zero]
    by_cases c : x % 2 = 1
    · rw [if_pos (by omega), if_pos (decide_eq_true c)]
      rfl
    · rw [if_neg (by omega), if_neg (by rw [decide_eq_true_eq]; exact c)]
      rfl
  | b + 1, x => by
    have p := GM.pow_pos' b
    rw [PySem.W.kbt_halves, GM.pow_s, show (2 ^ b * 2 : Int) / 2 = 2 ^ b from by omega, show ((x : Int) / 2) = ((x / 2 : Nat) : Int) from by omega, and_pow b (x / 2), Nat.testBit_succ, if_neg (show ¬ ((x : Int) % 2 = 1 ∧ (2 ^ b * 2 : Int) % 2 = 1) from by omega)]
    split <;> omega
theorem and_test (b x : Nat) : (!decide (V.int (Builtin.bitAnd (x : Int) (2 ^ b)) = V.int 0)) = x.testBit b := by
  have p := GM.pow_pos' b
  rw [and_pow]
  cases x.testBit b
  · rfl
  · show (!decide (V.int (2 ^ b) = V.int 0)) = true
    rw [decide_eq_false (fun z => by have := V.int.inj z; omega)]
    rfl
theorem downs_at {k j : Nat} (h : j < k) : (downs k)[j]? = some (k - 1 - j) := by
  unfold downs
  rw [List.getElem?_reverse (by rw [List.length_range]; exact h), List.length_range, List.getElem?_range (by omega)]
theorem selN_snoc {place : Nat} {l : List Nat} {i : Nat} (h : i < l.length) : selN place (l.take (i + 1)) = if i.testBit place = true then selN place (l.take i) ++ [l.getD i 0] else selN place (l.take i) := by
  have l1 : (l.take (i + 1)).length = i + 1 := by rw [List.length_take]; omega
  have l0 : (l.take i).length = i := by rw [List.length_take]; omega
  have key : ∀ j ∈ (List.range i).filter (·.testBit place), (l.take (i + 1)).getD j 0 = (l.take i).getD j 0 := fun j hj => by
    have := List.mem_range.mp (List.mem_filter.mp hj).1
    simp only [List.getD, List.getElem?_take, if_pos (show j < i + 1 by omega), if_pos this]
  have last : (l.take (i + 1)).getD i 0 = l.getD i 0 := by
    simp only [List.getD, List.getElem?_take, if_pos (show i < i + 1 by omega)]
  unfold selN
  rw [l1, l0, List.range_succ, List.filter_append, List.map_append]
  split
  · rename_i c
    rw [show [i].filter (·.testBit place) = [i] from by simp [c]]
    rw [List.map_congr_left key]
    show _ ++ [(l.take (i + 1)).getD i 0] = _
    rw [last]
  · rename_i c
    rw [show [i].filter (·.testBit place) = [] from by simp [c]]
    rw [List.map_congr_left key, List.map_nil, List.append_nil]
theorem anyW_len {m : Nat} {gs : List Gt} : ∀ ws : List Nat, gs.length ≤ (anyW m gs ws).1.length ∧ (anyW m gs ws).1.length ≤ gs.length + ws.length + 1
  | [] => by show gs.length ≤ (gs ++ [_]).length ∧ _; rw [List.length_append, List.length_singleton]; exact ⟨by omega, by show (gs ++ [_]).length ≤ _; rw [List.length_append, List.length_singleton]; exact Nat.le_refl _⟩
  | w :: ws => by
    have key : ∀ (ws : List Nat) (s : List Gt × Nat), (ws.foldl (fun s x => (s.1 ++ [Gt.w "either" [s.2, x]], m + s.1.length)) s).1.length = s.1.length + ws.length := by
      intro ws
      induction ws with
      | nil => exact fun _ => rfl
      | cons a ws ih =>
        intro s
        rw [List.foldl_cons, ih, List.length_append, List.length_singleton, List.length_cons]
        omega
    have := key ws (gs, w)
    show gs.length ≤ (ws.foldl _ (gs, w)).1.length ∧ (ws.foldl _ (gs, w)).1.length ≤ _
    rw [this, List.length_cons]
    dsimp only
    omega
theorem zeS_len {m : Nat} {fs : List Nat} : ∀ (l : List Nat) (s : List Gt × List Nat), s.1.length ≤ (l.foldl (zeS m fs) s).1.length ∧ (l.foldl (zeS m fs) s).1.length ≤ s.1.length + l.length * (fs.length + 1) ∧ (l.foldl (zeS m fs) s).2.length = s.2.length + l.length
  | [], s => by simp
  | p :: l, s => by
    obtain ⟨h1, h2, h3⟩ := zeS_len (m := m) (fs := fs) l (zeS m fs s p)
    have a := anyW_len (m := m) (gs := s.1) (selN p fs)
    have b := selN_len p fs
    rw [List.foldl_cons, List.length_cons, Nat.succ_mul, h3]
    have e1 : (zeS m fs s p).1 = (anyW m s.1 (selN p fs)).1 := rfl
    have e2 : (zeS m fs s p).2.length = s.2.length + 1 := by show (s.2 ++ [_]).length = _; rw [List.length_append]; rfl
    rw [e1] at h1 h2
    rw [e2]
    omega
theorem ok_zero_wires (B : Bl mg) (L : LL K mg C za zl) : FnOk P w K mg base CX0 7 (za 9) (zl 9) ["net", "ones"] (spZero K C) := by
  have G_first_wires : FnOk P w K mg base CX0 6 (za 10) (zl 10) ["net", "ones"] (spFirst K C) := (ok_first_wires B L).mono (by decide)
  have G_any_wire : FnOk P w K mg base CX0 6 (za 8) (zl 8) ["net", "wires"] (spAny K C) := (ok_any_wire B L).mono (by decide)
  refine L.F_zero_wires.ok sc_zero_wires (fun vs H Q E h => ?_) (fun cdv A outer s H vs Q E hr h => ?_)
  · obtain ⟨Z, p, m, gs, nm, t, b, ws, rfl, _⟩ := h
    rfl
  obtain ⟨Z, p, m, gs, nm, t, b, ws, rfl, hN, hT, nt, hw, hl, hl2, q⟩ := h
  refine ⟨_, (pss_cons (ps_set (i := 2) sc_zero_wires.nd rfl (.inl rfl) (pe_call G_first_wires hr (by rfl) L.m_first_wires L.F_first_wires.kp L.b_first_wires .nil pass0 (pa_cons (pv 0) (pa_cons (pv 1) pa_nil))))
    (pss_cons (ps_set (i := 3) sc_zero_wires.nd rfl (.inl rfl) (pe_lst pa_nil))
    (pss_cons (ps_for PassesOwn.never rfl (pi_range3 (by rfl) B.range (pa_cons (pe_op op_sub (pe_bits (pe_callB call_len_seq (by rfl) B.len PySem.boot_len (pa_cons (pv 1) pa_nil))) pe_int) (pa_cons (pe_un un_neg pe_int) (pa_cons (pe_un un_neg pe_int) pa_nil)))) (pg_name (i := 4) sc_zero_wires.nd rfl (.inr rfl)) (pss_one (ps_expr (pe_bm PySem.F.plainAttrs_list PySem.F.slot_list_append PySem.F.type_list_append mt_append (pv 3) (pa_cons (pe_call G_any_wire hr (by rfl) L.m_any_wire L.F_any_wire.kp L.b_any_wire .nil pass0 (pa_cons (pv 0) (pa_cons (pe_lc (own := [("zeros", 5), ("wire", 6)]) (g := gTup K 2 (gCons (gName 5) (gCons (gName 6) gNil))) (by rfl) sc_zero_wires.nd (pi_enum (by rfl) B.enumerate (pa_cons (pv 2) pa_nil)) (blkOk_by (own := [("zeros", 5), ("wire", 6)]) (N := ["net", "ones", "firsts", "bits", "place", "zeros", "wire"]) (sc := defScope s_zero_wires) (by decide +kernel)) (fun _ _ _ _ _ => pg_tup rfl (pgs_cons (pg_name (i := 5) sc_zero_wires.nd rfl (Or.inl rfl) (.inr rfl)) (pgs_cons (pg_name (i := 6) sc_zero_wires.nd rfl (Or.inl rfl) (.inr rfl)) pgs_nil))) (fun _ _ _ _ _ => pts_one (pt_cmpR op_ne (pe_op op_and (pv 5) (pe_op op_oneShl pe_int (pv 4))) pe_int (nomark _))) (fun _ _ _ _ _ => (pv 6))) pa_nil))) pa_nil)))))
    (pss_one (ps_ret (pv 3)))))), ?_⟩
  refine ⟨_, rfl, _, rfl, Z, p, m, gs, nm, t, b, ws, rfl, hN, hT, nt, hw, by omega, fun F H1 k1 N1 nF eF => ?_⟩
  have nF2 := hN.nin nF
  have W := firstW_ok hw
  have lW := W.ext.len
  have lF : (firstW m gs ws).2.length = ws.length + 1 := by
    have := congrArg List.length (W.val (List.replicate m false) (by simp))
    rw [List.length_map, firstB_len, List.length_map] at this
    exact this
  have nf : (nts (firstW m gs ws).2).length = ws.length + 1 := by rw [nts_len, lF]
  have T1 := hT.keepS k1 nt
  try simp only [L2.start, List.map_cons, List.map_nil, List.length_cons, List.length_nil, List.replicate_succ, List.replicate_zero, List.cons_append, List.nil_append, List.set_cons_succ, List.set_cons_zero, Nat.reduceAdd, Nat.reduceSub, Nat.zero_add]
  dsimp only [gName]
  try simp only [L2.start, List.map_cons, List.map_nil, List.length_cons, List.length_nil, List.replicate_succ, List.replicate_zero, List.cons_append, List.nil_append, List.set_cons_succ, List.set_cons_zero, Nat.reduceAdd, Nat.reduceSub, Nat.zero_add]
  refine ⟨Nat.zero_le _, fun R nR => ?_⟩
  have nR2 := N1.nin nR
  have N2 := N1.add (o := .lst []) nR
  have nRH := ks_none k1 nR
  have k2 := ks_updN k1 (o := .lst []) nRH
  have nFR : F ≠ R := ne_of_none eF nR
  have eF2 : (upd H1 R (.lst [])) F = _ := (upd_ne nFR).trans eF
  have eR2 : (upd H1 R (.lst [])) R = some (.lst []) := upd_same
  have T2 : Sq2 b K (upd H1 R (.lst [])) t (nts ws) := hT.keepS k2 nt
  generalize upd H1 R (.lst []) = H2 at *
  dsimp only
  try simp only [L2.start, List.map_cons, List.map_nil, List.length_cons, List.length_nil, List.replicate_succ, List.replicate_zero, List.cons_append, List.nil_append, List.set_cons_succ, List.set_cons_zero, Nat.reduceAdd, Nat.reduceSub, Nat.zero_add]
  dsimp only [gName]
  try simp only [L2.start, List.map_cons, List.map_nil, List.length_cons, List.length_nil, List.replicate_succ, List.replicate_zero, List.cons_append, List.nil_append, List.set_cons_succ, List.set_cons_zero, Nat.reduceAdd, Nat.reduceSub, Nat.zero_add]
  refine ⟨_, rfl, t, _, rfl, T2.to, ?_⟩
  rw [nts_len]
  have kb : Builtin.Int.intBits (ws.length : Int) ≤ 11 := PyProof.Rows.intBits_le (by
    show ((ws.length : Int)).natAbs < 2 ^ 11
    rw [Int.natAbs_natCast]
    omega)
  obtain ⟨k, hk⟩ : ∃ k, k = Builtin.Int.intBits (ws.length : Int) := ⟨_, rfl⟩
  rw [← hk] at q kb
  refine ⟨_, rfl, _, _, rfl, rfl, _, rfl, _, rfl, ((k : Int) - 1), (-1), (-1), ((k : Int) - 1 - -1).toNat, by rw [hk], RgC.neg (by omega) (by omega) (by decide) (by decide), ?_⟩
  rw [show ((k : Int) - 1 - -1).toNat = k by omega]
  refine for_it walk_rangeC (fun j σ H9 => ∃ y : Option V, σ = [some (.ref p.x), some (.ref t), some (.ref F), some (.ref R), y, none, none] ∧ KeepS [p.lm, p.ld] H H9 ∧ H9 F = some (.lst (nts (firstW m gs ws).2)) ∧ NetAt C (R :: Z) H9 p m (((downs k).take j).foldl (zeS m (firstW m gs ws).2) ((firstW m gs ws).1, [])).1 nm ∧ H9 R = some (.lst (nts (((downs k).take j).foldl (zeS m (firstW m gs ws).2) ((firstW m gs ws).1, [])).2))) ⟨_, rfl, k2, eF2, N2, eR2⟩ (fun _ _ _ _ _ => trivial) ?_ ?_
  · rintro j v σ H9 H10 hj ⟨y, rfl, k9, eF9, N9, eR9⟩ ⟨rfl, rfl⟩
    have dj := downs_at hj
    dsimp only
    rw [show (k : Int) - 1 + (j : Nat) * (-1) = ((k - 1 - j : Nat) : Int) from by omega]
    have estep : ((downs k).take (j + 1)).foldl (zeS m (firstW m gs ws).2) ((firstW m gs ws).1, []) = zeS m (firstW m gs ws).2 (((downs k).take j).foldl (zeS m (firstW m gs ws).2) ((firstW m gs ws).1, [])) (k - 1 - j) := fold_take _ dj _
    rw [estep]
    have hpl : k - 1 - j < 11 := by omega
    generalize k - 1 - j = place at *
    dsimp only [gName]
    try simp only [L2.start, List.map_cons, List.map_nil, List.length_cons, List.length_nil, List.replicate_succ, List.replicate_zero, List.cons_append, List.nil_append, List.set_cons_succ, List.set_cons_zero, Nat.reduceAdd, Nat.reduceSub, Nat.zero_add]
    refine ⟨_, rfl, .inl ⟨rfl, _, SqL.of eR9⟩, _, rfl, _, rfl, F, _, rfl, SqL.of eF9, fun D nD => ?_⟩
    have nD2 := N9.nin nD
    have fRD : R ≠ D := ne_of_none eR9 nD
    refine lc_it (walk_enum (K := K) (a := F) (xs := nts (firstW m gs ws).2)) (fun i H8 => Same H10 H8 ∧ H8 D = some (.lst (nts (selN place ((firstW m gs ws).2.take i))))) ⟨same_upd nD, upd_same⟩ (fun i H8 _ ⟨s8, _⟩ => SqL.of (s8 _ _ eF9)) ?_ ?_
    · rintro i v H8 H7 hi ⟨s8, eD⟩ ⟨T, x, z, rfl, nT, rfl, hx, hz⟩
      cases hx
      obtain ⟨a, ha, rfl⟩ := nts_at hz
      have hi' := (List.getElem?_eq_some_iff.mp ha).1
      have ea : a = (firstW m gs ws).2.getD i 0 := by
        simp only [List.getD, ha, Option.getD_some]
      have sT := same_upd (o := .tup [.int (i : Int), .int (a : Int)]) nT
      refine ⟨T, _, rfl, .inl (.inl upd_same), rfl, _, _, rfl, _, _, rfl, rfl, rfl, ?_⟩
      try simp only [L2.start, List.map_cons, List.map_nil, List.length_cons, List.length_nil, List.replicate_succ, List.replicate_zero, List.cons_append, List.nil_append, List.set_cons_succ, List.set_cons_zero, Nat.reduceAdd, Nat.reduceSub, Nat.zero_add]
      dsimp only [tTest, tOp, tVar, tC, rNe]
      refine ⟨_, rfl, _, rfl, place, rfl, rfl, by omega, _, _, rfl, rfl, rfl, _, rfl, ?_⟩
      rw [and_test, selN_snoc hi']
      have s7 := s8.trans sT
      have eD7 := sT _ _ eD
      cases hb : i.testBit place with
      | false => exact ⟨s7, eD7⟩
      | true =>
        refine ⟨_, rfl, _, eD7, ?_, fun y u e => ?_, ?_⟩
        · rw [nts_len]
          have := selN_len place ((firstW m gs ws).2.take i)
          rw [List.length_take] at this
          exact big_lt (by omega)
        · rw [upd_ne (ne_of_none e nD)]
          exact s7 _ _ e
        · rw [upd_same, if_pos rfl, ea, nts_app]
          rfl
    rintro H8 ⟨s8, eD⟩
    rw [nf, List.take_of_length_le (by rw [lF]; exact Nat.le_refl _)] at eD
    have N8 := N9.same s8
    obtain ⟨z1, z2, z3⟩ := zeS_len (m := m) (fs := (firstW m gs ws).2) ((downs k).take j) ((firstW m gs ws).1, [])
    have lt' : ((downs k).take j).length ≤ 11 := by
      rw [List.length_take]
      omega
    have z4 : ((downs k).take j).length * ((firstW m gs ws).2.length + 1) ≤ 11 * 2002 := Nat.mul_le_mul lt' (by omega)
    generalize ((downs k).take j).foldl (zeS m (firstW m gs ws).2) ((firstW m gs ws).1, []) = S at *
    dsimp only at z1 z2
    have hsel := selN_len place (firstW m gs ws).2
    refine ⟨R :: Z, p, m, S.1, nm, D, selN place (firstW m gs ws).2, rfl, N8, SqL.of eD, nD2, fun w hw' => ?_, by omega, fun H5 k5 N5 => ?_⟩
    · have := W.lt w (selN_mem hw')
      omega
    have eR5 := k5.1 _ _ (s8 _ _ eR9) nR2
    have eF5 := k5.1 _ _ (s8 _ _ eF9) nF2
    refine ⟨R, _, _, rfl, rfl, eR5, by rw [nts_len]; simp only [List.length_nil] at z3; exact big_lt (by omega), some (.int (place : Int)), rfl, ks_updN ((k9.trans (.ofSame s8)).trans k5) nRH, ?_, N5.put (by simp), ?_⟩
    · rw [upd_ne nFR]
      exact eF5
    · rw [upd_same]
      show _ = some (HO.lst (nts (S.2 ++ [_])))
      rw [nts_app]
      rfl
  · rintro σ H9 ⟨y, rfl, k9, eF9, N9, eR9⟩
    rw [List.take_of_length_le (by unfold downs; rw [List.length_reverse, List.length_range]; exact Nat.le_refl _)] at N9 eR9
    exact ⟨_, rfl, q R H9 k9 N9.less nRH eR9⟩
theorem dgS_len {m : Nat} : ∀ (l : List (Nat × Nat)) (s : List Gt × List Nat), (l.foldl (dgS m) s).1.length = s.1.length + l.length ∧ (l.foldl (dgS m) s).2.length = s.2.length + l.length
  | [], s => ⟨rfl, rfl⟩
  | a :: l, s => by
    obtain ⟨h1, h2⟩ := dgS_len l (dgS m s a)
    rw [List.foldl_cons, h1, h2]
    unfold dgS
    simp only [List.length_append, List.length_cons, List.length_nil]
    omega
theorem barW_len {m : Nat} {os ds : List Nat} {gs : List Gt} {p : Nat} : (barW m os ds gs p).1.length = gs.length + (if p = 0 then 1 else 2) := by
  unfold barW
  split <;> simp
theorem maS_len {m : Nat} {os ds : List Nat} : ∀ (l : List Nat) (s : List Gt × List Nat), s.1.length ≤ (l.foldl (maS m os ds) s).1.length ∧ (l.foldl (maS m os ds) s).1.length ≤ s.1.length + 5 * l.length ∧ (l.foldl (maS m os ds) s).2.length = s.2.length + l.length
  | [], s => by simp
  | p :: l, s => by
    obtain ⟨h1, h2, h3⟩ := maS_len (m := m) (os := os) (ds := ds) l (maS m os ds s p)
    have a := barW_len (m := m) (os := os) (ds := ds) (gs := s.1) (p := p)
    have e1 : (maS m os ds s p).1.length = (barW m os ds s.1 p).1.length + 3 := by unfold maS; simp only [List.length_append, List.length_cons, List.length_nil]
    have e2 : (maS m os ds s p).2.length = s.2.length + 1 := by unfold maS; simp only [List.length_append, List.length_cons, List.length_nil]
    rw [List.foldl_cons, List.length_cons]
    split at a <;> omega
def spMark (K : PySem.W.Frag) (C : Addr) : Sp := fun vs H Q _ => ∃ (Z : List Addr) (p : NetP) (m : Nat) (gs : List Gt) (nm : List (Str × List Nat)) (t u : Addr) (b1 b2 : Bool) (os ts : List Nat), vs = [.ref p.x, .ref t, .ref u] ∧ NetAt C Z H p m gs nm ∧ Sq2 b1 K H t (nts os) ∧ Sq2 b2 K H u (nts ts) ∧ t ∉ [p.lm, p.ld] ∧ u ∉ [p.lm, p.ld] ∧ os.length = ts.length ∧ 0 < os.length ∧ (∀ w ∈ os, w < m + gs.length) ∧ (∀ w ∈ ts, w < m + gs.length) ∧ os.length ≤ 2000 ∧ m + gs.length ≤ 300000 ∧
  ∀ D H', KeepS [p.lm, p.ld] H H' → NetAt C Z H' p m (markW m gs os ts).1 nm → H D = none → H' D = some (.lst (nts (markW m gs os ts).2)) → Q (.ref D) H'
theorem ok_mark_wires (B : Bl mg) (L : LL K mg C za zl) : FnOk P w K mg base CX0 5 (za 11) (zl 11) ["net", "ones", "others"] (spMark K C) := by
  have G_Net_unlike : FnOk P w K mg base CX0 4 (za 28) (zl 28) ["self", "a", "b"] (spG2 C "unlike") := (ok_Net_unlike B L).mono (by decide)
  have G_Net_both : FnOk P w K mg base CX0 4 (za 26) (zl 26) ["self", "a", "b"] (spG2 C "both") := (ok_Net_both B L).mono (by decide)
  have G_Net_other : FnOk P w K mg base CX0 4 (za 29) (zl 29) ["self", "a"] (spG1 C) := (ok_Net_other B L).mono (by decide)
  refine L.F_mark_wires.ok sc_mark_wires (fun vs H Q E h => ?_) (fun cdv A outer s H vs Q E hr h => ?_)
  · obtain ⟨Z, p, m, gs, nm, t, u, b1, b2, os, ts, rfl, _⟩ := h
    rfl
  obtain ⟨Z, p, m, gs, nm, t, u, b1, b2, os, ts, rfl, hN, hT, hU, nt, nu, hlen, h0, ho, hs, hl, hl2, q⟩ := h
  refine ⟨_, (pss_cons (ps_setLc (i := 3) (own := [("one", 7), ("other", 8)]) (g := gTup K 2 (gCons (gName 7) (gCons (gName 8) gNil))) (by rfl) sc_mark_wires.nd rfl rfl (sw_true rfl rfl rfl (by decide +kernel)) (pi_zb (by rfl) B.zip (pa_cons (pv 1) (pa_cons (pv 2) pa_nil))) (blkOk_by (own := [("one", 7), ("other", 8)]) (N := ["net", "ones", "others", "digits", "marks", "place", "bars", "one", "other"]) (sc := defScope s_mark_wires) (by decide +kernel)) (fun _ _ _ _ _ => pg_tup rfl (pgs_cons (pg_name (i := 7) sc_mark_wires.nd rfl (Or.inl rfl) (.inr rfl)) (pgs_cons (pg_name (i := 8) sc_mark_wires.nd rfl (Or.inl rfl) (.inr rfl)) pgs_nil))) (fun _ _ _ _ _ => pts_nil) (fun _ _ _ _ _ => (pe_meth (pv 0) L.T.cl L.M_Net_unlike G_Net_unlike hr L.b_Net_unlike .nil pass0 (pa_cons (pv 7) (pa_cons (pv 8) pa_nil)))))
    (pss_cons (ps_set (i := 4) sc_mark_wires.nd rfl (.inl rfl) (pe_lst pa_nil))
    (pss_cons (ps_for PassesOwn.never rfl (pi_range1 (by rfl) B.range (pa_cons (pe_op op_sub (pe_callB call_len_seq (by rfl) B.len PySem.boot_len (pa_cons (pv 3) pa_nil)) pe_int) pa_nil)) (pg_name (i := 5) sc_mark_wires.nd rfl (.inl rfl)) (pss_cons (ps_set (i := 6) sc_mark_wires.nd rfl (.inl rfl) (pe_meth (pv 0) L.T.cl L.M_Net_unlike G_Net_unlike hr L.b_Net_unlike .nil pass0 (pa_cons (pe_ix ix_seq (pv 1) (pv 5) (fun _ _ => rfl)) (pa_cons (pe_ix ix_seq (pv 1) (pe_op op_add (pv 5) pe_int) (fun _ _ => rfl)) pa_nil))))
    (pss_cons (ps_if (pt_cmpR op_gt (pv 5) pe_int (nomark _)) (pss_one (ps_set (i := 6) sc_mark_wires.nd rfl (.inl rfl) (pe_meth (pv 0) L.T.cl L.M_Net_unlike G_Net_unlike hr L.b_Net_unlike .nil pass0 (pa_cons (pv 6) (pa_cons (pe_ix ix_list (pv 3) (pe_op op_sub (pv 5) pe_int) (fun _ _ => rfl)) pa_nil))))) pss_nil)
    (pss_one (ps_expr (pe_bm PySem.F.plainAttrs_list PySem.F.slot_list_append PySem.F.type_list_append mt_append (pv 4) (pa_cons (pe_meth (pv 0) L.T.cl L.M_Net_both G_Net_both hr L.b_Net_both .nil pass0 (pa_cons (pe_ix ix_list (pv 3) (pv 5) (fun _ _ => rfl)) (pa_cons (pe_meth (pv 0) L.T.cl L.M_Net_other G_Net_other hr L.b_Net_other .nil pass0 (pa_cons (pe_meth (pv 0) L.T.cl L.M_Net_both G_Net_both hr L.b_Net_both .nil pass0 (pa_cons (pe_ix ix_list (pv 3) (pe_op op_add (pv 5) pe_int) (fun _ _ => rfl)) (pa_cons (pv 6) pa_nil))) pa_nil)) pa_nil))) pa_nil)))))))
    (pss_one (ps_ret (pe_op op_cat (pv 4) (pe_slice sl_list (pv 3) (po_some (pe_un un_neg pe_int)) po_none))))))), ?_⟩
  refine ⟨_, rfl, _, rfl, b1, b2, t, u, _, _, rfl, hT, hU, fun W nW => ?_⟩
  have nW2 := hN.nin nW
  have N0 := hN.add (o := .lst []) nW
  have lz : (os.zip ts).length = os.length := by rw [List.length_zip]; omega
  refine lc_it (walk_zb (K := K) (t1 := b1) (t2 := b2) (a := t) (b := u) (xs := nts os) (ys := nts ts) (n := os.length) (nts_len os) (by rw [nts_len, hlen])) (fun j H9 => KeepS [p.lm, p.ld] H H9 ∧ NetAt C (W :: Z) H9 p m (((os.zip ts).take j).foldl (dgS m) (gs, [])).1 nm ∧ H9 W = some (.lst (nts (((os.zip ts).take j).foldl (dgS m) (gs, [])).2))) ⟨KeepS.new nW, N0, upd_same⟩ (fun j H9 _ ⟨k9, _⟩ => ⟨hT.keepS k9 nt, hU.keepS k9 nu⟩) ?_ ?_
  · rintro j v H9 H10 hj ⟨k9, N9, eD⟩ ⟨T, x, y, rfl, nT, rfl, hx, hy⟩
    obtain ⟨a, b, hab, rfl, rfl⟩ := nts_zip hx hy
    have sT := same_upd (o := .tup [.int (a : Int), .int (b : Int)]) nT
    have N10 := N9.same sT
    have hp := List.mem_of_getElem? hab
    have la := ho _ (List.of_mem_zip hp).1
    have lb := hs _ (List.of_mem_zip hp).2
    have estep : ((os.zip ts).take (j + 1)).foldl (dgS m) (gs, []) = dgS m (((os.zip ts).take j).foldl (dgS m) (gs, [])) (a, b) := fold_take _ hab _
    rw [estep]
    obtain ⟨l1, l2⟩ := dgS_len (m := m) ((os.zip ts).take j) (gs, [])
    have lj : ((os.zip ts).take j).length ≤ os.length := by rw [List.length_take]; omega
    generalize ((os.zip ts).take j).foldl (dgS m) (gs, []) = S at *
    dsimp only [List.length_nil] at l1 l2
    obtain ⟨_, _, _, dx2, _, _, f1, _⟩ := id N10
    refine ⟨T, _, rfl, .inl (.inl upd_same), rfl, _, _, rfl, _, _, rfl, rfl, rfl, ?_⟩
    refine yesT ?_
    try simp only [L2.start, List.map_cons, List.map_nil, List.length_cons, List.length_nil, List.replicate_succ, List.replicate_zero, List.cons_append, List.nil_append, List.set_cons_succ, List.set_cons_zero, Nat.reduceAdd, Nat.reduceSub, Nat.zero_add]
    refine ⟨_, rfl, p.x, dx2, _, rfl, f1, rfl, _, rfl, _, rfl, W :: Z, p, m, S.1, nm, a, b, rfl, N10, by omega, by omega, by omega, fun H3 k3 N3 => ?_⟩
    have kk : KeepS [p.lm, p.ld] H H3 := (k9.trans (.ofSame sT)).trans k3
    refine ⟨_, k3.1 _ _ (sT _ _ eD) nW2, by rw [nts_len]; exact big_lt (by omega), ks_updN kk nW, N3.put (by simp), ?_⟩
    rw [upd_same]
    show _ = some (HO.lst (nts (S.2 ++ [_])))
    rw [nts_app]
    rfl
  rintro H1 ⟨k1, N1, eW⟩
  rw [List.take_of_length_le (by omega)] at N1 eW
  try simp only [L2.start, List.map_cons, List.map_nil, List.length_cons, List.length_nil, List.replicate_succ, List.replicate_zero, List.cons_append, List.nil_append, List.set_cons_succ, List.set_cons_zero, Nat.reduceAdd, Nat.reduceSub, Nat.zero_add]
  have DW := digW_ok (m := m) (gs := gs) (ps := os.zip ts) (fun p hp => ⟨ho _ (List.of_mem_zip hp).1, hs _ (List.of_mem_zip hp).2⟩)
  rw [show (os.zip ts).foldl (dgS m) (gs, []) = markD m gs os ts from rfl] at N1 eW DW
  have ld : (markD m gs os ts).2.length = os.length := by
    have := congrArg List.length (DW.val (List.replicate m false) (by simp))
    rw [List.length_map, List.length_map, lz] at this
    exact this
  have eq2 : markW m gs os ts = ((markM m gs os ts).1, (markM m gs os ts).2 ++ (markD m gs os ts).2.drop (os.length - 1)) := rfl
  have eq1 : markM m gs os ts = (List.range (os.length - 1)).foldl (maS m os (markD m gs os ts).2) ((markD m gs os ts).1, []) := rfl
  rw [eq2] at q
  rw [eq1] at q
  have lD := DW.ext.len
  rw [lz] at lD
  have Dlt := DW.lt
  generalize markD m gs os ts = S0 at *
  refine ⟨Nat.zero_le _, fun R nR => ?_⟩
  have nRH := ks_none k1 nR
  have nR2 := hN.nin nRH
  have nRW : W ≠ R := ne_of_none eW nR
  have N2 := N1.add (o := .lst []) nR
  have k2 := ks_updN k1 (o := .lst []) nRH
  have eW2 : (upd H1 R (.lst [])) W = _ := (upd_ne nRW).trans eW
  have eR2 : (upd H1 R (.lst [])) R = some (.lst []) := upd_same
  have nf : (nts S0.2).length = os.length := by rw [nts_len, ld]
  generalize upd H1 R (.lst []) = H2 at *
  dsimp only [gName]
  try simp only [L2.start, List.map_cons, List.map_nil, List.length_cons, List.length_nil, List.replicate_succ, List.replicate_zero, List.cons_append, List.nil_append, List.set_cons_succ, List.set_cons_zero, Nat.reduceAdd, Nat.reduceSub, Nat.zero_add]
  refine ⟨_, rfl, W, _, rfl, .inl (SqL.of eW2), _, _, rfl, rfl, ?_⟩
  rw [nf]
  refine ⟨(os.length : Int) - 1, rfl, by omega, by omega, ?_⟩
  rw [show ((os.length : Int) - 1).toNat = os.length - 1 by omega]
  refine for_range (n := os.length - 1) (fun j σ H9 => ∃ y z : Option V, σ = [some (.ref p.x), some (.ref t), some (.ref u), some (.ref W), some (.ref R), y, z, none, none] ∧ KeepS [p.lm, p.ld] H H9 ∧ H9 W = some (.lst (nts S0.2)) ∧ NetAt C (R :: W :: Z) H9 p m ((List.range j).foldl (maS m os S0.2) (S0.1, [])).1 nm ∧ H9 R = some (.lst (nts ((List.range j).foldl (maS m os S0.2) (S0.1, [])).2))) ⟨_, _, rfl, k2, eW2, N2, eR2⟩ ?_ ?_
  · rintro j σ H9 hj ⟨y, z, rfl, k9, eW9, N9, eR9⟩
    rw [show (0 : Int) + (j : Nat) = ((j : Nat) : Int) from by omega]
    have estep : (List.range (j + 1)).foldl (maS m os S0.2) (S0.1, []) = maS m os S0.2 ((List.range j).foldl (maS m os S0.2) (S0.1, [])) j := by rw [List.range_succ, List.foldl_append]; rfl
    rw [estep]
    obtain ⟨lM, lM2⟩ : S0.1.length ≤ ((List.range j).foldl (maS m os S0.2) (S0.1, [])).1.length ∧ ((List.range j).foldl (maS m os S0.2) (S0.1, [])).1.length ≤ S0.1.length + 5 * j ∧ ((List.range j).foldl (maS m os S0.2) (S0.1, [])).2.length = j := by
      have := maS_len (m := m) (os := os) (ds := S0.2) (List.range j) (S0.1, [])
      rw [List.length_range] at this
      simpa using this
    generalize (List.range j).foldl (maS m os S0.2) (S0.1, []) = S at *
    have oj := getD_in (l := os) (p := j) (by omega)
    have oj1 := getD_in (l := os) (p := j + 1) (by omega)
    have dj := getD_in (l := S0.2) (p := j) (by omega)
    have dj1 := getD_in (l := S0.2) (p := j + 1) (by omega)
    have T9 := hT.keepS k9 nt
    dsimp only [gName]
    try simp only [L2.start, List.map_cons, List.map_nil, List.length_cons, List.length_nil, List.replicate_succ, List.replicate_zero, List.cons_append, List.nil_append, List.set_cons_succ, List.set_cons_zero, Nat.reduceAdd, Nat.reduceSub, Nat.zero_add]
    obtain ⟨_, _, _, dx2, _, _, f1, _⟩ := id N9
    refine ⟨_, rfl, p.x, dx2, _, rfl, f1, rfl, _, rfl, _, rfl, ?_⟩
    refine T9.at (y := fun _ => True) (at_nts (by omega)) ?_
    refine ⟨_, rfl, _, rfl, _, _, rfl, rfl, ?_⟩
    refine T9.at (y := fun _ => True) (at_nts (a := j + 1) (by omega)) ?_
    refine ⟨R :: W :: Z, p, m, S.1, nm, _, _, rfl, N9, ?_, ?_, by omega, fun H3 k3 N3 => ?_⟩
    · have := ho _ oj
      omega
    · have := ho _ oj1
      omega
    have kA := k9.trans k3
    have eW3 := k3.1 _ _ eW9 nW2
    have eR3 := k3.1 _ _ eR9 nR2
    dsimp only [gName]
    try simp only [L2.start, List.map_cons, List.map_nil, List.length_cons, List.length_nil, List.replicate_succ, List.replicate_zero, List.cons_append, List.nil_append, List.set_cons_succ, List.set_cons_zero, Nat.reduceAdd, Nat.reduceSub, Nat.zero_add]
    refine gset_if (ifS_cut (fun σ' H' => σ' = [some (.ref p.x), some (.ref t), some (.ref u), some (.ref W), some (.ref R), some (.int (j : Int)), some (.int ((barW m os S0.2 S.1 j).2 : Nat)), none, none] ∧ KeepS [p.lm, p.ld] H H' ∧ H' W = some (.lst (nts S0.2)) ∧ NetAt C (R :: W :: Z) H' p m (barW m os S0.2 S.1 j).1 nm ∧ H' R = some (.lst (nts S.2))) (fun D' q' => ?_) ?_)
    · refine ⟨_, rfl, _, _, rfl, rfl, _, rfl, ite2 (fun z => ?_) (fun z => ?_)⟩
      · have hj0 : j ≠ 0 := by
          have := of_decide_eq_true z
          omega
        have eb : barW m os S0.2 S.1 j = (S.1 ++ [.w "unlike" [os.getD j 0, os.getD (j + 1) 0]] ++ [.w "unlike" [m + S.1.length, S0.2.getD (j - 1) 0]], m + (S.1 ++ [Gt.w "unlike" [os.getD j 0, os.getD (j + 1) 0]]).length) := if_neg hj0
        rw [eb] at q'
        have dm := Dlt _ (getD_in (l := S0.2) (p := j - 1) (by omega))
        have lS1 : (S.1 ++ [Gt.w "unlike" [os.getD j 0, os.getD (j + 1) 0]]).length = S.1.length + 1 := by simp
        obtain ⟨_, _, _, dx3, _, _, f3, _⟩ := id N3
        refine ⟨_, rfl, p.x, dx3, _, rfl, f3, rfl, _, rfl, _, rfl, _, rfl, _, _, rfl, rfl, W, _, _, _, rfl, rfl, SqL.of eW3, (by rw [show (j : Int) - 1 = ((j - 1 : Nat) : Int) by omega]; exact at_nts (by omega)), R :: W :: Z, p, m, _, nm, _, _, rfl, N3, by omega, by omega, by omega, fun H4 k4 N4 => ?_⟩
        exact q' _ _ ⟨rfl, kA.trans k4, k4.1 _ _ eW3 nW2, N4, k4.1 _ _ eR3 nR2⟩
      · have hj0 : j = 0 := by
          by_cases c : j = 0
          · exact c
          · exact absurd (decide_eq_true (show (j : Int) > 0 by omega)) z
        have eb : barW m os S0.2 S.1 j = (S.1 ++ [.w "unlike" [os.getD j 0, os.getD (j + 1) 0]], m + S.1.length) := if_pos hj0
        rw [eb] at q'
        exact q' _ _ ⟨rfl, kA, eW3, N3, eR3⟩
    · rintro σ' H4 ⟨rfl, k4, eW4, N4, eR4⟩
      have lb := barW_len (m := m) (os := os) (ds := S0.2) (gs := S.1) (p := j)
      have Bk := barW_ok (m := m) (p := j) (os := os) (ds := S0.2) (gs := S.1) (by have := ho _ oj; omega) (by have := ho _ oj1; omega) (fun _ => by have := Dlt _ (getD_in (l := S0.2) (p := j - 1) (by omega)); omega)
      have blt := Bk.lt
      have hms : maS m os S0.2 S j = ((barW m os S0.2 S.1 j).1 ++ [.w "both" [S0.2.getD (j + 1) 0, (barW m os S0.2 S.1 j).2]] ++ [.w "other" [m + (barW m os S0.2 S.1 j).1.length]] ++ [.w "both" [S0.2.getD j 0, m + ((barW m os S0.2 S.1 j).1 ++ [Gt.w "both" [S0.2.getD (j + 1) 0, (barW m os S0.2 S.1 j).2]]).length]],
        S.2 ++ [m + ((barW m os S0.2 S.1 j).1 ++ [Gt.w "both" [S0.2.getD (j + 1) 0, (barW m os S0.2 S.1 j).2]] ++ [Gt.w "other" [m + (barW m os S0.2 S.1 j).1.length]]).length]) := rfl
      rw [hms]
      clear hms Bk
      have lb2 : (barW m os S0.2 S.1 j).1.length ≤ S.1.length + 2 ∧ S.1.length ≤ (barW m os S0.2 S.1 j).1.length := by split at lb <;> omega
      generalize barW m os S0.2 S.1 j = bb at *
      have d0 := Dlt _ dj
      have d1 := Dlt _ dj1
      obtain ⟨_, _, _, dx4, _, _, f4, _⟩ := id N4
      dsimp only
      refine ⟨_, rfl, .inl ⟨rfl, _, SqL.of eR4⟩, _, rfl, p.x, dx4, _, rfl, f4, rfl, _, rfl, _, rfl, W, _, _, _, rfl, rfl, SqL.of eW4, at_nts (by omega), ?_⟩
      refine ⟨_, rfl, p.x, dx4, _, rfl, f4, rfl, ?_⟩
      refine ⟨_, rfl, p.x, dx4, _, rfl, f4, rfl, _, rfl, _, rfl, _, _, rfl, rfl, W, _, _, _, rfl, rfl, SqL.of eW4, at_nts (a := j + 1) (by omega), _, rfl, R :: W :: Z, p, m, _, nm, _, _, rfl, N4, by omega, by omega, by omega, fun H5 k5 N5 => ?_⟩
      have lB1 : (bb.1 ++ [Gt.w "both" [S0.2.getD (j + 1) 0, bb.2]]).length = bb.1.length + 1 := by simp
      refine ⟨R :: W :: Z, p, m, _, nm, _, rfl, N5, by omega, by omega, fun H6 k6 N6 => ?_⟩
      have lB2 : (bb.1 ++ [Gt.w "both" [S0.2.getD (j + 1) 0, bb.2]] ++ [Gt.w "other" [m + bb.1.length]]).length = bb.1.length + 2 := by simp
      refine ⟨R :: W :: Z, p, m, _, nm, _, _, rfl, N6, by omega, by omega, by omega, fun H7 k7 N7 => ?_⟩
      have k567 := (k5.trans k6).trans k7
      have eR7 := k567.1 _ _ eR4 nR2
      have eW7 := k567.1 _ _ eW4 nW2
      refine ⟨R, _, _, rfl, rfl, eR7, by rw [nts_len]; exact big_lt (by omega), _, _, rfl, ks_updN (k4.trans k567) nRH, ?_, N7.put (by simp), ?_⟩
      · rw [upd_ne nRW]
        exact eW7
      · rw [upd_same]
        show _ = some (HO.lst (nts (S.2 ++ [_])))
        rw [nts_app]
        rfl
  · rintro σ H9 ⟨y, z, rfl, k9, eW9, N9, eR9⟩
    have lM := maS_len (m := m) (os := os) (ds := S0.2) (List.range (os.length - 1)) (S0.1, [])
    rw [List.length_range] at lM
    generalize (List.range (os.length - 1)).foldl (maS m os S0.2) (S0.1, []) = S at *
    dsimp only [List.length_nil] at lM
    refine ⟨_, rfl, _, rfl, _, rfl, _, rfl, W, _, rfl, SqL.of eW9, fun D1 nD1 => ?_⟩
    have ec : cutV (nts S0.2) (some (-1)) none = nts (S0.2.drop (os.length - 1)) := by
      unfold cutV nts
      rw [List.length_map, ld, show HT.sIx os.length 0 (some (-1)) = os.length - 1 from by
        show (if (-1 : Int) < 0 then ((-1 : Int) + (os.length : Int)).toNat else min (-1 : Int).toNat os.length) = _
        rw [if_pos (by decide)]
        omega, HT.sIx_none, ← List.map_drop, List.take_of_length_le (by rw [List.length_map, List.length_drop]; omega)]
    rw [ec]
    have s1 := same_upd (o := .lst (nts (S0.2.drop (os.length - 1)))) nD1
    have eD1 : (upd H9 D1 (.lst (nts (S0.2.drop (os.length - 1))))) D1 = some (.lst (nts (S0.2.drop (os.length - 1)))) := upd_same
    generalize upd H9 D1 (.lst (nts (S0.2.drop (os.length - 1)))) = HA at *
    refine ⟨R, D1, _, _, rfl, rfl, s1 _ _ eR9, eD1, by rw [nts_len, nts_len, List.length_drop]; exact Nat.le_of_lt (big_lt (by omega)), fun D nD => ?_⟩
    rw [← nts_app]
    have sD := same_upd (o := .lst (nts (S.2 ++ S0.2.drop (os.length - 1)))) nD
    exact q D _ ((k9.trans (.ofSame s1)).trans (.ofSame sD)) ((N9.less.less.same s1).same sD) (ks_none (k9.trans (.ofSame s1)) nD) upd_same
end
section
variable {P : Program} {w : World} {K : PySem.W.Frag} {mg : Str → Option Value} {base : Heap}
variable {C : Addr} {za : Nat → Addr} {zl : Nat → FuncData}
def spLen (K : PySem.W.Frag) : Sp := fun vs H Q _ => ∃ (n t : Addr) (b : Bool) (ws : List Nat), vs = [.ref n, .ref t, .int (ws.length : Int)] ∧ Sq2 b K H t (nts ws) ∧ ∀ D, H D = none → Q (.ref D) (upd H D (.lst (nts ws)))
theorem ok_lengthened (B : Bl mg) (L : LL K mg C za zl) : FnOk P w K mg base CX0 1 (za 14) (zl 14) ["net", "wires", "many"] (spLen K) := by
  refine L.F_lengthened.ok sc_lengthened (fun vs H Q E h => ?_) (fun cdv A outer s H vs Q E hr h => ?_)
  · obtain ⟨n, t, b, ws, rfl, _⟩ := h
    rfl
  obtain ⟨n, t, b, ws, rfl, hT, q⟩ := h
  refine ⟨_, (pss_cons (ps_if (pt_cmpR op_ge (pe_callB call_len_seq (by rfl) B.len PySem.boot_len (pa_cons (pv 1) pa_nil)) (pv 2) (nomark _)) (pss_one (ps_ret (pe_callTy call_list_of (by rfl) B.list PyProof.Rows.boot_list (pa_cons (pv 1) pa_nil)))) pss_nil)
    (pss_one ps_never)), ?_⟩
  refine ⟨_, rfl, t, _, rfl, hT.to, _, rfl, ?_⟩
  rw [nts_len]
  refine ⟨_, _, rfl, rfl, _, rfl, ite2 (fun _ => ?_) (fun z => absurd (decide_eq_true (Int.le_refl _)) z)⟩
  exact ⟨_, rfl, t, _, rfl, hT.to, q⟩
def spLess (K : PySem.W.Frag) (C : Addr) : Sp := fun vs H Q _ => ∃ (Z : List Addr) (p : NetP) (m : Nat) (gs : List Gt) (nm : List (Str × List Nat)) (t u : Addr) (b1 b2 : Bool) (os ts : List Nat), vs = [.ref p.x, .ref t, .ref u] ∧ NetAt C Z H p m gs nm ∧ Sq2 b1 K H t (nts os) ∧ Sq2 b2 K H u (nts ts) ∧ os.length = ts.length ∧ (∀ w ∈ os, w < m + gs.length) ∧ (∀ w ∈ ts, w < m + gs.length) ∧ os.length ≤ 2000 ∧ m + gs.length ≤ 300000 ∧
  ∀ H', KeepS [p.lm, p.ld] H H' → NetAt C Z H' p m (lessW m gs os ts).1 nm → Q (.int ((lessW m gs os ts).2 : Nat)) H'
theorem ok_is_less_wire (B : Bl mg) (L : LL K mg C za zl) : FnOk P w K mg base CX0 5 (za 13) (zl 13) ["net", "ones", "others"] (spLess K C) := by
  have G_lengthened : FnOk P w K mg base CX0 4 (za 14) (zl 14) ["net", "wires", "many"] (spLen K) := (ok_lengthened B L).mono (by decide)
  have G_Net_other : FnOk P w K mg base CX0 4 (za 29) (zl 29) ["self", "a"] (spG1 C) := (ok_Net_other B L).mono (by decide)
  have G_Net_both : FnOk P w K mg base CX0 4 (za 26) (zl 26) ["self", "a", "b"] (spG2 C "both") := (ok_Net_both B L).mono (by decide)
  have G_Net_either : FnOk P w K mg base CX0 4 (za 27) (zl 27) ["self", "a", "b"] (spG2 C "either") := (ok_Net_either B L).mono (by decide)
  have G_Net_fixed : FnOk P w K mg base CX0 4 (za 30) (zl 30) ["self", "bit"] (spFixed C) := (ok_Net_fixed B L).mono (by decide)
  refine L.F_is_less_wire.ok sc_is_less_wire (fun vs H Q E h => ?_) (fun cdv A outer s H vs Q E hr h => ?_)
  · obtain ⟨Z, p, m, gs, nm, t, u, b1, b2, os, ts, rfl, _⟩ := h
    rfl
  obtain ⟨Z, p, m, gs, nm, t, u, b1, b2, os, ts, rfl, hN, hT, hU, hlen, ho, hs, hl, hl2, q⟩ := h
  refine ⟨_, (pss_cons (ps_set (i := 3) sc_is_less_wire.nd rfl (.inl rfl) (pe_callB (call_max2 rfl) (by rfl) B.max boot_max (pa_cons (pe_callB call_len_seq (by rfl) B.len PySem.boot_len (pa_cons (pv 1) pa_nil)) (pa_cons (pe_callB call_len_seq (by rfl) B.len PySem.boot_len (pa_cons (pv 2) pa_nil)) pa_nil))))
    (pss_cons (ps_set (i := 1) sc_is_less_wire.nd rfl (.inl rfl) (pe_call G_lengthened hr (by rfl) L.m_lengthened L.F_lengthened.kp L.b_lengthened .nil pass0 (pa_cons (pv 0) (pa_cons (pv 1) (pa_cons (pv 3) pa_nil)))))
    (pss_cons (ps_set (i := 2) sc_is_less_wire.nd rfl (.inl rfl) (pe_call G_lengthened hr (by rfl) L.m_lengthened L.F_lengthened.kp L.b_lengthened .nil pass0 (pa_cons (pv 0) (pa_cons (pv 2) (pa_cons (pv 3) pa_nil)))))
    (pss_cons (ps_set (i := 4) sc_is_less_wire.nd rfl (.inl rfl) (pe_meth (pv 0) L.T.cl L.M_Net_fixed G_Net_fixed hr L.b_Net_fixed .nil pass0 (pa_cons pe_int pa_nil)))
    (pss_cons (ps_for PassesOwn.never rfl (pi_zb (by rfl) B.zip (pa_cons (pe_revS (pv 1)) (pa_cons (pe_revS (pv 2)) pa_nil))) (pg_tup (by rfl) (pgs_cons (pg_name (i := 5) sc_is_less_wire.nd rfl (.inl rfl)) (pgs_cons (pg_name (i := 6) sc_is_less_wire.nd rfl (.inl rfl)) pgs_nil))) (pss_cons (ps_set (i := 7) sc_is_less_wire.nd rfl (.inl rfl) (pe_meth (pv 0) L.T.cl L.M_Net_other G_Net_other hr L.b_Net_other .nil pass0 (pa_cons (pv 5) pa_nil)))
    (pss_one (ps_set (i := 4) sc_is_less_wire.nd rfl (.inl rfl) (pe_meth (pv 0) L.T.cl L.M_Net_either G_Net_either hr L.b_Net_either .nil pass0 (pa_cons (pe_meth (pv 0) L.T.cl L.M_Net_both G_Net_both hr L.b_Net_both .nil pass0 (pa_cons (pv 7) (pa_cons (pv 6) pa_nil))) (pa_cons (pe_meth (pv 0) L.T.cl L.M_Net_both G_Net_both hr L.b_Net_both .nil pass0 (pa_cons (pe_meth (pv 0) L.T.cl L.M_Net_either G_Net_either hr L.b_Net_either .nil pass0 (pa_cons (pv 7) (pa_cons (pv 6) pa_nil))) (pa_cons (pv 4) pa_nil))) pa_nil)))))))
    (pss_one (ps_ret (pv 4)))))))), ?_⟩
  refine ⟨_, rfl, t, _, rfl, hT.to, _, rfl, u, _, rfl, hU.to, _, _, rfl, ?_⟩
  rw [nts_len, nts_len, ← hlen, if_neg (Nat.lt_irrefl _ ∘ Int.ofNat_lt.mp)]
  try simp only [L2.start, List.map_cons, List.map_nil, List.length_cons, List.length_nil, List.replicate_succ, List.replicate_zero, List.cons_append, List.nil_append, List.set_cons_succ, List.set_cons_zero, Nat.reduceAdd, Nat.reduceSub, Nat.zero_add]
  dsimp only [gName]
  try simp only [L2.start, List.map_cons, List.map_nil, List.length_cons, List.length_nil, List.replicate_succ, List.replicate_zero, List.cons_append, List.nil_append, List.set_cons_succ, List.set_cons_zero, Nat.reduceAdd, Nat.reduceSub, Nat.zero_add]
  refine ⟨_, rfl, _, rfl, _, rfl, p.x, t, b1, os, rfl, hT, fun D1 nD1 => ?_⟩
  have s1 := same_upd (o := .lst (nts os)) nD1
  have e1 : (upd H D1 (.lst (nts os))) D1 = some (.lst (nts os)) := upd_same
  have N1 := hN.same s1
  have nD12 := hN.nin nD1
  have hU1 := hU.keepS (S := []) (.ofSame s1) (fun z => nomatch z)
  generalize upd H D1 (.lst (nts os)) = H1 at *
  dsimp only [gName]
  try simp only [L2.start, List.map_cons, List.map_nil, List.length_cons, List.length_nil, List.replicate_succ, List.replicate_zero, List.cons_append, List.nil_append, List.set_cons_succ, List.set_cons_zero, Nat.reduceAdd, Nat.reduceSub, Nat.zero_add]
  refine ⟨_, rfl, _, rfl, _, rfl, p.x, u, b2, ts, by rw [hlen]; rfl, hU1, fun D2 nD2 => ?_⟩
  have s2 := same_upd (o := .lst (nts ts)) nD2
  have e2 : (upd H1 D2 (.lst (nts ts))) D2 = some (.lst (nts ts)) := upd_same
  have N2 := N1.same s2
  have nD22 := N1.nin nD2
  have e12 := s2 _ _ e1
  have k2 : KeepS [p.lm, p.ld] H (upd H1 D2 (.lst (nts ts))) := (KeepS.ofSame s1).trans (.ofSame s2)
  generalize upd H1 D2 (.lst (nts ts)) = H2 at *
  dsimp only [gName]
  try simp only [L2.start, List.map_cons, List.map_nil, List.length_cons, List.length_nil, List.replicate_succ, List.replicate_zero, List.cons_append, List.nil_append, List.set_cons_succ, List.set_cons_zero, Nat.reduceAdd, Nat.reduceSub, Nat.zero_add]
  obtain ⟨_, _, _, dx, _, _, f1, _⟩ := id N2
  refine ⟨_, rfl, p.x, dx, _, rfl, f1, rfl, Z, p, m, gs, nm, 0, rfl, N2, by omega, fun H3 k3 N3 => ?_⟩
  have e13 := k3.1 _ _ e12 nD12
  have e23 := k3.1 _ _ e2 nD22
  dsimp only [gName]
  try simp only [L2.start, List.map_cons, List.map_nil, List.length_cons, List.length_nil, List.replicate_succ, List.replicate_zero, List.cons_append, List.nil_append, List.set_cons_succ, List.set_cons_zero, Nat.reduceAdd, Nat.reduceSub, Nat.zero_add]
  refine ⟨_, rfl, false, D1, _, rfl, SqL.of e13, fun A1 nA1 => ?_⟩
  rw [nts_rev]
  have sA1 := same_upd (o := sqO false (nts os.reverse)) nA1
  have eA1 : Sq2 false K (upd H3 A1 (sqO false (nts os.reverse))) A1 (nts os.reverse) := Sq2.new
  have nA12 := N3.nin nA1
  have N4 := N3.same sA1
  have e24 := sA1 _ _ e23
  generalize upd H3 A1 (sqO false (nts os.reverse)) = H4 at *
  refine ⟨_, rfl, false, D2, _, rfl, SqL.of e24, fun A2 nA2 => ?_⟩
  rw [nts_rev]
  have sA2 := same_upd (o := sqO false (nts ts.reverse)) nA2
  have eA2 : Sq2 false K (upd H4 A2 (sqO false (nts ts.reverse))) A2 (nts ts.reverse) := Sq2.new
  have nA22 := N4.nin nA2
  have N5 := N4.same sA2
  have eA1' := eA1.keepS (S := []) (.ofSame sA2) (fun z => nomatch z)
  have k5 := (k2.trans k3).trans (.ofSame (sA1.trans sA2))
  generalize upd H4 A2 (sqO false (nts ts.reverse)) = H5 at *
  refine ⟨false, false, A1, A2, _, _, rfl, eA1', eA2, ?_⟩
  have hF := fun i hi => lessF_ok (m := m) (gs := gs) (ps := os.reverse.zip ts.reverse) (fun p hp => ⟨ho _ (mem_zipR hp).1, hs _ (mem_zipR hp).2⟩) i hi _ rfl
  have lz := zipR_len hlen
  rw [lz] at hF
  refine for_it (walk_zb (K := K) (t1 := false) (t2 := false) (a := A1) (b := A2) (xs := nts os.reverse) (ys := nts ts.reverse) (n := os.length) (by rw [nts_len, List.length_reverse]) (by rw [nts_len, List.length_reverse, hlen])) (fun j σ H9 => ∃ y5 y6 y7 : Option V, σ = [some (.ref p.x), some (.ref D1), some (.ref D2), some (.int (os.length : Int)), some (.int ((lessF m gs ((os.reverse.zip ts.reverse).take j)).2 : Nat)), y5, y6, y7] ∧ KeepS [p.lm, p.ld] H5 H9 ∧ NetAt C Z H9 p m (lessF m gs ((os.reverse.zip ts.reverse).take j)).1 nm) ⟨_, _, _, rfl, KeepS.refl _ _, N5⟩ (fun j σ H9 _ ⟨_, _, _, _, k9, _⟩ => ⟨eA1'.keepS k9 nA12, eA2.keepS k9 nA22⟩) ?_ ?_
  · rintro j v σ H9 H10 hj ⟨y5, y6, y7, rfl, k9, N9⟩ ⟨T, x, y, rfl, nT, rfl, hx, hy⟩
    obtain ⟨a, b, hab, rfl, rfl⟩ := nts_zip hx hy
    have hp := List.mem_of_getElem? hab
    have la := ho _ (mem_zipR hp).1
    have lb := hs _ (mem_zipR hp).2
    have estep : lessF m gs ((os.reverse.zip ts.reverse).take (j + 1)) = leS m (lessF m gs ((os.reverse.zip ts.reverse).take j)) (a, b) := fold_take _ hab _
    rw [estep]
    obtain ⟨_, lg, l4, _⟩ := hF j (by omega)
    generalize lessF m gs ((os.reverse.zip ts.reverse).take j) = S at *
    have sT := same_upd (o := .tup [.int (a : Int), .int (b : Int)]) nT
    have N10 := N9.same sT
    have eT : (upd H9 T (.tup [.int (a : Int), .int (b : Int)])) T = some (.tup [.int (a : Int), .int (b : Int)]) := upd_same
    have k10 := k9.trans (.ofSame sT)
    generalize upd H9 T (.tup [.int (a : Int), .int (b : Int)]) = H10 at *
    refine ⟨T, _, rfl, .inl (.inl eT), rfl, _, _, rfl, _, _, rfl, rfl, ?_⟩
    try simp only [L2.start, List.map_cons, List.map_nil, List.length_cons, List.length_nil, List.replicate_succ, List.replicate_zero, List.cons_append, List.nil_append, List.set_cons_succ, List.set_cons_zero, Nat.reduceAdd, Nat.reduceSub, Nat.zero_add]
    obtain ⟨_, _, _, dx2, _, _, f1, _⟩ := id N10
    refine ⟨_, rfl, p.x, dx2, _, rfl, f1, rfl, _, rfl, Z, p, m, S.1, nm, a, rfl, N10, by omega, by omega, fun H3 k3 N3 => ?_⟩
    have l1 : (S.1 ++ [Gt.w "other" [a]]).length = S.1.length + 1 := by simp
    dsimp only [gName]
    try simp only [L2.start, List.map_cons, List.map_nil, List.length_cons, List.length_nil, List.replicate_succ, List.replicate_zero, List.cons_append, List.nil_append, List.set_cons_succ, List.set_cons_zero, Nat.reduceAdd, Nat.reduceSub, Nat.zero_add]
    obtain ⟨_, _, _, dx3, _, _, f3, _⟩ := id N3
    refine ⟨_, rfl, p.x, dx3, _, rfl, f3, rfl, ?_⟩
    refine ⟨_, rfl, p.x, dx3, _, rfl, f3, rfl, _, rfl, _, rfl, Z, p, m, _, nm, m + S.1.length, b, rfl, N3, by omega, by omega, by omega, fun H4 k4 N4 => ?_⟩
    have l2 : (S.1 ++ [Gt.w "other" [a]] ++ [Gt.w "both" [m + S.1.length, b]]).length = S.1.length + 2 := by simp
    obtain ⟨_, _, _, dx4, _, _, f4, _⟩ := id N4
    refine ⟨_, rfl, p.x, dx4, _, rfl, f4, rfl, ?_⟩
    refine ⟨_, rfl, p.x, dx4, _, rfl, f4, rfl, _, rfl, _, rfl, Z, p, m, _, nm, m + S.1.length, b, rfl, N4, by omega, by omega, by omega, fun H6 k6 N6 => ?_⟩
    have l3 : (S.1 ++ [Gt.w "other" [a]] ++ [Gt.w "both" [m + S.1.length, b]] ++ [Gt.w "either" [m + S.1.length, b]]).length = S.1.length + 3 := by simp
    refine ⟨_, rfl, Z, p, m, _, nm, _, S.2, rfl, N6, by omega, by omega, by omega, fun H7 k7 N7 => ?_⟩
    have l4' : (S.1 ++ [Gt.w "other" [a]] ++ [Gt.w "both" [m + S.1.length, b]] ++ [Gt.w "either" [m + S.1.length, b]] ++ [Gt.w "both" [m + (S.1 ++ [Gt.w "other" [a]] ++ [Gt.w "both" [m + S.1.length, b]]).length, S.2]]).length = S.1.length + 4 := by simp
    refine ⟨Z, p, m, _, nm, _, _, rfl, N7, by omega, by omega, by omega, fun H8 k8 N8 => ?_⟩
    exact ⟨_, _, _, rfl, k10.trans ((((k3.trans k4).trans k6).trans k7).trans k8), N8⟩
  · rintro σ H9 ⟨y5, y6, y7, rfl, k9, N9⟩
    rw [← lz, List.take_length] at N9 ⊢
    exact ⟨_, rfl, q H9 (k5.trans k9) N9⟩
def spRai (K : PySem.W.Frag) (C : Addr) : Sp := fun vs H Q _ => ∃ (Z : List Addr) (p : NetP) (m : Nat) (gs : List Gt) (nm : List (Str × List Nat)) (t : Addr) (b1 : Bool) (os : List Nat) (c : Nat), vs = [.ref p.x, .ref t, .int (c : Int)] ∧ NetAt C Z H p m gs nm ∧ Sq2 b1 K H t (nts os) ∧ (∀ w ∈ os, w < m + gs.length) ∧ c < m + gs.length ∧ os.length ≤ 2000 ∧ m + gs.length ≤ 300000 ∧
  ∀ D H', KeepS [p.lm, p.ld] H H' → NetAt C Z H' p m (raiW m gs os c).1 nm → H D = none → H' D = some (.lst (nts (raiW m gs os c).2)) → Q (.ref D) H'
theorem ok_raise_wires (B : Bl mg) (L : LL K mg C za zl) : FnOk P w K mg base CX0 5 (za 15) (zl 15) ["net", "ones", "wire"] (spRai K C) := by
  have G_Net_unlike : FnOk P w K mg base CX0 4 (za 28) (zl 28) ["self", "a", "b"] (spG2 C "unlike") := (ok_Net_unlike B L).mono (by decide)
  have G_Net_both : FnOk P w K mg base CX0 4 (za 26) (zl 26) ["self", "a", "b"] (spG2 C "both") := (ok_Net_both B L).mono (by decide)
  refine L.F_raise_wires.ok sc_raise_wires (fun vs H Q E h => ?_) (fun cdv A outer s H vs Q E hr h => ?_)
  · obtain ⟨Z, p, m, gs, nm, t, b1, os, c, rfl, _⟩ := h
    rfl
  obtain ⟨Z, p, m, gs, nm, t, b1, os, c, rfl, hN, hT, ho, hc, hl, hl2, q⟩ := h
  refine ⟨_, (pss_cons (ps_set (i := 3) sc_raise_wires.nd rfl (.inl rfl) (pe_lst pa_nil))
    (pss_cons (ps_for PassesOwn.never rfl (pi_sq (pe_revS (pv 1))) (pg_name (i := 4) sc_raise_wires.nd rfl (.inl rfl)) (pss_cons (ps_expr (pe_bm PySem.F.plainAttrs_list PySem.F.slot_list_append PySem.F.type_list_append mt_append (pv 3) (pa_cons (pe_meth (pv 0) L.T.cl L.M_Net_unlike G_Net_unlike hr L.b_Net_unlike .nil pass0 (pa_cons (pv 4) (pa_cons (pv 2) pa_nil))) pa_nil)))
    (pss_one (ps_set (i := 2) sc_raise_wires.nd rfl (.inl rfl) (pe_meth (pv 0) L.T.cl L.M_Net_both G_Net_both hr L.b_Net_both .nil pass0 (pa_cons (pv 4) (pa_cons (pv 2) pa_nil)))))))
    (pss_one (ps_ret (pe_lst (pa_cons (pv 2) (StX.pa_star (pe_revL (pv 3)) pa_nil))))))), ?_⟩
  refine ⟨Nat.zero_le _, fun R nR => ?_⟩
  have nR2 := hN.nin nR
  have N0 := hN.add (o := .lst []) nR
  have k0 : KeepS [p.lm, p.ld] H (upd H R (.lst [])) := KeepS.new nR
  have eR0 : (upd H R (.lst [])) R = some (.lst []) := upd_same
  have hT0 := hT.keepS (S := []) (KeepS.new (o := .lst []) nR) (fun z => nomatch z)
  generalize upd H R (.lst []) = H0 at *
  try simp only [L2.start, List.map_cons, List.map_nil, List.length_cons, List.length_nil, List.replicate_succ, List.replicate_zero, List.cons_append, List.nil_append, List.set_cons_succ, List.set_cons_zero, Nat.reduceAdd, Nat.reduceSub, Nat.zero_add]
  dsimp only [gName]
  try simp only [L2.start, List.map_cons, List.map_nil, List.length_cons, List.length_nil, List.replicate_succ, List.replicate_zero, List.cons_append, List.nil_append, List.set_cons_succ, List.set_cons_zero, Nat.reduceAdd, Nat.reduceSub, Nat.zero_add]
  refine ⟨_, rfl, b1, t, _, rfl, hT0, fun A1 nA1 => ?_⟩
  rw [nts_rev]
  have sA1 := same_upd (o := sqO b1 (nts os.reverse)) nA1
  have eA1 : Sq2 b1 K (upd H0 A1 (sqO b1 (nts os.reverse))) A1 (nts os.reverse) := Sq2.new
  have nA12 := N0.nin nA1
  have nA1R : A1 ≠ R := fun z => by rw [z, eR0] at nA1; cases nA1
  have N1 := N0.same sA1
  have eR1 := sA1 _ _ eR0
  have k1 := k0.trans (.ofSame sA1)
  generalize upd H0 A1 (sqO b1 (nts os.reverse)) = H1 at *
  refine ⟨b1, A1, _, rfl, eA1, ?_⟩
  have hF := fun i hi => raiF_ok (m := m) (gs := gs) (ps := os.reverse) (c := c) (fun p hp => ho _ (List.mem_reverse.mp hp)) hc i hi _ rfl
  refine for_it (walk_q (K := K) (t := b1) (a := A1) (xs := nts os.reverse)) (fun j σ H9 => ∃ y5 : Option V, σ = [some (.ref p.x), some (.ref t), some (.int ((raiF m gs (os.reverse.take j) c).2.2 : Nat)), some (.ref R), y5] ∧ KeepS [R, p.lm, p.ld] H1 H9 ∧ NetAt C (R :: Z) H9 p m (raiF m gs (os.reverse.take j) c).1 nm ∧ H9 R = some (.lst (nts (raiF m gs (os.reverse.take j) c).2.1))) ⟨_, rfl, KeepS.refl _ _, N1, eR1⟩ (fun j σ H9 _ ⟨_, _, k9, _⟩ => eA1.keepS k9 (ninR nA12 nA1R)) ?_ ?_
  · rintro j v σ H9 H10 hj ⟨y5, rfl, k9, N9, eR⟩ ⟨rfl, hx⟩
    obtain ⟨a, hab, rfl⟩ := nts_at hx
    rw [nts_len] at hj
    have la := ho _ (List.mem_reverse.mp (List.mem_of_getElem? hab))
    have estep : raiF m gs (os.reverse.take (j + 1)) c = raS m (raiF m gs (os.reverse.take j) c) a := fold_take _ hab _
    rw [estep]
    obtain ⟨_, lg, lt', _, l4, _⟩ := hF j (by omega)
    rw [List.length_reverse] at hj
    generalize raiF m gs (os.reverse.take j) c = S at *
    try simp only [L2.start, List.map_cons, List.map_nil, List.length_cons, List.length_nil, List.replicate_succ, List.replicate_zero, List.cons_append, List.nil_append, List.set_cons_succ, List.set_cons_zero, Nat.reduceAdd, Nat.reduceSub, Nat.zero_add]
    dsimp only [gName]
    try simp only [L2.start, List.map_cons, List.map_nil, List.length_cons, List.length_nil, List.replicate_succ, List.replicate_zero, List.cons_append, List.nil_append, List.set_cons_succ, List.set_cons_zero, Nat.reduceAdd, Nat.reduceSub, Nat.zero_add]
    obtain ⟨_, _, _, dx3, _, _, f3, _⟩ := id N9
    refine ⟨_, rfl, .inl ⟨rfl, _, SqL.of eR⟩, _, rfl, p.x, dx3, _, rfl, f3, rfl, _, rfl, _, rfl, R :: Z, p, m, S.1, nm, a, S.2.2, rfl, N9, by omega, by omega, by omega, fun H4 k4 N4 => ?_⟩
    have l2 : (S.1 ++ [Gt.w "unlike" [a, S.2.2]]).length = S.1.length + 1 := by simp
    have eR4 := k4.1 _ _ eR nR2
    refine ⟨R, _, _, rfl, rfl, eR4, by rw [nts_len]; exact big_lt (by omega), ?_⟩
    have N5 := N4.put (D := R) (o := .lst (nts S.2.1 ++ [.int ((m + S.1.length : Nat) : Int)])) (by simp)
    have k5 : KeepS [R, p.lm, p.ld] H1 (upd H4 R (.lst (nts S.2.1 ++ [.int ((m + S.1.length : Nat) : Int)]))) := (k9.trans (k4.mono fun y hy => List.mem_cons_of_mem _ hy)).trans (KeepS.upd (by simp))
    have eR5 : (upd H4 R (.lst (nts S.2.1 ++ [.int ((m + S.1.length : Nat) : Int)]))) R = some (.lst (nts (S.2.1 ++ [m + S.1.length]))) := by
      rw [upd_same, nts_app]
      rfl
    generalize upd H4 R (.lst (nts S.2.1 ++ [.int ((m + S.1.length : Nat) : Int)])) = H5 at *
    obtain ⟨_, _, _, dx5, _, _, f5, _⟩ := id N5
    refine ⟨_, rfl, p.x, dx5, _, rfl, f5, rfl, _, rfl, _, rfl, R :: Z, p, m, _, nm, a, S.2.2, rfl, N5, by omega, by omega, by omega, fun H6 k6 N6 => ?_⟩
    exact ⟨_, rfl, k5.trans (k6.mono fun y hy => List.mem_cons_of_mem _ hy), N6, k6.1 _ _ eR5 nR2⟩
  · rintro σ H9 ⟨y5, rfl, k9, N9, eR⟩
    rw [nts_len, List.take_length] at N9 eR
    have eW : raiW m gs os c = ((raiF m gs os.reverse c).1, (raiF m gs os.reverse c).2.2 :: (raiF m gs os.reverse c).2.1.reverse) := rfl
    have hF' := hF _ (Nat.le_refl _)
    rw [List.take_length] at hF'
    rw [nts_len, List.take_length]
    rw [eW] at q
    obtain ⟨_, _, lt', _, _, _⟩ := hF'
    rw [List.length_reverse] at lt'
    generalize raiF m gs os.reverse c = S at *
    dsimp only at q
    try simp only [L2.start, List.map_cons, List.map_nil, List.length_cons, List.length_nil, List.replicate_succ, List.replicate_zero, List.cons_append, List.nil_append, List.set_cons_succ, List.set_cons_zero, Nat.reduceAdd, Nat.reduceSub, Nat.zero_add]
    refine ⟨_, rfl, _, rfl, R, _, rfl, SqL.of eR, fun B nB => ?_⟩
    rw [nts_rev]
    have sB := same_upd (o := .lst (nts S.2.1.reverse)) nB
    have eB : (upd H9 B (.lst (nts S.2.1.reverse))) B = some (.lst (nts S.2.1.reverse)) := upd_same
    generalize upd H9 B (.lst (nts S.2.1.reverse)) = H10 at *
    refine ⟨B, _, rfl, .inr (SqL.of eB), ?_⟩
    have k9' := ks_drop k1 k9 nR
    refine ⟨by
      rw [List.append_nil, List.length_cons, nts_len, List.length_reverse]
      exact Nat.le_of_lt (big_lt (by omega)), fun D nD => ?_⟩
    rw [List.append_nil]
    have sD := same_upd (o := .lst (.int (S.2.2 : Int) :: nts S.2.1.reverse)) nD
    exact q D _ (k9'.trans (.ofSame (sB.trans sD))) (N9.less.same (sB.trans sD)) (ks_none (k9'.trans (.ofSame sB)) nD) upd_same
/-! ### products, walked -/
theorem rep_flat (x : V) : ∀ n : Nat, (List.replicate n [x]).flatten = List.replicate n x
  | 0 => rfl
  | n + 1 => by rw [List.replicate_succ, List.flatten_cons, rep_flat x n]; rfl
theorem nts_repl (n w : Nat) : List.replicate n (V.int (w : Int)) = nts (List.replicate n w) := by
  unfold nts
  rw [List.map_replicate]
def spTim (K : PySem.W.Frag) (C : Addr) : Sp := fun vs H Q _ => ∃ (Z : List Addr) (p : NetP) (m : Nat) (gs : List Gt) (nm : List (Str × List Nat)) (t u : Addr) (b1 b2 : Bool) (os ts : List Nat), vs = [.ref p.x, .ref t, .ref u] ∧ NetAt C Z H p m gs nm ∧ Sq2 b1 K H t (nts os) ∧ Sq2 b2 K H u (nts ts) ∧ t ∉ [p.lm, p.ld] ∧ u ∉ [p.lm, p.ld] ∧ 0 < os.length ∧ (∀ w ∈ os, w < m + gs.length) ∧ (∀ w ∈ ts, w < m + gs.length) ∧ os.length ≤ 40 ∧ ts.length ≤ 40 ∧ m + gs.length ≤ 200000 ∧
  ∀ D H', KeepS [p.lm, p.ld] H H' → NetAt C Z H' p m (timW m gs os ts).1 nm → H D = none → H' D = some (.lst (nts (timW m gs os ts).2)) → Q (.ref D) H'
theorem ok_times_wires (B : Bl mg) (L : LL K mg C za zl) : FnOk P w K mg base CX0 7 (za 16) (zl 16) ["net", "ones", "others"] (spTim K C) := by
  have G_Net_both : FnOk P w K mg base CX0 6 (za 26) (zl 26) ["self", "a", "b"] (spG2 C "both") := (ok_Net_both B L).mono (by decide)
  have G_Net_fixed : FnOk P w K mg base CX0 6 (za 30) (zl 30) ["self", "bit"] (spFixed C) := (ok_Net_fixed B L).mono (by decide)
  have G_sum_wires : FnOk P w K mg base CX0 6 (za 1) (zl 1) ["net", "ones", "others", "carry"] (spSum K C) := (ok_sum_wires B L).mono (by decide)
  refine L.F_times_wires.ok sc_times_wires (fun vs H Q E h => ?_) (fun cdv A outer s H vs Q E hr h => ?_)
  · obtain ⟨Z, p, m, gs, nm, t, u, b1, b2, os, ts, rfl, _⟩ := h
    rfl
  obtain ⟨Z, p, m, gs, nm, t, u, b1, b2, os, ts, rfl, hN, hT, hU, nt, nu, h0, ho, hs, hl, hl2, hm, q⟩ := h
  refine ⟨_, (pss_cons (ps_set (i := 3) sc_times_wires.nd rfl (.inl rfl) (pe_meth (pv 0) L.T.cl L.M_Net_fixed G_Net_fixed hr L.b_Net_fixed .nil pass0 (pa_cons pe_int pa_nil)))
    (pss_cons (ps_set (i := 4) sc_times_wires.nd rfl (.inl rfl) (pe_op op_rep (pe_lst (pa_cons (pv 3) pa_nil)) (pe_callB call_len_seq (by rfl) B.len PySem.boot_len (pa_cons (pv 1) pa_nil))))
    (pss_cons (ps_set (i := 5) sc_times_wires.nd rfl (.inl rfl) (pe_lst pa_nil))
    (pss_cons (ps_for PassesOwn.never rfl (pi_sq (pe_revS (pv 2))) (pg_name (i := 6) sc_times_wires.nd rfl (.inr rfl)) (pss_cons (ps_setLc (i := 7) (own := [("one", 9)]) (by rfl) sc_times_wires.nd rfl rfl (sw_true rfl rfl rfl (by decide +kernel)) (pi_sq (pv 1)) (blkOk_by (own := [("one", 9)]) (N := ["net", "ones", "others", "nought", "total", "ended", "other", "row", "last", "one"]) (sc := defScope s_times_wires) (by decide +kernel)) (fun _ _ _ _ _ => pg_name (i := 9) sc_times_wires.nd rfl (Or.inl rfl)) (fun _ _ _ _ _ => pts_nil) (fun _ _ _ _ _ => (pe_meth (pv 0) L.T.cl L.M_Net_both G_Net_both hr L.b_Net_both .nil pass0 (pa_cons (pv 9) (pa_cons (pv 6) pa_nil)))))
    (pss_cons (ps_asg (pe_call G_sum_wires hr (by rfl) L.m_sum_wires L.F_sum_wires.kp L.b_sum_wires .nil pass0 (pa_cons (pv 0) (pa_cons (pv 4) (pa_cons (pv 7) (pa_cons (pv 3) pa_nil))))) (pg_star1 rfl (pgs_star (pg_name (i := 4) sc_times_wires.nd rfl (.inl rfl)) (pgs_cons (pg_name (i := 8) sc_times_wires.nd rfl (.inl rfl)) pgs_nil))))
    (pss_one (ps_expr (pe_bm PySem.F.plainAttrs_list PySem.F.slot_list_append PySem.F.type_list_append mt_append (pv 5) (pa_cons (pv 8) pa_nil)))))))
    (pss_one (ps_ret (pe_op op_cat (pv 4) (pe_revL (pv 5))))))))), ?_⟩
  obtain ⟨_, _, _, dx, _, _, f0, _⟩ := id hN
  refine ⟨_, rfl, p.x, dx, _, rfl, f0, rfl, Z, p, m, gs, nm, 0, rfl, hN, by omega, fun H1 k1 N1 => ?_⟩
  have hT1 := hT.keepS k1 nt
  have hU1 := hU.keepS k1 nu
  dsimp only [gName]
  try simp only [L2.start, List.map_cons, List.map_nil, List.length_cons, List.length_nil, List.replicate_succ, List.replicate_zero, List.cons_append, List.nil_append, List.set_cons_succ, List.set_cons_zero, Nat.reduceAdd, Nat.reduceSub, Nat.zero_add]
  refine ⟨_, rfl, (by show 1 ≤ sizeLine; decide), fun L1 nL1 => ?_⟩
  have s1 := same_upd (o := .lst [.int ((m + gs.length : Nat) : Int)]) nL1
  have e1 : (upd H1 L1 (.lst [.int ((m + gs.length : Nat) : Int)])) L1 = some (.lst [.int ((m + gs.length : Nat) : Int)]) := upd_same
  have hT2 := hT1.keepS (S := []) (.ofSame s1) (fun z => nomatch z)
  have k2 := k1.trans (.ofSame s1)
  have N2 := N1.same s1
  have hU2 := hU1.keepS (S := []) (.ofSame s1) (fun z => nomatch z)
  generalize upd H1 L1 (.lst [.int ((m + gs.length : Nat) : Int)]) = H2 at *
  refine ⟨_, rfl, t, _, rfl, hT2.to, ?_⟩
  rw [nts_len]
  refine ⟨L1, _, _, rfl, rfl, e1, by omega, by omega, by rw [Int.toNat_natCast, List.length_singleton]; exact Nat.le_of_lt (big_lt (by omega)), fun TL nTL => ?_⟩
  rw [Int.toNat_natCast, rep_flat, nts_repl]
  have s2 := same_upd (o := .lst (nts (List.replicate os.length (m + gs.length)))) nTL
  have eTL : (upd H2 TL (.lst (nts (List.replicate os.length (m + gs.length))))) TL = some (.lst (nts (List.replicate os.length (m + gs.length)))) := upd_same
  have hU3 := hU2.keepS (S := []) (.ofSame s2) (fun z => nomatch z)
  have hT3 := hT2.keepS (S := []) (.ofSame s2) (fun z => nomatch z)
  have k3 := k2.trans (.ofSame s2)
  have N3 := N2.same s2
  have nTL2 := N2.nin nTL
  generalize upd H2 TL (.lst (nts (List.replicate os.length (m + gs.length)))) = H3 at *
  dsimp only [gName]
  try simp only [L2.start, List.map_cons, List.map_nil, List.length_cons, List.length_nil, List.replicate_succ, List.replicate_zero, List.cons_append, List.nil_append, List.set_cons_succ, List.set_cons_zero, Nat.reduceAdd, Nat.reduceSub, Nat.zero_add]
  refine ⟨Nat.zero_le _, fun R nR => ?_⟩
  have nR2 := N3.nin nR
  have N4 := N3.add (o := .lst []) nR
  have k4 := k3.trans (KeepS.new (o := .lst []) nR)
  have eR4 : (upd H3 R (.lst [])) R = some (.lst []) := upd_same
  have sR := same_upd (o := .lst []) nR
  have eTL4 := sR _ _ eTL
  have hU4 := hU3.keepS (S := []) (.ofSame sR) (fun z => nomatch z)
  have hT4 := hT3.keepS (S := []) (.ofSame sR) (fun z => nomatch z)
  have nTLR : TL ≠ R := fun z => by rw [z, nR] at eTL; cases eTL
  have nRH : H R = none := ks_none k3 nR
  generalize upd H3 R (.lst []) = H4 at *
  dsimp only [gName]
  try simp only [L2.start, List.map_cons, List.map_nil, List.length_cons, List.length_nil, List.replicate_succ, List.replicate_zero, List.cons_append, List.nil_append, List.set_cons_succ, List.set_cons_zero, Nat.reduceAdd, Nat.reduceSub, Nat.zero_add]
  refine ⟨_, rfl, b2, u, _, rfl, hU4, fun A2 nA2 => ?_⟩
  rw [nts_rev]
  have sA2 := same_upd (o := sqO b2 (nts ts.reverse)) nA2
  have eA2 : Sq2 b2 K (upd H4 A2 (sqO b2 (nts ts.reverse))) A2 (nts ts.reverse) := Sq2.new
  have nA22 := N4.nin nA2
  have nA2R : A2 ≠ R := fun z => by rw [z, eR4] at nA2; cases nA2
  have N5 := N4.same sA2
  have eR5 := sA2 _ _ eR4
  have eTL5 := sA2 _ _ eTL4
  have k5 := k4.trans (.ofSame sA2)
  generalize upd H4 A2 (sqO b2 (nts ts.reverse)) = H5 at *
  refine ⟨b2, A2, _, rfl, eA2, ?_⟩
  have hF := fun i hi => timF_ok (m := m) (gs := gs) (os := os) (ts := ts.reverse) ho (fun p hp => hs _ (List.mem_reverse.mp hp)) h0 i hi _ rfl
  refine for_it (walk_q (K := K) (t := b2) (a := A2) (xs := nts ts.reverse)) (fun j σ H9 => ∃ (TL : Addr) (y6 y7 y8 : Option V), σ = [some (.ref p.x), some (.ref t), some (.ref u), some (.int ((m + gs.length : Nat) : Int)), some (.ref TL), some (.ref R), y6, y7, y8, none] ∧ KeepS [R, p.lm, p.ld] H5 H9 ∧ NetAt C (R :: Z) H9 p m (timF m gs os (ts.reverse.take j)).1 nm ∧ H9 R = some (.lst (nts (timF m gs os (ts.reverse.take j)).2.2)) ∧ H9 TL = some (.lst (nts (timF m gs os (ts.reverse.take j)).2.1)) ∧ TL ∉ [R, p.lm, p.ld]) ⟨TL, _, _, _, rfl, KeepS.refl _ _, N5, eR5, eTL5, ninR nTL2 nTLR⟩ (fun j σ H9 _ ⟨_, _, _, _, _, k9, _⟩ => eA2.keepS k9 (ninR nA22 nA2R)) ?_ ?_
  · rintro j v σ H10 H9 hj ⟨TL, y6, y7, y8, rfl, k9, N9, eR, eT9, nT9⟩ ⟨rfl, hx⟩
    obtain ⟨a, hab, rfl⟩ := nts_at hx
    rw [nts_len, List.length_reverse] at hj
    have la := hs _ (List.mem_reverse.mp (List.mem_of_getElem? hab))
    have estep : timF m gs os (ts.reverse.take (j + 1)) = tiS m os (m + gs.length) (timF m gs os (ts.reverse.take j)) a := fold_take _ hab _
    rw [estep]
    obtain ⟨x1, lg, lt1', lt2, hb1, hb2, _⟩ := hF j (by rw [List.length_reverse]; omega)
    have hm1 : 6 * os.length * j ≤ 6 * 40 * 40 := Nat.mul_le_mul (by omega) (by omega)
    have xl := x1.len
    clear estep x1
    generalize 6 * os.length * j = big at *
    generalize timF m gs os (ts.reverse.take j) = S at *
    have kH9 := ks_drop k5 k9 nRH
    have hT9 := hT.keepS kH9 nt
    try simp only [L2.start, List.map_cons, List.map_nil, List.length_cons, List.length_nil, List.replicate_succ, List.replicate_zero, List.cons_append, List.nil_append, List.set_cons_succ, List.set_cons_zero, Nat.reduceAdd, Nat.reduceSub, Nat.zero_add]
    dsimp only [gName]
    try simp only [L2.start, List.map_cons, List.map_nil, List.length_cons, List.length_nil, List.replicate_succ, List.replicate_zero, List.cons_append, List.nil_append, List.set_cons_succ, List.set_cons_zero, Nat.reduceAdd, Nat.reduceSub, Nat.zero_add]
    refine ⟨_, rfl, b1, t, _, rfl, hT9, fun W nW => ?_⟩
    have nW2 := N9.nin nW
    have nWH := ks_none kH9 nW
    have nWR : W ≠ R := fun z => by rw [z, eR] at nW; cases nW
    have nWT : TL ≠ W := fun z => by rw [← z, eT9] at nW; cases nW
    have NW := N9.add (o := .lst []) nW
    refine lc_it (walk_q (K := K) (t := b1) (a := t) (xs := nts os)) (fun i H7 => KeepS [p.lm, p.ld] H9 H7 ∧ NetAt C (W :: R :: Z) H7 p m ((os.take i).foldl (rwS m a) (S.1, [])).1 nm ∧ H7 W = some (.lst (nts ((os.take i).foldl (rwS m a) (S.1, [])).2))) ⟨KeepS.new nW, NW, upd_same⟩ (fun i H7 _ ⟨k7, _⟩ => hT9.keepS k7 nt) ?_ ?_
    · rintro i v H8 H7 hi ⟨k7, N7, eW⟩ ⟨rfl, hz⟩
      obtain ⟨o, ho', rfl⟩ := nts_at hz
      rw [nts_len] at hi
      have lo := ho _ (List.mem_of_getElem? ho')
      have estep : (os.take (i + 1)).foldl (rwS m a) (S.1, []) = rwS m a ((os.take i).foldl (rwS m a) (S.1, [])) o := fold_take _ ho' _
      rw [estep]
      obtain ⟨r1, r2⟩ := rowW_at (m := m) (o := a) (gs := gs) (os.take i) (S.1, [])
      rw [List.length_take] at r1 r2
      dsimp only [List.length_nil] at r1 r2
      generalize (os.take i).foldl (rwS m a) (S.1, []) = U at *
      refine ⟨rfl, yesT ?_⟩
      try simp only [L2.start, List.map_cons, List.map_nil, List.length_cons, List.length_nil, List.replicate_succ, List.replicate_zero, List.cons_append, List.nil_append, List.set_cons_succ, List.set_cons_zero, Nat.reduceAdd, Nat.reduceSub, Nat.zero_add]
      obtain ⟨_, _, _, dx2, _, _, f1, _⟩ := id N7
      refine ⟨_, rfl, p.x, dx2, _, rfl, f1, rfl, _, rfl, _, rfl, W :: R :: Z, p, m, U.1, nm, o, a, rfl, N7, by omega, by omega, by omega, fun H3 k3 N3 => ?_⟩
      refine ⟨_, k3.1 _ _ eW nW2, by rw [nts_len]; exact big_lt (by omega), ks_updN (k7.trans k3) nW, N3.put (by simp), ?_⟩
      rw [upd_same]
      show _ = some (HO.lst (nts (U.2 ++ [_])))
      rw [nts_app]
      rfl
    rintro H7 ⟨k7, N7, eW⟩
    have er : (os.take (nts os).length).foldl (rwS m a) (S.1, []) = rowW m S.1 os a := by
      rw [nts_len, List.take_length]
      rfl
    rw [er] at N7 eW
    have Ro := rowW_ok (m := m) (o := a) (gs := S.1) (os := os) (fun x hx => by have := ho x hx; omega) (by omega)
    have hrw : tiS m os (m + gs.length) S a = ((sumW m (rowW m S.1 os a).1 S.2.1 (rowW m S.1 os a).2 (m + gs.length)).1, (sumW m (rowW m S.1 os a).1 S.2.1 (rowW m S.1 os a).2 (m + gs.length)).2.dropLast, S.2.2 ++ [(sumW m (rowW m S.1 os a).1 S.2.1 (rowW m S.1 os a).2 (m + gs.length)).2.getLastD 0]) := rfl
    rw [hrw]
    clear hrw er
    have lR := (rowW_at (m := m) (o := a) (gs := gs) os (S.1, [])).2
    rw [show (os.foldl (rwS m a) (S.1, [])) = rowW m S.1 os a from rfl] at lR
    dsimp only [List.length_nil] at lR
    generalize rowW m S.1 os a = U at *
    have lU := Ro.ext.len
    have eR7 := k7.1 _ _ eR nR2
    have nT92 : TL ∉ [p.lm, p.ld] := fun z => nT9 (List.mem_cons_of_mem _ z)
    have eT7 := k7.1 _ _ eT9 nT92
    dsimp only [gName]
    try simp only [L2.start, List.map_cons, List.map_nil, List.length_cons, List.length_nil, List.replicate_succ, List.replicate_zero, List.cons_append, List.nil_append, List.set_cons_succ, List.set_cons_zero, Nat.reduceAdd, Nat.reduceSub, Nat.zero_add]
    refine ⟨_, rfl, _, rfl, _, rfl, _, rfl, R :: Z, p, m, U.1, nm, TL, W, false, false, S.2.1, U.2, m + gs.length, rfl, N7.less, SqL.of eT7, SqL.of eW, by omega, (fun x hx => by have := hb1 x hx; omega), Ro.lt, by omega, by omega, by omega, fun D H8 k8 N8 nD eD => ?_⟩
    have Sm := sumW_len (m := m) (gs := U.1) (os := S.2.1) (ts := U.2) (c := m + gs.length) (by omega) (fun x hx => by have := hb1 x hx; omega) Ro.lt (by omega)
    generalize sumW m U.1 S.2.1 U.2 (m + gs.length) = X at *
    have hne : X.2 ≠ [] := fun z => by rw [z] at Sm; cases Sm
    have dl := dl_last (d := 0) hne
    have eD' : H8 D = some (.lst (nts X.2.dropLast ++ [.int (X.2.getLastD 0 : Nat)])) := by
      rw [eD]
      conv => lhs; rw [dl, nts_app]
      rfl
    refine ⟨D, _, _, rfl, SqL.of eD', by rw [nts_len, List.length_dropLast]; omega, fun TM nTM => ?_⟩
    have sM := same_upd (o := .lst (nts X.2.dropLast)) nTM
    have eM : (upd H8 TM (.lst (nts X.2.dropLast))) TM = some (.lst (nts X.2.dropLast)) := upd_same
    have eR8 := k8.1 _ _ eR7 nR2
    have nTM2 := N8.nin nTM
    have nTMR : TM ≠ R := fun z => by rw [z, eR8] at nTM; cases nTM
    have N9' := N8.same sM
    have eR9 := sM _ _ eR8
    have k79 := (k7.trans k8).trans (.ofSame sM)
    generalize upd H8 TM (.lst (nts X.2.dropLast)) = HA at *
    refine ⟨_, _, rfl, _, _, rfl, rfl, ?_⟩
    dsimp only [gName]
    try simp only [L2.start, List.map_cons, List.map_nil, List.length_cons, List.length_nil, List.replicate_succ, List.replicate_zero, List.cons_append, List.nil_append, List.set_cons_succ, List.set_cons_zero, Nat.reduceAdd, Nat.reduceSub, Nat.zero_add]
    refine ⟨_, rfl, .inl ⟨rfl, _, SqL.of eR9⟩, _, rfl, R, _, _, rfl, rfl, eR9, by rw [nts_len]; exact big_lt (by omega), ?_⟩
    refine ⟨TM, _, _, _, rfl, (k9.trans (k79.mono fun y hy => List.mem_cons_of_mem _ hy)).trans (KeepS.upd (by simp)), N9'.put (by simp), ?_, ?_, ninR nTM2 nTMR⟩
    · rw [upd_same, nts_app]
      rfl
    · rw [upd_ne nTMR]
      exact eM
  · rintro σ H9 ⟨TL, y6, y7, y8, rfl, k9, N9, eR, eT9, nT9⟩
    rw [nts_len, List.take_length] at N9 eR eT9
    have eW : timW m gs os ts = ((timF m gs os ts.reverse).1, (timF m gs os ts.reverse).2.1 ++ (timF m gs os ts.reverse).2.2.reverse) := rfl
    have hF' := hF _ (Nat.le_refl _)
    rw [List.take_length, List.length_reverse] at hF'
    rw [eW] at q
    obtain ⟨_, _, lt1', lt2, _⟩ := hF'
    generalize timF m gs os ts.reverse = S at *
    dsimp only at q
    try simp only [L2.start, List.map_cons, List.map_nil, List.length_cons, List.length_nil, List.replicate_succ, List.replicate_zero, List.cons_append, List.nil_append, List.set_cons_succ, List.set_cons_zero, Nat.reduceAdd, Nat.reduceSub, Nat.zero_add]
    refine ⟨_, rfl, _, rfl, R, _, rfl, SqL.of eR, fun B nB => ?_⟩
    rw [nts_rev]
    have sB := same_upd (o := .lst (nts S.2.2.reverse)) nB
    have eB : (upd H9 B (.lst (nts S.2.2.reverse))) B = some (.lst (nts S.2.2.reverse)) := upd_same
    have eT10 := sB _ _ eT9
    generalize upd H9 B (.lst (nts S.2.2.reverse)) = H10 at *
    have k9' := ks_drop k5 k9 nRH
    refine ⟨TL, B, _, _, rfl, rfl, eT10, eB, by
      rw [nts_len, nts_len, List.length_reverse]
      exact Nat.le_of_lt (big_lt (by omega)), fun D nD => ?_⟩
    rw [← nts_app]
    have sD := same_upd (o := .lst (nts (S.2.1 ++ S.2.2.reverse))) nD
    exact q D _ (k9'.trans (.ofSame (sB.trans sD))) (N9.less.same (sB.trans sD)) (ks_none (k9'.trans (.ofSame sB)) nD) upd_same
end
section
variable {P : Program} {w : World} {K : PySem.W.Frag} {mg : Str → Option Value} {base : Heap}
variable {C : Addr} {za : Nat → Addr} {zl : Nat → FuncData}
/-! ### shifts, walked -/
def PrL (H0 H : Hp) (D : Addr) (ps : List (Nat × Nat)) : Prop := ∃ ts : List Addr, ts.length = ps.length ∧ H D = some (.lst (ts.map V.ref)) ∧ H0 D = none ∧ ∀ (i : Nat) (t : Addr) (p : Nat × Nat), ts[i]? = some t → ps[i]? = some p → H0 t = none ∧ H t = some (.tup [.int (p.1 : Int), .int (p.2 : Int)])
theorem PrL.keepS {S : List Addr} {H0 H H' : Hp} {D : Addr} {ps : List (Nat × Nat)} (h : PrL H0 H D ps) (k : KeepS S H H') (n : ∀ y ∈ S, H0 y ≠ none) : PrL H0 H' D ps := by
  obtain ⟨ts, l, e, d, f⟩ := h
  have nn : ∀ {y : Addr}, H0 y = none → y ∉ S := fun e z => n _ z e
  refine ⟨ts, l, k.1 _ _ e (nn d), d, fun i t p h1 h2 => ?_⟩
  obtain ⟨a, b⟩ := f i t p h1 h2
  exact ⟨a, k.1 _ _ b (nn a)⟩
theorem PrL.same {H0 H H' : Hp} {D : Addr} {ps : List (Nat × Nat)} (h : PrL H0 H D ps) (k : Same H H') : PrL H0 H' D ps := h.keepS (S := []) (.ofSame k) (fun _ z => nomatch z)
def spAmt (K : PySem.W.Frag) (C : Addr) : Sp := fun vs H Q _ => ∃ (Z : List Addr) (p : NetP) (m : Nat) (gs : List Gt) (nm : List (Str × List Nat)) (u : Addr) (b2 : Bool) (n : Nat) (bs : List Nat), vs = [.ref p.x, .int (n : Int), .ref u] ∧ NetAt C Z H p m gs nm ∧ Sq2 b2 K H u (nts bs) ∧ (∀ w ∈ bs, w < m + gs.length) ∧ bs.length ≤ 60 ∧ n ≤ 1000 ∧ m + gs.length ≤ 300000 ∧
  ∀ D H', KeepS [p.lm, p.ld] H H' → NetAt C Z H' p m (shaW m gs n bs.reverse).1 nm → PrL H H' D (shaW m gs n bs.reverse).2 → Q (.ref D) H'
theorem ok_shift_amounts (B : Bl mg) (L : LL K mg C za zl) : FnOk P w K mg base CX0 6 (za 7) (zl 7) ["net", "many", "by"] (spAmt K C) := by
  have G_any_wire : FnOk P w K mg base CX0 5 (za 8) (zl 8) ["net", "wires"] (spAny K C) := (ok_any_wire B L).mono (by decide)
  refine L.F_shift_amounts.ok sc_shift_amounts (fun vs H Q E h => ?_) (fun cdv A outer s H vs Q E hr h => ?_)
  · obtain ⟨Z, p, m, gs, nm, u, b2, n, bs, rfl, _⟩ := h
    rfl
  obtain ⟨Z, p, m, gs, nm, u, b2, n, bs, rfl, hN, hU, hb, hl, hn, hm, q⟩ := h
  refine ⟨_, (pss_cons (ps_set (i := 3) sc_shift_amounts.nd rfl (.inl rfl) (pe_lst pa_nil))
    (pss_cons (ps_set (i := 4) sc_shift_amounts.nd rfl (.inl rfl) (pe_lst pa_nil))
    (pss_cons (ps_for PassesOwn.never rfl (pi_eq (by rfl) B.enumerate (pa_cons (pe_revS (pv 2)) pa_nil)) (pg_tup (by rfl) (pgs_cons (pg_name (i := 5) sc_shift_amounts.nd rfl (.inl rfl)) (pgs_cons (pg_name (i := 6) sc_shift_amounts.nd rfl (.inl rfl)) pgs_nil))) (pss_one (ps_if (pt_cmpR op_lt (pe_op op_oneShl pe_int (pv 5)) (pv 1) (nomark _)) (pss_one (ps_expr (pe_bm PySem.F.plainAttrs_list PySem.F.slot_list_append PySem.F.type_list_append mt_append (pv 3) (pa_cons (pe_tup (pa_cons (pe_op op_oneShl pe_int (pv 5)) (pa_cons (pv 6) pa_nil))) pa_nil)))) (pss_one (ps_expr (pe_bm PySem.F.plainAttrs_list PySem.F.slot_list_append PySem.F.type_list_append mt_append (pv 4) (pa_cons (pv 6) pa_nil)))))))
    (pss_one (ps_ret (pe_ifExp (pt_cmpR (op_eqD hr.units) (pv 4) (pe_lst pa_nil) (nomark _)) (pv 3) (pe_lst (StX.pa_star (pv 3) (pa_cons (pe_tup (pa_cons (pv 1) (pa_cons (pe_call G_any_wire hr (by rfl) L.m_any_wire L.F_any_wire.kp L.b_any_wire .nil pass0 (pa_cons (pv 0) (pa_cons (pv 4) pa_nil))) pa_nil))) pa_nil))))))))), ?_⟩
  refine ⟨Nat.zero_le _, fun R1 nR1 => ?_⟩
  have nR12 := hN.nin nR1
  have N1 := hN.add (o := .lst []) nR1
  have s1 := same_upd (o := .lst []) nR1
  have hU1 := hU.keepS (S := []) (.ofSame s1) (fun z => nomatch z)
  have e1 : (upd H R1 (.lst [])) R1 = some (.lst []) := upd_same
  generalize upd H R1 (.lst []) = H1 at *
  try simp only [L2.start, List.map_cons, List.map_nil, List.length_cons, List.length_nil, List.replicate_succ, List.replicate_zero, List.cons_append, List.nil_append, List.set_cons_succ, List.set_cons_zero, Nat.reduceAdd, Nat.reduceSub, Nat.zero_add]
  dsimp only [gName]
  try simp only [L2.start, List.map_cons, List.map_nil, List.length_cons, List.length_nil, List.replicate_succ, List.replicate_zero, List.cons_append, List.nil_append, List.set_cons_succ, List.set_cons_zero, Nat.reduceAdd, Nat.reduceSub, Nat.zero_add]
  refine ⟨Nat.zero_le _, fun R2 nR2 => ?_⟩
  have nR22 := N1.nin nR2
  have N2 := N1.add (o := .lst []) nR2
  have s2 := same_upd (o := .lst []) nR2
  have hU2 := hU1.keepS (S := []) (.ofSame s2) (fun z => nomatch z)
  have e2 : (upd H1 R2 (.lst [])) R2 = some (.lst []) := upd_same
  have e12 := s2 _ _ e1
  have n21 : R2 ≠ R1 := fun z => by rw [z, e1] at nR2; cases nR2
  have nR2H : H R2 = none := ks_none (S := []) (.ofSame s1) nR2
  have s02 := s1.trans s2
  generalize upd H1 R2 (.lst []) = H2 at *
  try simp only [L2.start, List.map_cons, List.map_nil, List.length_cons, List.length_nil, List.replicate_succ, List.replicate_zero, List.cons_append, List.nil_append, List.set_cons_succ, List.set_cons_zero, Nat.reduceAdd, Nat.reduceSub, Nat.zero_add]
  dsimp only [gName]
  try simp only [L2.start, List.map_cons, List.map_nil, List.length_cons, List.length_nil, List.replicate_succ, List.replicate_zero, List.cons_append, List.nil_append, List.set_cons_succ, List.set_cons_zero, Nat.reduceAdd, Nat.reduceSub, Nat.zero_add]
  refine ⟨_, rfl, b2, u, _, rfl, hU2, fun A nA => ?_⟩
  rw [nts_rev]
  have sA := same_upd (o := sqO b2 (nts bs.reverse)) nA
  have eA : Sq2 b2 K (upd H2 A (sqO b2 (nts bs.reverse))) A (nts bs.reverse) := Sq2.new
  have nAR1 : A ≠ R1 := fun z => by rw [z, e12] at nA; cases nA
  have nAR2 : A ≠ R2 := fun z => by rw [z, e2] at nA; cases nA
  have N3 := N2.same sA
  have e13 := sA _ _ e12
  have e23 := sA _ _ e2
  have s03 := s02.trans sA
  generalize upd H2 A (sqO b2 (nts bs.reverse)) = H3 at *
  refine ⟨b2, A, _, rfl, eA, ?_⟩
  have nAS : A ∉ [R1, R2] := fun z => by
    simp only [List.mem_cons, List.not_mem_nil, or_false] at z
    rcases z with z | z
    · exact nAR1 z
    · exact nAR2 z
  refine for_it (walk_eq (K := K) (t := b2) (a := A) (xs := nts bs.reverse) (n := bs.length) (by rw [nts_len, List.length_reverse])) (fun j σ H9 => ∃ y5 y6 : Option V, σ = [some (.ref p.x), some (.int (n : Int)), some (.ref u), some (.ref R1), some (.ref R2), y5, y6] ∧ KeepS [R1, R2] H3 H9 ∧ NetAt C (R2 :: R1 :: Z) H9 p m gs nm ∧ PrL H H9 R1 (nearL n (bs.reverse.take j)) ∧ H9 R2 = some (.lst (nts (farL n (bs.reverse.take j))))) ⟨_, _, rfl, KeepS.refl _ _, N3, ⟨[], rfl, e13, nR1, fun i t p h => by simp at h⟩, e23⟩ (fun j σ H9 _ ⟨_, _, _, k9, _⟩ => eA.keepS k9 nAS) ?_ ?_
  · rintro j v σ H9 H10 hj ⟨y5, y6, rfl, k9, N9, P9, e9⟩ ⟨T, x, y, rfl, nT, rfl, hx, hy⟩
    cases hx
    obtain ⟨a, hab, rfl⟩ := nts_at hy
    have la := hb _ (List.mem_reverse.mp (List.mem_of_getElem? hab))
    have sT := same_upd (o := .tup [.int (j : Int), .int (a : Int)]) nT
    have N10 := N9.same sT
    have eT : (upd H9 T (.tup [.int (j : Int), .int (a : Int)])) T = some (.tup [.int (j : Int), .int (a : Int)]) := upd_same
    have P10 := P9.same sT
    have e10 := sT _ _ e9
    have k10 := k9.trans (.ofSame sT)
    generalize upd H9 T (.tup [.int (j : Int), .int (a : Int)]) = H10 at *
    refine ⟨T, _, rfl, .inl (.inl eT), rfl, _, _, rfl, _, _, rfl, rfl, ?_⟩
    try simp only [L2.start, List.map_cons, List.map_nil, List.length_cons, List.length_nil, List.replicate_succ, List.replicate_zero, List.cons_append, List.nil_append, List.set_cons_succ, List.set_cons_zero, Nat.reduceAdd, Nat.reduceSub, Nat.zero_add]
    rw [near_step hab, far_step hab]
    have ll := near_far_len n (bs.reverse.take j)
    rw [List.length_take, List.length_reverse, Nat.min_eq_left (Nat.le_of_lt hj)] at ll
    have cj : ((2 ^ j : Nat) : Int) = 2 ^ j := PySem.W.kbt_cast j
    refine ⟨_, rfl, j, rfl, rfl, by omega, _, rfl, _, _, rfl, rfl, _, rfl, ite2 (fun z => ?_) (fun z => ?_)⟩
    · have hlt : 2 ^ j < n := by
        have := of_decide_eq_true z
        omega
      rw [if_pos hlt, if_pos hlt, List.append_nil]
      obtain ⟨ts, lt, et, eH, ft⟩ := id P10
      refine ⟨_, rfl, .inl ⟨rfl, _, SqL.of et⟩, _, rfl, j, rfl, rfl, by omega, _, rfl, (by show 2 ≤ sizeLine; decide), fun TT nTT => ?_⟩
      have sTT := same_upd (o := .tup [.int (2 ^ j), .int (a : Int)]) nTT
      have N11 := N10.same sTT
      have eTT : (upd H10 TT (.tup [.int (2 ^ j), .int (a : Int)])) TT = some (.tup [.int (2 ^ j), .int (a : Int)]) := upd_same
      have et' := sTT _ _ et
      have e11 := sTT _ _ e10
      have k11 := k10.trans (.ofSame sTT)
      have nTTH : H TT = none := ks_none (S := [R1, R2]) ((KeepS.ofSame s03).trans k10) nTT
      have nTR : TT ≠ R1 := fun z => by rw [z, et] at nTT; cases nTT
      have f11 : ∀ (i : Nat) (t : Addr) (p : Nat × Nat), ts[i]? = some t → (nearL n (bs.reverse.take j))[i]? = some p → H t = none ∧ t ≠ R1 ∧ (upd H10 TT (.tup [.int (2 ^ j), .int (a : Int)])) t = some (.tup [.int (p.1 : Int), .int (p.2 : Int)]) := fun i t p h1 h2 => by
        obtain ⟨a1, a2⟩ := ft i t p h1 h2
        exact ⟨a1, (fun z => by rw [z, et] at a2; cases a2), sTT _ _ a2⟩
      generalize upd H10 TT (.tup [.int (2 ^ j), .int (a : Int)]) = H11 at *
      refine ⟨R1, _, _, rfl, rfl, et', by rw [List.length_map, lt]; exact big_lt (by omega), ?_⟩
      refine ⟨_, _, rfl, k11.trans (KeepS.upd (by simp)), N11.put (by simp), ⟨ts ++ [TT], by rw [List.length_append, List.length_append, lt]; rfl, by rw [upd_same, List.map_append]; rfl, nR1, fun i t p h1 h2 => ?_⟩, by rw [upd_ne n21]; exact e11⟩
      by_cases c : i < ts.length
      · rw [List.getElem?_append_left c] at h1
        rw [List.getElem?_append_left (by omega)] at h2
        obtain ⟨a1, a2, a3⟩ := f11 i t p h1 h2
        exact ⟨a1, by rw [upd_ne a2]; exact a3⟩
      · have i0 : i = ts.length := by
          have := (List.getElem?_eq_some_iff.mp h1).1
          rw [List.length_append, List.length_cons, List.length_nil] at this
          omega
        rw [List.getElem?_append_right (by omega), i0, Nat.sub_self] at h1
        rw [List.getElem?_append_right (by omega), i0, lt, Nat.sub_self] at h2
        cases h1
        cases h2
        refine ⟨nTTH, ?_⟩
        rw [upd_ne nTR, eTT, cj]
    · have hge : ¬ 2 ^ j < n := fun y => z (decide_eq_true (by omega))
      rw [if_neg hge, if_neg hge, List.append_nil]
      refine ⟨_, rfl, .inl ⟨rfl, _, SqL.of e10⟩, _, rfl, R2, _, _, rfl, rfl, e10, by rw [nts_len]; exact big_lt (by omega), ?_⟩
      refine ⟨_, _, rfl, k10.trans (KeepS.upd (by simp)), N10.put (by simp), ?_, by rw [upd_same, nts_app]; rfl⟩
      obtain ⟨ts, lt, et, eH, ft⟩ := id P10
      refine ⟨ts, lt, by rw [upd_ne n21.symm]; exact et, eH, fun i t p h1 h2 => ?_⟩
      obtain ⟨a1, a2⟩ := ft i t p h1 h2
      refine ⟨a1, ?_⟩
      rw [upd_ne (fun z => by rw [z, e10] at a2; cases a2)]
      exact a2
  · rintro σ H9 ⟨y5, y6, rfl, k9, N9, P9, e9⟩
    have lr : bs.reverse.length = bs.length := List.length_reverse
    rw [← lr, List.take_length] at P9 e9
    have k09 : KeepS [p.lm, p.ld] H H9 := ⟨fun y o e ny => k9.1 y o (s03 y o e) (fun z => by
      simp only [List.mem_cons, List.not_mem_nil, or_false] at z
      rcases z with z | z
      · rw [z, nR1] at e; cases e
      · rw [z, nR2H] at e; cases e), fun y e => k9.2 y ((KeepS.ofSame (S := []) s03).2 y e)⟩
    have hSh : shaW m gs n bs.reverse = if farL n bs.reverse = [] then (gs, nearL n bs.reverse) else ((anyW m gs (farL n bs.reverse)).1, nearL n bs.reverse ++ [(n, (anyW m gs (farL n bs.reverse)).2)]) := rfl
    have hfm : ∀ w ∈ farL n bs.reverse, w < m + gs.length := fun w h => hb w (List.mem_reverse.mp (far_mem h))
    have ll := near_far_len n bs.reverse
    rw [lr] at ll
    rw [hSh] at q
    clear hSh
    try simp only [L2.start, List.map_cons, List.map_nil, List.length_cons, List.length_nil, List.replicate_succ, List.replicate_zero, List.cons_append, List.nil_append, List.set_cons_succ, List.set_cons_zero, Nat.reduceAdd, Nat.reduceSub, Nat.zero_add]
    refine ⟨_, rfl, (by show 0 ≤ sizeLine; decide), fun E nE => ?_⟩
    have sE := same_upd (o := .lst []) nE
    have eE : (upd H9 E (.lst [])) E = some (.lst []) := upd_same
    have N10 := N9.same sE
    have P10 := P9.same sE
    have e10 := sE _ _ e9
    have k10 := k09.trans (.ofSame sE)
    generalize upd H9 E (.lst []) = H10 at *
    have en : nts (farL n bs.reverse) = ((farL n bs.reverse).map fun (a : Nat) => (a : Int)).map V.int := by
      unfold nts
      rw [List.map_map]
      rfl
    have dp : Dp K H10 (.ref R2) (.list (((farL n bs.reverse).map fun (a : Nat) => (a : Int)).map PyData.int)) := .lst (SqL.of e10) (by rw [en]; exact dp_ints _)
    refine ⟨_, _, dp, .lst (SqL.of eE) .nil, PySem.W.shaped_ints _, PySem.W.shaped_ints [], ?_⟩
    refine ⟨_, rfl, ?_⟩
    by_cases c : farL n bs.reverse = []
    · rw [if_pos c] at q
      rw [c]
      refine iteT ?_
      exact ⟨_, rfl, q R1 H10 k10 N10.less.less P10⟩
    · rw [if_neg c] at q
      have en2 : PyData.eqv (.list (((farL n bs.reverse).map fun (a : Nat) => (a : Int)).map PyData.int)) (.list []) = false := by
        cases hf : farL n bs.reverse with
        | nil => exact absurd hf c
        | cons x xs => simp [PyData.eqv, PyData.eqvAll]
      rw [en2]
      refine iteF ?_
      obtain ⟨ts, lt, et, eH, ft⟩ := id P10
      refine ⟨_, rfl, R1, _, rfl, .inr (SqL.of et), _, rfl, _, rfl, _, rfl, Z, p, m, gs, nm, R2, _, rfl, N10.less.less, SqL.of e10, nR22, hfm, by omega, fun H11 k11 N11 => ?_⟩
      generalize anyW m gs (farL n bs.reverse) = AA at *
      have et11 := k11.1 _ _ et nR12
      refine ⟨(by show 2 ≤ sizeLine; decide), fun TT nTT => ?_⟩
      have sTT := same_upd (o := .tup [.int (n : Int), .int (AA.2 : Int)]) nTT
      have eTT : (upd H11 TT (.tup [.int (n : Int), .int (AA.2 : Int)])) TT = some (.tup [.int (n : Int), .int (AA.2 : Int)]) := upd_same
      have N12 := N11.same sTT
      have k011 := k10.trans k11
      have nTTH := ks_none k011 nTT
      have kk := k11.trans (.ofSame sTT)
      generalize upd H11 TT (.tup [.int (n : Int), .int (AA.2 : Int)]) = H12 at *
      refine ⟨by
        rw [List.length_append, List.length_map, lt]
        exact Nat.le_of_lt (big_lt (by show _ + 1 ≤ 500000; omega)), fun D nD => ?_⟩
      have sD := same_upd (o := .lst (ts.map V.ref ++ [V.ref TT])) nD
      have nDH := ks_none (k10.trans kk) nD
      have nt2 : ∀ {t : Addr}, H t = none → t ∉ [p.lm, p.ld] := fun h => hN.nin h
      refine q D _ (((k10.trans kk)).trans (.ofSame sD)) (N12.same sD) ⟨ts ++ [TT], by rw [List.length_append, List.length_append, lt]; rfl, by rw [upd_same, List.map_append]; rfl, nDH, fun i t p' h1 h2 => ?_⟩
      by_cases c : i < ts.length
      · rw [List.getElem?_append_left c] at h1
        rw [List.getElem?_append_left (by omega)] at h2
        obtain ⟨a1, a2⟩ := ft i t p' h1 h2
        exact ⟨a1, sD _ _ (kk.1 _ _ a2 (nt2 a1))⟩
      · have i0 : i = ts.length := by
          have := (List.getElem?_eq_some_iff.mp h1).1
          rw [List.length_append, List.length_cons, List.length_nil] at this
          omega
        rw [List.getElem?_append_right (by omega), i0, Nat.sub_self] at h1
        rw [List.getElem?_append_right (by omega), i0, lt, Nat.sub_self] at h2
        cases h1
        cases h2
        exact ⟨nTTH, sD _ _ eTT⟩
def spShi (K : PySem.W.Frag) (C : Addr) : Sp := fun vs H Q _ => ∃ (Z : List Addr) (p : NetP) (m : Nat) (gs : List Gt) (nm : List (Str × List Nat)) (t u : Addr) (b1 b2 : Bool) (os bs : List Nat), vs = [.ref p.x, .ref t, .ref u] ∧ NetAt C Z H p m gs nm ∧ Sq2 b1 K H t (nts os) ∧ Sq2 b2 K H u (nts bs) ∧ t ∉ [p.lm, p.ld] ∧ u ∉ [p.lm, p.ld] ∧ (∀ w ∈ os, w < m + gs.length) ∧ (∀ w ∈ bs, w < m + gs.length) ∧ os.length ≤ 60 ∧ bs.length ≤ 60 ∧ m + gs.length ≤ 200000 ∧
  ∀ D T H', KeepS [p.lm, p.ld] H H' → NetAt C Z H' p m (shiW m gs os bs).1 nm → H D = none → H' D = some (.lst (nts (shiW m gs os bs).2.1)) → H' T = some (.tup [.ref D, .int ((shiW m gs os bs).2.2 : Nat)]) → Q (.ref T) H'
theorem gv_nats {z : Nat} {c : List Nat} {n : Nat} : List.replicate n (V.int (z : Int)) ++ nts c = nts (List.replicate n z ++ c) := by
  unfold nts
  rw [List.map_append, List.map_replicate]
theorem ok_shift_wires (B : Bl mg) (L : LL K mg C za zl) : FnOk P w K mg base CX0 7 (za 5) (zl 5) ["net", "ones", "by"] (spShi K C) := by
  have G_Net_fixed : FnOk P w K mg base CX0 6 (za 30) (zl 30) ["self", "bit"] (spFixed C) := (ok_Net_fixed B L).mono (by decide)
  have G_shift_amounts : FnOk P w K mg base CX0 6 (za 7) (zl 7) ["net", "many", "by"] (spAmt K C) := (ok_shift_amounts B L).mono (by decide)
  have G_any_wire : FnOk P w K mg base CX0 6 (za 8) (zl 8) ["net", "wires"] (spAny K C) := (ok_any_wire B L).mono (by decide)
  have G_Net_both : FnOk P w K mg base CX0 6 (za 26) (zl 26) ["self", "a", "b"] (spG2 C "both") := (ok_Net_both B L).mono (by decide)
  have G_Net_either : FnOk P w K mg base CX0 6 (za 27) (zl 27) ["self", "a", "b"] (spG2 C "either") := (ok_Net_either B L).mono (by decide)
  have G_chosen_wires : FnOk P w K mg base CX0 6 (za 12) (zl 12) ["net", "wire", "ones", "others"] (spChosen K C) := (ok_chosen_wires B L).mono (by decide)
  refine L.F_shift_wires.ok sc_shift_wires (fun vs H Q E h => ?_) (fun cdv A outer s H vs Q E hr h => ?_)
  · obtain ⟨Z, p, m, gs, nm, t, u, b1, b2, os, bs, rfl, _⟩ := h
    rfl
  obtain ⟨Z, p, m, gs, nm, t, u, b1, b2, os, bs, rfl, hN, hT, hU, nt, nu, ho, hb, hl, hl2, hm, q⟩ := h
  refine ⟨_, (pss_cons (ps_set (i := 3) sc_shift_wires.nd rfl (.inl rfl) (pe_callB call_len_seq (by rfl) B.len PySem.boot_len (pa_cons (pv 1) pa_nil)))
    (pss_cons (ps_set (i := 4) sc_shift_wires.nd rfl (.inl rfl) (pe_meth (pv 0) L.T.cl L.M_Net_fixed G_Net_fixed hr L.b_Net_fixed .nil pass0 (pa_cons pe_int pa_nil)))
    (pss_cons (ps_set (i := 5) sc_shift_wires.nd rfl (.inl rfl) (pe_callTy call_list_of (by rfl) B.list PyProof.Rows.boot_list (pa_cons (pv 1) pa_nil)))
    (pss_cons (ps_set (i := 6) sc_shift_wires.nd rfl (.inl rfl) (pv 4))
    (pss_cons (ps_for PassesOwn.never rfl (pi_list (pe_call G_shift_amounts hr (by rfl) L.m_shift_amounts L.F_shift_amounts.kp L.b_shift_amounts .nil pass0 (pa_cons (pv 0) (pa_cons (pv 3) (pa_cons (pv 2) pa_nil))))) (pg_tup (by rfl) (pgs_cons (pg_name (i := 7) sc_shift_wires.nd rfl (.inl rfl)) (pgs_cons (pg_name (i := 8) sc_shift_wires.nd rfl (.inl rfl)) pgs_nil))) (pss_cons (ps_set (i := 9) sc_shift_wires.nd rfl (.inl rfl) (pe_call G_any_wire hr (by rfl) L.m_any_wire L.F_any_wire.kp L.b_any_wire .nil pass0 (pa_cons (pv 0) (pa_cons (pe_slice sl_list (pv 5) (po_some (pe_op op_sub (pv 3) (pv 7))) po_none) pa_nil))))
    (pss_cons (ps_set (i := 6) sc_shift_wires.nd rfl (.inl rfl) (pe_meth (pv 0) L.T.cl L.M_Net_either G_Net_either hr L.b_Net_either .nil pass0 (pa_cons (pv 6) (pa_cons (pe_meth (pv 0) L.T.cl L.M_Net_both G_Net_both hr L.b_Net_both .nil pass0 (pa_cons (pv 8) (pa_cons (pv 9) pa_nil))) pa_nil))))
    (pss_one (ps_set (i := 5) sc_shift_wires.nd rfl (.inl rfl) (pe_call G_chosen_wires hr (by rfl) L.m_chosen_wires L.F_chosen_wires.kp L.b_chosen_wires .nil pass0 (pa_cons (pv 0) (pa_cons (pv 8) (pa_cons (pe_op op_cat (pe_op op_rep (pe_lst (pa_cons (pv 4) pa_nil)) (pv 7)) (pe_slice sl_list (pv 5) po_none (po_some (pe_op op_sub (pv 3) (pv 7))))) (pa_cons (pv 5) pa_nil))))))))))
    (pss_one (ps_ret (pe_tup (pa_cons (pv 5) (pa_cons (pv 6) pa_nil)))))))))), ?_⟩
  refine ⟨_, rfl, t, _, rfl, hT.to, ?_⟩
  rw [nts_len]
  try simp only [L2.start, List.map_cons, List.map_nil, List.length_cons, List.length_nil, List.replicate_succ, List.replicate_zero, List.cons_append, List.nil_append, List.set_cons_succ, List.set_cons_zero, Nat.reduceAdd, Nat.reduceSub, Nat.zero_add]
  dsimp only [gName]
  try simp only [L2.start, List.map_cons, List.map_nil, List.length_cons, List.length_nil, List.replicate_succ, List.replicate_zero, List.cons_append, List.nil_append, List.set_cons_succ, List.set_cons_zero, Nat.reduceAdd, Nat.reduceSub, Nat.zero_add]
  obtain ⟨_, _, _, dx, _, _, f0, _⟩ := id hN
  refine ⟨_, rfl, p.x, dx, _, rfl, f0, rfl, Z, p, m, gs, nm, 0, rfl, hN, by omega, fun H1 k1 N1 => ?_⟩
  have hT1 := hT.keepS k1 nt
  have hU1 := hU.keepS k1 nu
  have l0 : (gs ++ [Gt.fi 0]).length = gs.length + 1 := by simp
  dsimp only [gName]
  try simp only [L2.start, List.map_cons, List.map_nil, List.length_cons, List.length_nil, List.replicate_succ, List.replicate_zero, List.cons_append, List.nil_append, List.set_cons_succ, List.set_cons_zero, Nat.reduceAdd, Nat.reduceSub, Nat.zero_add]
  refine ⟨_, rfl, t, _, rfl, hT1.to, fun KL nKL => ?_⟩
  have s1 := same_upd (o := .lst (nts os)) nKL
  have eKL : (upd H1 KL (.lst (nts os))) KL = some (.lst (nts os)) := upd_same
  have hU2 := hU1.keepS (S := []) (.ofSame s1) (fun z => nomatch z)
  have N2 := N1.same s1
  have k2 := k1.trans (.ofSame s1)
  have nKL2 := N1.nin nKL
  have nKLH := ks_none k1 nKL
  generalize upd H1 KL (.lst (nts os)) = H2 at *
  dsimp only [gName]
  try simp only [L2.start, List.map_cons, List.map_nil, List.length_cons, List.length_nil, List.replicate_succ, List.replicate_zero, List.cons_append, List.nil_append, List.set_cons_succ, List.set_cons_zero, Nat.reduceAdd, Nat.reduceSub, Nat.zero_add]
  refine ⟨_, rfl, ?_⟩
  dsimp only [gName]
  try simp only [L2.start, List.map_cons, List.map_nil, List.length_cons, List.length_nil, List.replicate_succ, List.replicate_zero, List.cons_append, List.nil_append, List.set_cons_succ, List.set_cons_zero, Nat.reduceAdd, Nat.reduceSub, Nat.zero_add]
  refine ⟨_, rfl, _, rfl, _, rfl, Z, p, m, _, nm, u, b2, os.length, bs, rfl, N2, hU2, (fun w h => lt1 (hb w h)), hl2, by omega, by omega, fun D H3 k3 N3 P3 => ?_⟩
  have z0 : ∀ vals : List Bool, vals.length = m → wb vals (gs ++ [.fi 0]) (m + gs.length) = false := fun vals hv => by
    rw [wb_fixed (hv ▸ rfl)]
    rfl
  obtain ⟨a1, a2, a3, a4⟩ := shaW_ok (m := m) (n := os.length) (gs := gs ++ [.fi 0]) (ws := bs.reverse) (fun w h => lt1 (hb w (List.mem_reverse.mp h)))
  rw [List.length_reverse] at a1 a3
  have hW : shiW m gs os bs = shF m (m + gs.length) os.length (shaW m (gs ++ [.fi 0]) os.length bs.reverse).1 os (shaW m (gs ++ [.fi 0]) os.length bs.reverse).2 := rfl
  rw [hW] at q
  clear hW a4
  generalize shaW m (gs ++ [.fi 0]) os.length bs.reverse = S at *
  have la := a1.len
  have hF := fun i hi => shF_ok (m := m) (z := m + gs.length) (n := os.length) (gs := S.1) (os := os) (ps := S.2) rfl (by omega) (fun vals hv => (a1.wb hv len1).trans (z0 vals hv)) (fun w h => by have := ho w h; omega) a2 i hi _ rfl
  have k3' := k2.trans k3
  have hSS : ∀ y ∈ [p.lm, p.ld], H2 y ≠ none := fun y hy => by
    obtain ⟨_, _, _, _, _, _, e1, e2, e3, e4, _⟩ := id N2
    simp only [List.mem_cons, List.not_mem_nil, or_false] at hy
    rcases hy with z | z <;> rw [z]
    · exact some_ne e2
    · exact some_ne e3
  obtain ⟨ts, lts, eD3, dD, fD⟩ := id P3
  have eD : SqL K H3 D (ts.map V.ref) := SqL.of eD3
  have nDL : D ∉ [p.lm, p.ld] := N2.nin dD
  have eKL3 := k3.1 _ _ eKL nKL2
  refine ⟨D, rfl, ⟨_, eD⟩, ?_⟩
  refine for_it (walk_list (K := K) (a := D) (xs := ts.map V.ref)) (fun j σ H9 => ∃ (KL : Addr) (y7 y8 y9 : Option V), σ = [some (.ref p.x), some (.ref t), some (.ref u), some (.int (os.length : Nat)), some (.int (m + gs.length : Nat)), some (.ref KL), some (.int ((shF m (m + gs.length) os.length S.1 os (S.2.take j)).2.2 : Nat)), y7, y8, y9] ∧ KeepS [p.lm, p.ld] H3 H9 ∧ NetAt C Z H9 p m (shF m (m + gs.length) os.length S.1 os (S.2.take j)).1 nm ∧ H9 KL = some (.lst (nts (shF m (m + gs.length) os.length S.1 os (S.2.take j)).2.1)) ∧ KL ∉ [p.lm, p.ld] ∧ H KL = none) ⟨KL, _, _, _, rfl, KeepS.refl _ _, N3, eKL3, nKL2, nKLH⟩ (fun j σ H9 _ ⟨_, _, _, _, _, k9, _⟩ => k9.seq nDL eD) ?_ ?_
  · rintro j v σ H10 H9 hj ⟨KL, y7, y8, y9, rfl, k9, N9, eK9, nK9, _⟩ ⟨rfl, hz⟩
    rw [List.length_map] at hj
    obtain ⟨t0, ht0⟩ : ∃ t0, ts[j]? = some t0 := ⟨ts[j], List.getElem?_eq_getElem hj⟩
    obtain ⟨p0, hp0⟩ : ∃ p0, S.2[j]? = some p0 := ⟨S.2[j]'(by omega), List.getElem?_eq_getElem (by omega)⟩
    obtain ⟨d0, e0⟩ := fD j t0 p0 ht0 hp0
    have ht9 := k9.1 _ _ e0 (N2.nin d0)
    replace hz : (ts.map V.ref)[j]? = some v := hz
    rw [List.getElem?_map, ht0] at hz
    cases hz
    obtain ⟨q1, q2⟩ := a2 p0 (List.mem_of_getElem? hp0)
    have estep : shF m (m + gs.length) os.length S.1 os (S.2.take (j + 1)) = shS m (m + gs.length) os.length (shF m (m + gs.length) os.length S.1 os (S.2.take j)) p0 := fold_take _ hp0 _
    rw [estep]
    clear estep
    obtain ⟨h1, h2, h3, h4, _⟩ := hF j (by omega)
    have lh := h1.len
    have hmul : (4 * os.length + 4) * j ≤ (4 * 60 + 4) * 62 := Nat.mul_le_mul (by omega) (by omega)
    generalize (4 * os.length + 4) * j = big at *
    generalize shF m (m + gs.length) os.length S.1 os (S.2.take j) = s at *
    clear h1
    obtain ⟨am, w⟩ := p0
    dsimp only at q1 q2 ht9
    refine ⟨t0, _, rfl, .inl (.inl ht9), rfl, _, _, rfl, _, _, rfl, rfl, ?_⟩
    try simp only [L2.start, List.map_cons, List.map_nil, List.length_cons, List.length_nil, List.replicate_succ, List.replicate_zero, List.cons_append, List.nil_append, List.set_cons_succ, List.set_cons_zero, Nat.reduceAdd, Nat.reduceSub, Nat.zero_add]
    refine ⟨_, rfl, _, rfl, _, rfl, _, rfl, _, _, rfl, rfl, _, rfl, KL, _, rfl, SqL.of eK9, fun A nA => ?_⟩
    dsimp only
    rw [show ((os.length : Int) - (am : Int)) = ((os.length - am : Nat) : Int) by omega, cutN_from _ _ (by omega)]
    have sA := same_upd (o := .lst (nts (s.2.1.drop (os.length - am)))) nA
    have eA : (upd H9 A (.lst (nts (s.2.1.drop (os.length - am))))) A = some (.lst (nts (s.2.1.drop (os.length - am)))) := upd_same
    have nA2 := N9.nin nA
    have NA := N9.same sA
    have kA := k9.trans (.ofSame sA)
    have eKA := sA _ _ eK9
    generalize upd H9 A (.lst (nts (s.2.1.drop (os.length - am)))) = HA at *
    refine ⟨Z, p, m, s.1, nm, A, _, rfl, NA, SqL.of eA, nA2, (fun x hx => h3 x (List.mem_of_mem_drop hx)), by rw [List.length_drop]; omega, fun HB kB NB => ?_⟩
    have AL := anyW_ok (m := m) (gs := s.1) (ws := s.2.1.drop (os.length - am)) (fun x hx => h3 x (List.mem_of_mem_drop hx))
    have hs : shS m (m + gs.length) os.length s (am, w) = (
      let L := anyW m s.1 (s.2.1.drop (os.length - am))
      let g2 := L.1 ++ [.w "both" [w, L.2]]
      let g3 := g2 ++ [.w "either" [s.2.2, m + L.1.length]]
      let C := chosenW m g3 w ((List.replicate am (m + gs.length) ++ s.2.1.take (os.length - am)).zip s.2.1)
      (C.1, C.2, m + g2.length)) := rfl
    rw [hs]
    clear hs
    generalize anyW m s.1 (s.2.1.drop (os.length - am)) = L at *
    have lL := AL.ext.len
    have ltL := AL.lt
    rw [List.length_drop] at lL
    have eKB := kB.1 _ _ eKA nK9
    dsimp only [gName]
    try simp only [L2.start, List.map_cons, List.map_nil, List.length_cons, List.length_nil, List.replicate_succ, List.replicate_zero, List.cons_append, List.nil_append, List.set_cons_succ, List.set_cons_zero, Nat.reduceAdd, Nat.reduceSub, Nat.zero_add]
    obtain ⟨_, _, _, dxB, _, _, fB, _⟩ := id NB
    refine ⟨_, rfl, p.x, dxB, _, rfl, fB, rfl, _, rfl, ?_⟩
    refine ⟨_, rfl, p.x, dxB, _, rfl, fB, rfl, _, rfl, _, rfl, Z, p, m, L.1, nm, w, L.2, rfl, NB, by omega, ltL, by omega, fun HC kC NC => ?_⟩
    have l2 : (L.1 ++ [Gt.w "both" [w, L.2]]).length = L.1.length + 1 := by simp
    refine ⟨Z, p, m, _, nm, s.2.2, m + L.1.length, rfl, NC, by omega, by omega, by omega, fun HD kD ND => ?_⟩
    have l3 : (L.1 ++ [Gt.w "both" [w, L.2]] ++ [Gt.w "either" [s.2.2, m + L.1.length]]).length = L.1.length + 2 := by simp
    have eKD := (kC.trans kD).1 _ _ eKB nK9
    have kAD := ((kA.trans kB).trans kC).trans kD
    dsimp only [gName]
    try simp only [L2.start, List.map_cons, List.map_nil, List.length_cons, List.length_nil, List.replicate_succ, List.replicate_zero, List.cons_append, List.nil_append, List.set_cons_succ, List.set_cons_zero, Nat.reduceAdd, Nat.reduceSub, Nat.zero_add]
    refine ⟨_, rfl, _, rfl, _, rfl, (by show 1 ≤ sizeLine; decide), fun L1 nL1 => ?_⟩
    have sL1 := same_upd (o := .lst [.int ((m + gs.length : Nat) : Int)]) nL1
    have eL1 : (upd HD L1 (.lst [.int ((m + gs.length : Nat) : Int)])) L1 = some (.lst [.int ((m + gs.length : Nat) : Int)]) := upd_same
    generalize upd HD L1 (.lst [.int ((m + gs.length : Nat) : Int)]) = HE at *
    refine ⟨_, rfl, L1, _, _, rfl, rfl, eL1, by omega, by omega, by rw [Int.toNat_natCast, List.length_singleton]; exact Nat.le_of_lt (big_lt (by omega)), fun L2 nL2 => ?_⟩
    rw [Int.toNat_natCast, rep_flat]
    have sL2 := same_upd (o := .lst (List.replicate am (.int ((m + gs.length : Nat) : Int)))) nL2
    have eL2 : (upd HE L2 (.lst (List.replicate am (.int ((m + gs.length : Nat) : Int))))) L2 = some (.lst (List.replicate am (.int ((m + gs.length : Nat) : Int)))) := upd_same
    generalize upd HE L2 (.lst (List.replicate am (.int ((m + gs.length : Nat) : Int)))) = HF' at *
    have eKF := sL2 _ _ (sL1 _ _ eKD)
    refine ⟨_, rfl, _, rfl, _, rfl, _, _, rfl, rfl, _, rfl, KL, _, rfl, SqL.of eKF, fun L3 nL3 => ?_⟩
    dsimp only
    rw [show ((os.length : Int) - (am : Int)) = ((os.length - am : Nat) : Int) by omega, cutN_to _ _ (by omega)]
    have sL3 := same_upd (o := .lst (nts (s.2.1.take (os.length - am)))) nL3
    have eL3 : (upd HF' L3 (.lst (nts (s.2.1.take (os.length - am))))) L3 = some (.lst (nts (s.2.1.take (os.length - am)))) := upd_same
    generalize upd HF' L3 (.lst (nts (s.2.1.take (os.length - am)))) = HG at *
    refine ⟨L2, L3, _, _, rfl, rfl, sL3 _ _ eL2, eL3, by rw [List.length_replicate, nts_len, List.length_take]; exact Nat.le_of_lt (big_lt (by omega)), fun L4 nL4 => ?_⟩
    rw [gv_nats]
    have sL4 := same_upd (o := .lst (nts (List.replicate am (m + gs.length) ++ s.2.1.take (os.length - am)))) nL4
    have eL4 : (upd HG L4 (.lst (nts (List.replicate am (m + gs.length) ++ s.2.1.take (os.length - am))))) L4 = some (.lst (nts (List.replicate am (m + gs.length) ++ s.2.1.take (os.length - am)))) := upd_same
    have s14 := ((sL1.trans sL2).trans sL3).trans sL4
    have NG := ND.same s14
    have nL42 := (ND.same ((sL1.trans sL2).trans sL3)).nin nL4
    have eKG := sL4 _ _ (sL3 _ _ eKF)
    have kAG := kAD.trans (.ofSame s14)
    generalize upd HG L4 (.lst (nts (List.replicate am (m + gs.length) ++ s.2.1.take (os.length - am)))) = HH at *
    have lt' : (s.2.1.take (os.length - am)).length = os.length - am := by rw [List.length_take]; omega
    have lxx : (List.replicate am (m + gs.length) ++ s.2.1.take (os.length - am)).length = os.length := by rw [List.length_append, List.length_replicate, lt']; omega
    refine ⟨_, rfl, Z, p, m, _, nm, L4, KL, w, _, s.2.1, false, false, rfl, NG, SqL.of eL4, SqL.of eKG, nL42, nK9, by rw [lxx]; omega, by omega, (fun x hx => ?_), (fun x hx => by have := h3 x hx; omega), by rw [lxx, l3]; omega, fun KN HI kI NI nKN eKN => ?_⟩
    · rcases List.mem_append.mp hx with y | y
      · rw [(List.mem_replicate.mp y).2]
        omega
      · have := h3 x (List.mem_of_mem_take y)
        omega
    · exact ⟨KN, _, _, _, rfl, kAG.trans kI, NI, eKN, NG.nin nKN, ks_none (k3'.trans kAG) nKN⟩
  · rintro σ H9 ⟨KL, y7, y8, y9, rfl, k9, N9, eK9, nK9, nKH⟩
    rw [List.length_map, lts, List.take_length] at N9 eK9 ⊢
    try simp only [L2.start, List.map_cons, List.map_nil, List.length_cons, List.length_nil, List.replicate_succ, List.replicate_zero, List.cons_append, List.nil_append, List.set_cons_succ, List.set_cons_zero, Nat.reduceAdd, Nat.reduceSub, Nat.zero_add]
    refine ⟨_, rfl, _, rfl, (by show 2 ≤ sizeLine; decide), fun T nT => ?_⟩
    have sT := same_upd (o := .tup [.ref KL, .int ((shF m (m + gs.length) os.length S.1 os S.2).2.2 : Nat)]) nT
    exact q KL T _ ((k3'.trans k9).trans (.ofSame sT)) (N9.same sT) nKH (sT _ _ eK9) upd_same
theorem gv_nats2 {z : Nat} {c : List Nat} {n : Nat} : nts c ++ List.replicate n (V.int (z : Int)) = nts (c ++ List.replicate n z) := by
  unfold nts
  rw [List.map_append, List.map_replicate]
def spLef (K : PySem.W.Frag) (C : Addr) : Sp := fun vs H Q _ => ∃ (Z : List Addr) (p : NetP) (m : Nat) (gs : List Gt) (nm : List (Str × List Nat)) (t u : Addr) (b1 b2 : Bool) (os bs : List Nat), vs = [.ref p.x, .ref t, .ref u] ∧ NetAt C Z H p m gs nm ∧ Sq2 b1 K H t (nts os) ∧ Sq2 b2 K H u (nts bs) ∧ t ∉ [p.lm, p.ld] ∧ u ∉ [p.lm, p.ld] ∧ (∀ w ∈ os, w < m + gs.length) ∧ (∀ w ∈ bs, w < m + gs.length) ∧ os.length ≤ 60 ∧ bs.length ≤ 60 ∧ m + gs.length ≤ 200000 ∧
  ∀ D H', KeepS [p.lm, p.ld] H H' → NetAt C Z H' p m (lefW m gs os bs).1 nm → H D = none → H' D = some (.lst (nts (lefW m gs os bs).2)) → Q (.ref D) H'
theorem ok_left_wires (B : Bl mg) (L : LL K mg C za zl) : FnOk P w K mg base CX0 7 (za 6) (zl 6) ["net", "ones", "by"] (spLef K C) := by
  have G_Net_fixed : FnOk P w K mg base CX0 6 (za 30) (zl 30) ["self", "bit"] (spFixed C) := (ok_Net_fixed B L).mono (by decide)
  have G_shift_amounts : FnOk P w K mg base CX0 6 (za 7) (zl 7) ["net", "many", "by"] (spAmt K C) := (ok_shift_amounts B L).mono (by decide)
  have G_chosen_wires : FnOk P w K mg base CX0 6 (za 12) (zl 12) ["net", "wire", "ones", "others"] (spChosen K C) := (ok_chosen_wires B L).mono (by decide)
  refine L.F_left_wires.ok sc_left_wires (fun vs H Q E h => ?_) (fun cdv A outer s H vs Q E hr h => ?_)
  · obtain ⟨Z, p, m, gs, nm, t, u, b1, b2, os, bs, rfl, _⟩ := h
    rfl
  obtain ⟨Z, p, m, gs, nm, t, u, b1, b2, os, bs, rfl, hN, hT, hU, nt, nu, ho, hb, hl, hl2, hm, q⟩ := h
  refine ⟨_, (pss_cons (ps_set (i := 3) sc_left_wires.nd rfl (.inl rfl) (pe_meth (pv 0) L.T.cl L.M_Net_fixed G_Net_fixed hr L.b_Net_fixed .nil pass0 (pa_cons pe_int pa_nil)))
    (pss_cons (ps_set (i := 4) sc_left_wires.nd rfl (.inl rfl) (pe_callTy call_list_of (by rfl) B.list PyProof.Rows.boot_list (pa_cons (pv 1) pa_nil)))
    (pss_cons (ps_for PassesOwn.never rfl (pi_list (pe_call G_shift_amounts hr (by rfl) L.m_shift_amounts L.F_shift_amounts.kp L.b_shift_amounts .nil pass0 (pa_cons (pv 0) (pa_cons (pe_callB call_len_seq (by rfl) B.len PySem.boot_len (pa_cons (pv 1) pa_nil)) (pa_cons (pv 2) pa_nil))))) (pg_tup (by rfl) (pgs_cons (pg_name (i := 5) sc_left_wires.nd rfl (.inl rfl)) (pgs_cons (pg_name (i := 6) sc_left_wires.nd rfl (.inl rfl)) pgs_nil))) (pss_one (ps_set (i := 4) sc_left_wires.nd rfl (.inl rfl) (pe_call G_chosen_wires hr (by rfl) L.m_chosen_wires L.F_chosen_wires.kp L.b_chosen_wires .nil pass0 (pa_cons (pv 0) (pa_cons (pv 6) (pa_cons (pe_op op_cat (pe_slice sl_list (pv 4) (po_some (pv 5)) po_none) (pe_op op_rep (pe_lst (pa_cons (pv 3) pa_nil)) (pv 5))) (pa_cons (pv 4) pa_nil))))))))
    (pss_one (ps_ret (pv 4)))))), ?_⟩
  obtain ⟨_, _, _, dx, _, _, f0, _⟩ := id hN
  refine ⟨_, rfl, p.x, dx, _, rfl, f0, rfl, Z, p, m, gs, nm, 0, rfl, hN, by omega, fun H1 k1 N1 => ?_⟩
  have hT1 := hT.keepS k1 nt
  have hU1 := hU.keepS k1 nu
  have l0 : (gs ++ [Gt.fi 0]).length = gs.length + 1 := by simp
  dsimp only [gName]
  try simp only [L2.start, List.map_cons, List.map_nil, List.length_cons, List.length_nil, List.replicate_succ, List.replicate_zero, List.cons_append, List.nil_append, List.set_cons_succ, List.set_cons_zero, Nat.reduceAdd, Nat.reduceSub, Nat.zero_add]
  refine ⟨_, rfl, t, _, rfl, hT1.to, fun KL nKL => ?_⟩
  have s1 := same_upd (o := .lst (nts os)) nKL
  have eKL : (upd H1 KL (.lst (nts os))) KL = some (.lst (nts os)) := upd_same
  have hU2 := hU1.keepS (S := []) (.ofSame s1) (fun z => nomatch z)
  have hT2 := hT1.keepS (S := []) (.ofSame s1) (fun z => nomatch z)
  have N2 := N1.same s1
  have k2 := k1.trans (.ofSame s1)
  have nKL2 := N1.nin nKL
  have nKLH := ks_none k1 nKL
  generalize upd H1 KL (.lst (nts os)) = H2 at *
  dsimp only [gName]
  try simp only [L2.start, List.map_cons, List.map_nil, List.length_cons, List.length_nil, List.replicate_succ, List.replicate_zero, List.cons_append, List.nil_append, List.set_cons_succ, List.set_cons_zero, Nat.reduceAdd, Nat.reduceSub, Nat.zero_add]
  refine ⟨_, rfl, _, rfl, t, _, rfl, hT2.to, _, rfl, ?_⟩
  rw [nts_len]
  refine ⟨Z, p, m, _, nm, u, b2, os.length, bs, rfl, N2, hU2, (fun w h => lt1 (hb w h)), hl2, by omega, by omega, fun D H3 k3 N3 P3 => ?_⟩
  have z0 : ∀ vals : List Bool, vals.length = m → wb vals (gs ++ [.fi 0]) (m + gs.length) = false := fun vals hv => by
    rw [wb_fixed (hv ▸ rfl)]
    rfl
  obtain ⟨a1, a2, a3, a4⟩ := shaW_ok (m := m) (n := os.length) (gs := gs ++ [.fi 0]) (ws := bs.reverse) (fun w h => lt1 (hb w (List.mem_reverse.mp h)))
  rw [List.length_reverse] at a1 a3
  have hW : lefW m gs os bs = lfF m (m + gs.length) (shaW m (gs ++ [.fi 0]) os.length bs.reverse).1 os (shaW m (gs ++ [.fi 0]) os.length bs.reverse).2 := rfl
  rw [hW] at q
  clear hW a4
  generalize shaW m (gs ++ [.fi 0]) os.length bs.reverse = S at *
  have la := a1.len
  have hF := fun i hi => lfF_ok (m := m) (z := m + gs.length) (n := os.length) (gs := S.1) (os := os) (ps := S.2) rfl (by omega) (fun vals hv => (a1.wb hv len1).trans (z0 vals hv)) (fun w h => by have := ho w h; omega) a2 i hi _ rfl
  have k3' := k2.trans k3
  obtain ⟨ts, lts, eD3, dD, fD⟩ := id P3
  have eD : SqL K H3 D (ts.map V.ref) := SqL.of eD3
  have nDL : D ∉ [p.lm, p.ld] := N2.nin dD
  have eKL3 := k3.1 _ _ eKL nKL2
  refine ⟨D, rfl, ⟨_, eD⟩, ?_⟩
  refine for_it (walk_list (K := K) (a := D) (xs := ts.map V.ref)) (fun j σ H9 => ∃ (KL : Addr) (y7 y8 : Option V), σ = [some (.ref p.x), some (.ref t), some (.ref u), some (.int (m + gs.length : Nat)), some (.ref KL), y7, y8] ∧ KeepS [p.lm, p.ld] H3 H9 ∧ NetAt C Z H9 p m (lfF m (m + gs.length) S.1 os (S.2.take j)).1 nm ∧ H9 KL = some (.lst (nts (lfF m (m + gs.length) S.1 os (S.2.take j)).2)) ∧ KL ∉ [p.lm, p.ld] ∧ H KL = none) ⟨KL, _, _, rfl, KeepS.refl _ _, N3, eKL3, nKL2, nKLH⟩ (fun j σ H9 _ ⟨_, _, _, _, k9, _⟩ => k9.seq nDL eD) ?_ ?_
  · rintro j v σ H10 H9 hj ⟨KL, y7, y8, rfl, k9, N9, eK9, nK9, _⟩ ⟨rfl, hz⟩
    rw [List.length_map] at hj
    obtain ⟨t0, ht0⟩ : ∃ t0, ts[j]? = some t0 := ⟨ts[j], List.getElem?_eq_getElem hj⟩
    obtain ⟨p0, hp0⟩ : ∃ p0, S.2[j]? = some p0 := ⟨S.2[j]'(by omega), List.getElem?_eq_getElem (by omega)⟩
    obtain ⟨d0, e0⟩ := fD j t0 p0 ht0 hp0
    have ht9 := k9.1 _ _ e0 (N2.nin d0)
    replace hz : (ts.map V.ref)[j]? = some v := hz
    rw [List.getElem?_map, ht0] at hz
    cases hz
    obtain ⟨q1, q2⟩ := a2 p0 (List.mem_of_getElem? hp0)
    have estep : lfF m (m + gs.length) S.1 os (S.2.take (j + 1)) = lfS m (m + gs.length) (lfF m (m + gs.length) S.1 os (S.2.take j)) p0 := fold_take _ hp0 _
    rw [estep]
    clear estep
    obtain ⟨h1, h2, h3, _⟩ := hF j (by omega)
    have lh := h1.len
    have hmul : (3 * os.length + 1) * j ≤ (3 * 60 + 1) * 62 := Nat.mul_le_mul (by omega) (by omega)
    generalize (3 * os.length + 1) * j = big at *
    generalize lfF m (m + gs.length) S.1 os (S.2.take j) = s at *
    clear h1
    obtain ⟨am, w⟩ := p0
    dsimp only at q1 q2 ht9
    refine ⟨t0, _, rfl, .inl (.inl ht9), rfl, _, _, rfl, _, _, rfl, rfl, ?_⟩
    try simp only [L2.start, List.map_cons, List.map_nil, List.length_cons, List.length_nil, List.replicate_succ, List.replicate_zero, List.cons_append, List.nil_append, List.set_cons_succ, List.set_cons_zero, Nat.reduceAdd, Nat.reduceSub, Nat.zero_add]
    refine ⟨_, rfl, _, rfl, _, rfl, _, rfl, _, rfl, KL, _, rfl, SqL.of eK9, fun L3 nL3 => ?_⟩
    rw [cutN_from _ _ (by omega)]
    have sL3 := same_upd (o := .lst (nts (s.2.drop am))) nL3
    have eL3 : (upd H9 L3 (.lst (nts (s.2.drop am)))) L3 = some (.lst (nts (s.2.drop am))) := upd_same
    generalize upd H9 L3 (.lst (nts (s.2.drop am))) = HA at *
    refine ⟨_, rfl, (by show 1 ≤ sizeLine; decide), fun L1 nL1 => ?_⟩
    have sL1 := same_upd (o := .lst [.int ((m + gs.length : Nat) : Int)]) nL1
    have eL1 : (upd HA L1 (.lst [.int ((m + gs.length : Nat) : Int)])) L1 = some (.lst [.int ((m + gs.length : Nat) : Int)]) := upd_same
    generalize upd HA L1 (.lst [.int ((m + gs.length : Nat) : Int)]) = HE at *
    refine ⟨_, rfl, L1, _, _, rfl, rfl, eL1, by omega, by omega, by rw [Int.toNat_natCast, List.length_singleton]; exact Nat.le_of_lt (big_lt (by omega)), fun L2 nL2 => ?_⟩
    rw [Int.toNat_natCast, rep_flat]
    have sL2 := same_upd (o := .lst (List.replicate am (.int ((m + gs.length : Nat) : Int)))) nL2
    have eL2 : (upd HE L2 (.lst (List.replicate am (.int ((m + gs.length : Nat) : Int))))) L2 = some (.lst (List.replicate am (.int ((m + gs.length : Nat) : Int)))) := upd_same
    generalize upd HE L2 (.lst (List.replicate am (.int ((m + gs.length : Nat) : Int)))) = HG at *
    have lt' : (s.2.drop am).length = os.length - am := by rw [List.length_drop]; omega
    refine ⟨L3, L2, _, _, rfl, rfl, sL2 _ _ (sL1 _ _ eL3), eL2, by rw [List.length_replicate, nts_len, lt']; exact Nat.le_of_lt (big_lt (by omega)), fun L4 nL4 => ?_⟩
    rw [gv_nats2]
    have sL4 := same_upd (o := .lst (nts (s.2.drop am ++ List.replicate am (m + gs.length)))) nL4
    have eL4 : (upd HG L4 (.lst (nts (s.2.drop am ++ List.replicate am (m + gs.length))))) L4 = some (.lst (nts (s.2.drop am ++ List.replicate am (m + gs.length)))) := upd_same
    have s13 := (sL3.trans sL1).trans sL2
    have s14 := s13.trans sL4
    have NG := N9.same s14
    have nL42 := (N9.same s13).nin nL4
    have eKG := s14 _ _ eK9
    have kAG := k9.trans (.ofSame s14)
    generalize upd HG L4 (.lst (nts (s.2.drop am ++ List.replicate am (m + gs.length)))) = HH at *
    have lxx : (s.2.drop am ++ List.replicate am (m + gs.length)).length = os.length := by rw [List.length_append, List.length_replicate, lt']; omega
    refine ⟨_, rfl, Z, p, m, _, nm, L4, KL, w, _, s.2, false, false, rfl, NG, SqL.of eL4, SqL.of eKG, nL42, nK9, by rw [lxx]; omega, by omega, (fun x hx => ?_), h3, by rw [lxx]; omega, fun KN HI kI NI nKN eKN => ?_⟩
    · rcases List.mem_append.mp hx with y | y
      · exact h3 x (List.mem_of_mem_drop y)
      · rw [(List.mem_replicate.mp y).2]
        omega
    · exact ⟨KN, _, _, rfl, kAG.trans kI, NI, eKN, NG.nin nKN, ks_none (k3'.trans kAG) nKN⟩
  · rintro σ H9 ⟨KL, y7, y8, rfl, k9, N9, eK9, nK9, nKH⟩
    rw [List.length_map, lts, List.take_length] at N9 eK9
    exact ⟨_, rfl, q KL H9 (k3'.trans k9) N9 nKH eK9⟩
end
section
variable {P : Program} {w : World} {K : PySem.W.Frag} {mg : Str → Option Value} {base : Heap}
variable {C : Addr} {za : Nat → Addr} {zl : Nat → FuncData}
def spV (s : Spn) : List V := [.int (s.1 : Int), match s.2 with | none => .non | some w => .int (w : Int)]
def SpAt (H : Hp) (ts : List Addr) (S : List Spn) : Prop := ts.length = S.length ∧ ∀ (i : Nat) (t : Addr) (s : Spn), ts[i]? = some t → S[i]? = some s → H t = some (.tup (spV s))
theorem SpAt.keepS {H H' : Hp} {ts : List Addr} {S : List Spn} {Z : List Addr} {p : NetP} {C : Addr} {m : Nat} {gs : List Gt} {nm : List (Str × List Nat)} (h : SpAt H ts S) (hN : NetAt C Z H p m gs nm) (k : KeepS [p.lm, p.ld] H H') : SpAt H' ts S := by
  obtain ⟨_, _, _, dx, ps, kvs, e1, e2, e3, _⟩ := hN
  refine ⟨h.1, fun i t s ht hs => k.1 _ _ (h.2 i t s ht hs) (fun z => ?_)⟩
  have e := h.2 i t s ht hs
  simp only [List.mem_cons, List.not_mem_nil, or_false] at z
  rcases z with z | z
  · rw [z, e2] at e; cases e
  · rw [z, e3] at e; cases e
theorem SpAt.same {H H' : Hp} {ts : List Addr} {S : List Spn} (h : SpAt H ts S) (k : Same H H') : SpAt H' ts S := ⟨h.1, fun i t s ht hs => k _ _ (h.2 i t s ht hs)⟩
def spSpd (C : Addr) : Sp := fun vs H Q _ => ∃ (Z : List Addr) (p : NetP) (m : Nat) (gs : List Gt) (nm : List (Str × List Nat)) (LS : Addr) (ts : List Addr) (S : List Spn) (pl z N : Nat) (gf pf : List Bool → Nat → Bool) (D : Prop) (d : Int), vs = [.ref p.x, .ref LS, .int (pl : Int), .int (z : Int)] ∧ NetAt C Z H p m gs nm ∧ H LS = some (.lst (ts.map V.ref)) ∧ SpAt H ts S ∧ SpsOk m gs gf pf D d z N S ∧ 0 < z ∧ z ≤ 1000 ∧ 0 ≤ d ∧ pl < N ∧ N ≤ 1000 ∧ m + gs.length ≤ 400000 ∧
  ∀ T H', KeepS [p.lm, p.ld] H H' → NetAt C Z H' p m (sdW m gs S z pl).1 nm → H' T = some (.tup (spV (sdW m gs S z pl).2)) → Q (.ref T) H'
theorem ok_span_doubled (B : Bl mg) (L : LL K mg C za zl) : FnOk P w K mg base CX0 6 (za 4) (zl 4) ["net", "spans", "place", "size"] (spSpd C) := by
  have G_Net_both : FnOk P w K mg base CX0 5 (za 26) (zl 26) ["self", "a", "b"] (spG2 C "both") := (ok_Net_both B L).mono (by decide)
  have G_Net_either : FnOk P w K mg base CX0 5 (za 27) (zl 27) ["self", "a", "b"] (spG2 C "either") := (ok_Net_either B L).mono (by decide)
  refine L.F_span_doubled.ok sc_span_doubled (fun vs H Q E h => ?_) (fun cdv A outer s H vs Q E hr h => ?_)
  · obtain ⟨Z, p, m, gs, nm, LS, ts, S, pl, z, N, gf, pf, D, d, rfl, _⟩ := h
    rfl
  obtain ⟨Z, p, m, gs, nm, LS, ts, S, pl, z, N, gf, pf, D, d, rfl, hN, hL, hA, hS, hz, hz2, d0, hp, hN2, hl, q⟩ := h
  refine ⟨_, (pss_cons (ps_if (pt_cmpR op_eq (pe_op op_mod (pe_op op_fdiv (pv 2) (pv 3)) pe_int) pe_int (nomark _)) (pss_one (ps_ret (pe_ix ix_list (pv 1) (pv 2) (fun _ _ => rfl)))) pss_nil)
    (pss_cons (ps_asg (pe_ix ix_list (pv 1) (pv 2) (fun _ _ => rfl)) (pg_tup (by rfl) (pgs_cons (pg_name (i := 4) sc_span_doubled.nd rfl (.inl rfl)) (pgs_cons (pg_name (i := 5) sc_span_doubled.nd rfl (.inl rfl)) pgs_nil))))
    (pss_cons (ps_asg (pe_ix ix_list (pv 1) (pe_op op_sub (pe_op op_mul (pe_op op_fdiv (pv 2) (pv 3)) (pv 3)) pe_int) (fun _ _ => rfl)) (pg_tup (by rfl) (pgs_cons (pg_name (i := 6) sc_span_doubled.nd rfl (.inl rfl)) (pgs_cons (pg_name (i := 7) sc_span_doubled.nd rfl (.inl rfl)) pgs_nil))))
    (pss_cons (ps_set (i := 4) sc_span_doubled.nd rfl (.inl rfl) (pe_meth (pv 0) L.T.cl L.M_Net_either G_Net_either hr L.b_Net_either .nil pass0 (pa_cons (pv 4) (pa_cons (pe_meth (pv 0) L.T.cl L.M_Net_both G_Net_both hr L.b_Net_both .nil pass0 (pa_cons (pv 5) (pa_cons (pv 6) pa_nil))) pa_nil))))
    (pss_one (ps_ret (pe_tup (pa_cons (pv 4) (pa_cons (pe_ifExp (pt_cmpR op_isN (pv 7) pe_non (nomark _)) pe_non (pe_meth (pv 0) L.T.cl L.M_Net_both G_Net_both hr L.b_Net_both .nil pass0 (pa_cons (pv 5) (pa_cons (pv 7) pa_nil)))) pa_nil))))))))), ?_⟩
  obtain ⟨is1, s1⟩ := hS.at hp
  have lS := hS.1
  obtain ⟨t1, ht1⟩ : ∃ t, ts[pl]? = some t := ⟨ts[pl]'(by have := hA.1; omega), List.getElem?_eq_getElem (by have := hA.1; omega)⟩
  have e1 := hA.2 pl t1 _ ht1 is1
  have eI : ∀ {j : Nat} {t : Addr}, ts[j]? = some t → atI (ts.map V.ref) (j : Int) = some (.ref t) := fun h => atI_nat (by rw [List.getElem?_map, h]; rfl)
  have hdiv : ((pl : Int) / (z : Int)) = ((pl / z : Nat) : Int) := (Int.natCast_ediv _ _).symm
  refine ⟨_, rfl, _, rfl, _, _, rfl, rfl, ⟨by omega, by omega⟩, _, _, rfl, rfl, (by show (0 : Int) < 2; decide), rfl, _, rfl, ?_⟩
  dsimp only
  rw [hdiv]
  have lq : pl / z * z ≤ pl := Nat.div_mul_le_self pl z
  refine ite2 (fun c => ?_) (fun c => ?_)
  · have c' : pl / z % 2 = 0 := by
      have := V.int.inj (of_decide_eq_true c)
      omega
    have hsd : sdW m gs S z pl = (gs, S.getD pl (0, none)) := if_pos c'
    rw [hsd] at q
    exact ⟨_, rfl, _, rfl, LS, _, _, _, rfl, rfl, SqL.of hL, eI ht1, q t1 H (KeepS.refl _ _) hN e1⟩
  · have c' : ¬ pl / z % 2 = 0 := fun y => c (decide_eq_true (congrArg V.int (by omega)))
    have hsd : sdW m gs S z pl = sdO m gs (S.getD pl (0, none)) (S.getD (pl / z * z - 1) (0, none)) := if_neg c'
    rw [hsd] at q
    clear hsd c
    have lb : pl / z * z - 1 < N := Nat.lt_of_le_of_lt (Nat.le_trans (Nat.sub_le _ _) lq) hp
    obtain ⟨is2, s2⟩ := hS.at lb
    have q1 : 1 ≤ pl / z := Nat.pos_of_ne_zero (fun y => c' (by rw [y]))
    have q2 : z ≤ pl / z * z := by
      have := Nat.mul_le_mul_right z q1
      rw [Nat.one_mul] at this
      exact this
    obtain ⟨t2, ht2⟩ : ∃ t, ts[pl / z * z - 1]? = some t := ⟨ts[pl / z * z - 1]'(by have := hA.1; omega), List.getElem?_eq_getElem (by have := hA.1; omega)⟩
    have e2 := hA.2 _ t2 _ ht2 is2
    generalize S.getD pl (0, none) = u at *
    generalize S.getD (pl / z * z - 1) (0, none) = v at *
    obtain ⟨u1, u2⟩ := u
    obtain ⟨v1, v2⟩ := v
    obtain ⟨pw, rfl⟩ : ∃ pw, u2 = some pw := by
      cases u2 with
      | none =>
        have := s1.non.mp rfl
        omega
      | some pw => exact ⟨pw, rfl⟩
    have k1 := s1.lt
    have k2 := s1.ltp pw rfl
    have k3 := s2.lt
    replace e1 : H t1 = some (.tup [.int (u1 : Int), .int (pw : Int)]) := e1
    dsimp only at k1 k2 k3
    dsimp only [tNext]
    refine ⟨_, rfl, _, rfl, LS, _, _, _, rfl, rfl, SqL.of hL, eI ht1, t1, _, rfl, .inl (.inl e1), rfl, _, _, rfl, _, _, rfl, rfl, ?_⟩
    try simp only [L2.start, List.map_cons, List.map_nil, List.length_cons, List.length_nil, List.replicate_succ, List.replicate_zero, List.cons_append, List.nil_append, List.set_cons_succ, List.set_cons_zero, Nat.reduceAdd, Nat.reduceSub, Nat.zero_add]
    have cm : ((pl / z : Nat) : Int) * (z : Int) = ((pl / z * z : Nat) : Int) := (Int.natCast_mul _ _).symm
    refine ⟨_, rfl, _, rfl, _, rfl, _, _, rfl, rfl, ⟨by omega, by omega⟩, _, rfl, _, _, rfl, rfl, .inr ⟨by omega, by omega⟩, _, _, rfl, rfl, ?_⟩
    dsimp only
    rw [hdiv, cm, show ((pl / z * z : Nat) : Int) - 1 = ((pl / z * z - 1 : Nat) : Int) by omega]
    generalize hbi : pl / z * z - 1 = bi at *
    refine ⟨LS, _, _, _, rfl, rfl, SqL.of hL, eI ht2, t2, _, rfl, .inl (.inl e2), rfl, _, _, rfl, _, _, rfl, rfl, ?_⟩
    try simp only [L2.start, List.map_cons, List.map_nil, List.length_cons, List.length_nil, List.replicate_succ, List.replicate_zero, List.cons_append, List.nil_append, List.set_cons_succ, List.set_cons_zero, Nat.reduceAdd, Nat.reduceSub, Nat.zero_add]
    obtain ⟨_, _, _, dx, _, _, f0, _⟩ := id hN
    refine ⟨_, rfl, p.x, dx, _, rfl, f0, rfl, _, rfl, ?_⟩
    refine ⟨_, rfl, p.x, dx, _, rfl, f0, rfl, _, rfl, _, rfl, Z, p, m, gs, nm, pw, v1, rfl, hN, k2, k3, by omega, fun H1 x1 N1 => ?_⟩
    have l1 : (gs ++ [Gt.w "both" [pw, v1]]).length = gs.length + 1 := by simp
    refine ⟨Z, p, m, _, nm, u1, m + gs.length, rfl, N1, by omega, by omega, by omega, fun H2 x2 N2 => ?_⟩
    have l2 : (gs ++ [Gt.w "both" [pw, v1]] ++ [Gt.w "either" [u1, m + gs.length]]).length = gs.length + 2 := by simp
    dsimp only [gName]
    try simp only [L2.start, List.map_cons, List.map_nil, List.length_cons, List.length_nil, List.replicate_succ, List.replicate_zero, List.cons_append, List.nil_append, List.set_cons_succ, List.set_cons_zero, Nat.reduceAdd, Nat.reduceSub, Nat.zero_add]
    cases v2 with
    | none =>
      refine ⟨_, rfl, _, rfl, rfl, _, rfl, iteT ?_⟩
      refine ⟨(by show 2 ≤ sizeLine; decide), fun T nT => ?_⟩
      have sT := same_upd (o := .tup [.int ((m + (gs ++ [Gt.w "both" [pw, v1]]).length : Nat) : Int), .non]) nT
      exact q T _ ((x1.trans x2).trans (.ofSame sT)) (N2.same sT) upd_same
    | some vw =>
      have k4 := s2.ltp vw rfl
      refine ⟨_, rfl, _, rfl, rfl, _, rfl, iteF ?_⟩
      obtain ⟨_, _, _, dx2, _, _, f2, _⟩ := id N2
      refine ⟨_, rfl, p.x, dx2, _, rfl, f2, rfl, _, rfl, _, rfl, Z, p, m, _, nm, pw, vw, rfl, N2, by omega, by omega, by omega, fun H3 x3 N3 => ?_⟩
      refine ⟨(by show 2 ≤ sizeLine; decide), fun T nT => ?_⟩
      have sT := same_upd (o := .tup [.int ((m + (gs ++ [Gt.w "both" [pw, v1]]).length : Nat) : Int), .int ((m + (gs ++ [Gt.w "both" [pw, v1]] ++ [Gt.w "either" [u1, m + gs.length]]).length : Nat) : Int)]) nT
      exact q T _ (((x1.trans x2).trans x3).trans (.ofSame sT)) (N3.same sT) upd_same
def spCar (C : Addr) : Sp := fun vs H Q _ => ∃ (Z : List Addr) (p : NetP) (m : Nat) (gs : List Gt) (nm : List (Str × List Nat)) (LS : Addr) (ts : List Addr) (S : List Spn) (N : Nat) (gf pf : List Bool → Nat → Bool) (D : Prop), vs = [.ref p.x, .ref LS] ∧ NetAt C Z H p m gs nm ∧ H LS = some (.lst (ts.map V.ref)) ∧ LS ∉ [p.lm, p.ld] ∧ SpAt H ts S ∧ SpsOk m gs gf pf D 1 1 N S ∧ 1 ≤ N ∧ N ≤ 101 ∧ m + gs.length ≤ 300000 ∧
  ∀ (R : Addr) (H' : Hp) (gs' : List Gt) (S' : List Spn) (k : Nat), KeepS [p.lm, p.ld] H H' → NetAt C Z H' p m gs' nm → H R = none → H' R = some (.lst (nts (S'.map (·.1)))) → Ext m gs gs' (3 * N * k) → k ≤ 7 → (k = 0 ∨ 2 ^ (k - 1) < N) → N ≤ 2 ^ k → SpsOk m gs' gf pf D (1 + 2 * (k : Int)) (2 ^ k) N S' → Q (.ref R) H'
theorem ok_carry_wires (B : Bl mg) (L : LL K mg C za zl) : FnOk P w K mg base CX0 7 (za 3) (zl 3) ["net", "spans"] (spCar C) := by
  have G_span_doubled : FnOk P w K mg base CX0 6 (za 4) (zl 4) ["net", "spans", "place", "size"] (spSpd C) := (ok_span_doubled B L).mono (by decide)
  refine L.F_carry_wires.ok sc_carry_wires (fun vs H Q E h => ?_) (fun cdv A outer s H vs Q E hr h => ?_)
  · obtain ⟨Z, p, m, gs, nm, LS, ts, S, N, gf, pf, D, rfl, _⟩ := h
    rfl
  obtain ⟨Z, p, m, gs, nm, LS, ts, S, N, gf, pf, D, rfl, hN, hL, nL, hA, hS, n1, n101, hl, q⟩ := h
  refine ⟨_, (pss_cons (ps_set (i := 2) sc_carry_wires.nd rfl (.inr rfl) pe_int)
    (pss_cons (ps_while PassesOwn.never (pt_cmpR op_lt (pv 2) (pe_callB call_len_seq (by rfl) B.len PySem.boot_len (pa_cons (pv 1) pa_nil)) (nomark _)) (pss_cons (ps_set (i := 1) sc_carry_wires.nd rfl (.inr rfl) (pe_lc (own := [("place", 3)]) (by rfl) sc_carry_wires.nd (pi_range1 (by rfl) B.range (pa_cons (pe_callB call_len_seq (by rfl) B.len PySem.boot_len (pa_cons (pv 1) pa_nil)) pa_nil)) (blkOk_by (own := [("place", 3)]) (N := ["net", "spans", "size", "place", "makes", "passes"]) (sc := defScope s_carry_wires) (by decide +kernel)) (fun _ _ _ _ _ => pg_name (i := 3) sc_carry_wires.nd rfl (Or.inl rfl)) (fun _ _ _ _ _ => pts_nil) (fun _ _ _ _ _ => (pe_call G_span_doubled hr (by rfl) L.m_span_doubled L.F_span_doubled.kp L.b_span_doubled .nil pass0 (pa_cons (pv 0) (pa_cons (pv 1) (pa_cons (pv 3) (pa_cons (pv 2) pa_nil))))))))
    (pss_one (ps_aug (i := 2) sc_carry_wires.nd rfl (.inr rfl) pe_int iop_mul))))
    (pss_one (ps_ret (pe_lc (own := [("makes", 4), ("passes", 5)]) (g := gTup K 2 (gCons (gName 4) (gCons (gName 5) gNil))) (by rfl) sc_carry_wires.nd (pi_sq (pv 1)) (blkOk_by (own := [("makes", 4), ("passes", 5)]) (N := ["net", "spans", "size", "place", "makes", "passes"]) (sc := defScope s_carry_wires) (by decide +kernel)) (fun _ _ _ _ _ => pg_tup rfl (pgs_cons (pg_name (i := 4) sc_carry_wires.nd rfl (Or.inl rfl) (.inr rfl)) (pgs_cons (pg_name (i := 5) sc_carry_wires.nd rfl (Or.inl rfl) (.inr rfl)) pgs_nil))) (fun _ _ _ _ _ => pts_nil) (fun _ _ _ _ _ => (pv 4))))))), ?_⟩
  try simp only [L2.start, List.map_cons, List.map_nil, List.length_cons, List.length_nil, List.replicate_succ, List.replicate_zero, List.cons_append, List.nil_append, List.set_cons_succ, List.set_cons_zero, Nat.reduceAdd, Nat.reduceSub, Nat.zero_add]
  refine ⟨fun μ σ H9 => ∃ (k : Nat) (gs' : List Gt) (S' : List Spn) (LS' : Addr) (ts' : List Addr) (y3 y4 y5 : Option V), μ = 8 - k ∧ k ≤ 7 ∧ (k = 0 ∨ 2 ^ (k - 1) < N) ∧ σ = [some (.ref p.x), some (.ref LS'), some (.int ((2 ^ k : Nat) : Int)), y3, y4, y5] ∧ KeepS [p.lm, p.ld] H H9 ∧ NetAt C Z H9 p m gs' nm ∧ Ext m gs gs' (3 * N * k) ∧ SpsOk m gs' gf pf D (1 + 2 * (k : Int)) (2 ^ k) N S' ∧ H9 LS' = some (.lst (ts'.map V.ref)) ∧ LS' ∉ [p.lm, p.ld] ∧ SpAt H9 ts' S', ⟨_, 0, gs, S, LS, ts, _, _, _, rfl, by decide, .inl rfl, rfl, KeepS.refl _ _, hN, Ext.refl, hS, hL, nL, hA⟩, ?_⟩
  rintro μ σ H9 ⟨k, gs', S', LS', ts', y3, y4, y5, rfl, k7, hk, rfl, x9, N9, E9, S9, L9, nL9, A9⟩
  have lts : ts'.length = N := A9.1.trans S9.1
  have pw : 2 ^ k ≤ 2 ^ 7 := Nat.pow_le_pow_right (by decide) k7
  have pp : 0 < 2 ^ k := Nat.pow_pos (by decide)
  have lE := E9.len
  have mN : 3 * N * k ≤ 3 * 101 * 7 := Nat.mul_le_mul (by omega) k7
  refine ⟨_, rfl, _, rfl, LS', _, rfl, .inl (SqL.of L9), ?_⟩
  rw [List.length_map, lts]
  refine ⟨_, _, rfl, rfl, _, rfl, ?_⟩
  refine ite2 (fun c => ?_) (fun c => ?_)
  · have c' : 2 ^ k < N := by
      have := of_decide_eq_true c
      omega
    have k6 : k ≤ 6 := by
      rcases Nat.lt_or_ge k 7 with y | y
      · omega
      · have e : k = 7 := by omega
        rw [e] at c'
        have : 2 ^ 7 = 128 := rfl
        omega
    refine ⟨fun σ H9 => ∃ (gs' : List Gt) (S' : List Spn) (LS' : Addr) (ts' : List Addr) (y3 y4 y5 : Option V), σ = [some (.ref p.x), some (.ref LS'), some (.int ((2 ^ (k + 1) : Nat) : Int)), y3, y4, y5] ∧ KeepS [p.lm, p.ld] H H9 ∧ NetAt C Z H9 p m gs' nm ∧ Ext m gs gs' (3 * N * (k + 1)) ∧ SpsOk m gs' gf pf D (1 + 2 * ((k + 1 : Nat) : Int)) (2 ^ (k + 1)) N S' ∧ H9 LS' = some (.lst (ts'.map V.ref)) ∧ LS' ∉ [p.lm, p.ld] ∧ SpAt H9 ts' S', fun σ' H' ⟨gs2, S2, LS2, ts2, z3, z4, z5, b1, b2, b3, b4, b5, b6, b7, b8⟩ => ⟨8 - (k + 1), by omega, k + 1, gs2, S2, LS2, ts2, z3, z4, z5, rfl, by omega, .inr c', b1, b2, b3, b4, b5, b6, b7, b8⟩, ?_⟩
    refine ⟨_, rfl, LS', _, rfl, .inl (SqL.of L9), ?_⟩
    rw [List.length_map, lts]
    refine ⟨_, rfl, by omega, by omega, fun D0 nD => ?_⟩
    have nD2 := N9.nin nD
    have R9 := fun i hi => rdF_ok (m := m) (gs := gs') S9 (by omega) pp i hi _ rfl
    rw [Int.toNat_natCast]
    refine lc_range (n := N) (fun j H1 => ∃ ts2 : List Addr, ts2.length = j ∧ KeepS [p.lm, p.ld] H9 H1 ∧ NetAt C (D0 :: Z) H1 p m (rdF m S' (2 ^ k) gs' ((List.range N).take j)).1 nm ∧ H1 D0 = some (.lst (ts2.map V.ref)) ∧ SpAt H1 ts2 (rdF m S' (2 ^ k) gs' ((List.range N).take j)).2) ⟨[], rfl, KeepS.new nD, N9.add nD, upd_same, rfl, fun i t s h => by simp at h⟩ ?_ ?_
    · rintro j H1 hj ⟨ts2, l2, x1, N1, eD, A2⟩
      have estep : rdF m S' (2 ^ k) gs' ((List.range N).take (j + 1)) = rdS m S' (2 ^ k) (rdF m S' (2 ^ k) gs' ((List.range N).take j)) j := fold_take _ (List.getElem?_range hj) _
      rw [estep]
      obtain ⟨r1, r2, r3⟩ := R9 j (by omega)
      generalize rdF m S' (2 ^ k) gs' ((List.range N).take j) = r at *
      have lr := r1.len
      have L1 := x1.1 _ _ L9 nL9
      have A1 := A9.keepS N9 x1
      dsimp only [gName]
      refine ⟨rfl, yesT ?_⟩
      refine ⟨_, rfl, _, rfl, _, rfl, _, rfl, D0 :: Z, p, m, r.1, nm, LS', ts', S', j, 2 ^ k, N, gf, pf, D, _, by rw [Int.zero_add]; rfl, N1, L1, A1, S9.ext r1, pp, by omega, by omega, hj, by omega, by omega, fun T H2 x2 N2 eT => ?_⟩
      have A3 := A2.keepS N1 x2
      have eD2 := x2.1 _ _ eD nD2
      refine ⟨_, eD2, by rw [List.length_map, l2]; exact big_lt (by omega), ts2 ++ [T], by rw [List.length_append, l2]; rfl, ks_updN (x1.trans x2) nD, N2.put (by simp), by rw [upd_same, List.map_append]; rfl, by show (ts2 ++ [T]).length = (r.2 ++ [_]).length; rw [List.length_append, List.length_append, A2.1]; rfl, fun i t s ht hs => ?_⟩
      replace hs : (r.2 ++ [(sdW m r.1 S' (2 ^ k) j).2])[i]? = some s := hs
      have key : H2 t = some (.tup (spV s)) := by
        by_cases c2 : i < ts2.length
        · rw [List.getElem?_append_left c2] at ht
          rw [List.getElem?_append_left (by have := A2.1; omega)] at hs
          exact A3.2 i t s ht hs
        · have i0 : i = ts2.length := by
            have := (List.getElem?_eq_some_iff.mp ht).1
            rw [List.length_append, List.length_cons, List.length_nil] at this
            omega
          rw [List.getElem?_append_right (by omega), i0, Nat.sub_self] at ht
          rw [List.getElem?_append_right (by have := A2.1; omega), i0, A2.1, Nat.sub_self] at hs
          cases ht
          cases hs
          exact eT
      rw [upd_ne (fun z => by rw [z, eD2] at key; cases key)]
      exact key
    · rintro H1 ⟨ts2, l2, x1, N1, eD, A2⟩
      obtain ⟨r1, r2, r3⟩ := R9 N (Nat.le_refl _)
      generalize rdF m S' (2 ^ k) gs' ((List.range N).take N) = r at *
      dsimp only [gName]
      try simp only [L2.start, List.map_cons, List.map_nil, List.length_cons, List.length_nil, List.replicate_succ, List.replicate_zero, List.cons_append, List.nil_append, List.set_cons_succ, List.set_cons_zero, Nat.reduceAdd, Nat.reduceSub, Nat.zero_add]
      have e2 : ((2 ^ k : Nat) : Int) * 2 = ((2 ^ (k + 1) : Nat) : Int) := by rw [Nat.pow_succ, Int.natCast_mul]; rfl
      refine ⟨_, rfl, _, _, rfl, rfl, .inr ⟨by decide, by decide⟩, ?_⟩
      dsimp only
      rw [e2]
      try simp only [L2.start, List.map_cons, List.map_nil, List.length_cons, List.length_nil, List.replicate_succ, List.replicate_zero, List.cons_append, List.nil_append, List.set_cons_succ, List.set_cons_zero, Nat.reduceAdd, Nat.reduceSub, Nat.zero_add]
      refine ⟨r.1, r.2, D0, ts2, y3, y4, y5, rfl, x9.trans x1, N1.less, (E9.trans r1).mono (by rw [Nat.mul_succ]; omega), ⟨r2, fun i s hs => ?_⟩, eD, nD2, A2⟩
      have := r3 i s hs
      rw [show 2 ^ (k + 1) = 2 * 2 ^ k by rw [Nat.pow_succ, Nat.mul_comm]]
      exact this.mono (by omega)
  · have c' : N ≤ 2 ^ k := by
      have := mt (decide_eq_true (p := ((2 ^ k : Nat) : Int) < (N : Int))) c
      omega
    refine ⟨_, rfl, false, LS', _, rfl, SqL.of L9, fun R nR => ?_⟩
    have nR2 := N9.nin nR
    refine lc_it (walk_q (K := K) (t := false) (a := LS') (xs := ts'.map V.ref)) (fun j H1 => KeepS [p.lm, p.ld] H9 H1 ∧ NetAt C (R :: Z) H1 p m gs' nm ∧ H1 R = some (.lst (nts ((S'.take j).map (·.1))))) ⟨KeepS.new nR, N9.add nR, upd_same⟩ (fun j H1 _ ⟨x1, _⟩ => (SqL.of (x1.1 _ _ L9 nL9) : SqL K H1 LS' _)) ?_ ?_
    · rintro j x H2 H1 hj ⟨x1, N1, eR⟩ ⟨rfl, hz⟩
      rw [List.length_map, lts] at hj
      obtain ⟨t0, ht0⟩ : ∃ t0, ts'[j]? = some t0 := ⟨ts'[j]'(by omega), List.getElem?_eq_getElem (by omega)⟩
      obtain ⟨s0, hs0⟩ : ∃ s0, S'[j]? = some s0 := ⟨S'[j]'(by have := S9.1; omega), List.getElem?_eq_getElem (by have := S9.1; omega)⟩
      replace hz : (ts'.map V.ref)[j]? = some x := hz
      rw [List.getElem?_map, ht0] at hz
      cases hz
      have e0 := (A9.keepS N9 x1).2 j t0 s0 ht0 hs0
      refine ⟨t0, _, rfl, .inl (.inl e0), rfl, _, _, rfl, _, _, rfl, rfl, rfl, yesT ?_⟩
      refine ⟨_, rfl, _, eR, by rw [nts_len, List.length_map, List.length_take]; exact big_lt (by omega), ks_updN x1 nR, N1.put (by simp), ?_⟩
      rw [upd_same, List.take_add_one, hs0, List.map_append, nts_app]
      rfl
    · rintro H1 ⟨x1, N1, eR⟩
      rw [List.length_map, lts, List.take_of_length_le (by have := S9.1; omega)] at eR
      exact q R H1 gs' S' k (x9.trans x1) N1.less (ks_none x9 nR) eR E9 k7 hk c' S9
theorem at_last {us : List V} {v : V} : atI (us ++ [v]) (-1) = some v := by
  unfold atI ixN
  rw [if_neg (by decide), if_pos (by rw [List.length_append]; show -((us.length + 1 : Nat) : Int) ≤ -1; omega)]
  show (us ++ [v])[_]? = _
  have : ((-1 : Int) + ((us ++ [v]).length : Nat)).toNat = us.length := by rw [List.length_append]; simp; omega
  rw [this, List.getElem?_append_right (Nat.le_refl _), Nat.sub_self]
  rfl
theorem at_lastN {ws : List Nat} {n : Nat} (h : ws.length = n + 1) : atI (nts ws) (-1) = some (.int ((ws.getD n 0 : Nat) : Int)) := by
  have e : ws = ws.take n ++ [ws.getD n 0] := by
    have := List.take_append_drop n ws
    rw [List.drop_eq_getElem_cons (by omega), List.drop_of_length_le (by omega)] at this
    rw [show ws.getD n 0 = ws[n] from by simp [List.getD, List.getElem?_eq_getElem (show n < ws.length by omega)]]
    exact this.symm
  have e2 : nts ws = nts (ws.take n) ++ [V.int ((ws.getD n 0 : Nat) : Int)] := by
    rw [← show nts (ws.take n ++ [ws.getD n 0]) = nts (ws.take n) ++ [V.int ((ws.getD n 0 : Nat) : Int)] from by rw [nts_app]; rfl, ← e]
  rw [e2]
  exact at_last
theorem walk_zbm {t1 t2 : Bool} {a b : Addr} {xs ys : List V} {n : Nat} (hn : n = min xs.length ys.length) : Walk (Itzb t1 t2 K a b) n (fun H => Sq2 t1 K H a xs ∧ Sq2 t2 K H b ys) (YPair (fun i => xs[i]?) (fun i => ys[i]?)) := by
  refine ⟨fun i _ hi q => ⟨xs, ys, q.1, q.2, by omega, by omega⟩, fun _ q => ⟨xs, ys, q.1, q.2, hn⟩, fun i H v H' hi q z => ?_⟩
  obtain ⟨T, c, y, h1, h2, h3, h4, h5⟩ := z
  exact ⟨T, _, _, h1, h2, h3, h4 xs q.1, h5 ys q.2⟩
def spQs (K : PySem.W.Frag) (C : Addr) : Sp := fun vs H Q _ => ∃ (Z : List Addr) (p : NetP) (m : Nat) (gs : List Gt) (nm : List (Str × List Nat)) (t u : Addr) (b1 b2 : Bool) (os ts : List Nat) (c : Nat), vs = [.ref p.x, .ref t, .ref u, .int (c : Int)] ∧ NetAt C Z H p m gs nm ∧ Sq2 b1 K H t (nts os) ∧ Sq2 b2 K H u (nts ts) ∧ t ∉ [p.lm, p.ld] ∧ u ∉ [p.lm, p.ld] ∧ os.length = ts.length ∧ (∀ w ∈ os, w < m + gs.length) ∧ (∀ w ∈ ts, w < m + gs.length) ∧ c < m + gs.length ∧ os.length ≤ 100 ∧ m + gs.length ≤ 200000 ∧
  ∀ D H' gs' ws, KeepS [p.lm, p.ld] H H' → NetAt C Z H' p m gs' nm → H D = none → H' D = some (.lst (nts ws)) → QF m gs gs' os ts c ws → Q (.ref D) H'
theorem ok_quick_sum_wires (B : Bl mg) (L : LL K mg C za zl) : FnOk P w K mg base CX0 8 (za 2) (zl 2) ["net", "ones", "others", "carry"] (spQs K C) := by
  have G_Net_both : FnOk P w K mg base CX0 7 (za 26) (zl 26) ["self", "a", "b"] (spG2 C "both") := (ok_Net_both B L).mono (by decide)
  have G_Net_unlike : FnOk P w K mg base CX0 7 (za 28) (zl 28) ["self", "a", "b"] (spG2 C "unlike") := (ok_Net_unlike B L).mono (by decide)
  have G_carry_wires : FnOk P w K mg base CX0 7 (za 3) (zl 3) ["net", "spans"] (spCar C) := (ok_carry_wires B L).mono (by decide)
  refine L.F_quick_sum_wires.ok sc_quick_sum_wires (fun vs H Q E h => ?_) (fun cdv A outer s H vs Q E hr h => ?_)
  · obtain ⟨Z, p, m, gs, nm, t, u, b1, b2, os, ts, c, rfl, _⟩ := h
    rfl
  obtain ⟨Z, p, m, gs, nm, t, u, b1, b2, os, ts, c, rfl, hN, hT, hU, nt, nu, hlen, ho, hs, hc, hl, hl2, q⟩ := h
  refine ⟨_, (pss_cons (ps_setLc (i := 4) (own := [("one", 8), ("other", 9)]) (g := gTup K 2 (gCons (gName 8) (gCons (gName 9) gNil))) (by rfl) sc_quick_sum_wires.nd rfl rfl (sw_true rfl rfl rfl (by decide +kernel)) (pi_zb (by rfl) B.zip (pa_cons (pe_revS (pv 1)) (pa_cons (pe_revS (pv 2)) pa_nil))) (blkOk_by (own := [("one", 8), ("other", 9)]) (N := ["net", "ones", "others", "carry", "halves", "pairs", "carries", "total", "one", "other", "half", "into"]) (sc := defScope s_quick_sum_wires) (by decide +kernel)) (fun _ _ _ _ _ => pg_tup rfl (pgs_cons (pg_name (i := 8) sc_quick_sum_wires.nd rfl (Or.inl rfl) (.inr rfl)) (pgs_cons (pg_name (i := 9) sc_quick_sum_wires.nd rfl (Or.inl rfl) (.inr rfl)) pgs_nil))) (fun _ _ _ _ _ => pts_nil) (fun _ _ _ _ _ => (pe_meth (pv 0) L.T.cl L.M_Net_unlike G_Net_unlike hr L.b_Net_unlike .nil pass0 (pa_cons (pv 8) (pa_cons (pv 9) pa_nil)))))
    (pss_cons (ps_setLc (i := 5) (own := [("one", 8), ("other", 9)]) (g := gTup K 2 (gCons (gName 8) (gCons (gName 9) gNil))) (by rfl) sc_quick_sum_wires.nd rfl rfl (sw_true rfl rfl rfl (by decide +kernel)) (pi_zb (by rfl) B.zip (pa_cons (pe_revS (pv 1)) (pa_cons (pe_revS (pv 2)) pa_nil))) (blkOk_by (own := [("one", 8), ("other", 9)]) (N := ["net", "ones", "others", "carry", "halves", "pairs", "carries", "total", "one", "other", "half", "into"]) (sc := defScope s_quick_sum_wires) (by decide +kernel)) (fun _ _ _ _ _ => pg_tup rfl (pgs_cons (pg_name (i := 8) sc_quick_sum_wires.nd rfl (Or.inl rfl) (.inr rfl)) (pgs_cons (pg_name (i := 9) sc_quick_sum_wires.nd rfl (Or.inl rfl) (.inr rfl)) pgs_nil))) (fun _ _ _ _ _ => pts_nil) (fun _ _ _ _ _ => (pe_meth (pv 0) L.T.cl L.M_Net_both G_Net_both hr L.b_Net_both .nil pass0 (pa_cons (pv 8) (pa_cons (pv 9) pa_nil)))))
    (pss_cons (ps_set (i := 6) sc_quick_sum_wires.nd rfl (.inl rfl) (pe_call G_carry_wires hr (by rfl) L.m_carry_wires L.F_carry_wires.kp L.b_carry_wires .nil pass0 (pa_cons (pv 0) (pa_cons (pe_op op_cat (pe_lst (pa_cons (pe_tup (pa_cons (pv 3) (pa_cons pe_non pa_nil))) pa_nil)) (pe_listZip rfl (by rfl) B.list PyProof.Rows.boot_list (by rfl) B.zip (pa_cons (pv 5) (pa_cons (pv 4) pa_nil)))) pa_nil))))
    (pss_cons (ps_setLc (i := 7) (own := [("half", 10), ("into", 11)]) (g := gTup K 2 (gCons (gName 10) (gCons (gName 11) gNil))) (by rfl) sc_quick_sum_wires.nd rfl rfl (sw_true rfl rfl rfl (by decide +kernel)) (pi_zb (by rfl) B.zip (pa_cons (pv 4) (pa_cons (pv 6) pa_nil))) (blkOk_by (own := [("half", 10), ("into", 11)]) (N := ["net", "ones", "others", "carry", "halves", "pairs", "carries", "total", "one", "other", "half", "into"]) (sc := defScope s_quick_sum_wires) (by decide +kernel)) (fun _ _ _ _ _ => pg_tup rfl (pgs_cons (pg_name (i := 10) sc_quick_sum_wires.nd rfl (Or.inl rfl) (.inr rfl)) (pgs_cons (pg_name (i := 11) sc_quick_sum_wires.nd rfl (Or.inl rfl) (.inr rfl)) pgs_nil))) (fun _ _ _ _ _ => pts_nil) (fun _ _ _ _ _ => (pe_meth (pv 0) L.T.cl L.M_Net_unlike G_Net_unlike hr L.b_Net_unlike .nil pass0 (pa_cons (pv 10) (pa_cons (pv 11) pa_nil)))))
    (pss_one (ps_ret (pe_lst (pa_cons (pe_ix ix_list (pv 6) (pe_un un_neg pe_int) (fun _ _ => rfl)) (StX.pa_star (pe_revL (pv 7)) pa_nil))))))))), ?_⟩
  have lz := zipR_len hlen
  obtain ⟨ps, eps⟩ : ∃ ps, ps = os.reverse.zip ts.reverse := ⟨_, rfl⟩
  rw [← eps] at lz
  have hw : ∀ p ∈ ps, p.1 < m + gs.length ∧ p.2 < m + gs.length := fun p hp => by
    rw [eps] at hp
    exact ⟨ho _ (mem_zipR hp).1, hs _ (mem_zipR hp).2⟩
  have hF := fun i hi => hvF_ok (m := m) (k := "unlike") (gs := gs) (ps := ps) (D := False) (d := 0) (.inr rfl) (Int.le_refl _) hw (fun x => x.elim) i hi _ rfl
  refine ⟨_, rfl, b1, t, _, rfl, hT, fun A1 nA1 => ?_⟩
  rw [nts_rev]
  have sA1 := same_upd (o := sqO b1 (nts os.reverse)) nA1
  have eA1 : Sq2 b1 K (upd H A1 (sqO b1 (nts os.reverse))) A1 (nts os.reverse) := Sq2.new
  have nA12 := hN.nin nA1
  have N1 := hN.same sA1
  have hU1 := hU.keepS (S := []) (.ofSame sA1) (fun z => nomatch z)
  have hT1 := hT.keepS (S := []) (.ofSame sA1) (fun z => nomatch z)
  generalize upd H A1 (sqO b1 (nts os.reverse)) = H1 at *
  refine ⟨_, rfl, b2, u, _, rfl, hU1, fun B1 nB1 => ?_⟩
  rw [nts_rev]
  have sB1 := same_upd (o := sqO b2 (nts ts.reverse)) nB1
  have eB1 : Sq2 b2 K (upd H1 B1 (sqO b2 (nts ts.reverse))) B1 (nts ts.reverse) := Sq2.new
  have nB12 := N1.nin nB1
  have M1 := N1.same sB1
  have gA1 := eA1.keepS (S := []) (.ofSame sB1) (fun z => nomatch z)
  have wU1 := hU1.keepS (S := []) (.ofSame sB1) (fun z => nomatch z)
  have wT1 := hT1.keepS (S := []) (.ofSame sB1) (fun z => nomatch z)
  have sAB1 := sA1.trans sB1
  generalize upd H1 B1 (sqO b2 (nts ts.reverse)) = G1 at *
  refine ⟨b1, b2, A1, B1, _, _, rfl, gA1, eB1, fun Rh nRh => ?_⟩
  have nRh2 := M1.nin nRh
  refine lc_it (walk_zb (K := K) (t1 := b1) (t2 := b2) (a := A1) (b := B1) (xs := nts os.reverse) (ys := nts ts.reverse) (n := os.length) (by rw [nts_len, List.length_reverse]) (by rw [nts_len, List.length_reverse, hlen])) (fun j H9 => KeepS [p.lm, p.ld] G1 H9 ∧ NetAt C (Rh :: Z) H9 p m (hvF m "unlike" gs ((ps).take j)).1 nm ∧ H9 Rh = some (.lst (nts (hvF m "unlike" gs ((ps).take j)).2))) ⟨KeepS.new nRh, M1.add nRh, upd_same⟩ (fun j H9 _ ⟨k9, _⟩ => ⟨gA1.keepS k9 nA12, eB1.keepS k9 nB12⟩) ?_ ?_
  · rintro j v H9 H10 hj ⟨k9, N9, eR⟩ ⟨T, x, y, rfl, nT, rfl, hx, hy⟩
    obtain ⟨a, b, hab, rfl, rfl⟩ := nts_zip hx hy
    have hp := List.mem_of_getElem? hab
    have la := (hw (a, b) (by rw [eps]; exact hp)).1
    have lb := (hw (a, b) (by rw [eps]; exact hp)).2
    have estep : hvF m "unlike" gs ((ps).take (j + 1)) = hvS m "unlike" (hvF m "unlike" gs ((ps).take j)) (a, b) := fold_take _ (eps ▸ hab) _
    rw [estep]
    obtain ⟨f1, f2, f3, _⟩ := hF j (by omega)
    generalize hvF m "unlike" gs ((ps).take j) = S at *
    have sT := same_upd (o := .tup [.int (a : Int), .int (b : Int)]) nT
    have N10 := N9.same sT
    have eT : (upd H9 T (.tup [.int (a : Int), .int (b : Int)])) T = some (.tup [.int (a : Int), .int (b : Int)]) := upd_same
    have eR10 := sT _ _ eR
    have k10 := k9.trans (.ofSame sT)
    generalize upd H9 T (.tup [.int (a : Int), .int (b : Int)]) = H10 at *
    refine ⟨T, _, rfl, .inl (.inl eT), rfl, _, _, rfl, _, _, rfl, rfl, rfl, yesT ?_⟩
    try simp only [L2.start, List.map_cons, List.map_nil, List.length_cons, List.length_nil, List.replicate_succ, List.replicate_zero, List.cons_append, List.nil_append, List.set_cons_succ, List.set_cons_zero, Nat.reduceAdd, Nat.reduceSub, Nat.zero_add]
    obtain ⟨_, _, _, dx2, _, _, f4, _⟩ := id N10
    refine ⟨_, rfl, p.x, dx2, _, rfl, f4, rfl, _, rfl, _, rfl, Rh :: Z, p, m, S.1, nm, a, b, rfl, N10, by omega, by omega, by omega, fun H3 k3 N3 => ?_⟩
    have eR3 := k3.1 _ _ eR10 nRh2
    refine ⟨_, eR3, by rw [nts_len]; exact big_lt (by omega), ks_updN (k10.trans k3) nRh, N3.put (by simp), ?_⟩
    rw [upd_same]
    show _ = some (HO.lst (nts (S.2 ++ [m + S.1.length])))
    rw [nts_app]
    rfl
  rintro H2 ⟨k2, N2, eRh⟩
  rw [← lz, List.take_length] at N2 eRh
  obtain ⟨U, eU⟩ : ∃ U, U = hvF m "unlike" gs ps := ⟨_, rfl⟩
  have hFU := hF ps.length (Nat.le_refl _)
  rw [List.take_length, ← eU] at hFU
  rw [← eU] at N2 eRh
  obtain ⟨u1, u2, u3, u4⟩ := hFU
  dsimp only [gName]
  try simp only [L2.start, List.map_cons, List.map_nil, List.length_cons, List.length_nil, List.replicate_succ, List.replicate_zero, List.cons_append, List.nil_append, List.set_cons_succ, List.set_cons_zero, Nat.reduceAdd, Nat.reduceSub, Nat.zero_add]
  have N3 := N2.less
  have T3 := wT1.keepS k2 nt
  have U3 := wU1.keepS k2 nu
  have k03 : KeepS [p.lm, p.ld] H H2 := (KeepS.ofSame sAB1).trans k2
  have nRhH := ks_none (KeepS.ofSame (S := []) sAB1) nRh
  have nRhn := hN.nin nRhH
  have hG := fun i hi => hvF_ok (m := m) (k := "both") (gs := U.1) (ps := ps) (D := False) (d := 0) (.inl rfl) (Int.le_refl _) (fun p hp => by have := hw p hp; omega) (fun x => x.elim) i hi _ rfl
  refine ⟨_, rfl, b1, t, _, rfl, T3, fun A2 nA2 => ?_⟩
  rw [nts_rev]
  have sA2 := same_upd (o := sqO b1 (nts os.reverse)) nA2
  have eA2 : Sq2 b1 K (upd H2 A2 (sqO b1 (nts os.reverse))) A2 (nts os.reverse) := Sq2.new
  have nA22 := N3.nin nA2
  have N2 := N3.same sA2
  have hU2 := U3.keepS (S := []) (.ofSame sA2) (fun z => nomatch z)
  have hT2 := T3.keepS (S := []) (.ofSame sA2) (fun z => nomatch z)
  generalize upd H2 A2 (sqO b1 (nts os.reverse)) = H5 at *
  refine ⟨_, rfl, b2, u, _, rfl, hU2, fun B2 nB2 => ?_⟩
  rw [nts_rev]
  have sB2 := same_upd (o := sqO b2 (nts ts.reverse)) nB2
  have eB2 : Sq2 b2 K (upd H5 B2 (sqO b2 (nts ts.reverse))) B2 (nts ts.reverse) := Sq2.new
  have nB22 := N2.nin nB2
  have M2 := N2.same sB2
  have gA2 := eA2.keepS (S := []) (.ofSame sB2) (fun z => nomatch z)
  have wU2 := hU2.keepS (S := []) (.ofSame sB2) (fun z => nomatch z)
  have wT2 := hT2.keepS (S := []) (.ofSame sB2) (fun z => nomatch z)
  have sAB2 := sA2.trans sB2
  generalize upd H5 B2 (sqO b2 (nts ts.reverse)) = G2 at *
  have eRh2 := sAB2 _ _ eRh
  refine ⟨b1, b2, A2, B2, _, _, rfl, gA2, eB2, fun Rp nRp => ?_⟩
  have nRp2 := M2.nin nRp
  refine lc_it (walk_zb (K := K) (t1 := b1) (t2 := b2) (a := A2) (b := B2) (xs := nts os.reverse) (ys := nts ts.reverse) (n := os.length) (by rw [nts_len, List.length_reverse]) (by rw [nts_len, List.length_reverse, hlen])) (fun j H9 => KeepS [p.lm, p.ld] G2 H9 ∧ NetAt C (Rp :: Z) H9 p m (hvF m "both" U.1 ((ps).take j)).1 nm ∧ H9 Rp = some (.lst (nts (hvF m "both" U.1 ((ps).take j)).2))) ⟨KeepS.new nRp, M2.add nRp, upd_same⟩ (fun j H9 _ ⟨k9, _⟩ => ⟨gA2.keepS k9 nA22, eB2.keepS k9 nB22⟩) ?_ ?_
  · rintro j v H9 H10 hj ⟨k9, N9, eR⟩ ⟨T, x, y, rfl, nT, rfl, hx, hy⟩
    obtain ⟨a, b, hab, rfl, rfl⟩ := nts_zip hx hy
    have hp := List.mem_of_getElem? hab
    have la := (hw (a, b) (by rw [eps]; exact hp)).1
    have lb := (hw (a, b) (by rw [eps]; exact hp)).2
    have estep : hvF m "both" U.1 ((ps).take (j + 1)) = hvS m "both" (hvF m "both" U.1 ((ps).take j)) (a, b) := fold_take _ (eps ▸ hab) _
    rw [estep]
    obtain ⟨f1, f2, f3, _⟩ := hG j (by omega)
    generalize hvF m "both" U.1 ((ps).take j) = S at *
    have sT := same_upd (o := .tup [.int (a : Int), .int (b : Int)]) nT
    have N10 := N9.same sT
    have eT : (upd H9 T (.tup [.int (a : Int), .int (b : Int)])) T = some (.tup [.int (a : Int), .int (b : Int)]) := upd_same
    have eR10 := sT _ _ eR
    have k10 := k9.trans (.ofSame sT)
    generalize upd H9 T (.tup [.int (a : Int), .int (b : Int)]) = H10 at *
    refine ⟨T, _, rfl, .inl (.inl eT), rfl, _, _, rfl, _, _, rfl, rfl, rfl, yesT ?_⟩
    try simp only [L2.start, List.map_cons, List.map_nil, List.length_cons, List.length_nil, List.replicate_succ, List.replicate_zero, List.cons_append, List.nil_append, List.set_cons_succ, List.set_cons_zero, Nat.reduceAdd, Nat.reduceSub, Nat.zero_add]
    obtain ⟨_, _, _, dx2, _, _, f4, _⟩ := id N10
    refine ⟨_, rfl, p.x, dx2, _, rfl, f4, rfl, _, rfl, _, rfl, Rp :: Z, p, m, S.1, nm, a, b, rfl, N10, by omega, by omega, by omega, fun H3 k3 N3 => ?_⟩
    have eR3 := k3.1 _ _ eR10 nRp2
    refine ⟨_, eR3, by rw [nts_len]; exact big_lt (by omega), ks_updN (k10.trans k3) nRp, N3.put (by simp), ?_⟩
    rw [upd_same]
    show _ = some (HO.lst (nts (S.2 ++ [m + S.1.length])))
    rw [nts_app]
    rfl
  rintro H6 ⟨k6, N6, eRp⟩
  rw [← lz, List.take_length] at N6 eRp
  obtain ⟨PP, eP⟩ : ∃ PP, PP = hvF m "both" U.1 ps := ⟨_, rfl⟩
  have hGU := hG ps.length (Nat.le_refl _)
  rw [List.take_length, ← eP] at hGU
  rw [← eP] at N6 eRp
  obtain ⟨p1, p2, p3, _⟩ := hGU
  dsimp only [gName]
  try simp only [L2.start, List.map_cons, List.map_nil, List.length_cons, List.length_nil, List.replicate_succ, List.replicate_zero, List.cons_append, List.nil_append, List.set_cons_succ, List.set_cons_zero, Nat.reduceAdd, Nat.reduceSub, Nat.zero_add]
  have eRh6 := k6.1 _ _ eRh2 nRhn
  have N7 := N6.less
  have k06 : KeepS [p.lm, p.ld] H H6 := (k03.trans (.ofSame sAB2)).trans k6
  refine ⟨_, rfl, _, rfl, (by show 2 ≤ sizeLine; decide), fun T nT => ?_⟩
  have sT := same_upd (o := .tup [.int (c : Int), .non]) nT
  have eT : (upd H6 T (.tup [.int (c : Int), .non])) T = some (.tup [.int (c : Int), .non]) := upd_same
  generalize upd H6 T (.tup [.int (c : Int), .non]) = H7 at *
  refine ⟨(by show 1 ≤ sizeLine; decide), fun L1 nL1 => ?_⟩
  have sL1 := same_upd (o := .lst [.ref T]) nL1
  have eL1 : (upd H7 L1 (.lst [.ref T])) L1 = some (.lst [.ref T]) := upd_same
  generalize upd H7 L1 (.lst [.ref T]) = H8 at *
  have s68 := sT.trans sL1
  refine ⟨_, rfl, _, rfl, Rp, Rh, nts PP.2, nts U.2, rfl, SqL.of (s68 _ _ eRp), SqL.of (s68 _ _ eRh6), by rw [nts_len, nts_len, p3, u3], fun H9 L2 tt kz n1 n2 n3 n4 eL2 eZ => ?_⟩
  rw [nts_len] at n4
  have eL1' := kz _ _ eL1
  refine ⟨L1, L2, _, _, rfl, rfl, eL1', eL2, by rw [List.length_map, n4]; exact Nat.le_of_lt (big_lt (by show 1 + _ ≤ _; omega)), fun LS nLS => ?_⟩
  have sLS := same_upd (o := .lst ([.ref T] ++ tt.map V.ref)) nLS
  have eLS : (upd H9 LS (.lst ([.ref T] ++ tt.map V.ref))) LS = some (.lst ((T :: tt).map V.ref)) := upd_same
  have s6S : Same H6 (upd H9 LS (.lst ([.ref T] ++ tt.map V.ref))) := fun y o e => sLS _ _ (kz _ _ (s68 _ _ e))
  have nLS2 := (N7.same (fun y o e => kz _ _ (s68 _ _ e) : Same H6 H9)).nin nLS
  have eT2 := sLS _ _ (kz _ _ (sL1 _ _ eT))
  have eZ2 : ∀ (i : Nat) (t : Addr) (a b : Nat), tt[i]? = some t → PP.2[i]? = some a → U.2[i]? = some b → (upd H9 LS (.lst ([.ref T] ++ tt.map V.ref))) t = some (.tup [.int (a : Int), .int (b : Int)]) := fun i t a b h1 h2 h3 => by
    obtain ⟨y, y1, y2⟩ := LiI.paired_get eZ h1
    have e1 : (nts PP.2)[i]? = some (.int (a : Int)) := by
      unfold nts
      rw [List.getElem?_map, h2]
      rfl
    have e2 : (nts U.2)[i]? = some (.int (b : Int)) := by
      unfold nts
      rw [List.getElem?_map, h3]
      rfl
    have e3 : ((nts PP.2).zip (nts U.2))[i]? = some (V.int (a : Int), V.int (b : Int)) := List.getElem?_zip_eq_some.mpr ⟨e1, e2⟩
    rw [y1] at e3
    cases e3
    exact sLS _ _ y2
  have N9 := N7.same s6S
  have eRh9 := s6S _ _ eRh6
  generalize upd H9 LS (.lst ([.ref T] ++ tt.map V.ref)) = HA at *
  have hA : SpAt HA (T :: tt) (spans0 c PP.2 U.2) := by
    refine ⟨by unfold spans0; rw [List.length_cons, List.length_cons, List.length_map, List.length_zip]; omega, fun i t s ht hs => ?_⟩
    cases i with
    | zero =>
      cases ht
      cases hs
      exact eT2
    | succ i =>
      rw [List.getElem?_cons_succ] at ht
      unfold spans0 at hs
      rw [List.getElem?_cons_succ, List.getElem?_map] at hs
      cases hq : (PP.2.zip U.2)[i]? with
      | none => rw [hq] at hs; cases hs
      | some qq =>
        rw [hq] at hs
        cases hs
        obtain ⟨h1, h2⟩ := List.getElem?_zip_eq_some.mp hq
        exact eZ2 i t _ _ ht h1 h2
  have hS0 := spans0_ok (m := m) (c := c) (gs := gs) (ps := ps) (D := (∀ w ∈ os, w < m) ∧ (∀ w ∈ ts, w < m) ∧ c < m) hw hc (fun x p hp => by
    rw [eps] at hp
    exact ⟨x.1 _ (mem_zipR hp).1, x.2.1 _ (mem_zipR hp).2⟩) (fun x => x.2.2)
  rw [← eU, ← eP, lz] at hS0
  have lu := u1.len
  have lp := p1.len
  refine ⟨Z, p, m, PP.1, nm, LS, T :: tt, spans0 c PP.2 U.2, os.length + 1, _, _, _, rfl, N9, eLS, nLS2, hA, hS0, by omega, by omega, by omega, fun Rc HB g3 S k kB NB nRc eRc x3 k7 hk hk2 hS3 => ?_⟩
  dsimp only [gName]
  try simp only [L2.start, List.map_cons, List.map_nil, List.length_cons, List.length_nil, List.replicate_succ, List.replicate_zero, List.cons_append, List.nil_append, List.set_cons_succ, List.set_cons_zero, Nat.reduceAdd, Nat.reduceSub, Nat.zero_add]
  have k0B := (k06.trans (.ofSame s6S)).trans kB
  have eRhB := kB.1 _ _ eRh9 nRhn
  have nRcn := N9.nin nRc
  have lx := x3.len
  have m7 : 3 * (os.length + 1) * k ≤ 21 * (os.length + 1) := by
    have := Nat.mul_le_mul_left (3 * (os.length + 1)) k7
    omega
  have lS := hS3.1
  have hB := fun i hi => tot_ok (m := m) (c := c) (ps := ps) (gs := gs) (n := os.length) lz hw (fun x p hp => by
    rw [eps] at hp
    exact ⟨x.1 _ (mem_zipR hp).1, x.2.1 _ (mem_zipR hp).2⟩) (by rw [← eU, ← eP]; exact x3) hk2 hS3 i hi _ rfl
  rw [← eU] at hB
  have lzz : (U.2.zip (S.map (·.1))).length = os.length := by rw [List.length_zip, List.length_map]; omega
  have hq3 : ∀ {i a b : Nat}, (U.2.zip (S.map (·.1)))[i]? = some (a, b) → a < m + g3.length ∧ b < m + g3.length := fun {i a b} h => by
    obtain ⟨h1, h2⟩ := List.getElem?_zip_eq_some.mp h
    rw [List.getElem?_map] at h2
    cases hs : S[i]? with
    | none => rw [hs] at h2; cases h2
    | some s =>
      rw [hs] at h2
      cases h2
      have il := (List.getElem?_eq_some_iff.mp h1).1
      have := (u4 i _ _ h1 (List.getElem?_eq_getElem (show i < ps.length by omega))).1
      exact ⟨by dsimp only at this ⊢; omega, (hS3.2 i s hs).lt⟩
  have lSm : (S.map (·.1)).length = os.length + 1 := by rw [List.length_map]; exact lS
  have sqh : Sq2 false K HB Rh (nts U.2) := SqL.of eRhB
  have sqc : Sq2 false K HB Rc (nts (S.map (·.1))) := SqL.of eRc
  refine ⟨_, rfl, _, rfl, false, false, Rh, Rc, _, _, rfl, SqL.of eRhB, SqL.of eRc, fun Rt nRt => ?_⟩
  have nRt2 := NB.nin nRt
  refine lc_it (walk_zbm (K := K) (t1 := false) (t2 := false) (a := Rh) (b := Rc) (xs := nts U.2) (ys := nts (S.map (·.1))) (n := os.length) (by rw [nts_len, nts_len, lSm]; omega)) (fun j H9 => KeepS [p.lm, p.ld] HB H9 ∧ NetAt C (Rt :: Z) H9 p m (hvF m "unlike" g3 ((U.2.zip (S.map (·.1))).take j)).1 nm ∧ H9 Rt = some (.lst (nts (hvF m "unlike" g3 ((U.2.zip (S.map (·.1))).take j)).2))) ⟨KeepS.new nRt, NB.add nRt, upd_same⟩ (fun j H9 _ ⟨k9, _⟩ => ⟨sqh.keepS k9 nRhn, sqc.keepS k9 nRcn⟩) ?_ ?_
  · rintro j v H9 H10 hj ⟨k9, N9, eR⟩ ⟨T, x, y, rfl, nT, rfl, hx, hy⟩
    obtain ⟨a, b, hab, rfl, rfl⟩ := nts_zip hx hy
    have hp := List.mem_of_getElem? hab
    have la := (hq3 hab).1
    have lb := (hq3 hab).2
    have estep : hvF m "unlike" g3 ((U.2.zip (S.map (·.1))).take (j + 1)) = hvS m "unlike" (hvF m "unlike" g3 ((U.2.zip (S.map (·.1))).take j)) (a, b) := fold_take _ hab _
    rw [estep]
    obtain ⟨f1, f2, f3, _⟩ := hB j (by omega)
    generalize hvF m "unlike" g3 ((U.2.zip (S.map (·.1))).take j) = S at *
    have sT := same_upd (o := .tup [.int (a : Int), .int (b : Int)]) nT
    have N10 := N9.same sT
    have eT : (upd H9 T (.tup [.int (a : Int), .int (b : Int)])) T = some (.tup [.int (a : Int), .int (b : Int)]) := upd_same
    have eR10 := sT _ _ eR
    have k10 := k9.trans (.ofSame sT)
    generalize upd H9 T (.tup [.int (a : Int), .int (b : Int)]) = H10 at *
    refine ⟨T, _, rfl, .inl (.inl eT), rfl, _, _, rfl, _, _, rfl, rfl, rfl, yesT ?_⟩
    try simp only [L2.start, List.map_cons, List.map_nil, List.length_cons, List.length_nil, List.replicate_succ, List.replicate_zero, List.cons_append, List.nil_append, List.set_cons_succ, List.set_cons_zero, Nat.reduceAdd, Nat.reduceSub, Nat.zero_add]
    obtain ⟨_, _, _, dx2, _, _, f4, _⟩ := id N10
    refine ⟨_, rfl, p.x, dx2, _, rfl, f4, rfl, _, rfl, _, rfl, Rt :: Z, p, m, S.1, nm, a, b, rfl, N10, by omega, by omega, by omega, fun H3 k3 N3 => ?_⟩
    have eR3 := k3.1 _ _ eR10 nRt2
    refine ⟨_, eR3, by rw [nts_len]; exact big_lt (by omega), ks_updN (k10.trans k3) nRt, N3.put (by simp), ?_⟩
    rw [upd_same]
    show _ = some (HO.lst (nts (S.2 ++ [m + S.1.length])))
    rw [nts_app]
    rfl
  rintro HC ⟨kC, NC, eRt⟩
  rw [← lzz, List.take_length] at NC eRt
  have hQ := quick_ok (m := m) (c := c) (K := k) (x := 3 * (os.length + 1) * k) (n := os.length) (gs := gs) (g3 := g3) (os := os) (ts := ts) (S := S) rfl hlen ho hs hc (by rw [← eps, ← eU, ← eP]; exact x3) m7 (by
    rcases hk with y | y
    · exact .inl y
    · exact .inr (by omega)) hk2 (by rw [← eps]; exact hS3) (hvF m "unlike" g3 (U.2.zip (S.map (·.1)))) (by rw [← eps, ← eU])
  obtain ⟨f1, f2, f3, _⟩ := hB os.length (Nat.le_refl _)
  rw [← lzz, List.take_length] at f1 f2 f3
  generalize hvF m "unlike" g3 (U.2.zip (S.map (·.1))) = TT at *
  have eRcC := kC.1 _ _ eRc nRcn
  have eSn : (S.map (·.1)).getD os.length 0 = (S.getD os.length (0, none)).1 := by
    simp only [List.getD, List.getElem?_map, List.getElem?_eq_getElem (show os.length < S.length by omega)]
    rfl
  dsimp only [gName]
  try simp only [L2.start, List.map_cons, List.map_nil, List.length_cons, List.length_nil, List.replicate_succ, List.replicate_zero, List.cons_append, List.nil_append, List.set_cons_succ, List.set_cons_zero, Nat.reduceAdd, Nat.reduceSub, Nat.zero_add]
  refine ⟨_, rfl, _, rfl, Rc, _, _, _, rfl, rfl, SqL.of eRcC, at_lastN lSm, ?_⟩
  rw [eSn]
  refine ⟨_, rfl, Rt, _, rfl, SqL.of eRt, fun B nB => ?_⟩
  rw [nts_rev]
  have sB := same_upd (o := .lst (nts TT.2.reverse)) nB
  have eB : (upd HC B (.lst (nts TT.2.reverse))) B = some (.lst (nts TT.2.reverse)) := upd_same
  generalize upd HC B (.lst (nts TT.2.reverse)) = HD at *
  refine ⟨B, _, rfl, .inr (SqL.of eB), ?_⟩
  refine ⟨by
    rw [List.append_nil, List.length_cons, nts_len, List.length_reverse]
    exact Nat.le_of_lt (big_lt (by omega)), fun DD nDD => ?_⟩
  rw [List.append_nil]
  have sD := same_upd (o := .lst (.int ((S.getD os.length (0, none)).1 : Int) :: nts TT.2.reverse)) nDD
  have kAll := k0B.trans kC
  exact q DD _ TT.1 ((S.getD os.length (0, none)).1 :: TT.2.reverse) (kAll.trans (.ofSame (sB.trans sD))) (NC.less.same (sB.trans sD)) (ks_none (kAll.trans (.ofSame sB)) nDD) upd_same hQ
end
section
variable {P : Program} {w : World} {K : PySem.W.Frag} {mg : Str → Option Value} {base : Heap}
variable {C : Addr} {za : Nat → Addr} {zl : Nat → FuncData}
def spLike (C : Addr) : Sp := fun vs H Q _ => ∃ (Z : List Addr) (p : NetP) (m : Nat) (gs : List Gt) (nm : List (Str × List Nat)), vs = [.ref p.x] ∧ NetAt C Z H p m gs nm ∧ m ≤ 100000 ∧ m + gs.length ≤ 400000 ∧ nm.length ≤ 900 ∧
  ∀ (p2 : NetP) (H' : Hp), Same H H' → (H p2.x = none ∧ H p2.lm = none ∧ H p2.ld = none ∧ H p2.dn = none) → (∀ Z2 : List Addr, (∀ z ∈ Z2, H z ≠ none ∧ (z ∈ Z ∨ z ∈ [p.x, p.lm, p.ld, p.dn])) → NetAt C Z2 H' p2 m gs nm) → Q (.ref p2.x) H'
theorem ok_Net_like (B : Bl mg) (L : LL K mg C za zl) : FnOk P w K mg base CX0 3 (za 38) (zl 38) ["self"] (spLike C) := by
  have G_Net___init__ : FnOk P w K mg base CX0 1 (za 25) (zl 25) ["self", "many"] (spNetI C) := (ok_Net___init__ B L).mono (by decide)
  refine L.F_Net_like.ok sc_Net_like (fun vs H Q E h => ?_) (fun cdv A outer s H vs Q E hr h => ?_)
  · obtain ⟨Z, p, m, gs, nm, rfl, _⟩ := h
    rfl
  obtain ⟨Z, p, m, gs, nm, rfl, hN, hm, hl, hnm, q⟩ := h
  refine ⟨_, (pss_cons (ps_set (i := 1) sc_Net_like.nd rfl (.inl rfl) (pe_make L.M G_Net___init__ hr (by rfl) L.T.mgC L.b_Net___init__ .nil pass0 (pa_cons (pe_fld (pv 0) rfl) pa_nil)))
    (pss_cons (ps_fld (pv 1) (pe_callTy call_list_of (by rfl) B.list PyProof.Rows.boot_list (pa_cons (pe_fld (pv 0) rfl) pa_nil)) rfl)
    (pss_cons (ps_fld (pv 1) (pe_callTy call_list_of (by rfl) B.list PyProof.Rows.boot_list (pa_cons (pe_fld (pv 0) rfl) pa_nil)) rfl)
    (pss_cons (ps_fld (pv 1) (pe_lock (pe_dc (own := [("name", 2)]) (by rfl) sc_Net_like.nd (pi_keys (pe_fld (pv 0) rfl)) (blkOk_by (own := [("name", 2)]) (N := ["self", "twin", "name"]) (sc := defScope s_Net_like) (by decide +kernel)) (fun _ _ _ _ _ => pg_name (i := 2) sc_Net_like.nd rfl (Or.inl rfl)) (fun _ _ _ _ _ => pts_nil) (fun _ _ _ _ _ => (pv 2)) (fun _ _ _ _ _ => (pe_callTy (call_list_ofK (K := K)) (by rfl) B.list PyProof.Rows.boot_list (pa_cons (pe_dget (units1 hr) (pe_fldK (K := K) (pv 0) rfl) (pv 2) (fun _ _ => rfl)) pa_nil))))) rfl)
    (pss_one (ps_ret (pv 1))))))), ?_⟩
  obtain ⟨hz, hb, ⟨c1, c2, c3, c4⟩, dx0, ps, kvs, e1, e2, e3, e4, ⟨g1, g2⟩, n0⟩ := id hN
  refine ⟨_, rfl, p.x, C, dx0, _, _, rfl, e1, L.T.cl, L.T.n_input_count, rfl, fun x dx nx ndx ne => ?_⟩
  refine ⟨x, dx, m, rfl, upd_same, by omega, fun p2 H7 px fr ⟨n1, n2, n3⟩ N0 => ⟨rfl, ?_⟩⟩
  have s7 : Same H H7 := made nx ndx ne fr
  subst px
  obtain ⟨_, _, _, dx2, ps2, kvs2, x1, x2, x3, x4, _⟩ := N0 [] (fun z hz => nomatch hz)
  try simp only [L2.start, List.map_cons, List.map_nil, List.length_cons, List.length_nil, List.replicate_succ, List.replicate_zero, List.cons_append, List.nil_append, List.set_cons_succ, List.set_cons_zero, Nat.reduceAdd, Nat.reduceSub, Nat.zero_add]
  dsimp only [gName]
  try simp only [L2.start, List.map_cons, List.map_nil, List.length_cons, List.length_nil, List.replicate_succ, List.replicate_zero, List.cons_append, List.nil_append, List.set_cons_succ, List.set_cons_zero, Nat.reduceAdd, Nat.reduceSub, Nat.zero_add]
  have nxp : ∀ {y : Addr} {o : HO}, H y = some o → y ≠ p2.x := fun e => ne_of_none e nx
  have F1 := s7 _ _ e1
  have F2 := s7 _ _ e2
  have F3 := s7 _ _ e3
  refine ⟨_, rfl, p.x, C, dx0, _, _, rfl, F1, L.T.cl, L.T.n_made, rfl, p.lm, _, rfl, .inl (SqL.of F2), fun A1 nA1 => ?_⟩
  have sA1 := same_upd (o := .lst (ps.map V.ref)) nA1
  have a1x : p2.x ≠ A1 := ne_of_none x1 nA1
  refine ⟨_, rfl, p2.x, C, dx2, _, rfl, sA1 _ _ x1, L.T.cl, L.T.n_made, (by show 4 < 1000; decide), ?_⟩
  have f9 : ∀ y o, H7 y = some o → y ≠ p2.x → (upd (upd H7 A1 (.lst (ps.map V.ref))) p2.x (.ins C dx2 [("input_count", .int (m : Int)), ("made", .ref A1), ("depths", .ref p2.ld), ("by_name", .ref p2.dn)])) y = some o := fun y o e n => by rw [upd_ne n]; exact sA1 _ _ e
  have x9 : (upd (upd H7 A1 (.lst (ps.map V.ref))) p2.x (.ins C dx2 [("input_count", .int (m : Int)), ("made", .ref A1), ("depths", .ref p2.ld), ("by_name", .ref p2.dn)])) p2.x = some (.ins C dx2 [("input_count", .int (m : Int)), ("made", .ref A1), ("depths", .ref p2.ld), ("by_name", .ref p2.dn)]) := upd_same
  have g9 : (upd (upd H7 A1 (.lst (ps.map V.ref))) p2.x (.ins C dx2 [("input_count", .int (m : Int)), ("made", .ref A1), ("depths", .ref p2.ld), ("by_name", .ref p2.dn)])) A1 = some (.lst (ps.map V.ref)) := by rw [upd_ne a1x.symm, upd_same]
  show tSeq _ _ _ _ (upd (upd H7 A1 (.lst (ps.map V.ref))) p2.x (.ins C dx2 [("input_count", .int (m : Int)), ("made", .ref A1), ("depths", .ref p2.ld), ("by_name", .ref p2.dn)]))
  generalize upd (upd H7 A1 (.lst (ps.map V.ref))) p2.x (.ins C dx2 [("input_count", .int (m : Int)), ("made", .ref A1), ("depths", .ref p2.ld), ("by_name", .ref p2.dn)]) = H9 at *
  have s9 : Same H H9 := fun y o e => f9 _ _ (s7 _ _ e) (nxp e)
  have G1 := s9 _ _ e1
  have G3 := s9 _ _ e3
  refine ⟨_, rfl, p.x, C, dx0, _, _, rfl, G1, L.T.cl, L.T.n_depths, rfl, p.ld, _, rfl, .inl (SqL.of G3), fun A2 nA2 => ?_⟩
  have sA2 := same_upd (o := .lst ((dps m gs).map V.int)) nA2
  have a2x : p2.x ≠ A2 := ne_of_none x9 nA2
  have a21 : A1 ≠ A2 := ne_of_none g9 nA2
  refine ⟨_, rfl, p2.x, C, dx2, _, rfl, sA2 _ _ x9, L.T.cl, L.T.n_depths, (by show 4 < 1000; decide), ?_⟩
  have f10 : ∀ y o, H9 y = some o → y ≠ p2.x → (upd (upd H9 A2 (.lst ((dps m gs).map V.int))) p2.x (.ins C dx2 [("input_count", .int (m : Int)), ("made", .ref A1), ("depths", .ref A2), ("by_name", .ref p2.dn)])) y = some o := fun y o e n => by rw [upd_ne n]; exact sA2 _ _ e
  have x10 : (upd (upd H9 A2 (.lst ((dps m gs).map V.int))) p2.x (.ins C dx2 [("input_count", .int (m : Int)), ("made", .ref A1), ("depths", .ref A2), ("by_name", .ref p2.dn)])) p2.x = some (.ins C dx2 [("input_count", .int (m : Int)), ("made", .ref A1), ("depths", .ref A2), ("by_name", .ref p2.dn)]) := upd_same
  have h10 : (upd (upd H9 A2 (.lst ((dps m gs).map V.int))) p2.x (.ins C dx2 [("input_count", .int (m : Int)), ("made", .ref A1), ("depths", .ref A2), ("by_name", .ref p2.dn)])) A2 = some (.lst ((dps m gs).map V.int)) := by rw [upd_ne a2x.symm, upd_same]
  have g10 := f10 _ _ g9 a1x.symm
  show tSeq _ _ _ _ (upd (upd H9 A2 (.lst ((dps m gs).map V.int))) p2.x (.ins C dx2 [("input_count", .int (m : Int)), ("made", .ref A1), ("depths", .ref A2), ("by_name", .ref p2.dn)]))
  generalize upd (upd H9 A2 (.lst ((dps m gs).map V.int))) p2.x (.ins C dx2 [("input_count", .int (m : Int)), ("made", .ref A1), ("depths", .ref A2), ("by_name", .ref p2.dn)]) = HA at *
  have sA : Same H HA := fun y o e => f10 _ _ (s9 _ _ e) (nxp e)
  have J1 := sA _ _ e1
  have J4 := sA _ _ e4
  have nHA1 : H A1 = none := by
    cases e : H A1 with
    | none => rfl
    | some o => rw [s7 _ _ e] at nA1; cases nA1
  have nHA2 : H A2 = none := by
    cases e : H A2 with
    | none => rfl
    | some o => rw [s9 _ _ e] at nA2; cases nA2
  refine ⟨p.dn, .dK kvs, J4, by exact True.intro, fun od => ?_⟩
  have ndx : p.x ≠ p.dn := fun z => by rw [z, J4] at J1; cases J1
  have fL : ∀ y o, HA y = some o → y ≠ p.dn → (upd HA p.dn (.frz od (.dK kvs))) y = some o := fun y o e n => by rw [upd_ne n]; exact e
  have L1 := fL _ _ J1 ndx
  have Ld : (upd HA p.dn (.frz od (.dK kvs))) p.dn = some (.frz od (.dK kvs)) := upd_same
  have nL : ∀ y, (upd HA p.dn (.frz od (.dK kvs))) y = none → HA y = none := fun y e => by
    by_cases c : y = p.dn
    · rw [c, upd_same] at e
      cases e
    · rw [upd_ne c] at e
      exact e
  have bL : ∀ G : Hp, Same (upd HA p.dn (.frz od (.dK kvs))) G → Same HA (upd G p.dn (.dK kvs)) := fun G sG y o e => by
    by_cases c : y = p.dn
    · rw [c, J4] at e
      rw [c, upd_same]
      exact e
    · rw [upd_ne c]
      exact sG _ _ (fL _ _ e c)
  generalize upd HA p.dn (.frz od (.dK kvs)) = HL at *
  refine ⟨_, rfl, p.x, C, dx0, _, _, rfl, L1, L.T.cl, L.T.n_by_name, rfl, p.dn, od, rfl, .inl ⟨kvs, Ld, fun D nD => ?_⟩⟩
  have lkv : kvs.length = nm.length := n0.1
  refine dc_it (walk_keys (kvs := kvs) (d := p.dn) (o := od)) (fun j Hj => ∃ ls : List Addr, ls.length = j ∧ Same HL Hj ∧ Hj D = some (.dK (((kvs.take j).zip ls).map fun q => (q.1.1, V.ref q.2))) ∧ ∀ (i : Nat) (l : Addr) (nw : Str × List Nat), ls[i]? = some l → nm[i]? = some nw → Hj l = some (.lst (nts nw.2)) ∧ HL l = none ∧ l ≠ D) ⟨[], rfl, same_upd nD, by rw [upd_same]; rfl, fun i l nw h => by simp at h⟩ (fun j Hj _ ⟨_, _, sj, _⟩ => sj _ _ Ld) ?_ ?_
  · rintro j x H0 Hj hj ⟨ls, ll, sj, eD, hls⟩ ⟨rfl, k, v, hk, rfl⟩
    obtain ⟨⟨n, ws⟩, hn⟩ : ∃ nw, nm[j]? = some nw := ⟨nm[j]'(by omega), List.getElem?_eq_getElem (by omega)⟩
    obtain ⟨rfl, l, rfl, l1, l2, l3, l4⟩ := n0.2.2 j k v n ws hk hn
    have ldn : l ≠ p.dn := fun z => by rw [z, e4] at l4; cases l4
    have el := sj _ _ (fL _ _ (sA _ _ l4) ldn)
    dsimp only [gName]
    refine ⟨rfl, yesT ?_⟩
    try simp only [L2.start, List.map_cons, List.map_nil, List.length_cons, List.length_nil, List.replicate_succ, List.replicate_zero, List.cons_append, List.nil_append, List.set_cons_succ, List.set_cons_zero, Nat.reduceAdd, Nat.reduceSub, Nat.zero_add]
    refine ⟨_, rfl, ?_⟩
    refine ⟨_, rfl, p.x, C, dx0, _, _, rfl, sj _ _ L1, L.T.cl, L.T.n_by_name, rfl, _, rfl, p.dn, .ref l, rfl, .inl ⟨kvs, .inr n, .inr ⟨od, sj _ _ Ld⟩, rfl, (valV_at n0.nodup hk).symm⟩, ?_⟩
    refine ⟨l, _, rfl, .inl (SqL.of el), fun A nA => ?_⟩
    have sAA := same_upd (o := .lst (nts ws)) nA
    have nAD : A ≠ D := fun z => by rw [z, eD] at nA; cases nA
    have kz : (((kvs.take j).zip ls).map fun q => (q.1.1, V.ref q.2)).length = j := by rw [List.length_map, List.length_zip, List.length_take, ll]; omega
    have out : valV (((kvs.take j).zip ls).map fun q => (q.1.1, V.ref q.2)) (.inr n) = none := by
      refine valV_out (fun z => ?_)
      obtain ⟨q1, hq, e⟩ := List.mem_map.mp z
      obtain ⟨r, hr, rfl⟩ := List.mem_map.mp hq
      obtain ⟨i, hi⟩ := List.mem_iff_getElem?.mp (List.of_mem_zip hr).1
      have il : i < j := by
        have := (List.getElem?_eq_some_iff.mp hi).1
        rw [List.length_take] at this
        omega
      rw [List.getElem?_take_of_lt il] at hi
      have := (List.getElem?_inj (i := i) (j := j) (l := kvs.map (·.1)) (by rw [List.length_map]; omega) n0.nodup).mp (by rw [List.getElem?_map, List.getElem?_map, hi, hk]; exact congrArg some e)
      omega
    refine ⟨_, .inr n, rfl, sAA _ _ eD, by rw [kz]; exact big_lt (by omega), ls ++ [A], by rw [List.length_append, ll]; rfl, fun y o e => ?_, ?_, fun i l' nw h1 h2 => ?_⟩
    · rw [upd_ne (ne_of_none e nD)]
      exact sAA _ _ (sj _ _ e)
    · rw [upd_same, putK_new _ out, List.take_add_one, hk, List.zip_append (by rw [List.length_take, ll]; omega), List.map_append]
      rfl
    · have key : Hj l' = some (.lst (nts nw.2)) ∧ l' ≠ A ∧ HL l' = none ∧ l' ≠ D ∨ l' = A ∧ nw.2 = ws := by
        by_cases c : i < ls.length
        · rw [List.getElem?_append_left c] at h1
          obtain ⟨b1, b2, b3⟩ := hls i l' nw h1 h2
          exact .inl ⟨b1, (fun z => by rw [z, nA] at b1; cases b1), b2, b3⟩
        · have i0 : i = ls.length := by
            have := (List.getElem?_eq_some_iff.mp h1).1
            rw [List.length_append, List.length_cons, List.length_nil] at this
            omega
          rw [List.getElem?_append_right (by omega), i0, Nat.sub_self] at h1
          cases h1
          rw [i0, ll, hn] at h2
          cases h2
          exact .inr ⟨rfl, rfl⟩
      rcases key with ⟨b1, b2, b3, b4⟩ | ⟨rfl, b2⟩
      · exact ⟨by rw [upd_ne b4, upd_ne b2]; exact b1, b3, b4⟩
      · refine ⟨by rw [upd_ne nAD, upd_same, b2], ?_, nAD⟩
        cases e : HL l' with
        | none => rfl
        | some o => rw [sj _ _ e] at nA; cases nA
  rintro HN ⟨ls, ll, sN, eD, hls⟩
  refine ⟨sN _ _ Ld, ?_⟩
  have sB := bL _ sN
  have ndD : D ≠ p.dn := fun z => by rw [z, Ld] at nD; cases nD
  have eDB : (upd HN p.dn (.dK kvs)) D = _ := (upd_ne ndD).trans eD
  have hlB : ∀ (i : Nat) (l : Addr) (nw : Str × List Nat), ls[i]? = some l → nm[i]? = some nw → (upd HN p.dn (.dK kvs)) l = some (.lst (nts nw.2)) ∧ HL l = none ∧ l ≠ D := fun i l nw h1 h2 => by
    obtain ⟨b1, b2, b3⟩ := hls i l nw h1 h2
    exact ⟨by rw [upd_ne (fun z => by rw [z, Ld] at b2; cases b2)]; exact b1, b2, b3⟩
  generalize upd HN p.dn (.dK kvs) = HB at *
  refine ⟨_, rfl, p2.x, C, dx2, _, rfl, sB _ _ x10, L.T.cl, L.T.n_by_name, (by show 4 < 1000; decide), ?_⟩
  have nHD : H D = none := by
    have := nL _ nD
    cases e : H D with
    | none => rfl
    | some o => rw [sA _ _ e] at this; cases this
  have nn : ∀ {y : Addr}, HL y = none → H y = none := fun {y} h => by
    have := nL _ h
    cases e : H y with
    | none => rfl
    | some o => rw [sA _ _ e] at this; cases this
  have xdn : p2.x ≠ p.dn := fun z => by rw [z, e4] at nx; cases nx
  have a1dn : A1 ≠ p.dn := fun z => by rw [z, e4] at nHA1; cases nHA1
  have a2dn : A2 ≠ p.dn := fun z => by rw [z, e4] at nHA2; cases nHA2
  have LX := fL _ _ x10 xdn
  have LA1 := fL _ _ g10 a1dn
  have LA2 := fL _ _ h10 a2dn
  have dX : D ≠ p2.x := fun z => by rw [z, LX] at nD; cases nD
  have sF : Same H (upd HB p2.x (.ins C dx2 [("input_count", .int (m : Int)), ("made", .ref A1), ("depths", .ref A2), ("by_name", .ref D)])) := fun y o e => by
    rw [upd_ne (nxp e)]
    exact sB _ _ (sA _ _ e)
  refine ⟨_, rfl, q ⟨p2.x, A1, A2, D⟩ (upd HB p2.x (.ins C dx2 [("input_count", .int (m : Int)), ("made", .ref A1), ("depths", .ref A2), ("by_name", .ref D)])) sF ⟨nx, nHA1, nHA2, nHD⟩ (fun Z2 hZ2 => ?_)⟩
  have nZ : ∀ {y : Addr}, H y = none → y ∉ Z2 := fun h z => (hZ2 _ z).1 h
  have lk : (((kvs.take kvs.length).zip ls).map fun q => (q.1.1, V.ref q.2)).length = nm.length := by rw [List.length_map, List.length_zip, List.take_length, ll]; omega
  refine ⟨fun z h => ?_, a21, ⟨nZ nx, nZ nHA1, nZ nHA2, nZ nHD⟩, dx2, ps, _, upd_same, (upd_ne a1x.symm).trans (sB _ _ g10), (upd_ne a2x.symm).trans (sB _ _ h10), (upd_ne dX).trans eDB, ⟨g1, fun i r g hi hg => ?_⟩, lk, n0.2.1, fun i k v n ws hi hn => ?_⟩
  · cases e : H z with
    | none => exact absurd e (hZ2 z h).1
    | some o => exact some_ne (sF _ _ e)
  · obtain ⟨w1, w2⟩ := g2 i r g hi hg
    refine ⟨fun z => ?_, sF _ _ w2⟩
    rcases (hZ2 _ z).2 with y | y
    · exact w1 y
    · simp only [List.mem_cons, List.not_mem_nil, or_false] at y
      rcases y with y | y | y | y
      · rw [y, e1] at w2; cases w2
      · rw [y, e2] at w2; cases w2
      · rw [y, e3] at w2; cases w2
      · rw [y, e4] at w2; cases w2
  · rw [List.getElem?_map, List.take_length] at hi
    cases hq : (kvs.zip ls)[i]? with
    | none => rw [hq] at hi; cases hi
    | some qq =>
      rw [hq] at hi
      cases hi
      obtain ⟨h1, h2⟩ := List.getElem?_zip_eq_some.mp hq
      obtain ⟨ek, _⟩ := n0.2.2 i qq.1.1 qq.1.2 n ws h1 hn
      obtain ⟨b1, b2, b3⟩ := hlB i _ _ h2 hn
      have lx : qq.2 ≠ p2.x := fun z => by rw [z, LX] at b2; cases b2
      exact ⟨ek, qq.2, rfl, nZ (nn b2), (fun z => by rw [z, LA1] at b2; cases b2), (fun z => by rw [z, LA2] at b2; cases b2), (upd_ne lx).trans b1⟩
end
end GZ
namespace MK
open PySem PySem.Spec
open GM (pow_pos' pow_s bits_pow bits_le_pow)
def wv : List Int → Int
  | [] => 0
  | d :: r => d * 2 ^ r.length + wv r
def isM (p d nx : Int) : Bool := decide (d ≠ 0) && decide (nx ≠ (if p = 0 then -d else d))
def fmS : Int → List Int → Nat
  | _, [] => 0
  | p, d :: r => if isM p d (r.headD 0) then 0 else fmS d r + 1
def Dig (ds : List Int) : Prop := ∀ d ∈ ds, d = 0 ∨ d = 1 ∨ d = -1
theorem wv_lt : ∀ ds : List Int, Dig ds → -(2 ^ ds.length) < wv ds ∧ wv ds < 2 ^ ds.length
  | [], _ => by decide
  | d :: r, h => by
    have ih := wv_lt r fun x hx => h x (List.mem_cons_of_mem _ hx)
    have hd := h d List.mem_cons_self
    have hp := pow_s r.length
    show -(2 ^ (r.length + 1)) < d * 2 ^ r.length + wv r ∧ d * 2 ^ r.length + wv r < 2 ^ (r.length + 1)
    rcases hd with z | z | z <;> subst z <;> omega
theorem fmS_le : ∀ (p : Int) (ds : List Int), fmS p ds ≤ ds.length
  | _, [] => Nat.le_refl _
  | p, d :: r => by
    have := fmS_le d r
    unfold fmS
    split <;> simp only [List.length_cons] <;> omega
theorem run_lemma : ∀ (ds : List Int) (s p c : Int), Dig ds → (s = 1 ∨ s = -1) → ((p = 0 ∧ c = s) ∨ (p ≠ 0 ∧ c = -s)) →
    fmS p (c :: ds) ≤ ds.length ∧ (2 : Int) ^ (ds.length - fmS p (c :: ds)) < 2 * (s * (s * 2 ^ ds.length + wv ds)) ∧ s * (s * 2 ^ ds.length + wv ds) < 2 ^ (ds.length - fmS p (c :: ds) + 1)
  | [], s, p, c, _, hs, hc => by
    have e : fmS p [c] = 0 := by
      unfold fmS isM
      rcases hc with ⟨h1, h2⟩ | ⟨h1, h2⟩
      · subst h1 h2
        rcases hs with z | z <;> subst z <;> decide
      · have n1 : ¬ p = 0 := h1
        rw [if_neg n1]
        subst h2
        rcases hs with z | z <;> subst z <;> decide
    rw [e]
    rcases hs with z | z <;> subst z <;> decide
  | d :: r, s, p, c, hd, hs, hc => by
    have hr : Dig r := fun x hx => hd x (List.mem_cons_of_mem _ hx)
    have hd0 := hd d List.mem_cons_self
    have hcv : c ≠ 0 ∧ (if p = 0 then -c else c) = -s := by
      rcases hc with ⟨h1, h2⟩ | ⟨h1, h2⟩
      · rw [if_pos h1]
        omega
      · rw [if_neg h1]
        omega
    have em : fmS p (c :: d :: r) = if d = -s then fmS c (d :: r) + 1 else 0 := by
      show (if isM p c d = true then 0 else fmS c (d :: r) + 1) = _
      unfold isM
      rw [hcv.2]
      by_cases e : d = -s
      · rw [if_pos e, decide_eq_false (show ¬ d ≠ -s from fun z => z e), Bool.and_false, if_neg Bool.false_ne_true]
      · rw [if_neg e, decide_eq_true (show d ≠ -s from e), decide_eq_true hcv.1]
        rfl
    have hlen : (d :: r).length = r.length + 1 := rfl
    have hw : wv (d :: r) = d * 2 ^ r.length + wv r := rfl
    have hp := pow_s r.length
    by_cases e : d = -s
    · rw [em, if_pos e]
      obtain ⟨i1, i2, i3⟩ := run_lemma r s c d hr hs (.inr ⟨hcv.1, e⟩)
      have ev : s * (s * 2 ^ (d :: r).length + wv (d :: r)) = s * (s * 2 ^ r.length + wv r) := by
        rw [hlen, hw, e, hp]
        rcases hs with z | z <;> subst z <;> omega
      rw [ev, hlen]
      refine ⟨by omega, ?_, ?_⟩
      · rw [show r.length + 1 - (fmS c (d :: r) + 1) = r.length - fmS c (d :: r) by omega]
        exact i2
      · rw [show r.length + 1 - (fmS c (d :: r) + 1) = r.length - fmS c (d :: r) by omega]
        exact i3
    · rw [em, if_neg e, hlen, hw, Nat.sub_zero]
      have hb := wv_lt r hr
      have hpp := pow_pos' r.length
      have hp2 := pow_s (r.length + 1)
      refine ⟨Nat.zero_le _, ?_, ?_⟩
      · rcases hs with z | z <;> subst z <;> rcases hd0 with y | y | y <;> subst y <;> omega
      · rcases hs with z | z <;> subst z <;> rcases hd0 with y | y | y <;> subst y <;> omega
/-- the guess: all digits 0, or the worth's size between two powers -/
theorem guess_lemma : ∀ ds : List Int, Dig ds → (fmS 0 ds = ds.length ∧ wv ds = 0) ∨
    (fmS 0 ds < ds.length ∧ (2 : Int) ^ (ds.length - 1 - fmS 0 ds) < 2 * (wv ds).natAbs ∧ ((wv ds).natAbs : Int) < 2 ^ (ds.length - fmS 0 ds))
  | [], _ => .inl ⟨rfl, rfl⟩
  | d :: r, h => by
    have hr : Dig r := fun x hx => h x (List.mem_cons_of_mem _ hx)
    have hd0 := h d List.mem_cons_self
    have hlen : (d :: r).length = r.length + 1 := rfl
    by_cases e : d = 0
    · have ef : fmS 0 (d :: r) = fmS 0 r + 1 := by
        subst e
        rfl
      have ew : wv (d :: r) = wv r := by
        subst e
        show 0 * 2 ^ r.length + wv r = wv r
        omega
      rw [ef, ew, hlen]
      rcases guess_lemma r hr with ⟨i1, i2⟩ | ⟨i1, i2, i3⟩
      · exact .inl ⟨by omega, i2⟩
      · refine .inr ⟨by omega, ?_, ?_⟩
        · rw [show r.length + 1 - 1 - (fmS 0 r + 1) = r.length - 1 - fmS 0 r by omega]
          exact i2
        · rw [show r.length + 1 - (fmS 0 r + 1) = r.length - fmS 0 r by omega]
          exact i3
    · have hs : d = 1 ∨ d = -1 := by omega
      obtain ⟨i1, i2, i3⟩ := run_lemma r d 0 d hr hs (.inl ⟨rfl, rfl⟩)
      have hb := wv_lt r hr
      have hpp := pow_pos' r.length
      have ea : d * (d * 2 ^ r.length + wv r) = ((wv (d :: r)).natAbs : Int) := by
        show d * (d * 2 ^ r.length + wv r) = ((d * 2 ^ r.length + wv r).natAbs : Int)
        rcases hs with z | z <;> subst z <;> omega
      rw [ea] at i2 i3
      refine .inr ⟨by omega, ?_, ?_⟩
      · rw [hlen, show r.length + 1 - 1 - fmS 0 (d :: r) = r.length - fmS 0 (d :: r) by omega]
        exact i2
      · rw [hlen, show r.length + 1 - fmS 0 (d :: r) = r.length - fmS 0 (d :: r) + 1 by omega]
        exact i3
/-! ### bits -/
theorem bits_zero : PySem.Builtin.Int.intBits 0 = 0 := rfl
theorem guess_zeros {ds : List Int} (h : Dig ds) : ∃ m : Nat, m ≤ 1 ∧ fmS 0 ds + m + PySem.Builtin.Int.intBits ((wv ds).natAbs : Int) = ds.length ∧ (fmS 0 ds = ds.length ↔ wv ds = 0) := by
  rcases guess_lemma ds h with ⟨h1, h2⟩ | ⟨h1, h2, h3⟩
  · refine ⟨0, by omega, ?_, fun _ => h2, fun _ => h1⟩
    rw [h1, h2]
    show ds.length + 0 + 0 = ds.length
    rfl
  · have n0 : wv ds ≠ 0 := fun z => by
      rw [z] at h2
      have := pow_pos' (ds.length - 1 - fmS 0 ds)
      simp at h2
      omega
    have hb : PySem.Builtin.Int.intBits ((wv ds).natAbs : Int) ≤ ds.length - fmS 0 ds := bits_pow (by
      have e : ((2 ^ (ds.length - fmS 0 ds) : Nat) : Int) = (2 : Int) ^ (ds.length - fmS 0 ds) := PySem.W.kbt_cast _
      omega)
    have hl : ds.length - fmS 0 ds - 1 ≤ PySem.Builtin.Int.intBits ((wv ds).natAbs : Int) := by
      by_cases z : ds.length - 1 - fmS 0 ds = 0
      · omega
      · obtain ⟨e, he⟩ : ∃ e, ds.length - 1 - fmS 0 ds = e + 1 := ⟨ds.length - 1 - fmS 0 ds - 1, by omega⟩
        rw [he, pow_s] at h2
        have e2 : ((2 ^ e : Nat) : Int) = (2 : Int) ^ e := PySem.W.kbt_cast _
        have := bits_le_pow (x := (wv ds).natAbs) (e := e) (by omega)
        omega
    refine ⟨ds.length - fmS 0 ds - PySem.Builtin.Int.intBits ((wv ds).natAbs : Int), by omega, by omega, fun z => by omega, fun z => absurd z n0⟩
end MK
namespace GZ
open PySem PySem.Spec PyProof.Rows L2
/-! ### marks and zeros of bits -/
def dgB (ps : List (Bool × Bool)) : List Int := ps.map fun p => bi p.1 - bi p.2
theorem dig_dgB (ps : List (Bool × Bool)) : MK.Dig (dgB ps) := fun d hd => by
  obtain ⟨⟨a, b⟩, _, rfl⟩ := List.mem_map.mp hd
  cases a <;> cases b <;> decide
theorem wv_dgB : ∀ ps : List (Bool × Bool), MK.wv (dgB ps) = (numB (ps.map (·.1)) : Int) - numB (ps.map (·.2))
  | [] => rfl
  | (a, b) :: r => by
    have ih := wv_dgB r
    show (bi a - bi b) * 2 ^ (dgB r).length + MK.wv (dgB r) = _
    rw [ih, List.map_cons, List.map_cons, numB_cons, numB_cons]
    have l1 : (dgB r).length = r.length := by unfold dgB; rw [List.length_map]
    rw [l1, List.length_map, List.length_map]
    have e : ((2 ^ r.length : Nat) : Int) = (2 : Int) ^ r.length := PySem.W.kbt_cast _
    generalize 2 ^ r.length = P at e ⊢
    rw [← e]
    cases a <;> cases b <;> simp [bi] <;> omega
def mS : Bool → List (Bool × Bool) → List Bool
  | _, [] => []
  | pd, p :: r => (xor p.1 p.2 && !(xor (r.headD (false, false)).1 (r.headD (false, false)).2 && xor (xor p.1 (r.headD (false, false)).1) pd)) :: mS (xor p.1 p.2) r
theorem mS_fm : ∀ (ps : List (Bool × Bool)) (p : Int) (pd : Bool), (p = 0 ↔ pd = false) → fst1 (mS pd ps) = MK.fmS p (dgB ps)
  | [], _, _, _ => rfl
  | (a, b) :: r, p, pd, h => by
    have ih := mS_fm r (bi a - bi b) (xor a b) (by cases a <;> cases b <;> decide)
    have hd : (dgB r).headD 0 = bi (r.headD (false, false)).1 - bi (r.headD (false, false)).2 := by
      cases r with
      | nil => rfl
      | cons q r => rfl
    have ei : MK.isM p (bi a - bi b) ((dgB r).headD 0) = (xor a b && !(xor (r.headD (false, false)).1 (r.headD (false, false)).2 && xor (xor a (r.headD (false, false)).1) pd)) := by
      rw [hd]
      generalize r.headD (false, false) = q
      obtain ⟨c, d⟩ := q
      unfold MK.isM
      cases pd with
      | false =>
        rw [h.mpr rfl]
        cases a <;> cases b <;> cases c <;> cases d <;> decide
      | true =>
        have : ¬ p = 0 := fun z => by have := h.mp z; cases this
        rw [if_neg this]
        cases a <;> cases b <;> cases c <;> cases d <;> decide
    show fst1 (_ :: mS (xor a b) r) = if MK.isM p (bi a - bi b) ((dgB r).headD 0) = true then 0 else MK.fmS (bi a - bi b) (dgB r) + 1
    rw [ei, ← ih]
    generalize (xor a b && !(xor (r.headD (false, false)).1 (r.headD (false, false)).2 && xor (xor a (r.headD (false, false)).1) pd)) = x
    cases x <;> rfl
theorem mS_range (f : Nat → Bool) (L : List (Bool × Bool)) (hf : ∀ i, i < L.length → f i = (xor (L.getD i (false, false)).1 (L.getD i (false, false)).2 && !(xor (L.getD (i + 1) (false, false)).1 (L.getD (i + 1) (false, false)).2 && xor (xor (L.getD i (false, false)).1 (L.getD (i + 1) (false, false)).1) (if i = 0 then false else xor (L.getD (i - 1) (false, false)).1 (L.getD (i - 1) (false, false)).2)))) : ∀ n k, k + n = L.length → mS (if k = 0 then false else xor (L.getD (k - 1) (false, false)).1 (L.getD (k - 1) (false, false)).2) (L.drop k) = (List.range' k n).map f
  | 0, k, h => by
    rw [List.drop_eq_nil_of_le (by omega)]
    rfl
  | n + 1, k, h => by
    have ih := mS_range f L hf n (k + 1) (by omega)
    have hk : k < L.length := by omega
    rw [List.drop_eq_getElem_cons hk, List.range'_succ, List.map_cons, ← ih, hf k hk]
    have g0 : L.getD k (false, false) = L[k] := by simp [List.getD, List.getElem?_eq_getElem hk]
    have g1 : (L.drop (k + 1)).headD (false, false) = L.getD (k + 1) (false, false) := by
      by_cases c : k + 1 < L.length
      · rw [List.drop_eq_getElem_cons c]
        simp [List.getD, List.getElem?_eq_getElem c]
      · rw [List.drop_eq_nil_of_le (by omega)]
        simp [List.getD, List.getElem?_eq_none (show L.length ≤ k + 1 by omega)]
    rw [if_neg (by omega : ¬ k + 1 = 0), show k + 1 - 1 = k from rfl, g0]
    have em : ∀ (pd : Bool) (p : Bool × Bool) (r : List (Bool × Bool)), mS pd (p :: r) = (xor p.1 p.2 && !(xor (r.headD (false, false)).1 (r.headD (false, false)).2 && xor (xor p.1 (r.headD (false, false)).1) pd)) :: mS (xor p.1 p.2) r := fun _ _ _ => rfl
    rw [em, g1]
theorem zip_getD {os ts : List Bool} (h : os.length = ts.length) (i : Nat) : ((os.zip ts).getD i (false, false)).1 = os.getD i false ∧ ((os.zip ts).getD i (false, false)).2 = ts.getD i false := by
  simp only [List.getD]
  by_cases c : i < os.length
  · have hz : i < (os.zip ts).length := by rw [List.length_zip]; omega
    rw [List.getElem?_eq_getElem hz, List.getElem?_eq_getElem c, List.getElem?_eq_getElem (by omega : i < ts.length), List.getElem_zip]
    exact ⟨rfl, rfl⟩
  · rw [List.getElem?_eq_none (by rw [List.length_zip]; omega), List.getElem?_eq_none (by omega : os.length ≤ i), List.getElem?_eq_none (by omega : ts.length ≤ i)]
    exact ⟨rfl, rfl⟩
theorem mark_fm {os ts : List Bool} (h : os.length = ts.length) : fst1 (markB os ts) = MK.fmS 0 (dgB (os.zip ts)) := by
  have lz : (os.zip ts).length = os.length := by rw [List.length_zip]; omega
  have r := mS_range (mkB os ts) (os.zip ts) (fun i _ => by
    obtain ⟨a1, a2⟩ := zip_getD h i
    obtain ⟨b1, b2⟩ := zip_getD h (i + 1)
    obtain ⟨c1, c2⟩ := zip_getD h (i - 1)
    rw [a1, a2, b1, b2, c1, c2]
    rfl) os.length 0 (by omega)
  rw [List.drop_zero, if_pos rfl, ← List.range_eq_range'] at r
  have e : markB os ts = mS false (os.zip ts) := r.symm
  rw [e]
  exact mS_fm _ 0 false ⟨fun _ => rfl, fun _ => rfl⟩
theorem mark_zeros {os ts : List Bool} (h : os.length = ts.length) (l : numB ts ≤ numB os) : ∃ k : Nat, k ≤ 1 ∧ fst1 (markB os ts) + k + Builtin.Int.intBits ((numB os - numB ts : Nat) : Int) = os.length := by
  obtain ⟨k, hk, e, _⟩ := MK.guess_zeros (dig_dgB (os.zip ts))
  have lz : (dgB (os.zip ts)).length = os.length := by unfold dgB; rw [List.length_map, List.length_zip]; omega
  rw [← mark_fm h, lz, wv_dgB, List.map_fst_zip (by omega), List.map_snd_zip (by omega), show (((numB os : Int) - numB ts).natAbs : Int) = ((numB os - numB ts : Nat) : Int) by omega] at e
  exact ⟨k, hk, e⟩
theorem fst1_bits (bs : List Bool) : fst1 bs + Builtin.Int.intBits (numB bs : Int) = bs.length := by
  rcases numB_fst1 bs with ⟨h1, h2⟩ | ⟨h1, h2, h3⟩
  · rw [h1, h2]
    rfl
  · have a := GM.bits_pow h3
    have b := GM.bits_le_pow h2
    omega
/-! ### the parts' numbers, at any later net -/
def Later (gs : List Gt) (P : (List Nat → List Bool) → Prop) : Prop := ∀ (g : List Gt) (n : Nat), Ext 24 gs g n → ∀ vals : List Bool, vals.length = 24 → P fun W => W.map (wb vals g)
theorem Later.step {gs g1 : List Gt} {n : Nat} {P : (List Nat → List Bool) → Prop} (h : Later gs P) (e : Ext 24 gs g1 n) : Later g1 P := fun g k e' vals hv => h g _ (e.trans e') vals hv
theorem numB_one (b : Bool) : numB [b] = b.toNat := by cases b <;> rfl
theorem WL.len {m n : Nat} {gs : List Gt} {s : List Gt × List Nat} {f : (Nat → Bool) → List Bool} (h : WL m gs n s f) : s.2.length = (f (wb (List.replicate m false) gs)).length := by
  have := congrArg List.length (h.val (List.replicate m false) List.length_replicate)
  rw [List.length_map] at this
  exact this
theorem P_zero {gs : List Gt} {ws : List Nat} {k : Nat} (hw : ∀ w ∈ ws, w < 24 + gs.length) : Ext 24 gs (zeroW 24 gs ws k).1 (3 * ws.length + 1 + k * (ws.length + 2)) ∧ (zeroW 24 gs ws k).2.length = k ∧ (∀ w ∈ (zeroW 24 gs ws k).2, w < 24 + (zeroW 24 gs ws k).1.length) ∧ Later (zeroW 24 gs ws k).1 fun B => numB (B (zeroW 24 gs ws k).2) = fst1 (B ws) % 2 ^ k := by
  have Z := zeroW_ok (k := k) hw
  refine ⟨Z.ext, by rw [Z.len, List.length_map]; unfold downs; rw [List.length_reverse, List.length_range], Z.lt, fun g n e vals hv => ?_⟩
  show numB ((zeroW 24 gs ws k).2.map (wb vals g)) = fst1 (ws.map (wb vals g)) % 2 ^ k
  rw [e.wbs hv Z.lt, Z.val vals hv, numB_downs, (Z.ext.trans e).wbs hv hw]
theorem P_left {gs : List Gt} {os bs : List Nat} (ho : ∀ w ∈ os, w < 24 + gs.length) (hb : ∀ w ∈ bs, w < 24 + gs.length) : Ext 24 gs (lefW 24 gs os bs).1 ((3 * os.length + 1) * (bs.length + 1) + bs.length + 2) ∧ (lefW 24 gs os bs).2.length = os.length ∧ (∀ w ∈ (lefW 24 gs os bs).2, w < 24 + (lefW 24 gs os bs).1.length) ∧ Later (lefW 24 gs os bs).1 fun B => numB (B (lefW 24 gs os bs).2) = numB (B os) * 2 ^ numB (B bs) % 2 ^ os.length := by
  obtain ⟨x, l, t, v⟩ := lefW_ok ho hb
  refine ⟨x, l, t, fun g n e vals hv => ?_⟩
  show numB ((lefW 24 gs os bs).2.map (wb vals g)) = numB (os.map (wb vals g)) * 2 ^ numB (bs.map (wb vals g)) % 2 ^ os.length
  rw [e.wbs hv t, v vals hv, (x.trans e).wbs hv ho, (x.trans e).wbs hv hb]
theorem P_less {gs : List Gt} {os ts : List Nat} (hl : os.length = ts.length) (ho : ∀ w ∈ os, w < 24 + gs.length) (ht : ∀ w ∈ ts, w < 24 + gs.length) : Ext 24 gs (lessW 24 gs os ts).1 (5 * os.length + 1) ∧ (lessW 24 gs os ts).2 < 24 + (lessW 24 gs os ts).1.length ∧ Later (lessW 24 gs os ts).1 fun B => numB (B [(lessW 24 gs os ts).2]) = if numB (B os) < numB (B ts) then 1 else 0 := by
  have W := lessW_ok hl ho ht
  refine ⟨W.ext, W.lt, fun g n e vals hv => ?_⟩
  show numB [wb vals g (lessW 24 gs os ts).2] = if numB (os.map (wb vals g)) < numB (ts.map (wb vals g)) then 1 else 0
  rw [numB_one, e.wb hv W.lt, W.val vals hv, lessB_num (by rw [List.length_map, List.length_map]; exact hl), (W.ext.trans e).wbs hv ho, (W.ext.trans e).wbs hv ht]
  by_cases c : numB (os.map (wb vals gs)) < numB (ts.map (wb vals gs)) <;> simp [c]
theorem P_shift {gs : List Gt} {os bs : List Nat} (ho : ∀ w ∈ os, w < 24 + gs.length) (hb : ∀ w ∈ bs, w < 24 + gs.length) : Ext 24 gs (shiW 24 gs os bs).1 ((4 * os.length + 4) * (bs.length + 1) + bs.length + 2) ∧ (shiW 24 gs os bs).2.1.length = os.length ∧ (∀ w ∈ (shiW 24 gs os bs).2.1, w < 24 + (shiW 24 gs os bs).1.length) ∧ (shiW 24 gs os bs).2.2 < 24 + (shiW 24 gs os bs).1.length ∧ Later (shiW 24 gs os bs).1 fun B => numB (B (shiW 24 gs os bs).2.1) = numB (B os) / 2 ^ numB (B bs) ∧ numB (B [(shiW 24 gs os bs).2.2]) = if numB (B os) % 2 ^ numB (B bs) = 0 then 0 else 1 := by
  obtain ⟨x, l, t, u, v⟩ := shiW_ok ho hb
  refine ⟨x, l, t, u, fun g n e vals hv => ?_⟩
  obtain ⟨v1, v2⟩ := v vals hv
  show numB ((shiW 24 gs os bs).2.1.map (wb vals g)) = numB (os.map (wb vals g)) / 2 ^ numB (bs.map (wb vals g)) ∧ numB [wb vals g (shiW 24 gs os bs).2.2] = if numB (os.map (wb vals g)) % 2 ^ numB (bs.map (wb vals g)) = 0 then 0 else 1
  rw [e.wbs hv t, v1, numB_one, e.wb hv u, v2, (x.trans e).wbs hv ho, (x.trans e).wbs hv hb]
  refine ⟨rfl, ?_⟩
  by_cases c : numB (os.map (wb vals gs)) % 2 ^ numB (bs.map (wb vals gs)) = 0 <;> simp [c]
theorem P_chosen {gs : List Gt} {w : Nat} {os ts : List Nat} (hl : os.length = ts.length) (h0 : w < 24 + gs.length) (ho : ∀ w ∈ os, w < 24 + gs.length) (ht : ∀ w ∈ ts, w < 24 + gs.length) : Ext 24 gs (chosenW 24 gs w (os.zip ts)).1 (3 * os.length + 1) ∧ (chosenW 24 gs w (os.zip ts)).2.length = os.length ∧ (∀ w' ∈ (chosenW 24 gs w (os.zip ts)).2, w' < 24 + (chosenW 24 gs w (os.zip ts)).1.length) ∧ Later (chosenW 24 gs w (os.zip ts)).1 fun B => numB (B (chosenW 24 gs w (os.zip ts)).2) = if numB (B [w]) = 1 then numB (B os) else numB (B ts) := by
  have W := chosenW_ok (ps := os.zip ts) h0 (fun p hp => ⟨ho _ (List.of_mem_zip hp).1, ht _ (List.of_mem_zip hp).2⟩)
  have lz : (os.zip ts).length = os.length := by rw [List.length_zip]; omega
  have x := W.ext
  rw [lz] at x
  refine ⟨x, by rw [W.len, List.length_map, lz], W.lt, fun g n e vals hv => ?_⟩
  show numB ((chosenW 24 gs w (os.zip ts)).2.map (wb vals g)) = if numB [wb vals g w] = 1 then numB (os.map (wb vals g)) else numB (ts.map (wb vals g))
  rw [e.wbs hv W.lt, W.val vals hv, map_zipC _ _ _ _ hl, numB_one, (x.trans e).wb hv h0, (x.trans e).wbs hv ho, (x.trans e).wbs hv ht]
  cases wb vals gs w <;> simp
theorem P_sum {gs : List Gt} {os ts : List Nat} {c : Nat} (hl : os.length = ts.length) (ho : ∀ w ∈ os, w < 24 + gs.length) (ht : ∀ w ∈ ts, w < 24 + gs.length) (hc : c < 24 + gs.length) : Ext 24 gs (sumW 24 gs os ts c).1 (5 * os.length) ∧ (sumW 24 gs os ts c).2.length = os.length + 1 ∧ (∀ w ∈ (sumW 24 gs os ts c).2, w < 24 + (sumW 24 gs os ts c).1.length) ∧ Later (sumW 24 gs os ts c).1 fun B => numB (B (sumW 24 gs os ts c).2) = numB (B os) + numB (B ts) + numB (B [c]) := by
  have W := sumW_ok hl ho ht hc
  refine ⟨W.ext, by rw [W.len, sumB_len (by rw [List.length_map, List.length_map]; exact hl), List.length_map], W.lt, fun g n e vals hv => ?_⟩
  show numB ((sumW 24 gs os ts c).2.map (wb vals g)) = numB (os.map (wb vals g)) + numB (ts.map (wb vals g)) + numB [wb vals g c]
  rw [e.wbs hv W.lt, W.val vals hv, sumB_num (by rw [List.length_map, List.length_map]; exact hl), numB_one, (W.ext.trans e).wb hv hc, (W.ext.trans e).wbs hv ho, (W.ext.trans e).wbs hv ht]
theorem P_quick {gs g1 : List Gt} {os ts ws : List Nat} {c : Nat} (h : QF 24 gs g1 os ts c ws) (hl : os.length = ts.length) (ho : ∀ w ∈ os, w < 24 + gs.length) (ht : ∀ w ∈ ts, w < 24 + gs.length) (hc : c < 24 + gs.length) : Later g1 fun B => numB (B ws) = numB (B os) + numB (B ts) + numB (B [c]) := by
  obtain ⟨x, l, t, v, _⟩ := h
  intro g n e vals hv
  show numB (ws.map (wb vals g)) = numB (os.map (wb vals g)) + numB (ts.map (wb vals g)) + numB [wb vals g c]
  rw [e.wbs hv t, v vals hv, sumB_num (by rw [List.length_map, List.length_map]; exact hl), numB_one, (x.trans e).wb hv hc, (x.trans e).wbs hv ho, (x.trans e).wbs hv ht]
theorem P_times {gs : List Gt} {os ts : List Nat} (ho : ∀ w ∈ os, w < 24 + gs.length) (ht : ∀ w ∈ ts, w < 24 + gs.length) (h0 : 0 < os.length) : Ext 24 gs (timW 24 gs os ts).1 (6 * os.length * ts.length + 1) ∧ (timW 24 gs os ts).2.length = os.length + ts.length ∧ (∀ w ∈ (timW 24 gs os ts).2, w < 24 + (timW 24 gs os ts).1.length) ∧ Later (timW 24 gs os ts).1 fun B => numB (B (timW 24 gs os ts).2) = numB (B os) * numB (B ts) := by
  obtain ⟨x, l, t, v⟩ := timW_ok ho ht h0
  refine ⟨x, l, t, fun g n e vals hv => ?_⟩
  show numB ((timW 24 gs os ts).2.map (wb vals g)) = numB (os.map (wb vals g)) * numB (ts.map (wb vals g))
  rw [e.wbs hv t, v vals hv, (x.trans e).wbs hv ho, (x.trans e).wbs hv ht]
theorem P_mark {gs : List Gt} {os ts : List Nat} (hl : os.length = ts.length) (h0 : 0 < os.length) (ho : ∀ w ∈ os, w < 24 + gs.length) (ht : ∀ w ∈ ts, w < 24 + gs.length) : Ext 24 gs (markW 24 gs os ts).1 (6 * os.length) ∧ (markW 24 gs os ts).2.length = os.length ∧ (∀ w ∈ (markW 24 gs os ts).2, w < 24 + (markW 24 gs os ts).1.length) ∧ Later (markW 24 gs os ts).1 fun B => B (markW 24 gs os ts).2 = markB (B os) (B ts) := by
  have W := markW_ok hl h0 ho ht
  refine ⟨W.ext, by rw [W.len]; unfold markB; rw [List.length_map, List.length_range, List.length_map], W.lt, fun g n e vals hv => ?_⟩
  show (markW 24 gs os ts).2.map (wb vals g) = markB (os.map (wb vals g)) (ts.map (wb vals g))
  rw [e.wbs hv W.lt, W.val vals hv, (W.ext.trans e).wbs hv ho, (W.ext.trans e).wbs hv ht]
theorem P_raise {gs : List Gt} {os : List Nat} {c : Nat} (ho : ∀ w ∈ os, w < 24 + gs.length) (hc : c < 24 + gs.length) : Ext 24 gs (raiW 24 gs os c).1 (2 * os.length) ∧ (raiW 24 gs os c).2.length = os.length + 1 ∧ (∀ w ∈ (raiW 24 gs os c).2, w < 24 + (raiW 24 gs os c).1.length) ∧ Later (raiW 24 gs os c).1 fun B => numB (B (raiW 24 gs os c).2) = numB (B os) + numB (B [c]) := by
  have W := raiW_ok ho hc
  refine ⟨W.ext, raiW_len ho hc, W.lt, fun g n e vals hv => ?_⟩
  show numB ((raiW 24 gs os c).2.map (wb vals g)) = numB (os.map (wb vals g)) + numB [wb vals g c]
  rw [e.wbs hv W.lt, W.val vals hv, raiB_num, numB_one, (W.ext.trans e).wb hv hc, (W.ext.trans e).wbs hv ho]
theorem P_fixed {gs : List Gt} {b : Nat} (hb : b ≤ 1) : Ext 24 gs (gs ++ [.fi b]) 1 ∧ 24 + gs.length < 24 + (gs ++ [Gt.fi b]).length ∧ Later (gs ++ [.fi b]) fun B => numB (B [24 + gs.length]) = b := by
  have x : Ext 24 gs (gs ++ [.fi b]) 1 := .fixed hb
  refine ⟨x, len1, fun g n e vals hv => ?_⟩
  show numB [wb vals g (24 + gs.length)] = b
  rw [numB_one, e.wb hv len1, wb_fixed (hv ▸ rfl)]
  rcases (show b = 0 ∨ b = 1 by omega) with z | z <;> subst z <;> rfl
theorem P_not {gs : List Gt} {os : List Nat} (ho : ∀ w ∈ os, w < 24 + gs.length) : Ext 24 gs (notW 24 gs os).1 os.length ∧ (notW 24 gs os).2.length = os.length ∧ (∀ w ∈ (notW 24 gs os).2, w < 24 + (notW 24 gs os).1.length) ∧ Later (notW 24 gs os).1 fun B => numB (B (notW 24 gs os).2) + numB (B os) + 1 = 2 ^ os.length := by
  have W := notW_ok ho
  refine ⟨W.ext, by rw [W.len, List.length_map], W.lt, fun g n e vals hv => ?_⟩
  show numB ((notW 24 gs os).2.map (wb vals g)) + numB (os.map (wb vals g)) + 1 = 2 ^ os.length
  have h := numB_not (os.map (wb vals gs))
  rw [List.map_map, List.length_map] at h
  rw [e.wbs hv W.lt, W.val vals hv, (W.ext.trans e).wbs hv ho]
  exact h
theorem cut1_from (ws : List Nat) (h : 1 ≤ ws.length) : cutV (nts ws) (some 1) none = nts (ws.drop 1) := cutN_from ws 1 h
theorem cut_5 (ws : List Nat) (h : 5 ≤ ws.length) : cutV (nts ws) none (some 5) = nts (ws.take 5) := cutN_to ws 5 h
theorem cut_5_11 (ws : List Nat) (h : 11 ≤ ws.length) : cutV (nts ws) (some 5) (some 11) = nts ((ws.drop 5).take 6) := by
  unfold cutV nts
  rw [show HT.sIx (ws.map fun (a : Nat) => V.int (a : Int)).length 0 (some 5) = 5 from (HT.sIx_nat _ _ 5).trans (by rw [List.length_map]; omega), show HT.sIx (ws.map fun (a : Nat) => V.int (a : Int)).length (ws.map fun (a : Nat) => V.int (a : Int)).length (some 11) = 11 from (HT.sIx_nat _ _ 11).trans (by rw [List.length_map]; omega), List.map_take, List.map_drop]
structure Fc (o t z n bk mo g s a f e y k r pd bo ra : Nat) : Prop where
  back : bk = o
  more : mo = 0
  norm : n / 2 ^ 15 = 1 ↔ 0 < o
  great : g = max o t
  small : s = min o t
  apart : a = g - s
  zeros : z + Builtin.Int.intBits (o : Int) = 16
  bare : r + Builtin.Int.intBits (a : Int) = 16
  marks : k ≤ r ∧ r ≤ k + 1
  raised : ra = g + (if o < t then 1 else 0)
  prod : pd = (f + e) * y
  both : bo = (f + e) * y
  fb : f < 2 ^ 60
  eb : e < 2 ^ 60
theorem fc_of {bo bt bg bs bS bM : List Bool} {z n bk mo l nn no bi f e y q t1 t2 pd bo' k r ra : Nat} (lo : bo.length = 16) (lg : bg.length = 16) (ls : bs.length = 16) (lS : bS.length = 17)
    (u3 : z = fst1 bo % 2 ^ 5) (u4 : no = 0) (u5 : bi = 1) (u6 : n = numB bo * 2 ^ z % 2 ^ 16) (u7 : l = if numB bo < numB bt then 1 else 0) (u8 : bk = n / 2 ^ z ∧ mo = if n % 2 ^ z = 0 then 0 else 1)
    (u9 : numB bg = if l = 1 then numB bt else numB bo) (u10 : numB bs = if l = 1 then numB bo else numB bt) (u11 : nn + numB bs + 1 = 2 ^ 16) (u12 : numB bS = numB bg + nn + bi)
    (u17 : q = f + e + no) (u18 : pd = q * y) (u19 : t1 = f * y) (u20 : t2 = e * y) (u21 : bo' = t1 + t2 + no) (u29 : bM = markB bg bs) (u30 : k = fst1 bM % 2 ^ 5) (u31 : r = fst1 (bS.drop 1) % 2 ^ 5) (u34 : ra = numB bg + l) (uf : f < 2 ^ 60) (ue : e < 2 ^ 60) :
    Fc (numB bo) (numB bt) z n bk mo (numB bg) (numB bs) (numB (bS.drop 1)) f e y k r pd bo' ra := by
  have A := fst1_bits bo
  have A2 := fst1_le bo
  have hz : z = fst1 bo := by rw [u3]; exact Nat.mod_eq_of_lt (by omega)
  have hpz : 0 < 2 ^ z := Nat.pow_pos (by decide)
  have hn : n = numB bo * 2 ^ z ∧ (n / 2 ^ 15 = 1 ↔ 0 < numB bo) := by
    rcases numB_fst1 bo with ⟨h1, h2⟩ | ⟨h1, h2, h3⟩
    · rw [u6, h1, Nat.zero_mul]
      exact ⟨rfl, by decide⟩
    · rw [lo] at h1 h2 h3
      have e1 : 2 ^ (16 - fst1 bo) * 2 ^ z = 2 ^ 16 := by rw [hz, ← Nat.pow_add]; congr 1; omega
      have e2 : 2 ^ (16 - 1 - fst1 bo) * 2 ^ z = 2 ^ 15 := by rw [hz, ← Nat.pow_add]; congr 1; omega
      have m1 : numB bo * 2 ^ z < 2 ^ 16 := by rw [← e1]; exact Nat.mul_lt_mul_of_pos_right h3 hpz
      have m2 : 2 ^ 15 ≤ numB bo * 2 ^ z := by rw [← e2]; exact Nat.mul_le_mul_right _ h2
      have m3 : 0 < numB bo := Nat.lt_of_lt_of_le (Nat.pow_pos (by decide)) h2
      have e3 : n = numB bo * 2 ^ z := by rw [u6]; exact Nat.mod_eq_of_lt m1
      refine ⟨e3, fun _ => m3, fun _ => ?_⟩
      rw [e3]
      omega
  have hb : bk = numB bo := by rw [u8.1, hn.1]; exact Nat.mul_div_cancel _ hpz
  have hm : mo = 0 := by rw [u8.2, hn.1, Nat.mul_mod_left, if_pos rfl]
  have hl : (numB bo < numB bt ∧ l = 1) ∨ (¬ numB bo < numB bt ∧ l = 0) := by
    by_cases c : numB bo < numB bt
    · exact .inl ⟨c, by rw [u7, if_pos c]⟩
    · exact .inr ⟨c, by rw [u7, if_neg c]⟩
  have hgs : numB bg = max (numB bo) (numB bt) ∧ numB bs = min (numB bo) (numB bt) := by
    rcases hl with ⟨c, e⟩ | ⟨c, e⟩
    · rw [u9, u10, e, if_pos rfl, if_pos rfl]
      omega
    · rw [u9, u10, e, if_neg (by decide), if_neg (by decide)]
      omega
  have bl := numB_lt bg
  rw [lg] at bl
  have ha : numB (bS.drop 1) = numB bg - numB bs := by
    match bS, lS, u12 with
    | b :: rr, lS, u12 =>
      have lr : rr.length = 16 := by simpa using lS
      rw [numB_cons, lr] at u12
      have br := numB_lt rr
      rw [lr] at br
      show numB rr = _
      cases b <;> simp at u12 <;> omega
  have lT : (bS.drop 1).length = 16 := by rw [List.length_drop, lS]
  have B1 := fst1_bits (bS.drop 1)
  have B2 := fst1_le (bS.drop 1)
  have hr : r = fst1 (bS.drop 1) := by rw [u31]; exact Nat.mod_eq_of_lt (by omega)
  obtain ⟨k1, h1, h2⟩ := mark_zeros (os := bg) (ts := bs) (by omega) (by omega)
  rw [← u29, ← ha] at h2
  have hk : k = fst1 bM := by rw [u30]; exact Nat.mod_eq_of_lt (by omega)
  refine ⟨hb, hm, hn.2, hgs.1, hgs.2, ha, by omega, by omega, ⟨by omega, by omega⟩, ?_, ?_, ?_, uf, ue⟩
  · rw [u34]
    rcases hl with ⟨c, e⟩ | ⟨c, e⟩
    · rw [if_pos c, e]
    · rw [if_neg c, e]
  · rw [u18, u17, u4, Nat.add_zero]
  · rw [u21, u19, u20, u4, Nat.add_zero, Nat.add_mul]
def F90 (bs : List (List Bool)) : Prop := ∃ o t z n bk mo g s a f e y k r pd bo ra : Nat, bs.map numB = [o, t, z, n, bk, mo, g, s, a, f, e, y, k, r, pd, bo, ra] ∧ Fc o t z n bk mo g s a f e y k r pd bo ra
section
variable {P : Program} {w : World} {K : PySem.W.Frag} {mg : Str → Option Value} {base : Heap}
variable {C : Addr} {za : Nat → Addr} {zl : Nat → FuncData}
theorem rgV_nts {a n : Nat} : rgV (a : Int) ((a : Int) + (n : Int)) = nts ((List.range n).map fun i => a + i) := by
  unfold rgV nts
  rw [show ((a : Int) + (n : Int) - (a : Int)).toNat = n by omega, List.map_map]
  refine List.map_congr_left fun i _ => ?_
  show V.int ((a : Int) + (i : Int)) = V.int ((a + i : Nat) : Int)
  rw [show (a : Int) + (i : Int) = ((a + i : Nat) : Int) by omega]
theorem kp_none {b : Addr} {H H' : Hp} (k : Keep b H H') (hb : H' b ≠ none) {a : Addr} (h : H' a = none) : H a = none := by
  cases e : H a with
  | none => rfl
  | some o =>
    by_cases c : a = b
    · rw [c] at h
      exact absurd h hb
    · rw [k a o e c] at h
      cases h
def spValues : Sp := fun vs H Q _ => ∃ (b : Addr) (c : Int) (n k : Nat), vs = [.ref b, .int (n : Int), .int (k : Int)] ∧ BoxAt c H b ∧ c ≤ 900000000 ∧ n ≤ 100 ∧ k ≤ 64 ∧
  ∀ (us : List Int) (D : Addr) (H' : Hp), us.length = n → H D = none → H' D = some (.lst (us.map V.int)) → BoxAt (c + 10 * n) H' b → Keep b H H' → Q (.ref D) H'
theorem bx2n {c : Int} {H : Hp} {b : Addr} (h : BoxAt (c + 2 ^ (2 - 1)) H b) : BoxAt (c + 2) H b := h
theorem ok__law_values (B : Bl mg) (L : LL K mg C za zl) : FnOk P w K mg base CX0 3 (za 21) (zl 21) ["_law_box_here", "_law_inputs", "_law_cases"] spValues := by
  have G__law_take : FnOk P w K mg base CX0 2 (za 20) (zl 20) ["_law_box_here", "_law_size"] (spTake 2) := (ok_take L.F__law_take L.b__law_take L.m__law_take B 2).mono (by decide)
  refine L.F__law_values.ok sc__law_values (fun vs H Q E h => ?_) (fun cdv A outer s H vs Q E hr h => ?_)
  · obtain ⟨b, c, n, k, rfl, _⟩ := h
    rfl
  obtain ⟨b, c, n, k, rfl, hB, hc, hn, hk, q⟩ := h
  refine ⟨_, (pss_cons (ps_set (i := 3) sc__law_values.nd rfl (.inl rfl) (pe_lst pa_nil))
    (pss_cons (ps_for PassesOwn.never rfl (pi_range1 (by rfl) B.range (pa_cons (pv 1) pa_nil)) (pg_name (i := 4) sc__law_values.nd rfl (.inl rfl)) (pss_cons (ps_set (i := 5) sc__law_values.nd rfl (.inl rfl) pe_int)
    (pss_cons (ps_for PassesOwn.never rfl (pi_range1 (by rfl) B.range (pa_cons (pe_op op_add (pe_op op_fdiv (pv 2) pe_int) pe_int) pa_nil)) (pg_name (i := 6) sc__law_values.nd rfl (.inl rfl)) (pss_one (ps_set (i := 5) sc__law_values.nd rfl (.inl rfl) (pe_op op_orL (pe_op op_shlN (pv 5) pe_int) (pe_call G__law_take hr (by rfl) L.m__law_take L.F__law_take.kp L.b__law_take .nil pass0 (pa_cons (pv 0) (pa_cons (pe_op op_oneShl pe_int pe_int) pa_nil)))))))
    (pss_one (ps_expr (pe_bm PySem.F.plainAttrs_list PySem.F.slot_list_append PySem.F.type_list_append mt_append (pv 3) (pa_cons (pe_op op_andM (pv 5) (pe_op op_sub (pe_op op_oneShl pe_int (pv 2)) pe_int)) pa_nil)))))))
    (pss_one (ps_ret (pv 3))))), ?_⟩
  refine ⟨Nat.zero_le _, fun D nD => ?_⟩
  have nDb : D ≠ b := (hB.ne nD).symm
  try simp only [L2.start, List.map_cons, List.map_nil, List.length_cons, List.length_nil, List.replicate_succ, List.replicate_zero, List.cons_append, List.nil_append, List.set_cons_succ, List.set_cons_zero, Nat.reduceAdd, Nat.reduceSub, Nat.zero_add]
  dsimp only [gName]
  try simp only [L2.start, List.map_cons, List.map_nil, List.length_cons, List.length_nil, List.replicate_succ, List.replicate_zero, List.cons_append, List.nil_append, List.set_cons_succ, List.set_cons_zero, Nat.reduceAdd, Nat.reduceSub, Nat.zero_add]
  refine ⟨_, rfl, _, rfl, by omega, by omega, ?_⟩
  rw [Int.toNat_natCast]
  refine for_range (n := n) (fun j σ H5 => ∃ (us : List Int) (y1 y2 y3 : Option V), σ = [some (.ref b), some (.int (n : Int)), some (.int (k : Int)), some (.ref D), y1, y2, y3] ∧ us.length = j ∧ H5 D = some (.lst (us.map V.int)) ∧ BoxAt (c + 10 * j) H5 b ∧ Keep b H H5) ⟨[], none, none, none, rfl, rfl, upd_same, (hB.same (same_upd nD)).mono (by omega), Keep.new nD⟩ ?_ ?_
  · rintro j σ H5 hj ⟨us, y1, y2, y3, rfl, lu, eD, B5, k5⟩
    dsimp only [gName]
    try simp only [L2.start, List.map_cons, List.map_nil, List.length_cons, List.length_nil, List.replicate_succ, List.replicate_zero, List.cons_append, List.nil_append, List.set_cons_succ, List.set_cons_zero, Nat.reduceAdd, Nat.reduceSub, Nat.zero_add]
    refine ⟨_, rfl, _, _, rfl, rfl, ⟨by decide, by decide⟩, _, _, rfl, rfl, ?_⟩
    obtain ⟨g, eg, g3⟩ : ∃ g : Nat, (k : Int) / 30 + 1 = (g : Int) ∧ g ≤ 3 := ⟨((k : Int) / 30 + 1).toNat, by omega, by omega⟩
    refine ⟨(k : Int) / 30 + 1, rfl, by omega, by omega, ?_⟩
    rw [eg, Int.toNat_natCast]
    refine for_range (n := g) (fun i σ H6 => ∃ (v : Int) (y3 : Option V), σ = [some (.ref b), some (.int (n : Int)), some (.int (k : Int)), some (.ref D), some (.int (0 + (j : Int))), some (.int v), y3] ∧ 0 ≤ v ∧ v < 2 ^ (30 * i) ∧ H6 D = some (.lst (us.map V.int)) ∧ BoxAt (c + 10 * j + 3 * i) H6 b ∧ Keep b H H6) ⟨0, y3, rfl, by decide, by decide, eD, B5.mono (by omega), k5⟩ ?_ ?_
    · rintro i σ H6 hi ⟨v, z3, rfl, v0, v1, eD6, B6, k6⟩
      have pv : (2 : Int) ^ (30 * i) ≤ 2 ^ 90 := GM.pow_le' (by omega)
      have pv' : ((2 ^ 90 : Nat) : Int) = 2 ^ 90 := PySem.W.kbt_cast 90
      try simp only [L2.start, List.map_cons, List.map_nil, List.length_cons, List.length_nil, List.replicate_succ, List.replicate_zero, List.cons_append, List.nil_append, List.set_cons_succ, List.set_cons_zero, Nat.reduceAdd, Nat.reduceSub, Nat.zero_add]
      refine ⟨_, rfl, _, 30, rfl, rfl, shl_ok (n := 90) (by omega) (by omega), _, rfl, 30, rfl, rfl, by decide, b, _, _, rfl, B6, by decide, by decide, by decide, by omega, by decide, fun r H7 u1 u2 B7 k7 => ?_⟩
      replace B7 := bx2n B7
      refine ⟨v, r, 30, rfl, rfl, ⟨v0, u1, u2⟩, ?_⟩
      try simp only [L2.start, List.map_cons, List.map_nil, List.length_cons, List.length_nil, List.replicate_succ, List.replicate_zero, List.cons_append, List.nil_append, List.set_cons_succ, List.set_cons_zero, Nat.reduceAdd, Nat.reduceSub, Nat.zero_add]
      refine ⟨_, _, rfl, by omega, ?_, k7 _ _ eD6 nDb, B7.mono (by omega), k6.trans k7⟩
      have e1 : (2 : Int) ^ (30 * (i + 1)) = 2 ^ (30 * i) * 2 ^ 30 := by rw [show 30 * (i + 1) = 30 * i + 30 by omega, Int.pow_add]
      rw [e1]
      have e2 : (2 : Int) ^ 30 = 1073741824 := by decide
      rw [e2] at u2 ⊢
      omega
    · rintro σ H6 ⟨v, z3, rfl, v0, v1, eD6, B6, k6⟩
      dsimp only
      refine ⟨_, rfl, .inl ⟨rfl, _, SqL.of eD6⟩, _, rfl, _, rfl, k, rfl, rfl, by omega, _, _, rfl, rfl, _, k, rfl, rfl, D, _, _, rfl, rfl, eD6, by rw [List.length_map]; exact big_lt (by omega), ?_⟩
      refine ⟨us ++ [v % 2 ^ k], _, _, _, rfl, by rw [List.length_append, lu]; rfl, ?_, BoxAt.mono (B6.at (upd_ne nDb.symm)) (by omega), fun y u e ny => ?_⟩
      · rw [upd_same, List.map_append]
        rfl
      · rw [upd_ne (ne_of_none e nD)]
        exact k6 _ _ e ny
  · rintro σ H5 ⟨us, y1, y2, y3, rfl, lu, eD, B5, k5⟩
    exact ⟨_, rfl, q us D H5 lu nD eD B5 k5⟩
def spNumber (K : PySem.W.Frag) : Sp := fun vs H Q _ => ∃ (t : Addr) (ds : List Int) (k : Nat), vs = [.ref t, .int (k : Int)] ∧ SqL K H t (ds.map V.int) ∧ Q (.int (wf (ds.map (tb · k)))) H
theorem ok__law_number (B : Bl mg) (L : LL K mg C za zl) : FnOk P w K mg base CX0 1 (za 22) (zl 22) ["_law_bits", "_law_case"] (spNumber K) := by
  refine L.F__law_number.ok sc__law_number (fun vs H Q E h => ?_) (fun cdv A outer s H vs Q E hr h => ?_)
  · obtain ⟨t, ds, k, rfl, _⟩ := h
    rfl
  obtain ⟨t, ds, k, rfl, hT, q⟩ := h
  refine ⟨_, (pss_cons (ps_set (i := 2) sc__law_number.nd rfl (.inl rfl) pe_int)
    (pss_cons (ps_for PassesOwn.never rfl (pi_list (pv 0)) (pg_name (i := 3) sc__law_number.nd rfl (.inl rfl)) (pss_one (ps_set (i := 2) sc__law_number.nd rfl (.inl rfl) (pe_op op_add (pe_op op_mul pe_int (pv 2)) (pe_op op_andM (pe_op op_shrN (pv 3) (pv 1)) pe_int)))))
    (pss_one (ps_ret (pv 2))))), ?_⟩
  refine ⟨_, rfl, t, rfl, ⟨_, hT⟩, ?_⟩
  refine for_it (walk_list (K := K) (a := t) (xs := ds.map V.int)) (fun j σ H9 => ∃ y : Option V, σ = [some (.ref t), some (.int (k : Int)), some (.int (wf ((ds.map (tb · k)).take j))), y] ∧ H9 = H) ⟨_, rfl, rfl⟩ (fun j σ H9 _ ⟨_, _, e⟩ => by rw [e]; exact hT) ?_ ?_
  · rintro j v σ H9 H10 hj ⟨y, rfl, rfl⟩ ⟨rfl, hz⟩
    obtain ⟨d, hd, rfl⟩ := at_int46 hz
    refine ⟨_, rfl, _, _, rfl, rfl, .inl ⟨by decide, by decide⟩, _, rfl, _, rfl, _, k, rfl, rfl, _, 1, rfl, rfl, _, _, rfl, rfl, ?_⟩
    refine ⟨some (.int d), ?_, rfl⟩
    rw [List.take_add_one, List.getElem?_map, hd]
    show _ = [some (V.ref t), some (.int (k : Int)), some (.int (wf ((ds.map (tb · k)).take j ++ [tb d k]))), _]
    rw [wf_snoc]
    rfl
  · rintro σ H9 ⟨y, rfl, rfl⟩
    rw [List.length_map, List.take_of_length_le (by rw [List.length_map]; exact Nat.le_refl _)]
    exact ⟨_, rfl, q⟩
/-! ### rows of wires handed to the law -/
def dW (t : Bool) (ws : List Nat) : PyData := bif t then .tuple (ws.map fun (a : Nat) => PyData.int (a : Int)) else .list (ws.map fun (a : Nat) => PyData.int (a : Int))
theorem dpa_nts {H : Hp} : ∀ ws : List Nat, DpAll K H (nts ws) (ws.map fun (a : Nat) => PyData.int (a : Int))
  | [] => .nil
  | a :: ws => .cons (.int _) (dpa_nts ws)
theorem dp_W {t : Bool} {H : Hp} {a : Addr} {ws : List Nat} (h : Sq2 t K H a (nts ws)) : Dp K H (.ref a) (dW t ws) := by
  cases t
  · exact .lst h (dpa_nts ws)
  · exact .tup h (dpa_nts ws)
def RowL (S : List Addr) (H : Hp) (R : Addr) (rs : List (List Nat)) : Prop := ∃ ls : List Addr, ls.length = rs.length ∧ (R ∉ S ∧ ∀ l ∈ ls, l ∉ S) ∧ H R = some (.tup (ls.map V.ref)) ∧ ∀ (i : Nat) (l : Addr) (ws : List Nat), ls[i]? = some l → rs[i]? = some ws → H l = some (.lst (nts ws))
theorem RowL.keepS {S T : List Addr} {H H' : Hp} {R : Addr} {rs : List (List Nat)} (h : RowL S H R rs) (k : KeepS T H H') (n : ∀ y ∈ T, y ∈ S) : RowL S H' R rs := by
  obtain ⟨ls, l, a, e, f⟩ := h
  exact ⟨ls, l, a, k.1 _ _ e (fun z => a.1 (n _ z)), fun i y ws hi hr => k.1 _ _ (f i y ws hi hr) (fun z => a.2 y (List.mem_of_getElem? hi) (n _ z))⟩
theorem RowL.same {S : List Addr} {H H' : Hp} {R : Addr} {rs : List (List Nat)} (h : RowL S H R rs) (s : Same H H') : RowL S H' R rs := h.keepS (T := []) (.ofSame s) (fun _ z => nomatch z)
theorem RowL.at {S : List Addr} {H : Hp} {R : Addr} {rs : List (List Nat)} (h : RowL S H R rs) {i : Nat} {ws : List Nat} (hi : rs[i]? = some ws) : ∃ l, l ∉ S ∧ (∃ us, H R = some (.tup us) ∧ us[i]? = some (.ref l) ∧ us.length = rs.length) ∧ H l = some (.lst (nts ws)) := by
  obtain ⟨ls, l, a, e, f⟩ := h
  have c : i < ls.length := by
    have := (List.getElem?_eq_some_iff.mp hi).1
    omega
  have e1 : ls[i]? = some ls[i] := List.getElem?_eq_getElem c
  exact ⟨ls[i], a.2 _ (List.getElem_mem c), ⟨_, e, by rw [List.getElem?_map, e1]; rfl, by rw [List.length_map, l]⟩, f i _ ws e1 hi⟩
def netS (b : Addr) (p : NetP) : List Addr := [b, p.lm, p.ld, p.dn]
theorem netS_nin {C b : Addr} {c : Int} {Z : List Addr} {H : Hp} {p : NetP} {m : Nat} {gs : List Gt} {nm : List (Str × List Nat)} (h : NetAt C Z H p m gs nm) (hB : BoxAt c H b) {a : Addr} (n : H a = none) : a ∉ netS b p := by
  obtain ⟨_, _, _, dx, ps, kvs, e1, e2, e3, e4, _⟩ := h
  obtain ⟨_, _, _, eb, _⟩ := hB
  intro z
  simp only [netS, List.mem_cons, List.not_mem_nil, or_false] at z
  rcases z with z | z | z | z <;> subst z
  · rw [eb] at n; cases n
  · rw [e2] at n; cases n
  · rw [e3] at n; cases n
  · rw [e4] at n; cases n
def GoodR (F : List (List Bool) → Prop) (gs : List Gt) (rs : List (List Nat)) : Prop := (∀ ws ∈ rs, ws.length ≤ 100 ∧ ∀ w ∈ ws, w < 24 + gs.length) ∧ ∀ vals : List Bool, vals.length = 24 → F (rs.map fun ws => ws.map (wb vals gs))
theorem GoodR.ext {F : List (List Bool) → Prop} {gs gs' : List Gt} {n : Nat} {rs : List (List Nat)} (h : GoodR F gs rs) (e : Ext 24 gs gs' n) : GoodR F gs' rs := by
  have l := e.len
  refine ⟨fun ws hw => ⟨(h.1 ws hw).1, fun w m => by have := (h.1 ws hw).2 w m; omega⟩, fun vals hv => ?_⟩
  have key : (rs.map fun ws => ws.map (wb vals gs')) = rs.map fun ws => ws.map (wb vals gs) := List.map_congr_left fun ws hw => e.wbs hv (h.1 ws hw).2
  rw [key]
  exact h.2 vals hv
/-! ### names -/
def letS (lt : Str) (j : Nat) : Str := ⟨#[lt.cps.getD j 0]⟩
theorem let_at {lt : Str} {i : Nat} {y : V} (h : ((lt.cps[i]?).map fun c => V.str ⟨#[c]⟩) = some y) : y = .str (letS lt i) ∧ i < lt.cps.size := by
  cases q : lt.cps[i]? with
  | none => rw [q] at h; cases h
  | some c =>
    rw [q] at h
    have lt' := (Array.getElem?_eq_some_iff.mp q).1
    refine ⟨?_, lt'⟩
    have : lt.cps.getD i 0 = c := by
      simp [Array.getD, lt', (Array.getElem?_eq_some_iff.mp q).2]
    unfold letS
    rw [this]
    exact (Option.some.inj h).symm
def nmS (lt : Str) (j a : Nat) : Str := letS lt j ++ (Str.ofString (toString ((a : Nat) : Int)))
def partN (lt : Str) (n a j : Nat) : List Str := ((List.range a).flatMap fun i => (List.range n).map fun q => nmS lt q i) ++ (List.range j).map fun q => nmS lt q a
def rw2 (rss : List (List (List Nat))) (q i : Nat) : List Nat := (rss.getD i []).getD q []
def partM (lt : Str) (rss : List (List (List Nat))) (n a j : Nat) : List (Str × List Nat) := ((List.range a).flatMap fun i => (List.range n).map fun q => (nmS lt q i, rw2 rss q i)) ++ (List.range j).map fun q => (nmS lt q a, rw2 rss q a)
theorem partM_fst (lt : Str) (rss : List (List (List Nat))) (n a j : Nat) : (partM lt rss n a j).map (·.1) = partN lt n a j := by
  unfold partM partN
  rw [List.map_append, List.map_flatMap, List.map_map]
  congr 1
  · congr 1
    funext i
    rw [List.map_map]
    rfl
theorem partM_snoc (lt : Str) (rss : List (List (List Nat))) (n a j : Nat) : partM lt rss n a (j + 1) = partM lt rss n a j ++ [(nmS lt j a, rw2 rss j a)] := by
  unfold partM
  rw [List.range_succ, List.map_append, ← List.append_assoc]
  rfl
theorem partM_next (lt : Str) (rss : List (List (List Nat))) (n a : Nat) : partM lt rss n (a + 1) 0 = partM lt rss n a n := by
  unfold partM
  rw [List.range_succ, List.flatMap_append, List.range_zero, List.map_nil, List.append_nil, List.flatMap_singleton]
theorem partM_len (lt : Str) (rss : List (List (List Nat))) (n a j : Nat) : (partM lt rss n a j).length = a * n + j := by
  unfold partM
  rw [List.length_append, List.length_map, List.length_range]
  congr 1
  induction a with
  | zero => simp
  | succ a ih => rw [List.range_succ, List.flatMap_append, List.length_append, ih, List.flatMap_singleton, List.length_map, List.length_range, Nat.succ_mul]
theorem partM_mem {lt : Str} {rss : List (List (List Nat))} {n a j i q : Nat} (hi : i < a) (hq : q < n) : (nmS lt q i, rw2 rss q i) ∈ partM lt rss n a j := List.mem_append.mpr (.inl (List.mem_flatMap.mpr ⟨i, List.mem_range.mpr hi, List.mem_map.mpr ⟨q, List.mem_range.mpr hq, rfl⟩⟩))
theorem partM_in {lt : Str} {rss : List (List (List Nat))} {n a : Nat} {x : Str × List Nat} (h : x ∈ partM lt rss n a 0) : ∃ i q, i < a ∧ q < n ∧ x = (nmS lt q i, rw2 rss q i) := by
  rcases List.mem_append.mp h with z | z
  · obtain ⟨i, hi, z⟩ := List.mem_flatMap.mp z
    obtain ⟨q, hq, e⟩ := List.mem_map.mp z
    exact ⟨i, q, List.mem_range.mp hi, List.mem_range.mp hq, e.symm⟩
  · simp at z
/-! ### what a run tells, as a dict -/
theorem valV_keys {kvs : List (Key × V)} {k : Key} (h : k ∉ kvs.map (·.1)) : valV kvs k = none := valV_out h
theorem mergeK_nodup : ∀ (kvs acc : List (Key × V)), ((acc ++ kvs).map (·.1)).Nodup → mergeK acc kvs = acc ++ kvs
  | [], acc, _ => (List.append_nil _).symm
  | (k, v) :: kvs, acc, h => by
    have e : putK acc k v = acc ++ [(k, v)] := putK_new _ (valV_out (fun z => by
      rw [List.map_append, List.map_cons, List.nodup_append] at h
      exact h.2.2 k z k (by simp) rfl))
    show mergeK (putK acc k v) kvs = _
    rw [e, mergeK_nodup kvs (acc ++ [(k, v)]) (by rw [List.append_assoc]; exact h), List.append_assoc]
    rfl
def TAt (H : Hp) (d : Addr) (nm : List (Str × List Nat)) (rs : List Int) : Prop := ∃ kvs, H d = some (.dK kvs) ∧ ∀ x ∈ nm, ∃ l, valV kvs (.inr x.1) = some (.ref l) ∧ H l = some (.lst ((x.2.map fun a => rs.getD a 0).map V.int))
theorem TAt.same {H H' : Hp} {d : Addr} {nm : List (Str × List Nat)} {rs : List Int} (h : TAt H d nm rs) (s : Same H H') : TAt H' d nm rs := by
  obtain ⟨kvs, e, f⟩ := h
  exact ⟨kvs, s _ _ e, fun x hx => by
    obtain ⟨l, a, b⟩ := f x hx
    exact ⟨l, a, s _ _ b⟩⟩
theorem run_dict {H0 H : Hp} {t : Addr} {ys : List Str} {nm : List (Str × List Nat)} {rs : List Int} (h : RunAt H0 H t ys nm rs) (hp : ys.Perm (nm.map (·.1))) (hn : (nm.map (·.1)).Nodup) :
    ∃ (ps : List Addr) (kvs : List (Key × V)), SqL K H t (ps.map V.ref) ∧ Paired (fun p kv => SqT K H p [kV kv.1, kv.2]) ps kvs ∧ mergeK [] kvs = kvs ∧ ∀ x ∈ nm, ∃ l, valV kvs (.inr x.1) = some (.ref l) ∧ H l = some (.lst ((x.2.map fun a => rs.getD a 0).map V.int)) := by
  obtain ⟨ts, lt, et, hts⟩ := h
  have key : ∀ (ts : List Addr) (ys : List Str), ts.length = ys.length → (∀ (i : Nat) (u : Addr) (n : Str), ts[i]? = some u → ys[i]? = some n → ∃ (ws : List Nat) (l : Addr), (n, ws) ∈ nm ∧ H0 l = none ∧ H u = some (.tup [.str n, .ref l]) ∧ H l = some (.lst ((ws.map fun a => rs.getD a 0).map V.int))) →
      ∃ kvs : List (Key × V), Paired (fun p kv => SqT K H p [kV kv.1, kv.2]) ts kvs ∧ kvs.map (·.1) = ys.map Sum.inr ∧ ∀ kv ∈ kvs, ∃ (n : Str) (ws : List Nat) (l : Addr), kv = (.inr n, .ref l) ∧ (n, ws) ∈ nm ∧ H l = some (.lst ((ws.map fun a => rs.getD a 0).map V.int)) := by
    intro ts
    induction ts with
    | nil =>
      intro ys hl _
      cases ys with
      | nil => exact ⟨[], .nil, rfl, fun _ z => nomatch z⟩
      | cons y ys => cases hl
    | cons u ts ih =>
      intro ys hl hf
      cases ys with
      | nil => cases hl
      | cons y ys =>
        obtain ⟨kvs, a, b, c⟩ := ih ys (Nat.succ.inj hl) (fun i v n h1 h2 => hf (i + 1) v n h1 h2)
        obtain ⟨ws, l, e1, _, e2, e3⟩ := hf 0 u y rfl rfl
        refine ⟨(.inr y, .ref l) :: kvs, .cons (.inl (.inl e2)) a, by rw [List.map_cons, List.map_cons, b], fun kv hk => ?_⟩
        rcases List.mem_cons.mp hk with z | z
        · exact ⟨y, ws, l, z, e1, e3⟩
        · exact c kv z
  obtain ⟨kvs, a, b, c⟩ := key ts ys lt hts
  have ny : ys.Nodup := hp.nodup_iff.mpr hn
  have nk : (kvs.map (·.1)).Nodup := by
    rw [b]
    exact List.Pairwise.map _ (fun a b n z => n (Sum.inr.inj z)) ny
  refine ⟨ts, kvs, SqL.of et, a, mergeK_nodup kvs [] nk, fun x hx => ?_⟩
  have hy : x.1 ∈ ys := hp.mem_iff.mpr (List.mem_map.mpr ⟨x, hx, rfl⟩)
  have hk : (Sum.inr x.1 : Key) ∈ kvs.map (·.1) := by
    rw [b]
    exact List.mem_map.mpr ⟨_, hy, rfl⟩
  obtain ⟨kv, hkv, ek⟩ := List.mem_map.mp hk
  obtain ⟨i, hi, ei⟩ := List.getElem_of_mem hkv
  obtain ⟨n, ws, l, e1, e2, e3⟩ := c kv hkv
  rw [e1] at ek
  have en : n = x.1 := Sum.inr.inj ek
  have ew : ws = x.2 := by
    have h1 : (x.1, ws) ∈ nm := en ▸ e2
    have key2 : ∀ (l : List (Str × List Nat)), (l.map (·.1)).Nodup → ∀ a b c, (a, b) ∈ l → (a, c) ∈ l → b = c := by
      intro l
      induction l with
      | nil => intro _ a b c z; exact nomatch z
      | cons q l ih =>
        intro hd a b c h1 h2
        rw [List.map_cons, List.nodup_cons] at hd
        rcases List.mem_cons.mp h1 with z1 | z1 <;> rcases List.mem_cons.mp h2 with z2 | z2
        · rw [← z1] at z2
          exact (Prod.mk.inj z2).2.symm
        · exact absurd (List.mem_map.mpr ⟨_, z2, rfl⟩) (by rw [← z1] at hd; exact hd.1)
        · exact absurd (List.mem_map.mpr ⟨_, z1, rfl⟩) (by rw [← z2] at hd; exact hd.1)
        · exact ih hd.2 a b c z1 z2
    exact key2 nm hn x.1 ws x.2 h1 hx
  refine ⟨l, ?_, ew ▸ e3⟩
  exact valV_at nk (by rw [List.getElem?_eq_getElem hi, ei, e1, en])
/-! ### rows as data -/
def dRw (rs : List (List Nat)) : PyData := .tuple (rs.map fun ws => .list (ws.map fun (a : Nat) => PyData.int (a : Int)))
theorem units65 {k : Nat} {A : Around} (r : Room k A) : A.units + 65 < cLine := by have := r.un; omega
theorem lay_ints : ∀ ws : List Nat, PyData.canLayAll0 (ws.map fun (a : Nat) => PyData.int (a : Int)) = true ∧ PyData.depthAll (ws.map fun (a : Nat) => PyData.int (a : Int)) = 0
  | [] => ⟨rfl, rfl⟩
  | a :: ws => by
    obtain ⟨h1, h2⟩ := lay_ints ws
    exact ⟨by simp [PyData.canLayAll0, PyData.canLay0, h1], by simp [PyData.depthAll, PyData.depth, h2]⟩
theorem lay_rw : ∀ rs : List (List Nat), PyData.canLayAll0 (rs.map fun ws => .list (ws.map fun (a : Nat) => PyData.int (a : Int))) = true ∧ PyData.depthAll (rs.map fun ws => .list (ws.map fun (a : Nat) => PyData.int (a : Int))) ≤ 1
  | [] => ⟨rfl, by decide⟩
  | a :: ws => by
    obtain ⟨h1, h2⟩ := lay_rw ws
    obtain ⟨h3, h4⟩ := lay_ints a
    exact ⟨by simp [PyData.canLayAll0, PyData.canLay0, h1, h3], by simp only [List.map_cons, PyData.depthAll, PyData.depth, h4]; omega⟩
theorem lay_rws : ∀ rss : List (List (List Nat)), PyData.canLayAll0 (rss.map dRw) = true ∧ PyData.depthAll (rss.map dRw) ≤ 2
  | [] => ⟨rfl, by decide⟩
  | a :: ws => by
    obtain ⟨h1, h2⟩ := lay_rws ws
    obtain ⟨h3, h4⟩ := lay_rw a
    exact ⟨by simp [dRw, PyData.canLayAll0, PyData.canLay0, h1, h3], by simp only [List.map_cons, PyData.depthAll, PyData.depth, dRw]; omega⟩
theorem shp_rws (rss : List (List (List Nat))) : PySem.SeqAt.shaped (.list (rss.map dRw)) = true := by
  obtain ⟨h1, h2⟩ := lay_rws rss
  unfold PySem.SeqAt.shaped
  refine Bool.and_eq_true_iff.mpr ⟨h1, decide_eq_true ?_⟩
  show PyData.depthAll (rss.map dRw) + 1 ≤ 64
  omega
theorem RowL.dp {S : List Addr} {H : Hp} {R : Addr} {rs : List (List Nat)} (h : RowL S H R rs) : Dp K H (.ref R) (dRw rs) := by
  obtain ⟨ls, l, _, e, f⟩ := h
  have key : ∀ (ls : List Addr) (rs : List (List Nat)), ls.length = rs.length → (∀ (i : Nat) (l : Addr) (ws : List Nat), ls[i]? = some l → rs[i]? = some ws → H l = some (.lst (nts ws))) → DpAll K H (ls.map V.ref) (rs.map fun ws => .list (ws.map fun (a : Nat) => PyData.int (a : Int))) := by
    intro ls
    induction ls with
    | nil =>
      intro rs hl _
      cases rs with
      | nil => exact .nil
      | cons y ys => cases hl
    | cons u ts ih =>
      intro rs hl hf
      cases rs with
      | nil => cases hl
      | cons y ys => exact .cons (.lst (SqL.of (hf 0 u y rfl rfl)) (dpa_nts y)) (ih ys (Nat.succ.inj hl) (fun i a b h1 h2 => hf (i + 1) a b h1 h2))
  exact .tup (.inl (.inl e)) (key ls rs l f)
theorem no_none (rss : List (List (List Nat))) : ((rss.map dRw).any fun z => PyData.eqv z .none) = false := by
  rw [List.any_map]
  refine List.any_eq_false.mpr fun x _ => ?_
  show ¬ PyData.eqv (dRw x) .none = true
  unfold dRw
  simp [PyData.eqv]
/-! ### one case of the run -/
theorem num_case {k : Nat} (h : k < 64) (gs : List Gt) (us : List Int) (ws : List Nat) : wf (((ws.map fun a => (rv (2 ^ 64 - 1) (us.map (· % 2 ^ 64)) gs).getD a 0)).map (tb · k)) = (numB (ws.map (wb (bitsOf us k) gs)) : Int) := by
  rw [← wf_num, List.map_map, List.map_map]
  congr 1
  exact List.map_congr_left fun a _ => rv_case h gs us a
end
section
variable {P : Program} {w : World} {K : PySem.W.Frag} {mg : Str → Option Value} {base : Heap}
variable {C : Addr} {za : Nat → Addr} {zl : Nat → FuncData}
/-! ### the lists that the law lays -/
def Ws90 (p : NetP) (H0 H : Hp) (L : List (Addr × List Nat)) : Prop := ∀ q ∈ L, H q.1 = some (.lst (nts q.2)) ∧ q.1 ∉ [p.lm, p.ld] ∧ H0 q.1 = none
theorem Ws90.keep {p : NetP} {H0 H H' : Hp} {L : List (Addr × List Nat)} (h : Ws90 p H0 H L) (k : KeepS [p.lm, p.ld] H H') : Ws90 p H0 H' L := fun q hq => ⟨k.1 _ _ (h q hq).1 (h q hq).2.1, (h q hq).2⟩
theorem Ws90.one {p : NetP} {H0 H : Hp} {L : List (Addr × List Nat)} {D : Addr} {ws : List Nat} (h : Ws90 p H0 H L) (e : H D = some (.lst (nts ws))) (n : D ∉ [p.lm, p.ld]) (n0 : H0 D = none) : Ws90 p H0 H ((D, ws) :: L) := fun q hq => by
  rcases List.mem_cons.mp hq with z | z
  · rw [z]
    exact ⟨e, n, n0⟩
  · exact h q z
/-- a new list, made beside the net -/
theorem Ws90.mk {C : Addr} {Z : List Addr} {p : NetP} {m : Nat} {gs : List Gt} {nm : List (Str × List Nat)} {H0 H : Hp} {L : List (Addr × List Nat)} {D : Addr} {ws : List Nat} (h : Ws90 p H0 H L) (N : NetAt C Z H p m gs nm) (k : KeepS [p.lm, p.ld] H0 H) (n : H D = none) :
    NetAt C Z (upd H D (.lst (nts ws))) p m gs nm ∧ KeepS [p.lm, p.ld] H0 (upd H D (.lst (nts ws))) ∧ Ws90 p H0 (upd H D (.lst (nts ws))) ((D, ws) :: L) :=
  ⟨N.same (same_upd n), k.trans (.ofSame (same_upd n)), Ws90.one (h.keep (.ofSame (same_upd n))) upd_same (N.nin n) (ks_none k n)⟩
/-- a list told by a part -/
theorem Ws90.to {C : Addr} {Z : List Addr} {p : NetP} {m : Nat} {gs : List Gt} {nm : List (Str × List Nat)} {H0 H H' : Hp} {L : List (Addr × List Nat)} {D : Addr} {ws : List Nat} (h : Ws90 p H0 H L) (N : NetAt C Z H p m gs nm) (k : KeepS [p.lm, p.ld] H0 H) (k' : KeepS [p.lm, p.ld] H H') (n : H D = none) (e : H' D = some (.lst (nts ws))) :
    KeepS [p.lm, p.ld] H0 H' ∧ Ws90 p H0 H' ((D, ws) :: L) := ⟨k.trans k', (h.keep k').one e (N.nin n) (ks_none k n)⟩
theorem Ws90.at {p : NetP} {H0 H : Hp} {L : List (Addr × List Nat)} (h : Ws90 p H0 H L) {q : Addr × List Nat} (m : q ∈ L) : Sq2 false K H q.1 (nts q.2) := SqL.of (h q m).1
theorem Ws90.put {p : NetP} {H0 H : Hp} {L : List (Addr × List Nat)} {R : Addr} {o : HO} (h : Ws90 p H0 H L) (e : (∃ kvs, H R = some (.dK kvs)) ∨ H R = none) : Ws90 p H0 (upd H R o) L := fun q hq => by
  have n : q.1 ≠ R := fun z => by
    have := (h q hq).1
    rw [z] at this
    rcases e with ⟨kvs, e⟩ | e <;> rw [e] at this <;> cases this
  exact ⟨by rw [upd_ne n]; exact (h q hq).1, (h q hq).2⟩
def nm90 : List Str := ["ones", "others", "zeros", "norm", "back", "more", "great", "small", "apart", "few", "some", "by", "marks", "bare", "product", "both", "raised"]
def kv90 (ls : List Addr) : List (Key × V) := (nm90.zip ls).map fun q => (.inr q.1, .ref q.2)
theorem keys90 : ∀ n, n < 18 → ((nm90.take n).map (Sum.inr : Str → Key)).Nodup := by decide +kernel
theorem netsw {C : Addr} {a b : Addr} {Z : List Addr} {H : Hp} {p : NetP} {m : Nat} {gs : List Gt} {nm : List (Str × List Nat)} (h : NetAt C (a :: b :: Z) H p m gs nm) : NetAt C (b :: a :: Z) H p m gs nm := by
  have sw : ∀ y : Addr, y ∈ b :: a :: Z ↔ y ∈ a :: b :: Z := fun y => by
    simp only [List.mem_cons]
    constructor <;> rintro (z | z | z) <;> simp [z]
  obtain ⟨c1, c2, ⟨d1, d2, d3, d4⟩, dx, ps, kvs, e1, e2, e3, e4, ⟨g1, g2⟩, n1, n2, n3⟩ := h
  refine ⟨fun z hz => c1 z ((sw z).mp hz), c2, ⟨fun z => d1 ((sw _).mp z), fun z => d2 ((sw _).mp z), fun z => d3 ((sw _).mp z), fun z => d4 ((sw _).mp z)⟩, dx, ps, kvs, e1, e2, e3, e4, ⟨g1, fun i q g hi hg => ⟨fun z => (g2 i q g hi hg).1 ((sw _).mp z), (g2 i q g hi hg).2⟩⟩, n1, n2, fun i k v n ws hi hn => ?_⟩
  obtain ⟨ek, l, ev, l1, l2⟩ := n3 i k v n ws hi hn
  exact ⟨ek, l, ev, fun z => l1 ((sw _).mp z), l2⟩
theorem mid1 : ((nm90.drop 0 |>.take 6).map (Sum.inr : Str → Key)).Nodup := by decide +kernel
theorem mid2 : ((nm90.drop 6 |>.take 6).map (Sum.inr : Str → Key)).Nodup := by decide +kernel
theorem mrn2 (a6 a7 a8 a9 a10 a11 : Addr) : mergeK ([] : List (Key × V)) [(.inr "great", .ref a6), (.inr "small", .ref a7), (.inr "apart", .ref a8), (.inr "few", .ref a9), (.inr "some", .ref a10), (.inr "by", .ref a11)] = [(.inr "great", .ref a6), (.inr "small", .ref a7), (.inr "apart", .ref a8), (.inr "few", .ref a9), (.inr "some", .ref a10), (.inr "by", .ref a11)] := mergeK_nodup [(.inr "great", .ref a6), (.inr "small", .ref a7), (.inr "apart", .ref a8), (.inr "few", .ref a9), (.inr "some", .ref a10), (.inr "by", .ref a11)] [] mid2
theorem mid3 : ((nm90.drop 12 |>.take 2).map (Sum.inr : Str → Key)).Nodup := by decide +kernel
theorem mrn3 (a12 a13 : Addr) : mergeK ([] : List (Key × V)) [(.inr "marks", .ref a12), (.inr "bare", .ref a13)] = [(.inr "marks", .ref a12), (.inr "bare", .ref a13)] := mergeK_nodup [(.inr "marks", .ref a12), (.inr "bare", .ref a13)] [] mid3
theorem mid4 : ((nm90.drop 14 |>.take 3).map (Sum.inr : Str → Key)).Nodup := by decide +kernel
theorem mrn4 (a14 a15 a16 : Addr) : mergeK ([] : List (Key × V)) [(.inr "product", .ref a14), (.inr "both", .ref a15), (.inr "raised", .ref a16)] = [(.inr "product", .ref a14), (.inr "both", .ref a15), (.inr "raised", .ref a16)] := mergeK_nodup [(.inr "product", .ref a14), (.inr "both", .ref a15), (.inr "raised", .ref a16)] [] mid4
structure St90 (C : Addr) (Z : List Addr) (p : NetP) (gs : List Gt) (H0 H : Hp) (L : List (Addr × List Nat)) (R : Addr) (kv : List (Key × V)) : Prop where
  N : NetAt C (R :: Z) H p 24 gs []
  k : KeepS [p.lm, p.ld] H0 H
  W : Ws90 p H0 H L
  e : H R = some (.dK kv)
  n : H0 R = none
/-- a second dict, laid beside it -/
theorem St90.lay {C : Addr} {Z : List Addr} {p : NetP} {gs : List Gt} {H0 H : Hp} {L : List (Addr × List Nat)} {R D : Addr} {kv : List (Key × V)} (h : St90 C Z p gs H0 H L R kv) (n : H D = none) : St90 C (D :: Z) p gs H0 (upd H D (.dK [])) L R kv ∧ (upd H D (.dK [])) D = some (.dK []) ∧ R ≠ D ∧ D ∉ [p.lm, p.ld] ∧ H0 D = none := by
  have ne := ne_of_none h.e n
  refine ⟨⟨?_, h.k.trans (.new n), h.W.put (.inr n), by rw [upd_ne ne]; exact h.e, h.n⟩, upd_same, ne, h.N.nin n, ks_none h.k n⟩
  exact netsw (h.N.add n)
theorem St90.fill {C : Addr} {Z : List Addr} {p : NetP} {gs : List Gt} {H0 H : Hp} {L : List (Addr × List Nat)} {R D : Addr} {kv kv' kv2 : List (Key × V)} (h : St90 C (D :: Z) p gs H0 H L R kv) (e : H D = some (.dK kv2)) (ne : R ≠ D) (n0 : H0 D = none) : St90 C (D :: Z) p gs H0 (upd H D (.dK kv')) L R kv ∧ (upd H D (.dK kv')) D = some (.dK kv') :=
  ⟨⟨h.N.put (by simp), ks_updN h.k n0, h.W.put (.inl ⟨_, e⟩), by rw [upd_ne ne]; exact h.e, h.n⟩, upd_same⟩
theorem St90.all {C : Addr} {Z : List Addr} {p : NetP} {gs : List Gt} {H0 H : Hp} {L : List (Addr × List Nat)} {R : Addr} {kv kv' : List (Key × V)} (h : St90 C Z p gs H0 H L R kv) : St90 C Z p gs H0 (upd H R (.dK kv')) L R kv' :=
  ⟨h.N.put (by simp), ks_updN h.k h.n, h.W.put (.inl ⟨_, h.e⟩), upd_same, h.n⟩
theorem St90.to {C : Addr} {Z : List Addr} {p : NetP} {gs gs' : List Gt} {H0 H H' : Hp} {L : List (Addr × List Nat)} {R D : Addr} {kv : List (Key × V)} {ws : List Nat} (h : St90 C Z p gs H0 H L R kv) (k : KeepS [p.lm, p.ld] H H') (N : NetAt C (R :: Z) H' p 24 gs' []) (n : H D = none) (e : H' D = some (.lst (nts ws))) (nR : R ∉ [p.lm, p.ld]) : St90 C Z p gs' H0 H' ((D, ws) :: L) R kv :=
  ⟨N, h.k.trans k, ((h.W.keep k).one e (h.N.nin n) (ks_none h.k n)), k.1 _ _ h.e nR, h.n⟩
theorem mrg1 (a0 a1 a2 a3 a4 a5 : Addr) : mergeK ([] : List (Key × V)) [(.inr "ones", .ref a0), (.inr "others", .ref a1), (.inr "zeros", .ref a2), (.inr "norm", .ref a3), (.inr "back", .ref a4), (.inr "more", .ref a5)] = [(.inr "ones", .ref a0), (.inr "others", .ref a1), (.inr "zeros", .ref a2), (.inr "norm", .ref a3), (.inr "back", .ref a4), (.inr "more", .ref a5)] := mergeK_nodup [(.inr "ones", .ref a0), (.inr "others", .ref a1), (.inr "zeros", .ref a2), (.inr "norm", .ref a3), (.inr "back", .ref a4), (.inr "more", .ref a5)] [] (keys90 6 (by decide))
theorem mrg2 (a0 a1 a2 a3 a4 a5 a6 a7 a8 a9 a10 a11 : Addr) : mergeK ([(.inr "ones", .ref a0), (.inr "others", .ref a1), (.inr "zeros", .ref a2), (.inr "norm", .ref a3), (.inr "back", .ref a4), (.inr "more", .ref a5)] : List (Key × V)) [(.inr "great", .ref a6), (.inr "small", .ref a7), (.inr "apart", .ref a8), (.inr "few", .ref a9), (.inr "some", .ref a10), (.inr "by", .ref a11)] = [(.inr "ones", .ref a0), (.inr "others", .ref a1), (.inr "zeros", .ref a2), (.inr "norm", .ref a3), (.inr "back", .ref a4), (.inr "more", .ref a5), (.inr "great", .ref a6), (.inr "small", .ref a7), (.inr "apart", .ref a8), (.inr "few", .ref a9), (.inr "some", .ref a10), (.inr "by", .ref a11)] := mergeK_nodup [(.inr "great", .ref a6), (.inr "small", .ref a7), (.inr "apart", .ref a8), (.inr "few", .ref a9), (.inr "some", .ref a10), (.inr "by", .ref a11)] [(.inr "ones", .ref a0), (.inr "others", .ref a1), (.inr "zeros", .ref a2), (.inr "norm", .ref a3), (.inr "back", .ref a4), (.inr "more", .ref a5)] (keys90 12 (by decide))
theorem mrg3 (a0 a1 a2 a3 a4 a5 a6 a7 a8 a9 a10 a11 a12 a13 : Addr) : mergeK ([(.inr "ones", .ref a0), (.inr "others", .ref a1), (.inr "zeros", .ref a2), (.inr "norm", .ref a3), (.inr "back", .ref a4), (.inr "more", .ref a5), (.inr "great", .ref a6), (.inr "small", .ref a7), (.inr "apart", .ref a8), (.inr "few", .ref a9), (.inr "some", .ref a10), (.inr "by", .ref a11)] : List (Key × V)) [(.inr "marks", .ref a12), (.inr "bare", .ref a13)] = [(.inr "ones", .ref a0), (.inr "others", .ref a1), (.inr "zeros", .ref a2), (.inr "norm", .ref a3), (.inr "back", .ref a4), (.inr "more", .ref a5), (.inr "great", .ref a6), (.inr "small", .ref a7), (.inr "apart", .ref a8), (.inr "few", .ref a9), (.inr "some", .ref a10), (.inr "by", .ref a11), (.inr "marks", .ref a12), (.inr "bare", .ref a13)] := mergeK_nodup [(.inr "marks", .ref a12), (.inr "bare", .ref a13)] [(.inr "ones", .ref a0), (.inr "others", .ref a1), (.inr "zeros", .ref a2), (.inr "norm", .ref a3), (.inr "back", .ref a4), (.inr "more", .ref a5), (.inr "great", .ref a6), (.inr "small", .ref a7), (.inr "apart", .ref a8), (.inr "few", .ref a9), (.inr "some", .ref a10), (.inr "by", .ref a11)] (keys90 14 (by decide))
theorem mrg4 (a0 a1 a2 a3 a4 a5 a6 a7 a8 a9 a10 a11 a12 a13 a14 a15 a16 : Addr) : mergeK ([(.inr "ones", .ref a0), (.inr "others", .ref a1), (.inr "zeros", .ref a2), (.inr "norm", .ref a3), (.inr "back", .ref a4), (.inr "more", .ref a5), (.inr "great", .ref a6), (.inr "small", .ref a7), (.inr "apart", .ref a8), (.inr "few", .ref a9), (.inr "some", .ref a10), (.inr "by", .ref a11), (.inr "marks", .ref a12), (.inr "bare", .ref a13)] : List (Key × V)) [(.inr "product", .ref a14), (.inr "both", .ref a15), (.inr "raised", .ref a16)] = [(.inr "ones", .ref a0), (.inr "others", .ref a1), (.inr "zeros", .ref a2), (.inr "norm", .ref a3), (.inr "back", .ref a4), (.inr "more", .ref a5), (.inr "great", .ref a6), (.inr "small", .ref a7), (.inr "apart", .ref a8), (.inr "few", .ref a9), (.inr "some", .ref a10), (.inr "by", .ref a11), (.inr "marks", .ref a12), (.inr "bare", .ref a13), (.inr "product", .ref a14), (.inr "both", .ref a15), (.inr "raised", .ref a16)] := mergeK_nodup [(.inr "product", .ref a14), (.inr "both", .ref a15), (.inr "raised", .ref a16)] [(.inr "ones", .ref a0), (.inr "others", .ref a1), (.inr "zeros", .ref a2), (.inr "norm", .ref a3), (.inr "back", .ref a4), (.inr "more", .ref a5), (.inr "great", .ref a6), (.inr "small", .ref a7), (.inr "apart", .ref a8), (.inr "few", .ref a9), (.inr "some", .ref a10), (.inr "by", .ref a11), (.inr "marks", .ref a12), (.inr "bare", .ref a13)] (keys90 17 (by decide))
def spPut90 (C : Addr) : Sp := fun vs H Q _ => ∃ (Z : List Addr) (p : NetP) (a c : Nat), vs = [.ref p.x, .int (a : Int), .int (c : Int)] ∧ NetAt C Z H p 24 [] [] ∧ a < 9 ∧ c < 9 ∧
  ∀ (R : Addr) (H' : Hp) (gs : List Gt) (LW : List (Addr × List Nat)), KeepS [p.lm, p.ld] H H' → NetAt C (R :: Z) H' p 24 gs [] → GsOk 24 gs → gs.length ≤ 4000 → H R = none → LW.length = 17 → H' R = some (.dK (kv90 (LW.map (·.1)))) → Ws90 p H H' LW → (∀ q ∈ LW, q.2.length ≤ 100 ∧ ∀ w ∈ q.2, w < 24 + gs.length) → Later gs (fun B => F90 (LW.map fun q => B q.2)) → Q (.ref R) H'
theorem ok__law_put (B : Bl mg) (L : LL K mg C za zl) : FnOk P w K mg base CX0 9 (za 23) (zl 23) ["_law_net", "_law_first", "_law_second"] (spPut90 C) := by
  have G_zero_wires : FnOk P w K mg base CX0 8 (za 9) (zl 9) ["net", "ones"] (spZero K C) := (ok_zero_wires B L).mono (by decide)
  have G_Net_fixed : FnOk P w K mg base CX0 8 (za 30) (zl 30) ["self", "bit"] (spFixed C) := (ok_Net_fixed B L).mono (by decide)
  have G_left_wires : FnOk P w K mg base CX0 8 (za 6) (zl 6) ["net", "ones", "by"] (spLef K C) := (ok_left_wires B L).mono (by decide)
  have G_is_less_wire : FnOk P w K mg base CX0 8 (za 13) (zl 13) ["net", "ones", "others"] (spLess K C) := (ok_is_less_wire B L).mono (by decide)
  have G_shift_wires : FnOk P w K mg base CX0 8 (za 5) (zl 5) ["net", "ones", "by"] (spShi K C) := (ok_shift_wires B L).mono (by decide)
  have G_chosen_wires : FnOk P w K mg base CX0 8 (za 12) (zl 12) ["net", "wire", "ones", "others"] (spChosen K C) := (ok_chosen_wires B L).mono (by decide)
  have G_sum_wires : FnOk P w K mg base CX0 8 (za 1) (zl 1) ["net", "ones", "others", "carry"] (spSum K C) := (ok_sum_wires B L).mono (by decide)
  have G_Net_other : FnOk P w K mg base CX0 8 (za 29) (zl 29) ["self", "a"] (spG1 C) := (ok_Net_other B L).mono (by decide)
  have G_times_wires : FnOk P w K mg base CX0 8 (za 16) (zl 16) ["net", "ones", "others"] (spTim K C) := (ok_times_wires B L).mono (by decide)
  have G_quick_sum_wires : FnOk P w K mg base CX0 8 (za 2) (zl 2) ["net", "ones", "others", "carry"] (spQs K C) := (ok_quick_sum_wires B L).mono (by decide)
  have G_mark_wires : FnOk P w K mg base CX0 8 (za 11) (zl 11) ["net", "ones", "others"] (spMark K C) := (ok_mark_wires B L).mono (by decide)
  have G_raise_wires : FnOk P w K mg base CX0 8 (za 15) (zl 15) ["net", "ones", "wire"] (spRai K C) := (ok_raise_wires B L).mono (by decide)
  refine L.F__law_put.ok sc__law_put (fun vs H Q E h => ?_) (fun cdv A outer s H vs Q E hr h => ?_)
  · obtain ⟨Z, p, a, c, rfl, _⟩ := h
    rfl
  obtain ⟨Z, p, a, c, rfl, hN, ha, hc, q⟩ := h
  refine ⟨_, (pss_cons (ps_par (by rfl) sc__law_put.nd (i := 3) (j := 4) rfl rfl (by decide) rfl rfl (pa_cons (pe_listRg rfl (by rfl) B.list (prg_2 (by rfl) B.range (pv 1) (pe_op op_add (pv 1) pe_int))) (pa_cons (pe_listRg rfl (by rfl) B.list (prg_2 (by rfl) B.range (pv 2) (pe_op op_add (pv 2) pe_int))) pa_nil)) (by rfl))
    (pss_cons (ps_par3 (by rfl) sc__law_put.nd (i := 5) (j := 6) (l := 7) rfl rfl rfl (by decide) (by decide) (by decide) rfl rfl rfl (pa_cons (pe_call G_zero_wires hr (by rfl) L.m_zero_wires L.F_zero_wires.kp L.b_zero_wires .nil pass0 (pa_cons (pv 0) (pa_cons (pv 3) pa_nil))) (pa_cons (pe_meth (pv 0) L.T.cl L.M_Net_fixed G_Net_fixed hr L.b_Net_fixed .nil pass0 (pa_cons pe_int pa_nil)) (pa_cons (pe_meth (pv 0) L.T.cl L.M_Net_fixed G_Net_fixed hr L.b_Net_fixed .nil pass0 (pa_cons pe_int pa_nil)) pa_nil))) (by rfl))
    (pss_cons (ps_par (by rfl) sc__law_put.nd (i := 8) (j := 9) rfl rfl (by decide) rfl rfl (pa_cons (pe_call G_left_wires hr (by rfl) L.m_left_wires L.F_left_wires.kp L.b_left_wires .nil pass0 (pa_cons (pv 0) (pa_cons (pv 3) (pa_cons (pv 5) pa_nil)))) (pa_cons (pe_call G_is_less_wire hr (by rfl) L.m_is_less_wire L.F_is_less_wire.kp L.b_is_less_wire .nil pass0 (pa_cons (pv 0) (pa_cons (pv 3) (pa_cons (pv 4) pa_nil)))) pa_nil)) (by rfl))
    (pss_cons (ps_asg (pe_call G_shift_wires hr (by rfl) L.m_shift_wires L.F_shift_wires.kp L.b_shift_wires .nil pass0 (pa_cons (pv 0) (pa_cons (pv 8) (pa_cons (pv 5) pa_nil)))) (pg_tup (by rfl) (pgs_cons (pg_name (i := 10) sc__law_put.nd rfl (.inl rfl)) (pgs_cons (pg_name (i := 11) sc__law_put.nd rfl (.inl rfl)) pgs_nil))))
    (pss_cons (ps_par (by rfl) sc__law_put.nd (i := 12) (j := 13) rfl rfl (by decide) rfl rfl (pa_cons (pe_call G_chosen_wires hr (by rfl) L.m_chosen_wires L.F_chosen_wires.kp L.b_chosen_wires .nil pass0 (pa_cons (pv 0) (pa_cons (pv 9) (pa_cons (pv 4) (pa_cons (pv 3) pa_nil))))) (pa_cons (pe_call G_chosen_wires hr (by rfl) L.m_chosen_wires L.F_chosen_wires.kp L.b_chosen_wires .nil pass0 (pa_cons (pv 0) (pa_cons (pv 9) (pa_cons (pv 3) (pa_cons (pv 4) pa_nil))))) pa_nil)) (by rfl))
    (pss_cons (ps_set (i := 14) sc__law_put.nd rfl (.inl rfl) (pe_slice sl_list (pe_call G_sum_wires hr (by rfl) L.m_sum_wires L.F_sum_wires.kp L.b_sum_wires .nil pass0 (pa_cons (pv 0) (pa_cons (pv 12) (pa_cons (pe_lc (own := [("_law_wire", 21)]) (by rfl) sc__law_put.nd (pi_list (pv 13)) (blkOk_by (own := [("_law_wire", 21)]) (N := ["_law_net", "_law_first", "_law_second", "_law_ones", "_law_others", "_law_zeros", "_law_nought", "_law_bit", "_law_norm", "_law_less", "_law_back", "_law_more", "_law_great", "_law_small", "_law_apart", "_law_few", "_law_some", "_law_by", "_law_product", "_law_both", "_law_found", "_law_wire"]) (sc := defScope s__law_put) (by decide +kernel)) (fun _ _ _ _ _ => pg_name (i := 21) sc__law_put.nd rfl (Or.inl rfl)) (fun _ _ _ _ _ => pts_nil) (fun _ _ _ _ _ => (pe_meth (pv 0) L.T.cl L.M_Net_other G_Net_other hr L.b_Net_other .nil pass0 (pa_cons (pv 21) pa_nil)))) (pa_cons (pv 7) pa_nil))))) (po_some pe_int) po_none))
    (pss_cons (ps_par3 (by rfl) sc__law_put.nd (i := 15) (j := 16) (l := 17) rfl rfl rfl (by decide) (by decide) (by decide) rfl rfl rfl (pa_cons (pe_slice sl_list (pv 3) po_none (po_some pe_int)) (pa_cons (pe_slice sl_list (pv 4) po_none (po_some pe_int)) (pa_cons (pe_slice sl_list (pv 3) (po_some pe_int) (po_some pe_int)) pa_nil))) (by rfl))
    (pss_cons (ps_set (i := 18) sc__law_put.nd rfl (.inl rfl) (pe_call G_times_wires hr (by rfl) L.m_times_wires L.F_times_wires.kp L.b_times_wires .nil pass0 (pa_cons (pv 0) (pa_cons (pe_call G_quick_sum_wires hr (by rfl) L.m_quick_sum_wires L.F_quick_sum_wires.kp L.b_quick_sum_wires .nil pass0 (pa_cons (pv 0) (pa_cons (pv 15) (pa_cons (pv 16) (pa_cons (pv 6) pa_nil))))) (pa_cons (pv 17) pa_nil)))))
    (pss_cons (ps_set (i := 19) sc__law_put.nd rfl (.inl rfl) (pe_call G_sum_wires hr (by rfl) L.m_sum_wires L.F_sum_wires.kp L.b_sum_wires .nil pass0 (pa_cons (pv 0) (pa_cons (pe_call G_times_wires hr (by rfl) L.m_times_wires L.F_times_wires.kp L.b_times_wires .nil pass0 (pa_cons (pv 0) (pa_cons (pv 15) (pa_cons (pv 17) pa_nil)))) (pa_cons (pe_call G_times_wires hr (by rfl) L.m_times_wires L.F_times_wires.kp L.b_times_wires .nil pass0 (pa_cons (pv 0) (pa_cons (pv 16) (pa_cons (pv 17) pa_nil)))) (pa_cons (pv 6) pa_nil))))))
    (pss_cons (ps_set (i := 20) sc__law_put.nd rfl (.inl rfl) (pe_disp (pps_cons pe_str (pv 3) (pps_cons pe_str (pv 4) (pps_cons pe_str (pv 5) (pps_cons pe_str (pv 8) (pps_cons pe_str (pv 10) (pps_cons pe_str (pe_lst (pa_cons (pv 11) pa_nil)) pps_nil)))))) rfl rfl (by decide) (by decide)))
    (pss_cons (ps_expr (pe_dupd (pv 20) (pe_disp (pps_cons pe_str (pv 12) (pps_cons pe_str (pv 13) (pps_cons pe_str (pv 14) (pps_cons pe_str (pv 15) (pps_cons pe_str (pv 16) (pps_cons pe_str (pv 17) pps_nil)))))) rfl rfl (by decide) (by decide)) ⟨by rfl, by rfl, by rfl, by rfl⟩))
    (pss_cons (ps_expr (pe_dupd (pv 20) (pe_disp (pps_cons pe_str (pe_call G_zero_wires hr (by rfl) L.m_zero_wires L.F_zero_wires.kp L.b_zero_wires .nil pass0 (pa_cons (pv 0) (pa_cons (pe_call G_mark_wires hr (by rfl) L.m_mark_wires L.F_mark_wires.kp L.b_mark_wires .nil pass0 (pa_cons (pv 0) (pa_cons (pv 12) (pa_cons (pv 13) pa_nil)))) pa_nil))) (pps_cons pe_str (pe_call G_zero_wires hr (by rfl) L.m_zero_wires L.F_zero_wires.kp L.b_zero_wires .nil pass0 (pa_cons (pv 0) (pa_cons (pv 14) pa_nil))) pps_nil)) rfl rfl (by decide) (by decide)) ⟨by rfl, by rfl, by rfl, by rfl⟩))
    (pss_cons (ps_expr (pe_dupd (pv 20) (pe_disp (pps_cons pe_str (pv 18) (pps_cons pe_str (pv 19) (pps_cons pe_str (pe_call G_raise_wires hr (by rfl) L.m_raise_wires L.F_raise_wires.kp L.b_raise_wires .nil pass0 (pa_cons (pv 0) (pa_cons (pv 12) (pa_cons (pv 9) pa_nil)))) pps_nil))) rfl rfl (by decide) (by decide)) ⟨by rfl, by rfl, by rfl, by rfl⟩))
    (pss_one (ps_ret (pv 20)))))))))))))))), ?_⟩
  obtain ⟨_, _, _, dx, _, _, e0, _⟩ := id hN
  refine ⟨_, rfl, _, rfl, _, _, rfl, rfl, _, _, rfl, rfl, .of_le (by omega) (by omega) (by omega) (by omega), fun LA nLA => ?_⟩
  have e1 := rgV_nts (a := a) (n := 16)
  rw [show ((16 : Nat) : Int) = 16 from rfl] at e1
  rw [e1]
  obtain ⟨os, hos⟩ : ∃ os, os = (List.range 16).map fun i => a + i := ⟨_, rfl⟩
  have los : os.length = 16 := by rw [hos, List.length_map, List.length_range]
  have ho : ∀ w ∈ os, w < 24 + ([] : List Gt).length := fun w hw => by
    rw [hos] at hw
    obtain ⟨i, hi, rfl⟩ := List.mem_map.mp hw
    have := List.mem_range.mp hi
    show a + i < 24
    omega
  rw [← hos]
  clear hos e1
  obtain ⟨N1, k1, W1⟩ := Ws90.mk (ws := os) (L := []) (H0 := H) (fun _ z => nomatch z) hN (KeepS.refl _ _) nLA
  generalize upd H LA (.lst (nts os)) = H1 at *
  refine ⟨_, rfl, _, rfl, _, _, rfl, rfl, _, _, rfl, rfl, .of_le (by omega) (by omega) (by omega) (by omega), fun LB nLB => ?_⟩
  have e1 := rgV_nts (a := c) (n := 16)
  rw [show ((16 : Nat) : Int) = 16 from rfl] at e1
  rw [e1]
  obtain ⟨ts, hts⟩ : ∃ ts, ts = (List.range 16).map fun i => c + i := ⟨_, rfl⟩
  have lts : ts.length = 16 := by rw [hts, List.length_map, List.length_range]
  have ht : ∀ w ∈ ts, w < 24 + ([] : List Gt).length := fun w hw => by
    rw [hts] at hw
    obtain ⟨i, hi, rfl⟩ := List.mem_map.mp hw
    have := List.mem_range.mp hi
    show c + i < 24
    omega
  rw [← hts]
  clear hts e1
  obtain ⟨N2, k2, W2⟩ := W1.mk (ws := ts) N1 k1 nLB
  generalize upd H1 LB (.lst (nts ts)) = H2 at *
  refine ⟨_, _, rfl, ?_⟩
  try simp only [L2.start, List.map_cons, List.map_nil, List.length_cons, List.length_nil, List.replicate_succ, List.replicate_zero, List.cons_append, List.nil_append, List.set_cons_succ, List.set_cons_zero, Nat.reduceAdd, Nat.reduceSub, Nat.zero_add]
  refine ⟨_, rfl, _, rfl, Z, p, 24, [], [], LA, false, os, rfl, N2, W2.at (q := (LA, os)) (by simp), (W2 (LA, os) (by simp)).2.1, ho, by omega, by decide, fun D3 H3 k3 N3 nD3 eD3 => ?_⟩
  have b16 : Builtin.Int.intBits ((os.length : Nat) : Int) = 5 := by
    rw [los]
    rfl
  rw [b16] at N3 eD3
  obtain ⟨x3, l3, t3, v3⟩ := P_zero (gs := []) (ws := os) (k := 5) ho
  obtain ⟨k3', W3⟩ := W2.to N2 k2 k3 nD3 eD3
  rw [los] at x3
  generalize zeroW 24 [] os 5 = S3 at *
  have y3 : S3.1.length ≤ 200 := by
    have := x3.len.2
    simp only [List.length_nil] at this
    omega
  replace ho : ∀ w ∈ os, w < 24 := ho
  replace ht : ∀ w ∈ ts, w < 24 := ht
  obtain ⟨_, _, _, dx3, _, _, f3, _⟩ := id N3
  refine ⟨_, rfl, p.x, dx3, _, rfl, f3, rfl, Z, p, 24, S3.1, [], 0, rfl, N3, by omega, fun H4 k4 N4 => ?_⟩
  obtain ⟨x4, t4, v4⟩ := P_fixed (gs := S3.1) (b := 0) (by decide)
  replace W4 := W3.keep k4
  replace k4 := k3'.trans k4
  have y4 := x4.len
  generalize S3.1 ++ [Gt.fi 0] = G4 at *
  obtain ⟨_, _, _, dx4, _, _, f4, _⟩ := id N4
  refine ⟨_, rfl, p.x, dx4, _, rfl, f4, rfl, Z, p, 24, G4, [], 1, rfl, N4, by omega, fun H5 k5 N5 => ?_⟩
  obtain ⟨x5, t5, v5⟩ := P_fixed (gs := G4) (b := 1) (by decide)
  have W5 := W4.keep k5
  replace k5 := k4.trans k5
  have y5 := x5.len
  generalize G4 ++ [Gt.fi 1] = G5 at *
  refine ⟨_, _, _, rfl, ?_⟩
  try simp only [L2.start, List.map_cons, List.map_nil, List.length_cons, List.length_nil, List.replicate_succ, List.replicate_zero, List.cons_append, List.nil_append, List.set_cons_succ, List.set_cons_zero, Nat.reduceAdd, Nat.reduceSub, Nat.zero_add]
  refine ⟨_, rfl, _, rfl, _, rfl, Z, p, 24, G5, [], LA, D3, false, false, os, S3.2, rfl, N5, W5.at (q := (LA, os)) (by simp), W5.at (q := (D3, S3.2)) (by simp), (W5 (LA, os) (by simp)).2.1, (W5 (D3, S3.2) (by simp)).2.1, fun w hw => by have := ho w hw; omega, fun w hw => by have := t3 w hw; omega, by omega, by omega, by omega, fun D6 H6 k6 N6 nD6 eD6 => ?_⟩
  obtain ⟨x6, l6, t6, v6⟩ := P_left (gs := G5) (os := os) (bs := S3.2) (fun w hw => by have := ho w hw; omega) (fun w hw => by have := t3 w hw; omega)
  obtain ⟨k6', W6⟩ := W5.to N5 k5 k6 nD6 eD6
  rw [los, l3] at x6
  rw [los] at l6 v6
  generalize lefW 24 G5 os S3.2 = S6 at *
  have y6 := x6.len
  refine ⟨_, rfl, _, rfl, _, rfl, Z, p, 24, S6.1, [], LA, LB, false, false, os, ts, rfl, N6, W6.at (q := (LA, os)) (by simp), W6.at (q := (LB, ts)) (by simp), by omega, fun w hw => by have := ho w hw; omega, fun w hw => by have := ht w hw; omega, by omega, by omega, fun H7 k7 N7 => ?_⟩
  obtain ⟨x7, t7, v7⟩ := P_less (gs := S6.1) (os := os) (ts := ts) (by omega) (fun w hw => by have := ho w hw; omega) (fun w hw => by have := ht w hw; omega)
  have W7 := W6.keep k7
  replace k7 := k6'.trans k7
  rw [los] at x7
  generalize lessW 24 S6.1 os ts = S7 at *
  have y7 := x7.len
  refine ⟨_, _, rfl, ?_⟩
  try simp only [L2.start, List.map_cons, List.map_nil, List.length_cons, List.length_nil, List.replicate_succ, List.replicate_zero, List.cons_append, List.nil_append, List.set_cons_succ, List.set_cons_zero, Nat.reduceAdd, Nat.reduceSub, Nat.zero_add]
  refine ⟨_, rfl, _, rfl, _, rfl, Z, p, 24, S7.1, [], D6, D3, false, false, S6.2, S3.2, rfl, N7, W7.at (q := (D6, S6.2)) (by simp), W7.at (q := (D3, S3.2)) (by simp), (W7 (D6, S6.2) (by simp)).2.1, (W7 (D3, S3.2) (by simp)).2.1, fun w hw => by have := t6 w hw; omega, fun w hw => by have := t3 w hw; omega, by omega, by omega, by omega, fun D8 T8 H8 k8 N8 nD8 eD8 eT8 => ?_⟩
  obtain ⟨x8, l8, t8, u8, v8⟩ := P_shift (gs := S7.1) (os := S6.2) (bs := S3.2) (fun w hw => by have := t6 w hw; omega) (fun w hw => by have := t3 w hw; omega)
  obtain ⟨k8', W8⟩ := W7.to N7 k7 k8 nD8 eD8
  rw [l6, l3] at x8
  rw [l6] at l8
  generalize shiW 24 S7.1 S6.2 S3.2 = S8 at *
  have y8 := x8.len
  refine ⟨T8, _, rfl, .inl (.inl eT8), rfl, _, _, rfl, _, _, rfl, rfl, ?_⟩
  try simp only [L2.start, List.map_cons, List.map_nil, List.length_cons, List.length_nil, List.replicate_succ, List.replicate_zero, List.cons_append, List.nil_append, List.set_cons_succ, List.set_cons_zero, Nat.reduceAdd, Nat.reduceSub, Nat.zero_add]
  refine ⟨_, rfl, _, rfl, _, rfl, _, rfl, Z, p, 24, S8.1, [], LB, LA, S7.2, ts, os, false, false, rfl, N8, W8.at (q := (LB, ts)) (by simp), W8.at (q := (LA, os)) (by simp), (W8 (LB, ts) (by simp)).2.1, (W8 (LA, os) (by simp)).2.1, by omega, by omega, fun w hw => by have := ht w hw; omega, fun w hw => by have := ho w hw; omega, by omega, fun D9 H9 k9 N9 nD9 eD9 => ?_⟩
  obtain ⟨x9, l9, t9, v9⟩ := P_chosen (gs := S8.1) (w := S7.2) (os := ts) (ts := os) (by omega) (by omega) (fun w hw => by have := ht w hw; omega) (fun w hw => by have := ho w hw; omega)
  obtain ⟨k9', W9⟩ := W8.to N8 k8' k9 nD9 eD9
  rw [lts] at x9 l9
  generalize chosenW 24 S8.1 S7.2 (ts.zip os) = S9 at *
  have y9 := x9.len
  refine ⟨_, rfl, _, rfl, _, rfl, _, rfl, Z, p, 24, S9.1, [], LA, LB, S7.2, os, ts, false, false, rfl, N9, W9.at (q := (LA, os)) (by simp), W9.at (q := (LB, ts)) (by simp), (W9 (LA, os) (by simp)).2.1, (W9 (LB, ts) (by simp)).2.1, by omega, by omega, fun w hw => by have := ho w hw; omega, fun w hw => by have := ht w hw; omega, by omega, fun D10 H10 k10 N10 nD10 eD10 => ?_⟩
  obtain ⟨x10, l10, t10, v10⟩ := P_chosen (gs := S9.1) (w := S7.2) (os := os) (ts := ts) (by omega) (by omega) (fun w hw => by have := ho w hw; omega) (fun w hw => by have := ht w hw; omega)
  obtain ⟨k10', W10⟩ := W9.to N9 k9' k10 nD10 eD10
  rw [los] at x10 l10
  generalize chosenW 24 S9.1 S7.2 (os.zip ts) = S10 at *
  have y10 := x10.len
  refine ⟨_, _, rfl, ?_⟩
  try simp only [L2.start, List.map_cons, List.map_nil, List.length_cons, List.length_nil, List.replicate_succ, List.replicate_zero, List.cons_append, List.nil_append, List.set_cons_succ, List.set_cons_zero, Nat.reduceAdd, Nat.reduceSub, Nat.zero_add]
  try dsimp only [gName]
  try simp only [L2.start, List.map_cons, List.map_nil, List.length_cons, List.length_nil, List.replicate_succ, List.replicate_zero, List.cons_append, List.nil_append, List.set_cons_succ, List.set_cons_zero, Nat.reduceAdd, Nat.reduceSub, Nat.zero_add]
  refine ⟨_, rfl, _, rfl, _, rfl, D10, rfl, ⟨_, SqL.of (W10 (D10, S10.2) (by simp)).1⟩, fun W nW => ?_⟩
  have nW2 := N10.nin nW
  have N0 := N10.add (o := .lst []) nW
  refine lc_it (walk_list (K := K) (a := D10) (xs := nts S10.2)) (fun j H9 => KeepS [p.lm, p.ld] H10 H9 ∧ NetAt C (W :: Z) H9 p 24 ((S10.2.take j).foldl (noS 24) (S10.1, [])).1 [] ∧ H9 W = some (.lst (nts ((S10.2.take j).foldl (noS 24) (S10.1, [])).2))) ⟨KeepS.new nW, N0, upd_same⟩ (fun j H9 _ ⟨k9, _⟩ => SqL.of ((W10.keep k9) (D10, S10.2) (by simp)).1) ?_ ?_
  · rintro j v Ha H9 hj ⟨k9, N9, eD⟩ ⟨rfl, hz⟩
    obtain ⟨a, ha, rfl⟩ := nts_at hz
    rw [nts_len] at hj
    have la := t10 a (List.mem_of_getElem? ha)
    have estep : (S10.2.take (j + 1)).foldl (noS 24) (S10.1, []) = noS 24 ((S10.2.take j).foldl (noS 24) (S10.1, [])) a := fold_take _ ha _
    rw [estep]
    obtain ⟨l1, l2⟩ := notW_at (m := 24) (S10.2.take j) (S10.1, [])
    rw [List.length_take] at l1 l2
    dsimp only [List.length_nil] at l1 l2
    generalize (S10.2.take j).foldl (noS 24) (S10.1, []) = S at *
    refine ⟨rfl, yesT ?_⟩
    try simp only [L2.start, List.map_cons, List.map_nil, List.length_cons, List.length_nil, List.replicate_succ, List.replicate_zero, List.cons_append, List.nil_append, List.set_cons_succ, List.set_cons_zero, Nat.reduceAdd, Nat.reduceSub, Nat.zero_add]
    obtain ⟨_, _, _, dx2, _, _, f1, _⟩ := id N9
    refine ⟨_, rfl, p.x, dx2, _, rfl, f1, rfl, _, rfl, W :: Z, p, 24, S.1, [], a, rfl, N9, by omega, by omega, fun H3 k3 N3 => ?_⟩
    refine ⟨_, k3.1 _ _ eD nW2, by rw [nts_len]; exact big_lt (by omega), ks_updN (k9.trans k3) nW, N3.put (by simp), ?_⟩
    rw [upd_same]
    show _ = some (HO.lst (nts (S.2 ++ [_])))
    rw [nts_app]
    rfl
  rintro H11 ⟨k11, N11, eW⟩
  rw [nts_len, List.take_length] at N11 eW
  replace N11 := N11.less
  change NetAt C Z H11 p 24 (notW 24 S10.1 S10.2).1 [] at N11
  change H11 W = some (.lst (nts (notW 24 S10.1 S10.2).2)) at eW
  obtain ⟨x11, l11, t11, v11⟩ := P_not (gs := S10.1) (os := S10.2) t10
  obtain ⟨k11', W11⟩ := W10.to N10 k10' k11 nW eW
  rw [l10] at x11 l11 v11
  generalize notW 24 S10.1 S10.2 = S11 at *
  have y11 := x11.len
  refine ⟨_, rfl, Z, p, 24, S11.1, [], D9, W, false, false, S9.2, S11.2, 24 + G4.length, rfl, N11, W11.at (q := (D9, S9.2)) (by simp), W11.at (q := (W, S11.2)) (by simp), by omega, fun w hw => by have := t9 w hw; omega, fun w hw => by have := t11 w hw; omega, by omega, by omega, by omega, fun D12 H12 k12 N12 nD12 eD12 => ?_⟩
  obtain ⟨x12, l12, t12, v12⟩ := P_sum (gs := S11.1) (os := S9.2) (ts := S11.2) (c := 24 + G4.length) (by omega) (fun w hw => by have := t9 w hw; omega) (fun w hw => by have := t11 w hw; omega) (by omega)
  obtain ⟨k12', W12⟩ := W11.to N11 k11' k12 nD12 eD12
  rw [l9] at x12 l12
  generalize sumW 24 S11.1 S9.2 S11.2 (24 + G4.length) = S12 at *
  have y12 := x12.len
  refine ⟨_, rfl, D12, _, rfl, SqL.of eD12, fun D13 nD13 => ?_⟩
  rw [cut1_from S12.2 (by omega)]
  obtain ⟨N13, k13, W13⟩ := W12.mk (ws := S12.2.drop 1) N12 k12' nD13
  have t13 : ∀ w ∈ S12.2.drop 1, w < 24 + S12.1.length := fun w hw => t12 w (List.mem_of_mem_drop hw)
  have l13 : (S12.2.drop 1).length = 16 := by rw [List.length_drop]; omega
  generalize upd H12 D13 (.lst (nts (S12.2.drop 1))) = H13 at *
  try simp only [L2.start, List.map_cons, List.map_nil, List.length_cons, List.length_nil, List.replicate_succ, List.replicate_zero, List.cons_append, List.nil_append, List.set_cons_succ, List.set_cons_zero, Nat.reduceAdd, Nat.reduceSub, Nat.zero_add]
  refine ⟨_, rfl, _, rfl, LA, _, rfl, SqL.of (W13 (LA, os) (by simp)).1, fun D14 nD14 => ?_⟩
  rw [cut_5 os (by omega)]
  obtain ⟨N14, k14, W14⟩ := W13.mk (ws := os.take 5) N13 k13 nD14
  have l14 : (os.take 5).length = 5 := by rw [List.length_take]; omega
  have t14 : ∀ w ∈ os.take 5, w < 24 := fun w hw => ho w (List.mem_of_mem_take hw)
  generalize upd H13 D14 (.lst (nts (os.take 5))) = H14 at *
  generalize os.take 5 = fe at *
  refine ⟨_, rfl, _, rfl, LB, _, rfl, SqL.of (W14 (LB, ts) (by simp)).1, fun D15 nD15 => ?_⟩
  rw [cut_5 ts (by omega)]
  obtain ⟨N15, k15, W15⟩ := W14.mk (ws := ts.take 5) N14 k14 nD15
  have l15 : (ts.take 5).length = 5 := by rw [List.length_take]; omega
  have t15 : ∀ w ∈ ts.take 5, w < 24 := fun w hw => ht w (List.mem_of_mem_take hw)
  generalize upd H14 D15 (.lst (nts (ts.take 5))) = H15 at *
  generalize ts.take 5 = so at *
  refine ⟨_, rfl, _, rfl, _, rfl, LA, _, rfl, SqL.of (W15 (LA, os) (by simp)).1, fun D16 nD16 => ?_⟩
  rw [cut_5_11 os (by omega)]
  obtain ⟨N16, k16, W16⟩ := W15.mk (ws := (os.drop 5).take 6) N15 k15 nD16
  have l16 : ((os.drop 5).take 6).length = 6 := by rw [List.length_take, List.length_drop]; omega
  have t16 : ∀ w ∈ (os.drop 5).take 6, w < 24 := fun w hw => ho w (List.mem_of_mem_drop (List.mem_of_mem_take hw))
  generalize upd H15 D16 (.lst (nts ((os.drop 5).take 6))) = H16 at *
  generalize (os.drop 5).take 6 = by' at *
  refine ⟨_, _, _, rfl, ?_⟩
  try simp only [L2.start, List.map_cons, List.map_nil, List.length_cons, List.length_nil, List.replicate_succ, List.replicate_zero, List.cons_append, List.nil_append, List.set_cons_succ, List.set_cons_zero, Nat.reduceAdd, Nat.reduceSub, Nat.zero_add]
  refine ⟨_, rfl, _, rfl, _, rfl, _, rfl, _, rfl, Z, p, 24, S12.1, [], D14, D15, false, false, fe, so, 24 + S3.1.length, rfl, N16, W16.at (q := (D14, fe)) (by simp), W16.at (q := (D15, so)) (by simp), (W16 (D14, fe) (by simp)).2.1, (W16 (D15, so) (by simp)).2.1, by omega, fun w hw => by have := t14 w hw; omega, fun w hw => by have := t15 w hw; omega, by omega, by omega, by omega, fun D17 H17 G17 qs k17 N17 nD17 eD17 q17 => ?_⟩
  have v17 := P_quick q17 (by omega) (fun w hw => by have := t14 w hw; omega) (fun w hw => by have := t15 w hw; omega) (by omega)
  obtain ⟨x17, l17, t17, _⟩ := q17
  obtain ⟨k17', W17⟩ := W16.to N16 k16 k17 nD17 eD17
  rw [l14] at x17 l17
  have y17 := x17.len
  refine ⟨_, rfl, Z, p, 24, G17, [], D17, D16, false, false, qs, by', rfl, N17, W17.at (q := (D17, qs)) (by simp), W17.at (q := (D16, by')) (by simp), (W17 (D17, qs) (by simp)).2.1, (W17 (D16, by') (by simp)).2.1, by omega, t17, fun w hw => by have := t16 w hw; omega, by omega, by omega, by omega, fun D18 H18 k18 N18 nD18 eD18 => ?_⟩
  obtain ⟨x18, l18, t18, v18⟩ := P_times (gs := G17) (os := qs) (ts := by') t17 (fun w hw => by have := t16 w hw; omega) (by omega)
  obtain ⟨k18', W18⟩ := W17.to N17 k17' k18 nD18 eD18
  rw [l17, l16] at x18 l18
  generalize timW 24 G17 qs by' = S18 at *
  have y18 := x18.len
  try simp only [L2.start, List.map_cons, List.map_nil, List.length_cons, List.length_nil, List.replicate_succ, List.replicate_zero, List.cons_append, List.nil_append, List.set_cons_succ, List.set_cons_zero, Nat.reduceAdd, Nat.reduceSub, Nat.zero_add]
  refine ⟨_, rfl, _, rfl, _, rfl, _, rfl, Z, p, 24, S18.1, [], D14, D16, false, false, fe, by', rfl, N18, W18.at (q := (D14, fe)) (by simp), W18.at (q := (D16, by')) (by simp), (W18 (D14, fe) (by simp)).2.1, (W18 (D16, by') (by simp)).2.1, by omega, fun w hw => by have := t14 w hw; omega, fun w hw => by have := t16 w hw; omega, by omega, by omega, by omega, fun D19 H19 k19 N19 nD19 eD19 => ?_⟩
  obtain ⟨x19, l19, t19, v19⟩ := P_times (gs := S18.1) (os := fe) (ts := by') (fun w hw => by have := t14 w hw; omega) (fun w hw => by have := t16 w hw; omega) (by omega)
  obtain ⟨k19', W19⟩ := W18.to N18 k18' k19 nD19 eD19
  rw [l14, l16] at x19 l19
  generalize timW 24 S18.1 fe by' = S19 at *
  have y19 := x19.len
  refine ⟨_, rfl, _, rfl, _, rfl, Z, p, 24, S19.1, [], D15, D16, false, false, so, by', rfl, N19, W19.at (q := (D15, so)) (by simp), W19.at (q := (D16, by')) (by simp), (W19 (D15, so) (by simp)).2.1, (W19 (D16, by') (by simp)).2.1, by omega, fun w hw => by have := t15 w hw; omega, fun w hw => by have := t16 w hw; omega, by omega, by omega, by omega, fun D20 H20 k20 N20 nD20 eD20 => ?_⟩
  obtain ⟨x20, l20, t20, v20⟩ := P_times (gs := S19.1) (os := so) (ts := by') (fun w hw => by have := t15 w hw; omega) (fun w hw => by have := t16 w hw; omega) (by omega)
  obtain ⟨k20', W20⟩ := W19.to N19 k19' k20 nD20 eD20
  rw [l15, l16] at x20 l20
  generalize timW 24 S19.1 so by' = S20 at *
  have y20 := x20.len
  refine ⟨_, rfl, Z, p, 24, S20.1, [], D19, D20, false, false, S19.2, S20.2, 24 + S3.1.length, rfl, N20, W20.at (q := (D19, S19.2)) (by simp), W20.at (q := (D20, S20.2)) (by simp), by omega, fun w hw => by have := t19 w hw; omega, fun w hw => by have := t20 w hw; omega, by omega, by omega, by omega, fun D21 H21 k21 N21 nD21 eD21 => ?_⟩
  obtain ⟨x21, l21, t21, v21⟩ := P_sum (gs := S20.1) (os := S19.2) (ts := S20.2) (c := 24 + S3.1.length) (by omega) (fun w hw => by have := t19 w hw; omega) (fun w hw => by have := t20 w hw; omega) (by omega)
  obtain ⟨k21', W21⟩ := W20.to N20 k20' k21 nD21 eD21
  rw [l19] at x21 l21
  generalize sumW 24 S20.1 S19.2 S20.2 (24 + S3.1.length) = S21 at *
  have y21 := x21.len
  try simp only [L2.start, List.map_cons, List.map_nil, List.length_cons, List.length_nil, List.replicate_succ, List.replicate_zero, List.cons_append, List.nil_append, List.set_cons_succ, List.set_cons_zero, Nat.reduceAdd, Nat.reduceSub, Nat.zero_add]
  try dsimp only [gName]
  try simp only [L2.start, List.map_cons, List.map_nil, List.length_cons, List.length_nil, List.replicate_succ, List.replicate_zero, List.cons_append, List.nil_append, List.set_cons_succ, List.set_cons_zero, Nat.reduceAdd, Nat.reduceSub, Nat.zero_add]
  refine fun R nR => ?_
  have N22 := N21.add (o := .dK []) nR
  have W22 := W21.put (o := .dK []) (.inr nR)
  have nRH := ks_none k21' nR
  have nR2 := N21.nin nR
  have k22 := ks_updN k21' (o := .dK []) nRH
  have eR22 : (upd H21 R (.dK [])) R = some (.dK []) := upd_same
  generalize upd H21 R (.dK []) = H22 at *
  refine ⟨_, rfl, _, rfl, _, rfl, _, rfl, _, rfl, _, rfl, (by show 1 ≤ sizeLine; decide), fun D23 nD23 => ?_⟩
  obtain ⟨N23, k23, W23⟩ := W22.mk (ws := [S8.2.2]) N22 k22 nD23
  have eR23 := (same_upd (o := .lst (nts [S8.2.2])) nD23) _ _ eR22
  change (upd H22 D23 (.lst (nts [S8.2.2]))) R = _ at eR23
  change H22 D23 = none at nD23
  have hch : (upd H22 D23 (.lst [V.int ((S8.2.2 : Nat) : Int)])) = upd H22 D23 (.lst (nts [S8.2.2])) := rfl
  rw [hch]
  clear hch
  generalize upd H22 D23 (.lst (nts [S8.2.2])) = H23 at *
  refine ⟨eR23, [(.inr "ones", .ref LA), (.inr "others", .ref LB), (.inr "zeros", .ref D3), (.inr "norm", .ref D6), (.inr "back", .ref D8), (.inr "more", .ref D23)], rfl, (by show 6 ≤ 15; decide), ?_⟩
  rw [mrg1]
  obtain ⟨kv1, hkv1⟩ : ∃ kv1 : List (Key × V), kv1 = [(.inr "ones", .ref LA), (.inr "others", .ref LB), (.inr "zeros", .ref D3), (.inr "norm", .ref D6), (.inr "back", .ref D8), (.inr "more", .ref D23)] := ⟨_, rfl⟩
  rw [← hkv1]
  have T24 : St90 C Z p S21.1 H H23 [(D23, [S8.2.2]), (D21, S21.2), (D18, S18.2), (D16, by'), (D15, so), (D14, fe), (D13, S12.2.drop 1), (D10, S10.2), (D9, S9.2), (D8, S8.2.1), (D6, S6.2), (D3, S3.2), (LB, ts), (LA, os)] R [] := ⟨N23, k23, fun q hq => W23 q (by
    simp only [List.mem_cons, List.not_mem_nil, or_false] at hq ⊢
    rcases hq with z | z | z | z | z | z | z | z | z | z | z | z | z | z <;> rw [z] <;> simp), eR23, nRH⟩
  replace T24 := T24.all (kv' := kv1)
  generalize upd H23 R (.dK kv1) = H24 at *
  clear N23 W23 k23 W22 W21 W20 W19 W18 W17 W16 W15 W14 W13 W12 W11 W10 W9 W8 W7 W6 W5 W4 W3 W2 W1 N22 N21 N20 N19 N18 N17 N16 N15 N14 N13 N12 N11 N10 N9 N8 N7 N6 N5 N4 N3 N2 N1
  try dsimp only [gName]
  try simp only [L2.start, List.map_cons, List.map_nil, List.length_cons, List.length_nil, List.replicate_succ, List.replicate_zero, List.cons_append, List.nil_append, List.set_cons_succ, List.set_cons_zero, Nat.reduceAdd, Nat.reduceSub, Nat.zero_add]
  refine ⟨_, rfl, R, rfl, .inl ⟨_, .inl T24.e⟩, fun R2 nR2' => ?_⟩
  obtain ⟨T25, e25, ne2, nn2, n02⟩ := T24.lay nR2'
  generalize upd H24 R2 (.dK []) = H25 at *
  refine ⟨_, rfl, _, rfl, _, rfl, _, rfl, _, rfl, _, rfl, e25, [(.inr "great", .ref D9), (.inr "small", .ref D10), (.inr "apart", .ref D13), (.inr "few", .ref D14), (.inr "some", .ref D15), (.inr "by", .ref D16)], rfl, (by show 6 ≤ 15; decide), ?_⟩
  rw [mrn2]
  obtain ⟨T26, e26⟩ := T25.fill (kv' := [(.inr "great", .ref D9), (.inr "small", .ref D10), (.inr "apart", .ref D13), (.inr "few", .ref D14), (.inr "some", .ref D15), (.inr "by", .ref D16)]) e25 ne2 n02
  refine ⟨_, R2, _, T26.e, rfl, e26, ne2, by rw [hkv1]; show 12 ≤ sizeLine; decide, ?_⟩
  rw [hkv1, mrg2]
  have T27 := T26.all (kv' := [(.inr "ones", .ref LA), (.inr "others", .ref LB), (.inr "zeros", .ref D3), (.inr "norm", .ref D6), (.inr "back", .ref D8), (.inr "more", .ref D23), (.inr "great", .ref D9), (.inr "small", .ref D10), (.inr "apart", .ref D13), (.inr "few", .ref D14), (.inr "some", .ref D15), (.inr "by", .ref D16)])
  generalize upd (upd H25 R2 (.dK [(.inr "great", .ref D9), (.inr "small", .ref D10), (.inr "apart", .ref D13), (.inr "few", .ref D14), (.inr "some", .ref D15), (.inr "by", .ref D16)])) R (.dK [(.inr "ones", .ref LA), (.inr "others", .ref LB), (.inr "zeros", .ref D3), (.inr "norm", .ref D6), (.inr "back", .ref D8), (.inr "more", .ref D23), (.inr "great", .ref D9), (.inr "small", .ref D10), (.inr "apart", .ref D13), (.inr "few", .ref D14), (.inr "some", .ref D15), (.inr "by", .ref D16)]) = H27 at *
  try dsimp only [gName]
  try simp only [L2.start, List.map_cons, List.map_nil, List.length_cons, List.length_nil, List.replicate_succ, List.replicate_zero, List.cons_append, List.nil_append, List.set_cons_succ, List.set_cons_zero, Nat.reduceAdd, Nat.reduceSub, Nat.zero_add]
  refine ⟨_, rfl, R, rfl, .inl ⟨_, .inl T27.e⟩, fun R3 nR3' => ?_⟩
  obtain ⟨T28, e28, ne3, nn3, n03⟩ := T27.lay nR3'
  generalize upd H27 R3 (.dK []) = H28 at *
  refine ⟨_, rfl, _, rfl, _, rfl, _, rfl, R :: R3 :: R2 :: Z, p, 24, S21.1, [], D9, D10, false, false, S9.2, S10.2, rfl, T28.N, T28.W.at (q := (D9, S9.2)) (by simp), T28.W.at (q := (D10, S10.2)) (by simp), (T28.W (D9, S9.2) (by simp)).2.1, (T28.W (D10, S10.2) (by simp)).2.1, by omega, by omega, fun w hw => by have := t9 w hw; omega, fun w hw => by have := t10 w hw; omega, by omega, by omega, fun D29m H29 k29 N29 nD29 eD29 => ?_⟩
  obtain ⟨x29, l29, t29, v29⟩ := P_mark (gs := S21.1) (os := S9.2) (ts := S10.2) (by omega) (by omega) (fun w hw => by have := t9 w hw; omega) (fun w hw => by have := t10 w hw; omega)
  have T29 := T28.to k29 N29 nD29 eD29 nR2
  replace e28 := k29.1 _ _ e28 nn3
  rw [l9] at x29 l29
  generalize markW 24 S21.1 S9.2 S10.2 = S29 at *
  have y29 := x29.len
  have b29 : Builtin.Int.intBits ((S29.2.length : Nat) : Int) = 5 := by
    rw [show S29.2.length = 16 by omega]
    rfl
  refine ⟨R :: R3 :: R2 :: Z, p, 24, S29.1, [], D29m, false, S29.2, rfl, T29.N, T29.W.at (q := (D29m, S29.2)) (by simp), (T29.W (D29m, S29.2) (by simp)).2.1, t29, by omega, by omega, fun D30 H30 k30 N30 nD30 eD30 => ?_⟩
  rw [b29] at N30 eD30
  obtain ⟨x30, l30, t30, v30⟩ := P_zero (gs := S29.1) (ws := S29.2) (k := 5) t29
  have T30 := T29.to k30 N30 nD30 eD30 nR2
  replace e28 := k30.1 _ _ e28 nn3
  rw [show S29.2.length = 16 by omega] at x30
  generalize zeroW 24 S29.1 S29.2 5 = S30 at *
  have y30 := x30.len
  have b13 : Builtin.Int.intBits (((S12.2.drop 1).length : Nat) : Int) = 5 := by
    rw [l13]
    rfl
  refine ⟨_, rfl, _, rfl, R :: R3 :: R2 :: Z, p, 24, S30.1, [], D13, false, S12.2.drop 1, rfl, T30.N, T30.W.at (q := (D13, S12.2.drop 1)) (by simp), (T30.W (D13, S12.2.drop 1) (by simp)).2.1, fun w hw => by have := t13 w hw; omega, by omega, by omega, fun D31 H31 k31 N31 nD31 eD31 => ?_⟩
  rw [b13] at N31 eD31
  obtain ⟨x31, l31, t31, v31⟩ := P_zero (gs := S30.1) (ws := S12.2.drop 1) (k := 5) (fun w hw => by have := t13 w hw; omega)
  have T31 := T30.to k31 N31 nD31 eD31 nR2
  replace e28 := k31.1 _ _ e28 nn3
  rw [l13] at x31
  generalize zeroW 24 S30.1 (S12.2.drop 1) 5 = S31 at *
  have y31 := x31.len
  refine ⟨e28, [(.inr "marks", .ref D30), (.inr "bare", .ref D31)], rfl, (by show 2 ≤ 15; decide), ?_⟩
  rw [mrn3]
  obtain ⟨T32, e32⟩ := T31.fill (kv' := [(.inr "marks", .ref D30), (.inr "bare", .ref D31)]) e28 ne3 n03
  refine ⟨_, R3, _, T32.e, rfl, e32, ne3, (by show 14 ≤ sizeLine; decide), ?_⟩
  rw [mrg3]
  have T33 := T32.all (kv' := [(.inr "ones", .ref LA), (.inr "others", .ref LB), (.inr "zeros", .ref D3), (.inr "norm", .ref D6), (.inr "back", .ref D8), (.inr "more", .ref D23), (.inr "great", .ref D9), (.inr "small", .ref D10), (.inr "apart", .ref D13), (.inr "few", .ref D14), (.inr "some", .ref D15), (.inr "by", .ref D16), (.inr "marks", .ref D30), (.inr "bare", .ref D31)])
  generalize upd (upd H31 R3 (.dK [(.inr "marks", .ref D30), (.inr "bare", .ref D31)])) R (.dK [(.inr "ones", .ref LA), (.inr "others", .ref LB), (.inr "zeros", .ref D3), (.inr "norm", .ref D6), (.inr "back", .ref D8), (.inr "more", .ref D23), (.inr "great", .ref D9), (.inr "small", .ref D10), (.inr "apart", .ref D13), (.inr "few", .ref D14), (.inr "some", .ref D15), (.inr "by", .ref D16), (.inr "marks", .ref D30), (.inr "bare", .ref D31)]) = H33 at *
  try dsimp only [gName]
  try simp only [L2.start, List.map_cons, List.map_nil, List.length_cons, List.length_nil, List.replicate_succ, List.replicate_zero, List.cons_append, List.nil_append, List.set_cons_succ, List.set_cons_zero, Nat.reduceAdd, Nat.reduceSub, Nat.zero_add]
  refine ⟨_, rfl, R, rfl, .inl ⟨_, .inl T33.e⟩, fun R4 nR4' => ?_⟩
  obtain ⟨T34, e34, ne4, nn4, n04⟩ := T33.lay nR4'
  generalize upd H33 R4 (.dK []) = H34 at *
  refine ⟨_, rfl, _, rfl, _, rfl, _, rfl, _, rfl, R :: R4 :: R3 :: R2 :: Z, p, 24, S31.1, [], D9, false, S9.2, S7.2, rfl, T34.N, T34.W.at (q := (D9, S9.2)) (by simp), fun w hw => by have := t9 w hw; omega, by omega, by omega, by omega, fun D34 H35 k35 N35 nD35 eD35 => ?_⟩
  obtain ⟨x34, l34, t34, v34⟩ := P_raise (gs := S31.1) (os := S9.2) (c := S7.2) (fun w hw => by have := t9 w hw; omega) (by omega)
  have T35 := T34.to k35 N35 nD35 eD35 nR2
  replace e34 := k35.1 _ _ e34 nn4
  rw [l9] at x34 l34
  generalize raiW 24 S31.1 S9.2 S7.2 = S34 at *
  have y34 := x34.len
  refine ⟨e34, [(.inr "product", .ref D18), (.inr "both", .ref D21), (.inr "raised", .ref D34)], rfl, (by show 3 ≤ 15; decide), ?_⟩
  rw [mrn4]
  obtain ⟨T36, e36⟩ := T35.fill (kv' := [(.inr "product", .ref D18), (.inr "both", .ref D21), (.inr "raised", .ref D34)]) e34 ne4 n04
  refine ⟨_, R4, _, T36.e, rfl, e36, ne4, (by show 17 ≤ sizeLine; decide), ?_⟩
  rw [mrg4]
  have T37 := T36.all (kv' := [(.inr "ones", .ref LA), (.inr "others", .ref LB), (.inr "zeros", .ref D3), (.inr "norm", .ref D6), (.inr "back", .ref D8), (.inr "more", .ref D23), (.inr "great", .ref D9), (.inr "small", .ref D10), (.inr "apart", .ref D13), (.inr "few", .ref D14), (.inr "some", .ref D15), (.inr "by", .ref D16), (.inr "marks", .ref D30), (.inr "bare", .ref D31), (.inr "product", .ref D18), (.inr "both", .ref D21), (.inr "raised", .ref D34)])
  generalize upd (upd H35 R4 (.dK [(.inr "product", .ref D18), (.inr "both", .ref D21), (.inr "raised", .ref D34)])) R (.dK [(.inr "ones", .ref LA), (.inr "others", .ref LB), (.inr "zeros", .ref D3), (.inr "norm", .ref D6), (.inr "back", .ref D8), (.inr "more", .ref D23), (.inr "great", .ref D9), (.inr "small", .ref D10), (.inr "apart", .ref D13), (.inr "few", .ref D14), (.inr "some", .ref D15), (.inr "by", .ref D16), (.inr "marks", .ref D30), (.inr "bare", .ref D31), (.inr "product", .ref D18), (.inr "both", .ref D21), (.inr "raised", .ref D34)]) = H37 at *
  try dsimp only [gName]
  try simp only [L2.start, List.map_cons, List.map_nil, List.length_cons, List.length_nil, List.replicate_succ, List.replicate_zero, List.cons_append, List.nil_append, List.set_cons_succ, List.set_cons_zero, Nat.reduceAdd, Nat.reduceSub, Nat.zero_add]
  refine ⟨_, rfl, q R H37 S34.1 [(LA, os), (LB, ts), (D3, S3.2), (D6, S6.2), (D8, S8.2.1), (D23, [S8.2.2]), (D9, S9.2), (D10, S10.2), (D13, S12.2.drop 1), (D14, fe), (D15, so), (D16, by'), (D30, S30.2), (D31, S31.2), (D18, S18.2), (D21, S21.2), (D34, S34.2)] T37.k (netsw (netsw (netsw T37.N).less).less).less ?_ (by omega) T37.n rfl T37.e (fun q hq => T37.W q ?_) ?_ ?_⟩
  · have E5 := (x3.trans x4).trans x5
    have E8 := ((E5.trans x6).trans x7).trans x8
    have E12 := (((E8.trans x9).trans x10).trans x11).trans x12
    have E20 := (((E12.trans x17).trans x18).trans x19).trans x20
    have E34 := ((((E20.trans x21).trans x29).trans x30).trans x31).trans x34
    exact E34.2 (fun i g h => by simp at h)
  · simp only [List.mem_cons, List.not_mem_nil, or_false] at *
    rename_i hq
    rcases hq with z | z | z | z | z | z | z | z | z | z | z | z | z | z | z | z | z <;> rw [z] <;> simp
  · intro q hq
    simp only [List.mem_cons, List.not_mem_nil, or_false] at hq
    rcases hq with z | z | z | z | z | z | z | z | z | z | z | z | z | z | z | z | z <;> rw [z]
    · exact ⟨by show os.length ≤ 100; omega, fun w hw => by have := ho w hw; omega⟩
    · exact ⟨by show ts.length ≤ 100; omega, fun w hw => by have := ht w hw; omega⟩
    · exact ⟨by show S3.2.length ≤ 100; omega, fun w hw => by have := t3 w hw; omega⟩
    · exact ⟨by show S6.2.length ≤ 100; omega, fun w hw => by have := t6 w hw; omega⟩
    · exact ⟨by show S8.2.1.length ≤ 100; omega, fun w hw => by have := t8 w hw; omega⟩
    · exact ⟨by show 1 ≤ 100; decide, fun w hw => by rw [List.mem_singleton.mp hw]; omega⟩
    · exact ⟨by show S9.2.length ≤ 100; omega, fun w hw => by have := t9 w hw; omega⟩
    · exact ⟨by show S10.2.length ≤ 100; omega, fun w hw => by have := t10 w hw; omega⟩
    · exact ⟨by show (S12.2.drop 1).length ≤ 100; omega, fun w hw => by have := t13 w hw; omega⟩
    · exact ⟨by show fe.length ≤ 100; omega, fun w hw => by have := t14 w hw; omega⟩
    · exact ⟨by show so.length ≤ 100; omega, fun w hw => by have := t15 w hw; omega⟩
    · exact ⟨by show by'.length ≤ 100; omega, fun w hw => by have := t16 w hw; omega⟩
    · exact ⟨by show S30.2.length ≤ 100; omega, fun w hw => by have := t30 w hw; omega⟩
    · exact ⟨by show S31.2.length ≤ 100; omega, fun w hw => by have := t31 w hw; omega⟩
    · exact ⟨by show S18.2.length ≤ 100; omega, fun w hw => by have := t18 w hw; omega⟩
    · exact ⟨by show S21.2.length ≤ 100; omega, fun w hw => by have := t21 w hw; omega⟩
    · exact ⟨by show S34.2.length ≤ 100; omega, fun w hw => by have := t34 w hw; omega⟩
  · intro g n e vals hv
    have E31 := x34.trans e
    have E30 := x31.trans E31
    have E29 := x30.trans E30
    have E21 := x29.trans E29
    have E20 := x21.trans E21
    have E19 := x20.trans E20
    have E18 := x19.trans E19
    have E17 := x18.trans E18
    have E12 := x17.trans E17
    have E11 := x12.trans E12
    have E10 := x11.trans E11
    have E9 := x10.trans E10
    have E8 := x9.trans E9
    have E7 := x8.trans E8
    have E6 := x7.trans E7
    have E5 := x6.trans E6
    have E4 := x5.trans E5
    have E3 := x4.trans E4
    have ml : ∀ W : List Nat, (W.map (wb vals g)).length = W.length := fun W => List.length_map _
    refine ⟨_, _, _, _, _, _, _, _, _, _, _, _, _, _, _, _, _, rfl, ?_⟩
    have F := fc_of (bo := os.map (wb vals g)) (bt := ts.map (wb vals g)) (bg := S9.2.map (wb vals g)) (bs := S10.2.map (wb vals g)) (bS := S12.2.map (wb vals g)) (by rw [ml, los]) (by rw [ml, l9]) (by rw [ml, l10]) (by rw [ml, l12])
      (v3 g _ E3 vals hv) (v4 g _ E4 vals hv) (v5 g _ E5 vals hv) (v6 g _ E6 vals hv) (v7 g _ E7 vals hv) (v8 g _ E8 vals hv) (v9 g _ E9 vals hv) (v10 g _ E10 vals hv) (v11 g _ E11 vals hv) (v12 g _ E12 vals hv)
      (v17 g _ E17 vals hv) (v18 g _ E18 vals hv) (v19 g _ E19 vals hv) (v20 g _ E20 vals hv) (v21 g _ E21 vals hv) (v29 g _ E29 vals hv) (v30 g _ E30 vals hv) ((v31 g _ E31 vals hv).trans (by dsimp only; rw [List.map_drop])) (v34 g _ e vals hv) (by
        have := numB_lt (fe.map (wb vals g))
        rw [ml, l14] at this
        exact Nat.lt_trans this (by decide)) (by
        have := numB_lt (so.map (wb vals g))
        rw [ml, l15] at this
        exact Nat.lt_trans this (by decide))
    rw [← List.map_drop] at F
    exact F
end
section
variable {P : Program} {w : World} {K : PySem.W.Frag} {mg : Str → Option Value} {base : Heap}
variable {C : Addr} {za : Nat → Addr} {zl : Nat → FuncData}
theorem iteY {c : Bool} {A B : Prop} (h : c = true) (b : A) : (if c = true then A else B) := by
  rw [h]
  exact b
theorem iteN {c : Bool} {A B : Prop} (h : c = false) (b : B) : (if c = true then A else B) := by
  rw [h]
  exact b
def kn90 (o t z n bk mo g s a f e y k r pd bo ra : Nat) : List (Key × V) := [(.inr "ones", .int (o : Int)), (.inr "others", .int (t : Int)), (.inr "zeros", .int (z : Int)), (.inr "norm", .int (n : Int)), (.inr "back", .int (bk : Int)), (.inr "more", .int (mo : Int)), (.inr "great", .int (g : Int)), (.inr "small", .int (s : Int)), (.inr "apart", .int (a : Int)), (.inr "few", .int (f : Int)), (.inr "some", .int (e : Int)), (.inr "by", .int (y : Int)), (.inr "marks", .int (k : Int)), (.inr "bare", .int (r : Int)), (.inr "product", .int (pd : Int)), (.inr "both", .int (bo : Int)), (.inr "raised", .int (ra : Int))]
def spCase90 : Sp := fun vs H Q _ => ∃ (d : Addr) (o t z n bk mo g s a f e y k r pd bo ra : Nat), vs = [.ref d] ∧ H d = some (.dK (kn90 o t z n bk mo g s a f e y k r pd bo ra)) ∧ Fc o t z n bk mo g s a f e y k r pd bo ra ∧ ∀ H', Same H H' → Q (.bl true) H'
theorem ok__law_case_right (B : Bl mg) (L : LL K mg C za zl) : FnOk P w K mg base CX0 1 (za 24) (zl 24) ["_law_own"] spCase90 := by
  refine L.F__law_case_right.ok sc__law_case_right (fun vs H Q E h => ?_) (fun cdv A outer s H vs Q E hr h => ?_)
  · obtain ⟨d, o, t, z, n, bk, mo, g, s, a, f, e, y, k, r, pd, bo, ra, rfl, _⟩ := h
    rfl
  obtain ⟨d, o, t, z, n, bk, mo, g, sm, a, f, e, y, k, r, pd, bo, ra, rfl, hd, hF, q⟩ := h
  refine ⟨_, (pss_cons (ps_par (by rfl) sc__law_case_right.nd (i := 1) (j := 2) rfl rfl (by decide) rfl rfl (pa_cons (pe_dget (units1 hr) (pv 0) pe_str (fun _ _ => rfl)) (pa_cons (pe_dget (units1 hr) (pv 0) pe_str (fun _ _ => rfl)) pa_nil)) (by rfl))
    (pss_cons (ps_if (PW.pt (pw_or (pt_cmpR op_ne (pe_dget (units1 hr) (pv 0) pe_str (fun _ _ => rfl)) (pv 1) (nomark _)) (pw_or (pt_cmpR op_ne (pe_dget (units1 hr) (pv 0) pe_str (fun _ _ => rfl)) pe_int (nomark _)) (pw_or1 (pt_cmpR op_ne (pe_cmpR op_eq (pe_op op_shrN (pe_dget (units1 hr) (pv 0) pe_str (fun _ _ => rfl)) pe_int) pe_int (nomark _)) (pe_cmpR op_gt (pv 1) pe_int (nomark _)) (nomark _)))))) (pss_one (ps_ret pe_bl)) pss_nil)
    (pss_cons (ps_if (pt_cmpR (op_neD hr.units) (pe_lst (pa_cons (pe_dget (units1 hr) (pv 0) pe_str (fun _ _ => rfl)) (pa_cons (pe_dget (units1 hr) (pv 0) pe_str (fun _ _ => rfl)) (pa_cons (pe_dget (units1 hr) (pv 0) pe_str (fun _ _ => rfl)) pa_nil)))) (pe_lst (pa_cons (pe_callB (call_max2 rfl) (by rfl) B.max boot_max (pa_cons (pv 1) (pa_cons (pv 2) pa_nil))) (pa_cons (pe_callB (call_min2 rfl) (by rfl) B.min boot_min (pa_cons (pv 1) (pa_cons (pv 2) pa_nil))) (pa_cons (pe_callB call_abs (by rfl) B.abs boot_abs (pa_cons (pe_op op_sub (pv 1) (pv 2)) pa_nil)) pa_nil)))) (nomark _)) (pss_one (ps_ret pe_bl)) pss_nil)
    (pss_cons (ps_if (PW.pt (pw_or (pt_cmpR op_ne (pe_dget (units1 hr) (pv 0) pe_str (fun _ _ => rfl)) (pe_op op_sub pe_int (pe_bits (pv 1))) (nomark _)) (pw_or1 (pt_cmpR op_ne (pe_dget (units1 hr) (pv 0) pe_str (fun _ _ => rfl)) (pe_op op_sub pe_int (pe_bits (pe_dget (units1 hr) (pv 0) pe_str (fun _ _ => rfl)))) (nomark _))))) (pss_one (ps_ret pe_bl)) pss_nil)
    (pss_cons (ps_if (PW.pt (pw_or (pt_cmpR op_notIn_seq (pe_op op_sub (pe_dget (units1 hr) (pv 0) pe_str (fun _ _ => rfl)) (pe_dget (units1 hr) (pv 0) pe_str (fun _ _ => rfl))) (pe_tup (pa_cons pe_int (pa_cons pe_int pa_nil))) (by rfl)) (pw_or1 (pt_cmpR op_ne (pe_dget (units1 hr) (pv 0) pe_str (fun _ _ => rfl)) (pe_op op_add (pe_dget (units1 hr) (pv 0) pe_str (fun _ _ => rfl)) (pe_callTy call_int1 (by rfl) B.int PyProof.Rows.boot_int (pa_cons (pe_cmpR op_lt (pv 1) (pv 2) (nomark _)) pa_nil))) (nomark _))))) (pss_one (ps_ret pe_bl)) pss_nil)
    (pss_one (ps_ret (pe_chain op_eq op_eq (pe_dget (units1 hr) (pv 0) pe_str (fun _ _ => rfl)) (pe_dget (units1 hr) (pv 0) pe_str (fun _ _ => rfl)) (pe_op op_mul (pe_op op_add (pe_dget (units1 hr) (pv 0) pe_str (fun _ _ => rfl)) (pe_dget (units1 hr) (pv 0) pe_str (fun _ _ => rfl))) (pe_dget (units1 hr) (pv 0) pe_str (fun _ _ => rfl))))))))))), ?_⟩
  have gt : ∀ (i : Nat) (k' : Key) (v : V), (kn90 o t z n bk mo g sm a f e y k r pd bo ra)[i]? = some (k', v) → DGet H d (kV k') (some v) := fun i k' v h => by
    have := DGet.k (k := k') hd
    rwa [valV_at (kvs := kn90 o t z n bk mo g sm a f e y k r pd bo ra) (keys90 17 (by decide)) h] at this
  obtain ⟨c1, c2, c3, c4, c5, c6, c7, c8, c9, c10, c11, c12, bf, be⟩ := hF
  subst c1 c2 c11 c12
  refine ⟨_, rfl, d, _, rfl, gt 0 (.inr "ones") _ rfl, _, rfl, d, _, rfl, gt 1 (.inr "others") _ rfl, _, _, rfl, ?_⟩
  try simp only [L2.start, List.map_cons, List.map_nil, List.length_cons, List.length_nil, List.replicate_succ, List.replicate_zero, List.cons_append, List.nil_append, List.set_cons_succ, List.set_cons_zero, Nat.reduceAdd, Nat.reduceSub, Nat.zero_add]
  refine ⟨_, rfl, d, _, rfl, gt 4 (.inr "back") _ rfl, _, rfl, rfl, _, rfl, iteN (by simp) ?_⟩
  refine ⟨_, rfl, d, _, rfl, gt 5 (.inr "more") _ rfl, rfl, _, rfl, iteN (by simp) ?_⟩
  refine ⟨_, rfl, d, _, rfl, gt 3 (.inr "norm") _ rfl, _, 15, rfl, rfl, ?_⟩
  refine ⟨rfl, _, rfl, _, _, rfl, rfl, rfl, _, rfl, iteN ?_ ?_⟩
  · have e1 : decide (V.int ((n : Int) / 2 ^ 15) = V.int 1) = decide ((bk : Int) > 0) := by
      refine decide_eq_decide.mpr ⟨fun z => ?_, fun z => ?_⟩
      · have := V.int.inj z
        omega
      · have h : n / 2 ^ 15 = 1 := c3.mpr (by omega)
        congr 1
        omega
    rw [e1]
    simp
  try dsimp only [tNext]
  refine ⟨_, rfl, d, _, rfl, gt 6 (.inr "great") _ rfl, _, rfl, d, _, rfl, gt 7 (.inr "small") _ rfl, _, rfl, d, _, rfl, gt 8 (.inr "apart") _ rfl, (by show 3 ≤ sizeLine; decide), fun D1 nD1 => ?_⟩
  have s1 := same_upd (o := .lst [V.int (g : Int), V.int (sm : Int), V.int (a : Int)]) nD1
  have e1 : (upd H D1 (.lst [V.int (g : Int), V.int (sm : Int), V.int (a : Int)])) D1 = some (.lst [V.int (g : Int), V.int (sm : Int), V.int (a : Int)]) := upd_same
  have hd1 := s1 _ _ hd
  generalize upd H D1 (.lst [V.int (g : Int), V.int (sm : Int), V.int (a : Int)]) = H1 at *
  refine ⟨_, rfl, _, rfl, _, _, rfl, _, rfl, _, rfl, _, _, rfl, _, rfl, _, rfl, _, _, rfl, rfl, _, rfl, (by show 3 ≤ sizeLine; decide), fun D2 nD2 => ?_⟩
  have m1 : (if (t : Int) > (bk : Int) then (t : Int) else (bk : Int)) = (g : Int) := by split <;> omega
  have m2 : (if (t : Int) < (bk : Int) then (t : Int) else (bk : Int)) = (sm : Int) := by split <;> omega
  have m3 : (if (bk : Int) - (t : Int) < 0 then -((bk : Int) - (t : Int)) else (bk : Int) - (t : Int)) = (a : Int) := by split <;> omega
  rw [m1, m2, m3]
  have s2 := same_upd (o := .lst [V.int (g : Int), V.int (sm : Int), V.int (a : Int)]) nD2
  have e2 : (upd H1 D2 (.lst [V.int (g : Int), V.int (sm : Int), V.int (a : Int)])) D2 = some (.lst [V.int (g : Int), V.int (sm : Int), V.int (a : Int)]) := upd_same
  have hd2 := s2 _ _ hd1
  have e1' := s2 _ _ e1
  generalize upd H1 D2 (.lst [V.int (g : Int), V.int (sm : Int), V.int (a : Int)]) = H2 at *
  refine ⟨.list ([(g : Int), (sm : Int), (a : Int)].map PyData.int), .list ([(g : Int), (sm : Int), (a : Int)].map PyData.int), .lst (SqL.of e1') (dp_ints [(g : Int), (sm : Int), (a : Int)]), .lst (SqL.of e2) (dp_ints [(g : Int), (sm : Int), (a : Int)]), PySem.W.shaped_ints _, PySem.W.shaped_ints _, ?_⟩
  rw [PySem.SeqAt.eqv_refl _ (PySem.SeqAt.canLay_of_shaped (PySem.W.shaped_ints _))]
  refine ⟨_, rfl, iteF ?_⟩
  try dsimp only [tNext]
  replace gt : ∀ (i : Nat) (k' : Key) (v : V), (kn90 bk t z n bk 0 g sm a f e y k r ((f + e) * y) ((f + e) * y) ra)[i]? = some (k', v) → DGet H2 d (kV k') (some v) := fun i k' v h => by
    have := DGet.k (k := k') hd2
    rwa [valV_at (kvs := kn90 bk t z n bk 0 g sm a f e y k r ((f + e) * y) ((f + e) * y) ra) (keys90 17 (by decide)) h] at this
  have s02 := s1.trans s2
  refine ⟨_, rfl, d, _, rfl, gt 2 (.inr "zeros") _ rfl, _, rfl, _, rfl, _, _, rfl, rfl, rfl, _, rfl, iteN ?_ ?_⟩
  · have : (z : Int) = 16 - (Builtin.Int.intBits (bk : Int) : Nat) := by omega
    simp [this]
  refine ⟨_, rfl, d, _, rfl, gt 13 (.inr "bare") _ rfl, _, rfl, d, _, rfl, gt 8 (.inr "apart") _ rfl, _, rfl, _, _, rfl, rfl, rfl, _, rfl, iteN ?_ ?_⟩
  · have : (r : Int) = 16 - (Builtin.Int.intBits (a : Int) : Nat) := by omega
    simp [this]
  try dsimp only [tNext]
  refine ⟨_, rfl, d, _, rfl, gt 13 (.inr "bare") _ rfl, _, rfl, d, _, rfl, gt 12 (.inr "marks") _ rfl, _, _, rfl, rfl, (by show 2 ≤ sizeLine; decide), fun T nT => ?_⟩
  have s3 := same_upd (o := .tup [V.int 0, V.int 1]) nT
  have eT : (upd H2 T (.tup [V.int 0, V.int 1])) T = some (.tup [V.int 0, V.int 1]) := upd_same
  have hd3 := s3 _ _ hd2
  generalize upd H2 T (.tup [V.int 0, V.int 1]) = H3 at *
  refine ⟨T, _, rfl, .inr (.inl (.inl eT)), rfl, rfl, _, rfl, iteN ?_ ?_⟩
  · have : (r : Int) - (k : Int) = 0 ∨ (r : Int) - (k : Int) = 1 := by omega
    dsimp only
    rcases this with z | z <;> rw [z] <;> rfl
  replace gt : ∀ (i : Nat) (k' : Key) (v : V), (kn90 bk t z n bk 0 g sm a f e y k r ((f + e) * y) ((f + e) * y) ra)[i]? = some (k', v) → DGet H3 d (kV k') (some v) := fun i k' v h => by
    have := DGet.k (k := k') hd3
    rwa [valV_at (kvs := kn90 bk t z n bk 0 g sm a f e y k r ((f + e) * y) ((f + e) * y) ra) (keys90 17 (by decide)) h] at this
  replace s02 := s02.trans s3
  refine ⟨_, rfl, d, _, rfl, gt 16 (.inr "raised") _ rfl, _, rfl, d, _, rfl, gt 6 (.inr "great") _ rfl, _, rfl, _, rfl, _, _, rfl, rfl, .inr ⟨_, rfl, _, _, rfl, rfl, rfl, _, rfl, iteN ?_ ?_⟩⟩
  · have : (ra : Int) = (g : Int) + (if decide ((bk : Int) < (t : Int)) = true then 1 else 0) := by
      rw [c10]
      by_cases c : bk < t
      · rw [if_pos c, if_pos (decide_eq_true (by omega))]
        omega
      · rw [if_neg c, if_neg (by rw [decide_eq_false (by omega)]; decide)]
        try omega
    simp [this]
  try dsimp only [tNext]
  refine ⟨_, rfl, d, _, rfl, gt 14 (.inr "product") _ rfl, _, rfl, d, _, rfl, gt 15 (.inr "both") _ rfl, rfl, _, rfl, iteY (by simp) ?_⟩
  refine ⟨_, rfl, d, _, rfl, gt 9 (.inr "few") _ rfl, _, rfl, d, _, rfl, gt 10 (.inr "some") _ rfl, _, _, rfl, rfl, _, rfl, d, _, rfl, gt 11 (.inr "by") _ rfl, _, _, rfl, rfl, .inl ⟨by omega, by omega⟩, rfl, ?_⟩
  have ee : decide (V.int (((f + e) * y : Nat) : Int) = (fun i j => V.int (i * j)) ((f : Int) + (e : Int)) (y : Int)) = true := by
    refine decide_eq_true ?_
    show V.int (((f + e) * y : Nat) : Int) = V.int (((f : Int) + (e : Int)) * (y : Int))
    rw [Int.natCast_mul, Int.natCast_add]
  rw [ee]
  exact q _ s02
end
section
variable {P : Program} {w : World} {K : PySem.W.Frag} {mg : Str → Option Value} {base : Heap}
variable {C : Addr} {za : Nat → Addr} {zl : Nat → FuncData}
/-! ### a sorted list is one -/
theorem rise_pw : ∀ (ss : List Str) (p : Str), risingS p ss = true → (p :: ss).Pairwise fun x y => x.cps.toList ≤ y.cps.toList
  | [], p, _ => List.pairwise_singleton _ _
  | s :: ss, p, h => by
    unfold risingS at h
    obtain ⟨h1, h2⟩ := Bool.and_eq_true_iff.mp h
    have ih := rise_pw ss s h2
    have le : p.cps.toList ≤ s.cps.toList := by
      rw [ltCps_eq] at h1
      simpa using h1
    refine List.pairwise_cons.mpr ⟨fun y hy => ?_, ih⟩
    rcases List.mem_cons.mp hy with e | hy
    · rw [e]
      exact le
    · exact List.le_trans le ((List.pairwise_cons.mp ih).1 y hy)
theorem sortS_one {xs ys zs : List Str} (h1 : xs.Perm zs) (s1 : sortedS xs = true) (h2 : ys.Perm zs) (s2 : sortedS ys = true) : xs = ys := by
  have pw : ∀ l : List Str, sortedS l = true → l.Pairwise fun x y => x.cps.toList ≤ y.cps.toList := fun l h => by
    cases l with
    | nil => exact .nil
    | cons x r => exact rise_pw r x h
  refine List.Perm.eq_of_pairwise (le := fun x y : Str => x.cps.toList ≤ y.cps.toList) (fun x y _ _ a b => ?_) (pw _ s1) (pw _ s2) (h1.trans h2.symm)
  have e := List.le_antisymm a b
  cases x
  cases y
  congr 1
  exact Array.toList_inj.mp e
def lkN (nm : List (Str × List Nat)) (y : Str) : List Nat := ((nm.find? fun x => decide (x.1 = y)).map (·.2)).getD []
theorem lkN_at : ∀ {nm : List (Str × List Nat)} {i : Nat} {n : Str} {ws : List Nat}, (nm.map (·.1)).Nodup → nm[i]? = some (n, ws) → lkN nm n = ws
  | [], i, n, ws, _, h => by simp at h
  | x :: nm, 0, n, ws, _, h => by
    cases h
    simp [lkN]
  | x :: nm, i + 1, n, ws, hd, h => by
    have hd' := List.nodup_cons.mp hd
    have hx : ¬ x.1 = n := fun e => hd'.1 (by show x.1 ∈ _; rw [e]; exact List.mem_map.mpr ⟨(n, ws), List.mem_of_getElem? h, rfl⟩)
    have ih := lkN_at (nm := nm) (i := i) hd'.2 h
    unfold lkN at ih ⊢
    rw [List.find?_cons_of_neg (by simpa using hx)]
    exact ih
theorem lkN_mem {nm : List (Str × List Nat)} {n : Str} {ws : List Nat} (nd : (nm.map (·.1)).Nodup) (h : (n, ws) ∈ nm) : lkN nm n = ws := by
  obtain ⟨i, hi⟩ := List.mem_iff_getElem?.mp h
  exact lkN_at nd hi
/-! ### data that can be compared -/
def Sd (m : Nat) (d : PyData) : Prop := d.canLay0 = true ∧ d.depth ≤ m
theorem sdA {m : Nat} : ∀ ds : List PyData, (∀ d ∈ ds, Sd m d) → PyData.canLayAll0 ds = true ∧ PyData.depthAll ds ≤ m
  | [], _ => ⟨rfl, Nat.zero_le _⟩
  | d :: ds, h => by
    obtain ⟨a, b⟩ := sdA ds (fun e he => h e (List.mem_cons_of_mem _ he))
    obtain ⟨c, e⟩ := h d List.mem_cons_self
    exact ⟨by unfold PyData.canLayAll0; rw [c, a]; rfl, by unfold PyData.depthAll; exact Nat.max_le.mpr ⟨e, b⟩⟩
theorem Sd.lst {m : Nat} {ds : List PyData} (h : ∀ d ∈ ds, Sd m d) : Sd (m + 1) (.list ds) := by
  obtain ⟨a, b⟩ := sdA ds h
  exact ⟨by unfold PyData.canLay0; exact a, by unfold PyData.depth; exact Nat.succ_le_succ b⟩
theorem Sd.tup {m : Nat} {ds : List PyData} (h : ∀ d ∈ ds, Sd m d) : Sd (m + 1) (.tuple ds) := by
  obtain ⟨a, b⟩ := sdA ds h
  exact ⟨by unfold PyData.canLay0; exact a, by unfold PyData.depth; exact Nat.succ_le_succ b⟩
theorem Sd.int {m : Nat} (i : Int) : Sd m (.int i) := ⟨rfl, Nat.zero_le _⟩
theorem Sd.str {m : Nat} {x : Str} (h : PyData.strOk x = true) : Sd m (.str x) := ⟨h, Nat.zero_le _⟩
theorem Sd.up {m k : Nat} {d : PyData} (h : Sd m d) (l : m ≤ k) : Sd k d := ⟨h.1, Nat.le_trans h.2 l⟩
theorem Sd.sh {m : Nat} {d : PyData} (h : Sd m d) (l : m ≤ 64) : PySem.SeqAt.shaped d = true := by
  unfold PySem.SeqAt.shaped
  rw [h.1, decide_eq_true (Nat.le_trans h.2 l)]
  rfl
theorem Sd.self {m : Nat} {d : PyData} (h : Sd m d) : PyData.eqv d d = true := PySem.SeqAt.eqv_refl _ h.1
theorem dpa_run {H : Hp} (f : Str → List Int) : ∀ (ts : List Addr) (ys : List Str), ts.length = ys.length → (∀ (i : Nat) (t : Addr) (y : Str), ts[i]? = some t → ys[i]? = some y → ∃ l, H t = some (.tup [.str y, .ref l]) ∧ H l = some (.lst ((f y).map V.int))) → DpAll K H (ts.map V.ref) (ys.map fun y => .tuple [.str y, .list ((f y).map PyData.int)])
  | [], [], _, _ => .nil
  | [], _ :: _, h, _ => by cases h
  | _ :: _, [], h, _ => by cases h
  | t :: ts, g :: gs, h, e => by
    obtain ⟨l, e1, e2⟩ := e 0 t g rfl rfl
    exact .cons (.tup (.inl (.inl e1)) (.cons (.str _) (.cons (.lst (SqL.of e2) (dp_ints _)) .nil))) (dpa_run f ts gs (Nat.succ.inj h) fun i a b h1 h2 => e (i + 1) a b h1 h2)
theorem sd_run {ys : List Str} (f : Str → List Int) (h : ∀ y ∈ ys, PyData.strOk y = true) : Sd 3 (.list (ys.map fun y => .tuple [.str y, .list ((f y).map PyData.int)])) := .lst fun d hd => by
  obtain ⟨y, hy, rfl⟩ := List.mem_map.mp hd
  refine .tup fun d hd => ?_
  simp only [List.mem_cons, List.not_mem_nil, or_false] at hd
  rcases hd with e | e <;> rw [e]
  · exact .str (h y hy)
  · refine .lst fun d hd => ?_
    obtain ⟨i, _, rfl⟩ := List.mem_map.mp hd
    exact .int i
theorem run_dp {H0 H : Hp} {t : Addr} {ys : List Str} {nm : List (Str × List Nat)} {rs : List Int} (h : RunAt H0 H t ys nm rs) (nd : (nm.map (·.1)).Nodup) : Dp K H (.ref t) (.list (ys.map fun y => .tuple [.str y, .list (((lkN nm y).map fun a => rs.getD a 0).map PyData.int)])) := by
  obtain ⟨ts, l, e, f⟩ := h
  refine .lst (SqL.of e) (dpa_run (fun y => (lkN nm y).map fun a => rs.getD a 0) ts ys l fun i u n h1 h2 => ?_)
  obtain ⟨ws, l', m, _, e1, e2⟩ := f i u n h1 h2
  rw [lkN_mem nd m]
  exact ⟨l', e1, e2⟩
theorem nm90_ok : ∀ y ∈ nm90, PyData.strOk y = true := by decide +kernel
theorem nm90_nd : nm90.Nodup := by decide +kernel
def nmW (LW : List (Addr × List Nat)) : List (Str × List Nat) := nm90.zip (LW.map (·.2))
theorem nm90_len : nm90.length = 17 := rfl
theorem kv_len {LW : List (Addr × List Nat)} (h : LW.length = 17) : (kv90 (LW.map (·.1))).length = 17 := by
  unfold kv90
  rw [List.length_map, List.length_zip, List.length_map, h, nm90_len]
  rfl
theorem nmW_len {LW : List (Addr × List Nat)} (h : LW.length = 17) : (nmW LW).length = 17 := by
  unfold nmW
  rw [List.length_zip, List.length_map, h, nm90_len]
  rfl
theorem nmW_fst {LW : List (Addr × List Nat)} (h : LW.length = 17) : (nmW LW).map (·.1) = nm90 := List.map_fst_zip (by rw [List.length_map, h, nm90_len]; exact Nat.le_refl _)
theorem kv_at {LW : List (Addr × List Nat)} (h : LW.length = 17) {j : Nat} (hj : j < 17) : ∃ (n : Str) (l : Addr) (ws : List Nat), nm90[j]? = some n ∧ LW[j]? = some (l, ws) ∧ (kv90 (LW.map (·.1)))[j]? = some (.inr n, .ref l) ∧ (nmW LW)[j]? = some (n, ws) := by
  have h1 : nm90[j]? = some nm90[j] := List.getElem?_eq_getElem hj
  have h2 : LW[j]? = some (LW[j]'(by omega)) := List.getElem?_eq_getElem (by omega)
  refine ⟨nm90[j], (LW[j]'(by omega)).1, (LW[j]'(by omega)).2, h1, h2, ?_, ?_⟩
  · unfold kv90
    rw [List.getElem?_map, List.zip, List.getElem?_zipWith, h1, List.getElem?_map, h2]
    rfl
  · unfold nmW
    rw [List.zip, List.getElem?_zipWith, h1, List.getElem?_map, h2]
    rfl
theorem kv_nd {LW : List (Addr × List Nat)} (h : LW.length = 17) : ((kv90 (LW.map (·.1))).map (·.1)).Nodup := by
  have e : (kv90 (LW.map (·.1))).map (·.1) = nm90.map (Sum.inr : Str → Key) := by
    unfold kv90
    rw [List.map_map]
    show (nm90.zip (LW.map (·.1))).map (Sum.inr ∘ (·.1)) = _
    rw [← List.map_map, List.map_fst_zip (by rw [List.length_map, h, nm90_len]; exact Nat.le_refl _)]
  rw [e]
  exact keys90 17 (by decide)
theorem nd_take {α : Type} {l : List α} (h : l.Nodup) {j : Nat} {x : α} (e : l[j]? = some x) : x ∉ l.take j := fun m => by
  obtain ⟨i, hi, ei⟩ := List.getElem_of_mem m
  rw [List.length_take] at hi
  rw [List.getElem_take] at ei
  obtain ⟨hj, ej⟩ := List.getElem?_eq_some_iff.mp e
  exact List.pairwise_iff_getElem.mp h i j (by omega) hj (by omega) (ei.trans ej.symm)
theorem nmW_mem {LW : List (Addr × List Nat)} {x : Str × List Nat} (h : x ∈ nmW LW) : ∃ q ∈ LW, q.2 = x.2 := by
  obtain ⟨q, hq, e⟩ := List.mem_map.mp (List.of_mem_zip (show (x.1, x.2) ∈ nm90.zip (LW.map (·.2)) from h)).2
  exact ⟨q, hq, e⟩
theorem RunAt.same {H0 H H' : Hp} {t : Addr} {ys : List Str} {nm : List (Str × List Nat)} {rs : List Int} (h : RunAt H0 H t ys nm rs) (s : Same H H') : RunAt H0 H' t ys nm rs := by
  obtain ⟨ts, l, e, f⟩ := h
  refine ⟨ts, l, s _ _ e, fun i u n h1 h2 => ?_⟩
  obtain ⟨ws, l', m, n0, e1, e2⟩ := f i u n h1 h2
  exact ⟨ws, l', m, n0, s _ _ e1, s _ _ e2⟩
theorem paired_snoc {α β : Type} {R : α → β → Prop} : ∀ {xs : List α} {ys : List β} {x : α} {y : β}, Paired R xs ys → R x y → Paired R (xs ++ [x]) (ys ++ [y])
  | _, _, _, _, .nil, r => .cons r .nil
  | _, _, _, _, .cons a b, r => .cons a (paired_snoc b r)
theorem paired_imp {α β : Type} {R S : α → β → Prop} (i : ∀ x y, R x y → S x y) : ∀ {xs : List α} {ys : List β}, Paired R xs ys → Paired S xs ys
  | _, _, .nil => .nil
  | _, _, .cons a b => .cons (i _ _ a) (paired_imp i b)
def knW (g : List Nat → Nat) (LW : List (Addr × List Nat)) : List (Key × V) := (nmW LW).map fun x => (.inr x.1, .int (g x.2 : Int))
theorem knW_eq {g : List Nat → Nat} {LW : List (Addr × List Nat)} {o t z n bk mo gg s a f e y k r pd bo ra : Nat} (h : LW.map (fun q => g q.2) = [o, t, z, n, bk, mo, gg, s, a, f, e, y, k, r, pd, bo, ra]) : knW g LW = kn90 o t z n bk mo gg s a f e y k r pd bo ra := by
  have e : knW g LW = (nm90.zip (LW.map fun q => g q.2)).map fun x => (.inr x.1, .int (x.2 : Int)) := by
    unfold knW nmW
    have : (LW.map fun q => g q.2) = (LW.map (·.2)).map g := by rw [List.map_map]; rfl
    have e2 : nm90.zip ((LW.map (·.2)).map g) = (nm90.zip (LW.map (·.2))).map (Prod.map id g) := List.zip_map_right ..
    rw [this, e2, List.map_map]
    rfl
  rw [e, h]
  rfl
end
section
variable {P : Program} {w : World} {K : PySem.W.Frag} {mg : Str → Option Value} {base : Heap}
variable {C : Addr} {za : Nat → Addr} {zl : Nat → FuncData}
def spLaw (K : PySem.W.Frag) : Sp := fun vs H Q _ => ∃ (a : Addr) (ns : List Int), vs = [.ref a] ∧ SqL K H a (ns.map V.int) ∧ ns.length ≤ 63 ∧ ∀ H', Q (.bl true) H'
theorem ok_law {f : Addr} {fd : FuncData} (F : Fun K "law" "law" s_law f fd) (B : Bl mg) (L : LL K mg C za zl) : FnOk P w K mg base CX0 10 f fd ["_law_script"] (spLaw K) := by
  have G__law_box : FnOk P w K mg base CX0 9 (za 19) (zl 19) ["_law_script", "_law_k"] (spBox K) := ok_box L.F__law_box B
  have G_Net___init__ : FnOk P w K mg base CX0 8 (za 25) (zl 25) ["self", "many"] (spNetI C) := (ok_Net___init__ B L).mono (by decide)
  have G__law_take : FnOk P w K mg base CX0 9 (za 20) (zl 20) ["_law_box_here", "_law_size"] (spTake 1) := (ok_take L.F__law_take L.b__law_take L.m__law_take B 1).mono (by decide)
  have G__law_put : FnOk P w K mg base CX0 9 (za 23) (zl 23) ["_law_net", "_law_first", "_law_second"] (spPut90 C) := (ok__law_put B L).mono (by decide)
  have G_Net_give : FnOk P w K mg base CX0 9 (za 34) (zl 34) ["self", "name", "wires"] (spGive K C) := (ok_Net_give B L).mono (by decide)
  have G__law_values : FnOk P w K mg base CX0 9 (za 21) (zl 21) ["_law_box_here", "_law_inputs", "_law_cases"] spValues := (ok__law_values B L).mono (by decide)
  have G_ran : FnOk P w K mg base CX0 9 (za 17) (zl 17) ["net", "values", "many"] (spRan C) := (ok_ran B L).mono (by decide)
  have G_Net_like : FnOk P w K mg base CX0 9 (za 38) (zl 38) ["self"] (spLike C) := (ok_Net_like B L).mono (by decide)
  have G__law_number : FnOk P w K mg base CX0 9 (za 22) (zl 22) ["_law_bits", "_law_case"] (spNumber K) := (ok__law_number B L).mono (by decide)
  have G__law_case_right : FnOk P w K mg base CX0 9 (za 24) (zl 24) ["_law_own"] spCase90 := (ok__law_case_right B L).mono (by decide)
  refine F.ok sc_law (fun vs H Q E h => ?_) (fun cdv A outer s H vs Q E hr h => ?_)
  · obtain ⟨a, ns, rfl, _⟩ := h
    rfl
  obtain ⟨a, ns, rfl, hS, h63, q⟩ := h
  refine ⟨_, (pss_cons (ps_for PassesOwn.never rfl (pi_range1 (by rfl) B.range (pa_cons (pe_callB (call_max2 rfl) (by rfl) B.max boot_max (pa_cons pe_int (pa_cons (pe_callB (call_min2 rfl) (by rfl) B.min boot_min (pa_cons (pe_callB call_len_seq (by rfl) B.len PySem.boot_len (pa_cons (pv 0) pa_nil)) (pa_cons pe_int pa_nil))) pa_nil))) pa_nil)) (pg_name (i := 1) sc_law.nd rfl (.inl rfl)) (pss_cons (ps_par (by rfl) sc_law.nd (i := 2) (j := 3) rfl rfl (by decide) rfl rfl (pa_cons (pe_call G__law_box hr (by rfl) L.m__law_box L.F__law_box.kp L.b__law_box .nil pass0 (pa_cons (pv 0) (pa_cons (pv 1) pa_nil))) (pa_cons (pe_make L.M G_Net___init__ hr (by rfl) L.T.mgC L.b_Net___init__ .nil pass0 (pa_cons pe_int pa_nil)) pa_nil)) (by rfl))
    (pss_cons (ps_set (i := 4) sc_law.nd rfl (.inl rfl) (pe_call G__law_put hr (by rfl) L.m__law_put L.F__law_put.kp L.b__law_put .nil pass0 (pa_cons (pv 3) (pa_cons (pe_call G__law_take hr (by rfl) L.m__law_take L.F__law_take.kp L.b__law_take .nil pass0 (pa_cons (pv 2) (pa_cons pe_int pa_nil))) (pa_cons (pe_call G__law_take hr (by rfl) L.m__law_take L.F__law_take.kp L.b__law_take .nil pass0 (pa_cons (pv 2) (pa_cons pe_int pa_nil))) pa_nil)))))
    (pss_cons (ps_lock (ps_for PassesOwn.never rfl (pi_keys (pv 4)) (pg_name (i := 5) sc_law.nd rfl (.inl rfl)) (pss_one (ps_expr (pe_meth (pv 3) L.T.cl L.M_Net_give G_Net_give hr L.b_Net_give .nil pass0 (pa_cons (pv 5) (pa_cons (pe_dget (units1 hr) (pv 4) (pv 5) (fun _ _ => rfl)) pa_nil)))))))
    (pss_cons (ps_set (i := 6) sc_law.nd rfl (.inl rfl) (pe_call G__law_values hr (by rfl) L.m__law_values L.F__law_values.kp L.b__law_values .nil pass0 (pa_cons (pv 2) (pa_cons pe_int (pa_cons pe_int pa_nil)))))
    (pss_cons (ps_set (i := 7) sc_law.nd rfl (.inl rfl) (pe_call G__law_values hr (by rfl) L.m__law_values L.F__law_values.kp L.b__law_values .nil pass0 (pa_cons (pv 2) (pa_cons pe_int (pa_cons pe_int pa_nil)))))
    (pss_cons (ps_setLc (i := 6) (own := [("_law_at", 11), ("_law_one", 12), ("_law_other", 13)]) (g := gTup K 2 (gCons (gName 11) (gCons (gTup K 2 (gCons (gName 12) (gCons (gName 13) gNil))) gNil))) (by rfl) sc_law.nd rfl rfl (sw_true rfl rfl rfl (by decide +kernel)) (pi_ez (by rfl) B.enumerate (by rfl) B.zip (pa_cons (pv 6) (pa_cons (pv 7) pa_nil))) (blkOk_by (own := [("_law_at", 11), ("_law_one", 12), ("_law_other", 13)]) (N := ["_law_script", "_law_k", "_law_box_here", "_law_net", "_law_found", "_law_name", "_law_values_here", "_law_mask", "_law_rows", "_law_told", "_law_case", "_law_at", "_law_one", "_law_other"]) (sc := defScope s_law) (by decide +kernel)) (fun _ _ _ _ _ => pg_tup rfl (pgs_cons (pg_name (i := 11) sc_law.nd rfl (Or.inl rfl) (.inr rfl)) (pgs_cons (pg_tup rfl (pgs_cons (pg_name (i := 12) sc_law.nd rfl (Or.inl rfl) (.inr rfl)) (pgs_cons (pg_name (i := 13) sc_law.nd rfl (Or.inl rfl) (.inr rfl)) pgs_nil))) pgs_nil))) (fun _ _ _ _ _ => pts_nil) (fun _ _ _ _ _ => (pe_ix (ix_listK (K := K)) (pe_lst (pa_cons (pv 12) (pa_cons (pe_op op_and (pv 12) (pv 13)) (pa_cons (pe_op op_or (pv 12) (pv 13)) pa_nil)))) (pe_op op_mod (pv 11) pe_int) (fun _ _ => rfl))))
    (pss_cons (ps_set (i := 8) sc_law.nd rfl (.inl rfl) (pe_callN G_ran hr (by rfl) L.m_ran L.F_ran.kp (L.kb_ran_many).choose_spec pass0 (pa_cons (pv 3) (pa_cons (pv 6) pa_nil)) (pk_cons pe_int pk_nil)))
    (pss_cons (ps_if (pt_cmpR (op_neD hr.units) (pe_callN G_ran hr (by rfl) L.m_ran L.F_ran.kp (L.kb_ran_many).choose_spec pass0 (pa_cons (pe_meth0 (pv 3) L.T.cl L.M_Net_like G_Net_like hr L.b_Net_like .nil pass0) (pa_cons (pv 6) pa_nil)) (pk_cons pe_int pk_nil)) (pv 8) (nomark _)) (pss_one (ps_ret pe_bl)) pss_nil)
    (pss_cons (ps_set (i := 9) sc_law.nd rfl (.inr rfl) (pe_callTy (call_dictP rfl) (by rfl) L.z_dict PyProof.Rows.boot_dict (pa_cons (pv 8) pa_nil)))
    (pss_one (ps_for PassesOwn.never rfl (pi_range1 (by rfl) B.range (pa_cons pe_int pa_nil)) (pg_name (i := 10) sc_law.nd rfl (.inr rfl)) (pss_one (ps_if (pt_not (pt_val (pe_call G__law_case_right hr (by rfl) L.m__law_case_right L.F__law_case_right.kp L.b__law_case_right .nil pass0 (pa_cons (pe_callTy (call_dictP rfl) (by rfl) L.z_dict PyProof.Rows.boot_dict (pa_cons (pe_lock (pe_lc (own := [("_law_name", 5)]) (by rfl) sc_law.nd (pi_keys (pv 4)) (blkOk_by (own := [("_law_name", 5)]) (N := ["_law_script", "_law_k", "_law_box_here", "_law_net", "_law_found", "_law_name", "_law_values_here", "_law_mask", "_law_rows", "_law_told", "_law_case", "_law_at", "_law_one", "_law_other"]) (sc := defScope s_law) (by decide +kernel)) (fun _ _ _ _ _ => pg_name (i := 5) sc_law.nd rfl (Or.inl rfl)) (fun _ _ _ _ _ => pts_nil) (fun _ _ _ _ _ => (pe_tup (pa_cons (pv 5) (pa_cons (pe_call G__law_number hr (by rfl) L.m__law_number L.F__law_number.kp L.b__law_number .nil pass0 (pa_cons (pe_dget (units1 hr) (pv 9) (pv 5) (fun _ _ => rfl)) (pa_cons (pv 10) pa_nil))) pa_nil)))))) pa_nil)) pa_nil)))) (pss_one (ps_ret pe_bl)) pss_nil))))))))))))))
    (pss_one (ps_ret pe_bl))), ?_⟩
  refine ⟨_, rfl, a, _, rfl, .inl hS, _, _, rfl, ?_⟩
  obtain ⟨n, en, hn⟩ : ∃ n : Nat, (if (if (2 : Int) < (((ns.map V.int).length : Nat) : Int) then (2 : Int) else (((ns.map V.int).length : Nat) : Int)) > 1 then (if (2 : Int) < (((ns.map V.int).length : Nat) : Int) then (2 : Int) else (((ns.map V.int).length : Nat) : Int)) else 1) = (n : Int) ∧ n ≤ 63 := by
    rw [List.length_map]
    split <;> split <;> first | exact ⟨2, rfl, by decide⟩ | exact ⟨ns.length, rfl, h63⟩ | exact ⟨1, rfl, by decide⟩
  refine ⟨_, _, rfl, ?_⟩
  rw [en]
  refine ⟨_, rfl, by omega, by omega, ?_⟩
  rw [Int.toNat_natCast]
  refine for_range (n := n) (fun i σ H5 => ∃ (y1 y2 y3 y4 y5 y6 y7 y8 y9 y10 : Option V), σ = [some (.ref a), y1, y2, y3, y4, y5, y6, y7, y8, y9, y10, none, none, none] ∧ Same H H5) ⟨_, _, _, _, _, _, _, _, _, _, rfl, Same.refl _⟩ ?_ ?_
  · rintro i σ H5 hi ⟨y1, y2, y3, y4, y5, y6, y7, y8, y9, y10, rfl, s5⟩
    dsimp only [gName]
    try simp only [L2.start, List.map_cons, List.map_nil, List.length_cons, List.length_nil, List.replicate_succ, List.replicate_zero, List.cons_append, List.nil_append, List.set_cons_succ, List.set_cons_zero, Nat.reduceAdd, Nat.reduceSub, Nat.zero_add]
    refine ⟨_, rfl, _, rfl, a, ns, _, rfl, s5.seq hS, by omega, by omega, fun b H6 nb s6 B6 => ?_⟩
    refine fun x dx nx ndx ne => ?_
    refine ⟨x, dx, 24, rfl, upd_same, by omega, fun p H7 px fr ⟨n1, n2, n3⟩ N0 => ⟨rfl, ?_⟩⟩
    have s7 : Same H6 H7 := made nx ndx ne fr
    subst px
    obtain ⟨_, _, _, eb6, _⟩ := id B6
    have N7 := N0 [b] (fun z hz => by
      rw [List.mem_singleton.mp hz]
      have a1 := ne_of_none eb6 nx
      have b1 := ne_of_none eb6 ndx
      exact ⟨a1, by rw [upd_ne a1, upd_ne b1]; exact some_ne eb6⟩)
    have B7 := B6.same s7
    have hb1 : b ∈ [b] := by simp
    refine ⟨_, _, rfl, ?_⟩
    try simp only [L2.start, List.map_cons, List.map_nil, List.length_cons, List.length_nil, List.replicate_succ, List.replicate_zero, List.cons_append, List.nil_append, List.set_cons_succ, List.set_cons_zero, Nat.reduceAdd, Nat.reduceSub, Nat.zero_add]
    refine ⟨_, rfl, _, rfl, b, _, _, rfl, B7, by decide, by decide, by decide, by omega, by decide, fun r1 H8 u1 v1 B8 k8 => ?_⟩
    replace B8 := bx1 B8
    refine ⟨_, rfl, b, _, _, rfl, B8, by decide, by decide, by decide, by omega, by decide, fun r2 H9 u2 v2 B9 k9 => ?_⟩
    replace B9 := bx1 B9
    have N9 := (N7.keepB k8 B8.some hb1).keepB k9 B9.some hb1
    obtain ⟨q1, rfl⟩ : ∃ q1 : Nat, r1 = (q1 : Int) := ⟨r1.toNat, by omega⟩
    obtain ⟨q2, rfl⟩ : ∃ q2 : Nat, r2 = (q2 : Int) := ⟨r2.toNat, by omega⟩
    refine ⟨[b], p, q1, q2, rfl, N9, by omega, by omega, fun R H10 gs LW kP NP okP lg nR lLW eR WP bP F => ?_⟩
    try simp only [L2.start, List.map_cons, List.map_nil, List.length_cons, List.length_nil, List.replicate_succ, List.replicate_zero, List.cons_append, List.nil_append, List.set_cons_succ, List.set_cons_zero, Nat.reduceAdd, Nat.reduceSub, Nat.zero_add]
    refine ⟨R, _, eR, trivial, fun od => ?_⟩
    have NL := NP.put (D := R) (o := .frz od (.dK (kv90 (LW.map (·.1))))) (by simp)
    have eRL : (upd H10 R (.frz od (.dK (kv90 (LW.map (·.1)))))) R = some (.frz od (.dK (kv90 (LW.map (·.1))))) := upd_same
    refine ⟨_, rfl, R, od, rfl, .inl ⟨_, eRL, ?_⟩⟩
    have B10 := B9.keepS kP (fun z => by
      obtain ⟨_, _, ⟨_, c2, c3, _⟩, _⟩ := id NP
      simp only [List.mem_cons, List.not_mem_nil, or_false] at z
      rcases z with z | z
      · exact c2 (by simp [z])
      · exact c3 (by simp [z]))
    have nbR : b ≠ R := B9.ne nR
    have BL : BoxAt _ (upd H10 R (.frz od (.dK (kv90 (LW.map (·.1)))))) b := B10.at (upd_ne nbR)
    have wl : ∀ q ∈ LW, (upd H10 R (.frz od (.dK (kv90 (LW.map (·.1)))))) q.1 = some (.lst (nts q.2)) := fun q hq => by
      have e := (WP q hq).1
      rw [upd_ne (fun z => by rw [z, eR] at e; cases e)]
      exact e
    have kHL : ∀ y o, H10 y = some o → y ≠ R → (upd H10 R (.frz od (.dK (kv90 (LW.map (·.1)))))) y = some o := fun y o e n => by rw [upd_ne n]; exact e
    generalize upd H10 R (.frz od (.dK (kv90 (LW.map (·.1))))) = HL at *
    obtain ⟨_, _, ⟨_, _, _, cZ4⟩, _, _, _, _, _, _, edn, _⟩ := id NL
    have Rn : R ∉ [p.dn] := fun z => cZ4 (by rw [← List.mem_singleton.mp z]; simp)
    have bn : b ∉ [p.dn] := fun z => cZ4 (by rw [← List.mem_singleton.mp z]; simp)
    have wn : ∀ q ∈ LW, q.1 ∉ [p.dn] := fun q hq z => by
      have e := wl q hq
      rw [List.mem_singleton.mp z, edn] at e
      cases e
    refine for_it (walk_keys (d := R) (o := od) (kvs := kv90 (LW.map (·.1)))) (fun j σ H1 => ∃ y5 : Option V, σ = [some (.ref a), some (.int (0 + (i : Int))), some (.ref b), some (.ref p.x), some (.ref R), y5, y6, y7, y8, y9, y10, none, none, none] ∧ KeepS [p.dn] HL H1 ∧ NetAt C (R :: [b]) H1 p 24 gs ((nmW LW).take j)) ⟨_, rfl, KeepS.refl _ _, NL⟩ (fun j σ H1 _ ⟨_, _, k1, _⟩ => k1.1 _ _ eRL Rn) ?_ ?_
    · rintro j v σ H1 H2 hj ⟨z5, rfl, k1, N1⟩ ⟨rfl, k', v', hk, rfl⟩
      rw [kv_len lLW] at hj
      obtain ⟨nn, l, ws, e1, e2, e3, e4⟩ := kv_at lLW hj
      rw [e3] at hk
      cases hk
      have hq := List.mem_of_getElem? e2
      dsimp only [gName]
      try simp only [L2.start, List.map_cons, List.map_nil, List.length_cons, List.length_nil, List.replicate_succ, List.replicate_zero, List.cons_append, List.nil_append, List.set_cons_succ, List.set_cons_zero, Nat.reduceAdd, Nat.reduceSub, Nat.zero_add]
      obtain ⟨_, _, _, dx1, _, _, f1, _⟩ := id N1
      have eR1 := k1.1 _ _ eRL Rn
      have el := k1.1 _ _ (wl _ hq) (wn _ hq)
      refine ⟨_, rfl, p.x, dx1, _, rfl, f1, rfl, _, rfl, _, rfl, _, rfl, R, .ref l, rfl, .inl ⟨_, .inr nn, .inr ⟨od, eR1⟩, rfl, (valV_at (kv_nd lLW) e3).symm⟩, R :: [b], p, 24, gs, (nmW LW).take j, nn, l, ws, rfl, N1, ?_, .inl (SqL.of el), (bP _ hq).2, ?_, fun H' kD ND => ?_⟩
      · rw [List.map_take, nmW_fst lLW]
        exact nd_take nm90_nd e1
      · rw [List.length_take, nmW_len lLW]
        omega
      · refine ⟨_, rfl, k1.trans kD, ?_⟩
        rw [List.take_add_one, e4]
        exact ND
    rintro σ H1 ⟨y5, rfl, k1, N1⟩
    rw [kv_len lLW, List.take_of_length_le (by rw [nmW_len lLW]; exact Nat.le_refl _)] at N1
    refine ⟨k1.1 _ _ eRL Rn, ?_⟩
    have N2 := N1.put (D := R) (o := .dK (kv90 (LW.map (·.1)))) (by simp)
    have B2 : BoxAt _ (upd H1 R (.dK (kv90 (LW.map (·.1))))) b := (BL.keepS k1 bn).at (upd_ne nbR)
    have eR2 : (upd H1 R (.dK (kv90 (LW.map (·.1))))) R = some (.dK (kv90 (LW.map (·.1)))) := upd_same
    have kH2 : ∀ y o, H1 y = some o → y ≠ R → (upd H1 R (.dK (kv90 (LW.map (·.1))))) y = some o := fun y o e n => by rw [upd_ne n]; exact e
    generalize upd H1 R (.dK (kv90 (LW.map (·.1)))) = H2 at *
    have hbR : b ∈ R :: [b] := by simp
    refine ⟨_, rfl, b, _, 24, 64, rfl, B2, by decide, by decide, by decide, fun us U H11 lu nU eU B11 k11 => ?_⟩
    have N11 := N2.keepB k11 B11.some hbR
    have eR11 := k11 _ _ eR2 nbR.symm
    try dsimp only [gName]
    try simp only [L2.start, List.map_cons, List.map_nil, List.length_cons, List.length_nil, List.replicate_succ, List.replicate_zero, List.cons_append, List.nil_append, List.set_cons_succ, List.set_cons_zero, Nat.reduceAdd, Nat.reduceSub, Nat.zero_add]
    refine ⟨_, rfl, b, _, 24, 64, rfl, B11, by decide, by decide, by decide, fun ms M H12 lm nM eM B12 k12 => ?_⟩
    have N12 := N11.keepB k12 B12.some hbR
    have eR12 := k12 _ _ eR11 nbR.symm
    have eU12 := k12 _ _ eU (fun z => by rw [z] at eU; obtain ⟨_, _, _, eb, _⟩ := id B11; obtain ⟨_, _, _, eb2, _⟩ := id B2; rw [z] at nU; rw [nU] at eb2; cases eb2)
    try dsimp only [gName]
    try simp only [L2.start, List.map_cons, List.map_nil, List.length_cons, List.length_nil, List.replicate_succ, List.replicate_zero, List.cons_append, List.nil_append, List.set_cons_succ, List.set_cons_zero, Nat.reduceAdd, Nat.reduceSub, Nat.zero_add]
    refine ⟨_, rfl, _, rfl, U, M, _, _, rfl, SqL.of eU12, SqL.of eM, fun D nD => ?_⟩
    refine lc_it (walk_ez (K := K) (a := U) (b := M) (xs := us.map V.int) (ys := ms.map V.int) (n := 24) (by rw [List.length_map, lu]) (by rw [List.length_map, lm])) (fun j H9 => ∃ vs : List Int, vs.length = j ∧ Same H12 H9 ∧ H9 D = some (.lst (vs.map V.int))) ⟨[], rfl, same_upd nD, upd_same⟩ (fun j H9 _ ⟨_, _, s9, _⟩ => ⟨SqL.of (s9 _ _ eU12), SqL.of (s9 _ _ eM)⟩) ?_ ?_
    · rintro j v H9 Hn hj ⟨vs, lv, s9, eD⟩ ⟨T, T2, x, y, rfl, nT2, nT, neT, rfl, hx, hy⟩
      replace hx : (us.map V.int)[j]? = some x := hx
      replace hy : (ms.map V.int)[j]? = some y := hy
      rw [List.getElem?_map] at hx hy
      obtain ⟨u0, hu0⟩ : ∃ u0, us[j]? = some u0 := ⟨us[j]'(by omega), List.getElem?_eq_getElem (by omega)⟩
      obtain ⟨m0, hm0⟩ : ∃ m0, ms[j]? = some m0 := ⟨ms[j]'(by omega), List.getElem?_eq_getElem (by omega)⟩
      rw [hu0] at hx
      rw [hm0] at hy
      cases hx
      cases hy
      have sT2 := same_upd (o := .tup [.int u0, .int m0]) nT2
      have nT' : (upd H9 T2 (.tup [.int u0, .int m0])) T = none := by rw [upd_ne neT]; exact nT
      have sT := same_upd (o := .tup [.int (j : Nat), .ref T2]) nT'
      have eT2 : (upd (upd H9 T2 (.tup [.int u0, .int m0])) T (.tup [.int (j : Nat), .ref T2])) T2 = some (.tup [.int u0, .int m0]) := sT _ _ upd_same
      have eT : (upd (upd H9 T2 (.tup [.int u0, .int m0])) T (.tup [.int (j : Nat), .ref T2])) T = some (.tup [.int (j : Nat), .ref T2]) := upd_same
      have s99 := sT2.trans sT
      generalize upd (upd H9 T2 (.tup [.int u0, .int m0])) T (.tup [.int (j : Nat), .ref T2]) = H10' at *
      refine ⟨T, _, rfl, .inl (.inl eT), rfl, _, _, rfl, _, _, rfl, T2, _, rfl, .inl (.inl eT2), rfl, _, _, rfl, _, _, rfl, rfl, ?_⟩
      refine ⟨rfl, rfl, yesT ?_⟩
      try simp only [L2.start, List.map_cons, List.map_nil, List.length_cons, List.length_nil, List.replicate_succ, List.replicate_zero, List.cons_append, List.nil_append, List.set_cons_succ, List.set_cons_zero, Nat.reduceAdd, Nat.reduceSub, Nat.zero_add]
      refine ⟨_, rfl, _, rfl, _, rfl, _, _, rfl, rfl, _, rfl, _, rfl, _, _, rfl, rfl, (by show 3 ≤ sizeLine; decide), fun L3 nL3 => ?_⟩
      have sL3 := same_upd (o := .lst [V.int u0, V.int (Builtin.bitAnd u0 m0), V.int (Builtin.bitOr u0 m0)]) nL3
      have eL3 : (upd H10' L3 (.lst [V.int u0, V.int (Builtin.bitAnd u0 m0), V.int (Builtin.bitOr u0 m0)])) L3 = some (.lst [V.int u0, V.int (Builtin.bitAnd u0 m0), V.int (Builtin.bitOr u0 m0)]) := upd_same
      have eD3 := sL3 _ _ (s99 _ _ eD)
      have s93 := (s9.trans s99).trans sL3
      generalize upd H10' L3 (.lst [V.int u0, V.int (Builtin.bitAnd u0 m0), V.int (Builtin.bitOr u0 m0)]) = H11' at *
      obtain ⟨w0, hw0⟩ : ∃ w0 : Int, atI [V.int u0, V.int (Builtin.bitAnd u0 m0), V.int (Builtin.bitOr u0 m0)] ((j : Int) % 3) = some (.int w0) := by
        have : (j : Int) % 3 = 0 ∨ (j : Int) % 3 = 1 ∨ (j : Int) % 3 = 2 := by omega
        rcases this with z | z | z <;> rw [z]
        · exact ⟨_, rfl⟩
        · exact ⟨_, rfl⟩
        · exact ⟨_, rfl⟩
      refine ⟨_, rfl, _, _, rfl, rfl, (by show (0 : Int) < 3; decide), L3, _, _, _, rfl, rfl, SqL.of eL3, hw0, ?_⟩
      refine ⟨_, eD3, by rw [List.length_map, lv]; exact big_lt (by omega), vs ++ [w0], by rw [List.length_append, lv]; rfl, fun y' o e => ?_, by rw [upd_same, List.map_append]; rfl⟩
      rw [upd_ne (ne_of_none e nD)]
      exact s93 _ _ e
    rintro H13 ⟨vs, lv, s13, eD⟩
    have N13 := N12.same s13
    have B13 := B12.same s13
    have eR13 := s13 _ _ eR12
    try dsimp only [gName]
    try simp only [L2.start, List.map_cons, List.map_nil, List.length_cons, List.length_nil, List.replicate_succ, List.replicate_zero, List.cons_append, List.nil_append, List.set_cons_succ, List.set_cons_zero, Nat.reduceAdd, Nat.reduceSub, Nat.zero_add]
    have hmem : ∀ x ∈ nmW LW, x.2.length ≤ 900 ∧ ∀ w ∈ x.2, w < 24 + gs.length := fun x hx => by
      obtain ⟨q, hq, e⟩ := nmW_mem hx
      rw [← e]
      exact ⟨by have := (bP q hq).1; omega, (bP q hq).2⟩
    refine ⟨_, rfl, _, rfl, rfl, rfl, R :: [b], p, 24, gs, nmW LW, D, vs, 64, rfl, N13, eD, lv, by decide, by omega, by rw [nmW_len lLW]; decide, okP, hmem, fun ys t H14 hp hs s14 hRun => ?_⟩
    have N14 := N13.same s14
    have eR14 := s14 _ _ eR13
    have eD14 := s14 _ _ eD
    try dsimp only [gName]
    try simp only [L2.start, List.map_cons, List.map_nil, List.length_cons, List.length_nil, List.replicate_succ, List.replicate_zero, List.cons_append, List.nil_append, List.set_cons_succ, List.set_cons_zero, Nat.reduceAdd, Nat.reduceSub, Nat.zero_add]
    obtain ⟨_, _, _, dx4, _, _, f4, _⟩ := id N14
    refine ⟨_, rfl, p.x, dx4, _, rfl, f4, rfl, R :: [b], p, 24, gs, nmW LW, rfl, N14, by decide, by omega, by rw [nmW_len lLW]; decide, fun p2 H15 s15 nn NN => ?_⟩
    refine ⟨_, rfl, rfl, rfl, [], p2, 24, gs, nmW LW, D, vs, 64, rfl, NN [] (fun _ z => nomatch z), s15 _ _ eD14, lv, by decide, by omega, by rw [nmW_len lLW]; decide, okP, hmem, fun ys2 t2 H16 hp2 hs2 s16 hRun2 => ?_⟩
    obtain rfl : ys2 = ys := sortS_one hp2 hs2 hp hs
    have nd := nmW_fst lLW ▸ nm90_nd
    replace nd : ((nmW LW).map (·.1)).Nodup := by
      rw [nmW_fst lLW]
      exact nm90_nd
    have hR16 := hRun.same (s15.trans s16)
    have eR16 := (s15.trans s16) _ _ eR14
    have sdR := sd_run (ys := ys2) (fun y => (lkN (nmW LW) y).map fun a => (rv (2 ^ 64 - 1) (vs.map (· % 2 ^ 64)) gs).getD a 0) (fun y hy => nm90_ok y (by have := hp.mem_iff.mp hy; rwa [nmW_fst lLW] at this))
    refine ⟨_, rfl, _, _, run_dp hRun2 nd, run_dp hR16 nd, sdR.sh (by decide), sdR.sh (by decide), ?_⟩
    rw [sdR.self]
    refine ⟨_, rfl, iteF ?_⟩
    try dsimp only [tNext]
    obtain ⟨ps, kvs, r1, r2, r3, r4⟩ := run_dict hR16 hp nd
    refine ⟨_, rfl, t, ps, kvs, rfl, r1, r2, fun TD nTD => ?_⟩
    rw [r3]
    have sTD := same_upd (o := .dK kvs) nTD
    have tAt : TAt (upd H16 TD (.dK kvs)) TD (nmW LW) (rv (2 ^ 64 - 1) (vs.map (· % 2 ^ 64)) gs) := TAt.same (H := upd H16 TD (.dK kvs)) ⟨kvs, upd_same, fun x hx => by
      obtain ⟨l, e1, e2⟩ := r4 x hx
      exact ⟨l, e1, sTD _ _ e2⟩⟩ (Same.refl _)
    have eR17 := sTD _ _ eR16
    have neRT : R ≠ TD := ne_of_none eR16 nTD
    generalize upd H16 TD (.dK kvs) = H17 at *
    try dsimp only [gName]
    try simp only [L2.start, List.map_cons, List.map_nil, List.length_cons, List.length_nil, List.replicate_succ, List.replicate_zero, List.cons_append, List.nil_append, List.set_cons_succ, List.set_cons_zero, Nat.reduceAdd, Nat.reduceSub, Nat.zero_add]
    refine ⟨64, rfl, by decide, by decide, ?_⟩
    refine for_range (n := 64) (fun c σ H1 => ∃ (y10 : Option V), σ = [some (.ref a), some (.int (0 + (i : Int))), some (.ref b), some (.ref p.x), some (.ref R), y5, some (.ref D), some (.ref M), some (.ref t), some (.ref TD), y10, none, none, none] ∧ Same H17 H1) ⟨_, rfl, Same.refl _⟩ ?_ ?_
    · rintro c σ HC hc ⟨z10, rfl, sC⟩
      rw [show (0 : Int) + (c : Nat) = ((c : Nat) : Int) from by omega]
      dsimp only [gName]
      try simp only [L2.start, List.map_cons, List.map_nil, List.length_cons, List.length_nil, List.replicate_succ, List.replicate_zero, List.cons_append, List.nil_append, List.set_cons_succ, List.set_cons_zero, Nat.reduceAdd, Nat.reduceSub, Nat.zero_add]
      have tC := tAt.same sC
      have eRC := sC _ _ eR17
      obtain ⟨kvT, eTD, hkvT⟩ := tC
      refine ⟨R, _, eRC, trivial, fun od2 => ?_⟩
      have eL : (upd HC R (.frz od2 (.dK (kv90 (LW.map (·.1)))))) R = some (.frz od2 (.dK (kv90 (LW.map (·.1))))) := upd_same
      have upL : ∀ y o, HC y = some o → y ≠ R → (upd HC R (.frz od2 (.dK (kv90 (LW.map (·.1)))))) y = some o := fun y o e n => by rw [upd_ne n]; exact e
      refine ⟨_, rfl, R, od2, rfl, .inl ⟨_, eL, ?_⟩⟩
      have eTDL := upL _ _ eTD neRT.symm
      have hkvL : ∀ x ∈ nmW LW, ∃ l, valV kvT (.inr x.1) = some (.ref l) ∧ (upd HC R (.frz od2 (.dK (kv90 (LW.map (·.1)))))) l = some (.lst ((x.2.map fun a => (rv (2 ^ 64 - 1) (vs.map (· % 2 ^ 64)) gs).getD a 0).map V.int)) := fun x hx => by
        obtain ⟨l, e1, e2⟩ := hkvT x hx
        exact ⟨l, e1, upL _ _ e2 (fun z => by rw [z, eRC] at e2; cases e2)⟩
      have unL : ∀ H', Same (upd HC R (.frz od2 (.dK (kv90 (LW.map (·.1)))))) H' → Same HC (upd H' R (.dK (kv90 (LW.map (·.1))))) := fun H' sx y o e => by
        by_cases z : y = R
        · rw [z] at e ⊢
          rw [upd_same, ← eRC]
          exact e
        · rw [upd_ne z]
          exact sx _ _ (upL _ _ e z)
      have noneL : ∀ y, (upd HC R (.frz od2 (.dK (kv90 (LW.map (·.1)))))) y = none → y ≠ R := fun y e z => by rw [z, eL] at e; cases e
      generalize upd HC R (.frz od2 (.dK (kv90 (LW.map (·.1))))) = HL2 at *
      refine fun OW nOW => ?_
      refine lc_it (walk_keys (d := R) (o := od2) (kvs := kv90 (LW.map (·.1)))) (fun u H1 => ∃ ts : List Addr, ts.length = u ∧ Same HL2 H1 ∧ H1 OW = some (.lst (ts.map V.ref)) ∧ Paired (fun q kv => H1 q = some (.tup [kV kv.1, kv.2])) ts ((knW (fun W => numB (W.map (wb (bitsOf vs c) gs))) LW).take u)) ⟨[], rfl, same_upd nOW, upd_same, .nil⟩ (fun u H1 _ ⟨_, _, s1, _⟩ => s1 _ _ eL) ?_ ?_
      · rintro u v H2' H1 hu ⟨ts, lts, s1, eO, pr⟩ ⟨rfl, k', v', hk, rfl⟩
        rw [kv_len lLW] at hu
        obtain ⟨nn', l, ws, e1, e2, e3, e4⟩ := kv_at lLW hu
        rw [e3] at hk
        cases hk
        have hx := List.mem_of_getElem? e4
        obtain ⟨l2, hl2, el2⟩ := hkvL _ hx
        refine ⟨rfl, yesT ?_⟩
        try simp only [L2.start, List.map_cons, List.map_nil, List.length_cons, List.length_nil, List.replicate_succ, List.replicate_zero, List.cons_append, List.nil_append, List.set_cons_succ, List.set_cons_zero, Nat.reduceAdd, Nat.reduceSub, Nat.zero_add]
        have dgt : DGet H1 TD (.str nn') (some (.ref l2)) := by
          have := DGet.k (k := .inr nn') (s1 _ _ eTDL)
          rw [hl2] at this
          exact this
        refine ⟨_, rfl, _, rfl, _, rfl, TD, .ref l2, rfl, dgt, _, rfl, l2, _, c, rfl, SqL.of (s1 _ _ el2), ?_⟩
        rw [num_case hc]
        refine ⟨(by show 2 ≤ sizeLine; decide), fun T nT => ?_⟩
        have sT := same_upd (o := .tup [V.str nn', V.int (numB (ws.map (wb (bitsOf vs c) gs)) : Int)]) nT
        have eT : (upd H1 T (.tup [V.str nn', V.int (numB (ws.map (wb (bitsOf vs c) gs)) : Int)])) T = some (.tup [V.str nn', V.int (numB (ws.map (wb (bitsOf vs c) gs)) : Int)]) := upd_same
        have nTO : T ≠ OW := fun z => by rw [z, eO] at nT; cases nT
        have eO2 := sT _ _ eO
        refine ⟨_, eO2, by rw [List.length_map, lts]; exact big_lt (by omega), ts ++ [T], by rw [List.length_append, lts]; rfl, fun y o e => ?_, by rw [upd_same, List.map_append]; rfl, ?_⟩
        · rw [upd_ne (ne_of_none e nOW)]
          exact sT _ _ (s1 _ _ e)
        · rw [List.take_add_one]
          have ek : (knW (fun W => numB (W.map (wb (bitsOf vs c) gs))) LW)[u]? = some (.inr nn', .int (numB (ws.map (wb (bitsOf vs c) gs)) : Int)) := by
            unfold knW
            rw [List.getElem?_map, e4]
            rfl
          rw [ek]
          refine paired_snoc (paired_imp (fun q kv hq => ?_) pr) (by rw [upd_ne nTO]; exact eT)
          rw [upd_ne (fun z => by rw [z, eO] at hq; cases hq)]
          exact sT _ _ hq
      rintro H1 ⟨ts, lts, s1, eO, pr⟩
      have lkn : (knW (fun W => numB (W.map (wb (bitsOf vs c) gs))) LW).length = 17 := by
        unfold knW
        rw [List.length_map, nmW_len lLW]
      rw [kv_len lLW, List.take_of_length_le (by rw [lkn]; exact Nat.le_refl _)] at pr
      refine ⟨s1 _ _ eL, ?_⟩
      have sU := unL H1 s1
      have nOWR : OW ≠ R := noneL _ nOW
      have eO2 : (upd H1 R (.dK (kv90 (LW.map (·.1))))) OW = some (.lst (ts.map V.ref)) := by rw [upd_ne nOWR]; exact eO
      have eRl := s1 _ _ eL
      have pr2 : Paired (fun q kv => SqT K (upd H1 R (.dK (kv90 (LW.map (·.1))))) q [kV kv.1, kv.2]) ts (knW (fun W => numB (W.map (wb (bitsOf vs c) gs))) LW) := paired_imp (fun q kv hq => .inl (.inl (by
        rw [upd_ne (fun z => by rw [z, eRl] at hq; cases hq)]
        exact hq))) pr
      generalize upd H1 R (.dK (kv90 (LW.map (·.1)))) = HD at *
      obtain ⟨o, tt, zz, nb', bk, mo, gg, sm, ap, fw, sw, yy, mk, br, pd, bo, ra, eF, hF⟩ := F gs 0 Ext.refl (bitsOf vs c) (by rw [bitsOf_len, lv])
      rw [List.map_map] at eF
      have ekn := knW_eq (g := fun W => numB (W.map (wb (bitsOf vs c) gs))) (LW := LW) eF
      rw [ekn] at pr2
      refine ⟨OW, ts, _, rfl, SqL.of eO2, pr2, fun DD nDD => ?_⟩
      rw [mergeK_nodup (kn90 o tt zz nb' bk mo gg sm ap fw sw yy mk br pd bo ra) [] (keys90 17 (by decide))]
      have sDD := same_upd (o := .dK (kn90 o tt zz nb' bk mo gg sm ap fw sw yy mk br pd bo ra)) nDD
      refine ⟨DD, o, tt, zz, nb', bk, mo, gg, sm, ap, fw, sw, yy, mk, br, pd, bo, ra, rfl, upd_same, hF, fun HE sE => ?_⟩
      refine ⟨_, rfl, iteF ?_⟩
      try dsimp only [tNext]
      exact ⟨_, rfl, ((sC.trans sU).trans sDD).trans sE⟩
    · rintro σ HA ⟨z10, rfl, sA⟩
      refine ⟨_, _, _, _, _, _, _, _, _, _, rfl, fun y o e => ?_⟩
      have e5 := s5 _ _ e
      have e6 := s6 _ _ e5
      have yb : y ≠ b := ne_of_none e5 nb
      have e7 := s7 _ _ e6
      have nx' : y ≠ p.x := ne_of_none e6 nx
      have ndx' : y ≠ dx := ne_of_none e6 ndx
      have eu : (upd (upd H6 dx (.own p.x)) p.x (.ins C dx [])) y = some o := by rw [upd_ne nx', upd_ne ndx']; exact e6
      have e9 := k9 _ _ (k8 _ _ e7 yb) yb
      have yR : y ≠ R := ne_of_none e9 nR
      have e10 := kP.1 _ _ e9 (fun z => by
        simp only [List.mem_cons, List.not_mem_nil, or_false] at z
        rcases z with z | z
        · exact ne_of_none eu n1 z
        · exact ne_of_none eu n2 z)
      have e1 := k1.1 _ _ (kHL _ _ e10 yR) (fun z => ne_of_none eu n3 (List.mem_singleton.mp z))
      have e12 := k12 _ _ (k11 _ _ (kH2 _ _ e1 yR) yb) yb
      exact sA _ _ (sTD _ _ (s16 _ _ (s15 _ _ (s14 _ _ (s13 _ _ e12)))))
  · rintro σ H5 ⟨y1, y2, y3, y4, y5, y6, y7, y8, y9, y10, rfl, s5⟩
    exact q _
end
theorem all_mk {l : PySem.W.OpenLaw} {w : World} {K : PySem.W.Frag} {h : Heap} {mg : Str → Option Value} {fa f1 f2 f3 f4 f5 f6 f7 f8 f9 f10 f11 f12 f13 f14 f15 f16 f17 f18 f19 f20 f21 f22 f23 f24 f25 f26 f27 f28 f29 f30 f31 f32 f33 f34 f35 f36 f37 f38 f39 C : Addr} (X : K.In h) (G : h.Ns mainGlobals mg) (hfa : mg "law" = some (.ref fa))
    {od1 an1 od2 an2 od3 an3 od4 an4 od5 an5 od6 an6 od7 an7 od8 an8 od9 an9 od10 an10 od11 an11 od12 an12 od13 an13 od14 an14 od15 an15 od16 an16 od17 an17 od18 an18 od19 an19 od20 an20 od21 an21 od22 an22 od23 an23 od24 an24 od25 an25 od26 an26 od27 an27 od28 an28 od29 an29 od30 an30 od31 an31 od32 an32 od33 an33 od34 an34 od35 an35 od36 an36 od37 an37 od38 an38 od39 an39 : Option Addr} {sl1 sl2 sl3 sl4 sl5 sl6 sl7 sl8 sl9 sl10 sl11 sl12 sl13 sl14 sl15 sl16 sl17 sl18 sl19 sl20 sl21 sl22 sl23 sl24 sl25 sl26 sl27 sl28 sl29 sl30 sl31 sl32 sl33 sl34 sl35 sl36 sl37 sl38 sl39 : Array (Option Value)} {oc1 kV1 dc1 pm1 cd1 ct1 oc2 kV2 dc2 pm2 cd2 ct2 oc3 kV3 dc3 pm3 cd3 ct3 oc4 kV4 dc4 pm4 cd4 ct4 oc5 kV5 dc5 pm5 cd5 ct5 oc6 kV6 dc6 pm6 cd6 ct6 oc7 kV7 dc7 pm7 cd7 ct7 oc8 kV8 dc8 pm8 cd8 ct8 oc9 kV9 dc9 pm9 cd9 ct9 oc10 kV10 dc10 pm10 cd10 ct10 oc11 kV11 dc11 pm11 cd11 ct11 oc12 kV12 dc12 pm12 cd12 ct12 oc13 kV13 dc13 pm13 cd13 ct13 oc14 kV14 dc14 pm14 cd14 ct14 oc15 kV15 dc15 pm15 cd15 ct15 oc16 kV16 dc16 pm16 cd16 ct16 oc17 dc17 pm17 cd17 ct17 oc18 kV18 dc18 pm18 cd18 ct18 oc19 kV19 dc19 pm19 cd19 ct19 oc20 kV20 dc20 pm20 cd20 ct20 oc21 kV21 dc21 pm21 cd21 ct21 oc22 kV22 dc22 pm22 cd22 ct22 oc23 kV23 dc23 pm23 cd23 ct23 oc24 kV24 dc24 pm24 cd24 ct24 oc25 kV25 dc25 pm25 cd25 ct25 oc26 kV26 dc26 pm26 cd26 ct26 oc27 kV27 dc27 pm27 cd27 ct27 oc28 kV28 dc28 pm28 cd28 ct28 oc29 kV29 dc29 pm29 cd29 ct29 oc30 kV30 dc30 pm30 cd30 ct30 oc31 kV31 dc31 pm31 cd31 ct31 oc32 kV32 dc32 pm32 cd32 ct32 oc33 kV33 dc33 pm33 cd33 ct33 oc34 kV34 dc34 pm34 cd34 ct34 oc35 kV35 dc35 pm35 cd35 ct35 oc36 kV36 dc36 pm36 cd36 ct36 oc37 kV37 dc37 pm37 cd37 ct37 oc38 kV38 dc38 pm38 cd38 ct38 oc39 kV39 dc39 pm39 cd39 ct39 : Value}
    {Dk17 : Addr} {tk17_0 : Tok}
    (a1 : PySem.W.nsIn K mainGlobals "sum_wires" = some (some (.ref f1))) (l1 : K.lookup f1 = some ⟨oc1, od1, .func (PySem.W.fnOf "sum_wires" "sum_wires" (defArgs s_sum_wires) (defBody s_sum_wires) (defScope s_sum_wires) .none kV1 dc1 pm1 an1 cd1 ct1), sl1⟩) (c1 : PySem.W.codeIn K cd1 "sum_wires" = true) (k1 : PySem.W.keepIn K (.ref f1) = true)
    (a2 : PySem.W.nsIn K mainGlobals "quick_sum_wires" = some (some (.ref f2))) (l2 : K.lookup f2 = some ⟨oc2, od2, .func (PySem.W.fnOf "quick_sum_wires" "quick_sum_wires" (defArgs s_quick_sum_wires) (defBody s_quick_sum_wires) (defScope s_quick_sum_wires) .none kV2 dc2 pm2 an2 cd2 ct2), sl2⟩) (c2 : PySem.W.codeIn K cd2 "quick_sum_wires" = true) (k2 : PySem.W.keepIn K (.ref f2) = true)
    (a3 : PySem.W.nsIn K mainGlobals "carry_wires" = some (some (.ref f3))) (l3 : K.lookup f3 = some ⟨oc3, od3, .func (PySem.W.fnOf "carry_wires" "carry_wires" (defArgs s_carry_wires) (defBody s_carry_wires) (defScope s_carry_wires) .none kV3 dc3 pm3 an3 cd3 ct3), sl3⟩) (c3 : PySem.W.codeIn K cd3 "carry_wires" = true) (k3 : PySem.W.keepIn K (.ref f3) = true)
    (a4 : PySem.W.nsIn K mainGlobals "span_doubled" = some (some (.ref f4))) (l4 : K.lookup f4 = some ⟨oc4, od4, .func (PySem.W.fnOf "span_doubled" "span_doubled" (defArgs s_span_doubled) (defBody s_span_doubled) (defScope s_span_doubled) .none kV4 dc4 pm4 an4 cd4 ct4), sl4⟩) (c4 : PySem.W.codeIn K cd4 "span_doubled" = true) (k4 : PySem.W.keepIn K (.ref f4) = true)
    (a5 : PySem.W.nsIn K mainGlobals "shift_wires" = some (some (.ref f5))) (l5 : K.lookup f5 = some ⟨oc5, od5, .func (PySem.W.fnOf "shift_wires" "shift_wires" (defArgs s_shift_wires) (defBody s_shift_wires) (defScope s_shift_wires) .none kV5 dc5 pm5 an5 cd5 ct5), sl5⟩) (c5 : PySem.W.codeIn K cd5 "shift_wires" = true) (k5 : PySem.W.keepIn K (.ref f5) = true)
    (a6 : PySem.W.nsIn K mainGlobals "left_wires" = some (some (.ref f6))) (l6 : K.lookup f6 = some ⟨oc6, od6, .func (PySem.W.fnOf "left_wires" "left_wires" (defArgs s_left_wires) (defBody s_left_wires) (defScope s_left_wires) .none kV6 dc6 pm6 an6 cd6 ct6), sl6⟩) (c6 : PySem.W.codeIn K cd6 "left_wires" = true) (k6 : PySem.W.keepIn K (.ref f6) = true)
    (a7 : PySem.W.nsIn K mainGlobals "shift_amounts" = some (some (.ref f7))) (l7 : K.lookup f7 = some ⟨oc7, od7, .func (PySem.W.fnOf "shift_amounts" "shift_amounts" (defArgs s_shift_amounts) (defBody s_shift_amounts) (defScope s_shift_amounts) .none kV7 dc7 pm7 an7 cd7 ct7), sl7⟩) (c7 : PySem.W.codeIn K cd7 "shift_amounts" = true) (k7 : PySem.W.keepIn K (.ref f7) = true)
    (a8 : PySem.W.nsIn K mainGlobals "any_wire" = some (some (.ref f8))) (l8 : K.lookup f8 = some ⟨oc8, od8, .func (PySem.W.fnOf "any_wire" "any_wire" (defArgs s_any_wire) (defBody s_any_wire) (defScope s_any_wire) .none kV8 dc8 pm8 an8 cd8 ct8), sl8⟩) (c8 : PySem.W.codeIn K cd8 "any_wire" = true) (k8 : PySem.W.keepIn K (.ref f8) = true)
    (a9 : PySem.W.nsIn K mainGlobals "zero_wires" = some (some (.ref f9))) (l9 : K.lookup f9 = some ⟨oc9, od9, .func (PySem.W.fnOf "zero_wires" "zero_wires" (defArgs s_zero_wires) (defBody s_zero_wires) (defScope s_zero_wires) .none kV9 dc9 pm9 an9 cd9 ct9), sl9⟩) (c9 : PySem.W.codeIn K cd9 "zero_wires" = true) (k9 : PySem.W.keepIn K (.ref f9) = true)
    (a10 : PySem.W.nsIn K mainGlobals "first_wires" = some (some (.ref f10))) (l10 : K.lookup f10 = some ⟨oc10, od10, .func (PySem.W.fnOf "first_wires" "first_wires" (defArgs s_first_wires) (defBody s_first_wires) (defScope s_first_wires) .none kV10 dc10 pm10 an10 cd10 ct10), sl10⟩) (c10 : PySem.W.codeIn K cd10 "first_wires" = true) (k10 : PySem.W.keepIn K (.ref f10) = true)
    (a11 : PySem.W.nsIn K mainGlobals "mark_wires" = some (some (.ref f11))) (l11 : K.lookup f11 = some ⟨oc11, od11, .func (PySem.W.fnOf "mark_wires" "mark_wires" (defArgs s_mark_wires) (defBody s_mark_wires) (defScope s_mark_wires) .none kV11 dc11 pm11 an11 cd11 ct11), sl11⟩) (c11 : PySem.W.codeIn K cd11 "mark_wires" = true) (k11 : PySem.W.keepIn K (.ref f11) = true)
    (a12 : PySem.W.nsIn K mainGlobals "chosen_wires" = some (some (.ref f12))) (l12 : K.lookup f12 = some ⟨oc12, od12, .func (PySem.W.fnOf "chosen_wires" "chosen_wires" (defArgs s_chosen_wires) (defBody s_chosen_wires) (defScope s_chosen_wires) .none kV12 dc12 pm12 an12 cd12 ct12), sl12⟩) (c12 : PySem.W.codeIn K cd12 "chosen_wires" = true) (k12 : PySem.W.keepIn K (.ref f12) = true)
    (a13 : PySem.W.nsIn K mainGlobals "is_less_wire" = some (some (.ref f13))) (l13 : K.lookup f13 = some ⟨oc13, od13, .func (PySem.W.fnOf "is_less_wire" "is_less_wire" (defArgs s_is_less_wire) (defBody s_is_less_wire) (defScope s_is_less_wire) .none kV13 dc13 pm13 an13 cd13 ct13), sl13⟩) (c13 : PySem.W.codeIn K cd13 "is_less_wire" = true) (k13 : PySem.W.keepIn K (.ref f13) = true)
    (a14 : PySem.W.nsIn K mainGlobals "lengthened" = some (some (.ref f14))) (l14 : K.lookup f14 = some ⟨oc14, od14, .func (PySem.W.fnOf "lengthened" "lengthened" (defArgs s_lengthened) (defBody s_lengthened) (defScope s_lengthened) .none kV14 dc14 pm14 an14 cd14 ct14), sl14⟩) (c14 : PySem.W.codeIn K cd14 "lengthened" = true) (k14 : PySem.W.keepIn K (.ref f14) = true)
    (a15 : PySem.W.nsIn K mainGlobals "raise_wires" = some (some (.ref f15))) (l15 : K.lookup f15 = some ⟨oc15, od15, .func (PySem.W.fnOf "raise_wires" "raise_wires" (defArgs s_raise_wires) (defBody s_raise_wires) (defScope s_raise_wires) .none kV15 dc15 pm15 an15 cd15 ct15), sl15⟩) (c15 : PySem.W.codeIn K cd15 "raise_wires" = true) (k15 : PySem.W.keepIn K (.ref f15) = true)
    (a16 : PySem.W.nsIn K mainGlobals "times_wires" = some (some (.ref f16))) (l16 : K.lookup f16 = some ⟨oc16, od16, .func (PySem.W.fnOf "times_wires" "times_wires" (defArgs s_times_wires) (defBody s_times_wires) (defScope s_times_wires) .none kV16 dc16 pm16 an16 cd16 ct16), sl16⟩) (c16 : PySem.W.codeIn K cd16 "times_wires" = true) (k16 : PySem.W.keepIn K (.ref f16) = true)
    (a17 : PySem.W.nsIn K mainGlobals "ran" = some (some (.ref f17))) (l17 : K.lookup f17 = some ⟨oc17, od17, .func (PySem.W.fnOf "ran" "ran" (defArgs s_ran) (defBody s_ran) (defScope s_ran) .none (.ref Dk17) dc17 pm17 an17 cd17 ct17), sl17⟩) (c17 : PySem.W.codeIn K cd17 "ran" = true) (k17 : PySem.W.keepIn K (.ref f17) = true)
    (w17_0 : PySem.W.nsIn K Dk17 "many" = some (some (.int 1 tk17_0)))
    (a18 : PySem.W.nsIn K mainGlobals "gate_bits" = some (some (.ref f18))) (l18 : K.lookup f18 = some ⟨oc18, od18, .func (PySem.W.fnOf "gate_bits" "gate_bits" (defArgs s_gate_bits) (defBody s_gate_bits) (defScope s_gate_bits) .none kV18 dc18 pm18 an18 cd18 ct18), sl18⟩) (c18 : PySem.W.codeIn K cd18 "gate_bits" = true) (k18 : PySem.W.keepIn K (.ref f18) = true)
    (a19 : PySem.W.nsIn K mainGlobals "_law_box" = some (some (.ref f19))) (l19 : K.lookup f19 = some ⟨oc19, od19, .func (PySem.W.fnOf "_law_box" "_law_box" (defArgs sBox) (defBody sBox) (defScope sBox) .none kV19 dc19 pm19 an19 cd19 ct19), sl19⟩) (c19 : PySem.W.codeIn K cd19 "_law_box" = true) (k19 : PySem.W.keepIn K (.ref f19) = true)
    (a20 : PySem.W.nsIn K mainGlobals "_law_take" = some (some (.ref f20))) (l20 : K.lookup f20 = some ⟨oc20, od20, .func (PySem.W.fnOf "_law_take" "_law_take" (defArgs sTake) (defBody sTake) (defScope sTake) .none kV20 dc20 pm20 an20 cd20 ct20), sl20⟩) (c20 : PySem.W.codeIn K cd20 "_law_take" = true) (k20 : PySem.W.keepIn K (.ref f20) = true)
    (a21 : PySem.W.nsIn K mainGlobals "_law_values" = some (some (.ref f21))) (l21 : K.lookup f21 = some ⟨oc21, od21, .func (PySem.W.fnOf "_law_values" "_law_values" (defArgs s__law_values) (defBody s__law_values) (defScope s__law_values) .none kV21 dc21 pm21 an21 cd21 ct21), sl21⟩) (c21 : PySem.W.codeIn K cd21 "_law_values" = true) (k21 : PySem.W.keepIn K (.ref f21) = true)
    (a22 : PySem.W.nsIn K mainGlobals "_law_number" = some (some (.ref f22))) (l22 : K.lookup f22 = some ⟨oc22, od22, .func (PySem.W.fnOf "_law_number" "_law_number" (defArgs s__law_number) (defBody s__law_number) (defScope s__law_number) .none kV22 dc22 pm22 an22 cd22 ct22), sl22⟩) (c22 : PySem.W.codeIn K cd22 "_law_number" = true) (k22 : PySem.W.keepIn K (.ref f22) = true)
    (a23 : PySem.W.nsIn K mainGlobals "_law_put" = some (some (.ref f23))) (l23 : K.lookup f23 = some ⟨oc23, od23, .func (PySem.W.fnOf "_law_put" "_law_put" (defArgs s__law_put) (defBody s__law_put) (defScope s__law_put) .none kV23 dc23 pm23 an23 cd23 ct23), sl23⟩) (c23 : PySem.W.codeIn K cd23 "_law_put" = true) (k23 : PySem.W.keepIn K (.ref f23) = true)
    (a24 : PySem.W.nsIn K mainGlobals "_law_case_right" = some (some (.ref f24))) (l24 : K.lookup f24 = some ⟨oc24, od24, .func (PySem.W.fnOf "_law_case_right" "_law_case_right" (defArgs s__law_case_right) (defBody s__law_case_right) (defScope s__law_case_right) .none kV24 dc24 pm24 an24 cd24 ct24), sl24⟩) (c24 : PySem.W.codeIn K cd24 "_law_case_right" = true) (k24 : PySem.W.keepIn K (.ref f24) = true)
    (a25 : PySem.W.nsIn K mainGlobals "law" = some (some (.ref f25))) (l25 : K.lookup f25 = some ⟨oc25, od25, .func (PySem.W.fnOf "law" "law" (defArgs s_law) (defBody s_law) (defScope s_law) .none kV25 dc25 pm25 an25 cd25 ct25), sl25⟩) (c25 : PySem.W.codeIn K cd25 "law" = true) (k25 : PySem.W.keepIn K (.ref f25) = true)
    (aC : PySem.W.nsIn K mainGlobals "Net" = some (some (.ref C)))
    (pgC : PySem.W.plainGet K C Str.empty = true) (hdC : PySem.W.hasDictIn K C = true) (poC : PySem.W.plainOver K C = true) (saC : PySem.W.findIn K (.ref C) "__setattr__" = some (some (.builtin "object.__setattr__"))) (mkC : PySem.W.makesIn K C = true) (kcC : PySem.W.keepIn K (.ref C) = true)
    (naC0 : PySem.W.findIn K (.ref C) "input_count" = some none)
    (naC1 : PySem.W.findIn K (.ref C) "made" = some none)
    (naC2 : PySem.W.findIn K (.ref C) "depths" = some none)
    (naC3 : PySem.W.findIn K (.ref C) "by_name" = some none)
    (a26 : PySem.W.findIn K (.ref C) "__init__" = some (some (.ref f26))) (i26 : PySem.W.isFn K (.ref f26) = true) (l26 : K.lookup f26 = some ⟨oc26, od26, .func (PySem.W.fnOf "__init__" "Net.__init__" (defArgs s_Net___init__) (defBody s_Net___init__) (defScope s_Net___init__) .none kV26 dc26 pm26 an26 cd26 ct26), sl26⟩) (c26 : PySem.W.codeIn K cd26 "Net.__init__" = true) (k26 : PySem.W.keepIn K (.ref f26) = true)
    (a27 : PySem.W.findIn K (.ref C) "both" = some (some (.ref f27))) (i27 : PySem.W.isFn K (.ref f27) = true) (l27 : K.lookup f27 = some ⟨oc27, od27, .func (PySem.W.fnOf "both" "Net.both" (defArgs s_Net_both) (defBody s_Net_both) (defScope s_Net_both) .none kV27 dc27 pm27 an27 cd27 ct27), sl27⟩) (c27 : PySem.W.codeIn K cd27 "Net.both" = true) (k27 : PySem.W.keepIn K (.ref f27) = true)
    (a28 : PySem.W.findIn K (.ref C) "either" = some (some (.ref f28))) (i28 : PySem.W.isFn K (.ref f28) = true) (l28 : K.lookup f28 = some ⟨oc28, od28, .func (PySem.W.fnOf "either" "Net.either" (defArgs s_Net_either) (defBody s_Net_either) (defScope s_Net_either) .none kV28 dc28 pm28 an28 cd28 ct28), sl28⟩) (c28 : PySem.W.codeIn K cd28 "Net.either" = true) (k28 : PySem.W.keepIn K (.ref f28) = true)
    (a29 : PySem.W.findIn K (.ref C) "unlike" = some (some (.ref f29))) (i29 : PySem.W.isFn K (.ref f29) = true) (l29 : K.lookup f29 = some ⟨oc29, od29, .func (PySem.W.fnOf "unlike" "Net.unlike" (defArgs s_Net_unlike) (defBody s_Net_unlike) (defScope s_Net_unlike) .none kV29 dc29 pm29 an29 cd29 ct29), sl29⟩) (c29 : PySem.W.codeIn K cd29 "Net.unlike" = true) (k29 : PySem.W.keepIn K (.ref f29) = true)
    (a30 : PySem.W.findIn K (.ref C) "other" = some (some (.ref f30))) (i30 : PySem.W.isFn K (.ref f30) = true) (l30 : K.lookup f30 = some ⟨oc30, od30, .func (PySem.W.fnOf "other" "Net.other" (defArgs s_Net_other) (defBody s_Net_other) (defScope s_Net_other) .none kV30 dc30 pm30 an30 cd30 ct30), sl30⟩) (c30 : PySem.W.codeIn K cd30 "Net.other" = true) (k30 : PySem.W.keepIn K (.ref f30) = true)
    (a31 : PySem.W.findIn K (.ref C) "fixed" = some (some (.ref f31))) (i31 : PySem.W.isFn K (.ref f31) = true) (l31 : K.lookup f31 = some ⟨oc31, od31, .func (PySem.W.fnOf "fixed" "Net.fixed" (defArgs s_Net_fixed) (defBody s_Net_fixed) (defScope s_Net_fixed) .none kV31 dc31 pm31 an31 cd31 ct31), sl31⟩) (c31 : PySem.W.codeIn K cd31 "Net.fixed" = true) (k31 : PySem.W.keepIn K (.ref f31) = true)
    (a32 : PySem.W.findIn K (.ref C) "put" = some (some (.ref f32))) (i32 : PySem.W.isFn K (.ref f32) = true) (l32 : K.lookup f32 = some ⟨oc32, od32, .func (PySem.W.fnOf "put" "Net.put" (defArgs s_Net_put) (defBody s_Net_put) (defScope s_Net_put) .none kV32 dc32 pm32 an32 cd32 ct32), sl32⟩) (c32 : PySem.W.codeIn K cd32 "Net.put" = true) (k32 : PySem.W.keepIn K (.ref f32) = true)
    (a33 : PySem.W.findIn K (.ref C) "put_gate" = some (some (.ref f33))) (i33 : PySem.W.isFn K (.ref f33) = true) (l33 : K.lookup f33 = some ⟨oc33, od33, .func (PySem.W.fnOf "put_gate" "Net.put_gate" (defArgs s_Net_put_gate) (defBody s_Net_put_gate) (defScope s_Net_put_gate) .none kV33 dc33 pm33 an33 cd33 ct33), sl33⟩) (c33 : PySem.W.codeIn K cd33 "Net.put_gate" = true) (k33 : PySem.W.keepIn K (.ref f33) = true)
    (a34 : PySem.W.findIn K (.ref C) "need" = some (some (.ref f34))) (i34 : PySem.W.isFn K (.ref f34) = true) (l34 : K.lookup f34 = some ⟨oc34, od34, .func (PySem.W.fnOf "need" "Net.need" (defArgs s_Net_need) (defBody s_Net_need) (defScope s_Net_need) .none kV34 dc34 pm34 an34 cd34 ct34), sl34⟩) (c34 : PySem.W.codeIn K cd34 "Net.need" = true) (k34 : PySem.W.keepIn K (.ref f34) = true)
    (a35 : PySem.W.findIn K (.ref C) "give" = some (some (.ref f35))) (i35 : PySem.W.isFn K (.ref f35) = true) (l35 : K.lookup f35 = some ⟨oc35, od35, .func (PySem.W.fnOf "give" "Net.give" (defArgs s_Net_give) (defBody s_Net_give) (defScope s_Net_give) .none kV35 dc35 pm35 an35 cd35 ct35), sl35⟩) (c35 : PySem.W.codeIn K cd35 "Net.give" = true) (k35 : PySem.W.keepIn K (.ref f35) = true)
    (a36 : PySem.W.findIn K (.ref C) "given" = some (some (.ref f36))) (i36 : PySem.W.isFn K (.ref f36) = true) (l36 : K.lookup f36 = some ⟨oc36, od36, .func (PySem.W.fnOf "given" "Net.given" (defArgs s_Net_given) (defBody s_Net_given) (defScope s_Net_given) .none kV36 dc36 pm36 an36 cd36 ct36), sl36⟩) (c36 : PySem.W.codeIn K cd36 "Net.given" = true) (k36 : PySem.W.keepIn K (.ref f36) = true)
    (a37 : PySem.W.findIn K (.ref C) "names" = some (some (.ref f37))) (i37 : PySem.W.isFn K (.ref f37) = true) (l37 : K.lookup f37 = some ⟨oc37, od37, .func (PySem.W.fnOf "names" "Net.names" (defArgs s_Net_names) (defBody s_Net_names) (defScope s_Net_names) .none kV37 dc37 pm37 an37 cd37 ct37), sl37⟩) (c37 : PySem.W.codeIn K cd37 "Net.names" = true) (k37 : PySem.W.keepIn K (.ref f37) = true)
    (a38 : PySem.W.findIn K (.ref C) "gates" = some (some (.ref f38))) (i38 : PySem.W.isFn K (.ref f38) = true) (l38 : K.lookup f38 = some ⟨oc38, od38, .func (PySem.W.fnOf "gates" "Net.gates" (defArgs s_Net_gates) (defBody s_Net_gates) (defScope s_Net_gates) .none kV38 dc38 pm38 an38 cd38 ct38), sl38⟩) (c38 : PySem.W.codeIn K cd38 "Net.gates" = true) (k38 : PySem.W.keepIn K (.ref f38) = true)
    (a39 : PySem.W.findIn K (.ref C) "like" = some (some (.ref f39))) (i39 : PySem.W.isFn K (.ref f39) = true) (l39 : K.lookup f39 = some ⟨oc39, od39, .func (PySem.W.fnOf "like" "Net.like" (defArgs s_Net_like) (defBody s_Net_like) (defScope s_Net_like) .none kV39 dc39 pm39 an39 cd39 ct39), sl39⟩) (c39 : PySem.W.codeIn K cd39 "Net.like" = true) (k39 : PySem.W.keepIn K (.ref f39) = true)
    (z1 : PySem.W.nsIn K mainGlobals "len" = some none)
    (z2 : PySem.W.nsIn K mainGlobals "abs" = some none)
    (z3 : PySem.W.nsIn K mainGlobals "int" = some none)
    (z4 : PySem.W.nsIn K mainGlobals "divmod" = some none)
    (z5 : PySem.W.nsIn K mainGlobals "list" = some none)
    (z6 : PySem.W.nsIn K mainGlobals "enumerate" = some none)
    (z7 : PySem.W.nsIn K mainGlobals "isinstance" = some none)
    (z8 : PySem.W.nsIn K mainGlobals "tuple" = some none)
    (z9 : PySem.W.nsIn K mainGlobals "str" = some none)
    (z10 : PySem.W.nsIn K mainGlobals "bool" = some none)
    (z11 : PySem.W.nsIn K mainGlobals "zip" = some none)
    (z12 : PySem.W.nsIn K mainGlobals "all" = some none)
    (z13 : PySem.W.nsIn K mainGlobals "range" = some none)
    (z14 : PySem.W.nsIn K mainGlobals "max" = some none)
    (z15 : PySem.W.nsIn K mainGlobals "any" = some none)
    (z16 : PySem.W.nsIn K mainGlobals "min" = some none)
    (z17 : PySem.W.nsIn K mainGlobals "sum" = some none)
    (zsorted : PySem.W.nsIn K mainGlobals "sorted" = some none)
    (zdict : PySem.W.nsIn K mainGlobals "dict" = some none)
    : ∃ fd : FuncData, (∀ (s : Shared) (v : Value), BindsTo s fd ⟨[v], []⟩ [("_law_script", v)]) ∧ ∀ base : Heap, K.In base → base.Ns mainGlobals mg → FnOk l.prog w K mg base CX0 10 fa fd ["_law_script"] (spLaw K) := by
  have e := hfa.symm.trans (PySem.W.mg_of X G a25)
  cases e
  have F1 := fun_mk (st := s_sum_wires) l1 c1 k1
  have b1 := F1.binds (ps := ["net", "ones", "others", "carry"]) fun _ _ _ _ _ _ us hl => match us, hl with | [_, _, _, _], _ => rfl
  have m1 := PySem.W.mg_of X G a1
  have F2 := fun_mk (st := s_quick_sum_wires) l2 c2 k2
  have b2 := F2.binds (ps := ["net", "ones", "others", "carry"]) fun _ _ _ _ _ _ us hl => match us, hl with | [_, _, _, _], _ => rfl
  have m2 := PySem.W.mg_of X G a2
  have F3 := fun_mk (st := s_carry_wires) l3 c3 k3
  have b3 := F3.binds (ps := ["net", "spans"]) fun _ _ _ _ _ _ us hl => match us, hl with | [_, _], _ => rfl
  have m3 := PySem.W.mg_of X G a3
  have F4 := fun_mk (st := s_span_doubled) l4 c4 k4
  have b4 := F4.binds (ps := ["net", "spans", "place", "size"]) fun _ _ _ _ _ _ us hl => match us, hl with | [_, _, _, _], _ => rfl
  have m4 := PySem.W.mg_of X G a4
  have F5 := fun_mk (st := s_shift_wires) l5 c5 k5
  have b5 := F5.binds (ps := ["net", "ones", "by"]) fun _ _ _ _ _ _ us hl => match us, hl with | [_, _, _], _ => rfl
  have m5 := PySem.W.mg_of X G a5
  have F6 := fun_mk (st := s_left_wires) l6 c6 k6
  have b6 := F6.binds (ps := ["net", "ones", "by"]) fun _ _ _ _ _ _ us hl => match us, hl with | [_, _, _], _ => rfl
  have m6 := PySem.W.mg_of X G a6
  have F7 := fun_mk (st := s_shift_amounts) l7 c7 k7
  have b7 := F7.binds (ps := ["net", "many", "by"]) fun _ _ _ _ _ _ us hl => match us, hl with | [_, _, _], _ => rfl
  have m7 := PySem.W.mg_of X G a7
  have F8 := fun_mk (st := s_any_wire) l8 c8 k8
  have b8 := F8.binds (ps := ["net", "wires"]) fun _ _ _ _ _ _ us hl => match us, hl with | [_, _], _ => rfl
  have m8 := PySem.W.mg_of X G a8
  have F9 := fun_mk (st := s_zero_wires) l9 c9 k9
  have b9 := F9.binds (ps := ["net", "ones"]) fun _ _ _ _ _ _ us hl => match us, hl with | [_, _], _ => rfl
  have m9 := PySem.W.mg_of X G a9
  have F10 := fun_mk (st := s_first_wires) l10 c10 k10
  have b10 := F10.binds (ps := ["net", "ones"]) fun _ _ _ _ _ _ us hl => match us, hl with | [_, _], _ => rfl
  have m10 := PySem.W.mg_of X G a10
  have F11 := fun_mk (st := s_mark_wires) l11 c11 k11
  have b11 := F11.binds (ps := ["net", "ones", "others"]) fun _ _ _ _ _ _ us hl => match us, hl with | [_, _, _], _ => rfl
  have m11 := PySem.W.mg_of X G a11
  have F12 := fun_mk (st := s_chosen_wires) l12 c12 k12
  have b12 := F12.binds (ps := ["net", "wire", "ones", "others"]) fun _ _ _ _ _ _ us hl => match us, hl with | [_, _, _, _], _ => rfl
  have m12 := PySem.W.mg_of X G a12
  have F13 := fun_mk (st := s_is_less_wire) l13 c13 k13
  have b13 := F13.binds (ps := ["net", "ones", "others"]) fun _ _ _ _ _ _ us hl => match us, hl with | [_, _, _], _ => rfl
  have m13 := PySem.W.mg_of X G a13
  have F14 := fun_mk (st := s_lengthened) l14 c14 k14
  have b14 := F14.binds (ps := ["net", "wires", "many"]) fun _ _ _ _ _ _ us hl => match us, hl with | [_, _, _], _ => rfl
  have m14 := PySem.W.mg_of X G a14
  have F15 := fun_mk (st := s_raise_wires) l15 c15 k15
  have b15 := F15.binds (ps := ["net", "ones", "wire"]) fun _ _ _ _ _ _ us hl => match us, hl with | [_, _, _], _ => rfl
  have m15 := PySem.W.mg_of X G a15
  have F16 := fun_mk (st := s_times_wires) l16 c16 k16
  have b16 := F16.binds (ps := ["net", "ones", "others"]) fun _ _ _ _ _ _ us hl => match us, hl with | [_, _, _], _ => rfl
  have m16 := PySem.W.mg_of X G a16
  have F17 := fun_mk (st := s_ran) l17 c17 k17
  have m17 := PySem.W.mg_of X G a17
  have F18 := fun_mk (st := s_gate_bits) l18 c18 k18
  have b18 := F18.binds (ps := ["gate", "wires", "full"]) fun _ _ _ _ _ _ us hl => match us, hl with | [_, _, _], _ => rfl
  have m18 := PySem.W.mg_of X G a18
  have F19 := fun_mk (st := sBox) l19 c19 k19
  have b19 := F19.binds (ps := ["_law_script", "_law_k"]) fun _ _ _ _ _ _ us hl => match us, hl with | [_, _], _ => rfl
  have m19 := PySem.W.mg_of X G a19
  have F20 := fun_mk (st := sTake) l20 c20 k20
  have b20 := F20.binds (ps := ["_law_box_here", "_law_size"]) fun _ _ _ _ _ _ us hl => match us, hl with | [_, _], _ => rfl
  have m20 := PySem.W.mg_of X G a20
  have F21 := fun_mk (st := s__law_values) l21 c21 k21
  have b21 := F21.binds (ps := ["_law_box_here", "_law_inputs", "_law_cases"]) fun _ _ _ _ _ _ us hl => match us, hl with | [_, _, _], _ => rfl
  have m21 := PySem.W.mg_of X G a21
  have F22 := fun_mk (st := s__law_number) l22 c22 k22
  have b22 := F22.binds (ps := ["_law_bits", "_law_case"]) fun _ _ _ _ _ _ us hl => match us, hl with | [_, _], _ => rfl
  have m22 := PySem.W.mg_of X G a22
  have F23 := fun_mk (st := s__law_put) l23 c23 k23
  have b23 := F23.binds (ps := ["_law_net", "_law_first", "_law_second"]) fun _ _ _ _ _ _ us hl => match us, hl with | [_, _, _], _ => rfl
  have m23 := PySem.W.mg_of X G a23
  have F24 := fun_mk (st := s__law_case_right) l24 c24 k24
  have b24 := F24.binds (ps := ["_law_own"]) fun _ _ _ _ _ _ us hl => match us, hl with | [_], _ => rfl
  have m24 := PySem.W.mg_of X G a24
  have F25 := fun_mk (st := s_law) l25 c25 k25
  have F26 := fun_mk (st := s_Net___init__) l26 c26 k26
  have b26 := F26.binds (ps := ["self", "many"]) fun _ _ _ _ _ _ us hl => match us, hl with | [_, _], _ => rfl
  have M26 : Meth K C "__init__" f26 := ⟨a26, i26, k26⟩
  have F27 := fun_mk (st := s_Net_both) l27 c27 k27
  have b27 := F27.binds (ps := ["self", "a", "b"]) fun _ _ _ _ _ _ us hl => match us, hl with | [_, _, _], _ => rfl
  have M27 : Meth K C "both" f27 := ⟨a27, i27, k27⟩
  have F28 := fun_mk (st := s_Net_either) l28 c28 k28
  have b28 := F28.binds (ps := ["self", "a", "b"]) fun _ _ _ _ _ _ us hl => match us, hl with | [_, _, _], _ => rfl
  have M28 : Meth K C "either" f28 := ⟨a28, i28, k28⟩
  have F29 := fun_mk (st := s_Net_unlike) l29 c29 k29
  have b29 := F29.binds (ps := ["self", "a", "b"]) fun _ _ _ _ _ _ us hl => match us, hl with | [_, _, _], _ => rfl
  have M29 : Meth K C "unlike" f29 := ⟨a29, i29, k29⟩
  have F30 := fun_mk (st := s_Net_other) l30 c30 k30
  have b30 := F30.binds (ps := ["self", "a"]) fun _ _ _ _ _ _ us hl => match us, hl with | [_, _], _ => rfl
  have M30 : Meth K C "other" f30 := ⟨a30, i30, k30⟩
  have F31 := fun_mk (st := s_Net_fixed) l31 c31 k31
  have b31 := F31.binds (ps := ["self", "bit"]) fun _ _ _ _ _ _ us hl => match us, hl with | [_, _], _ => rfl
  have M31 : Meth K C "fixed" f31 := ⟨a31, i31, k31⟩
  have F32 := fun_mk (st := s_Net_put) l32 c32 k32
  have b32 := F32.binds (ps := ["self", "kind", "wires"]) fun _ _ _ _ _ _ us hl => match us, hl with | [_, _, _], _ => rfl
  have M32 : Meth K C "put" f32 := ⟨a32, i32, k32⟩
  have F33 := fun_mk (st := s_Net_put_gate) l33 c33 k33
  have b33 := F33.binds (ps := ["self", "gate", "depth"]) fun _ _ _ _ _ _ us hl => match us, hl with | [_, _, _], _ => rfl
  have M33 : Meth K C "put_gate" f33 := ⟨a33, i33, k33⟩
  have F34 := fun_mk (st := s_Net_need) l34 c34 k34
  have b34 := F34.binds (ps := ["self", "wires"]) fun _ _ _ _ _ _ us hl => match us, hl with | [_, _], _ => rfl
  have M34 : Meth K C "need" f34 := ⟨a34, i34, k34⟩
  have F35 := fun_mk (st := s_Net_give) l35 c35 k35
  have b35 := F35.binds (ps := ["self", "name", "wires"]) fun _ _ _ _ _ _ us hl => match us, hl with | [_, _, _], _ => rfl
  have M35 : Meth K C "give" f35 := ⟨a35, i35, k35⟩
  have F36 := fun_mk (st := s_Net_given) l36 c36 k36
  have b36 := F36.binds (ps := ["self", "name"]) fun _ _ _ _ _ _ us hl => match us, hl with | [_, _], _ => rfl
  have M36 : Meth K C "given" f36 := ⟨a36, i36, k36⟩
  have F37 := fun_mk (st := s_Net_names) l37 c37 k37
  have b37 := F37.binds (ps := ["self"]) fun _ _ _ _ _ _ us hl => match us, hl with | [_], _ => rfl
  have M37 : Meth K C "names" f37 := ⟨a37, i37, k37⟩
  have F38 := fun_mk (st := s_Net_gates) l38 c38 k38
  have b38 := F38.binds (ps := ["self"]) fun _ _ _ _ _ _ us hl => match us, hl with | [_], _ => rfl
  have M38 : Meth K C "gates" f38 := ⟨a38, i38, k38⟩
  have F39 := fun_mk (st := s_Net_like) l39 c39 k39
  have b39 := F39.binds (ps := ["self"]) fun _ _ _ _ _ _ us hl => match us, hl with | [_], _ => rfl
  have M39 : Meth K C "like" f39 := ⟨a39, i39, k39⟩
  have clC : Cls K C := ⟨pgC, hdC, poC, saC⟩
  have mgC := PySem.W.mg_of X G aC
  have B : Bl mg := ⟨PySem.W.mg_none_of X G z1, PySem.W.mg_none_of X G z2, PySem.W.mg_none_of X G z3, PySem.W.mg_none_of X G z4, PySem.W.mg_none_of X G z5, PySem.W.mg_none_of X G z6, PySem.W.mg_none_of X G z7, PySem.W.mg_none_of X G z8, PySem.W.mg_none_of X G z9, PySem.W.mg_none_of X G z10, PySem.W.mg_none_of X G z11, PySem.W.mg_none_of X G z12, PySem.W.mg_none_of X G z13, PySem.W.mg_none_of X G z14, PySem.W.mg_none_of X G z15, PySem.W.mg_none_of X G z16, PySem.W.mg_none_of X G z17⟩
  refine ⟨PySem.W.fnOf "law" "law" (defArgs s_law) (defBody s_law) (defScope s_law) .none kV25 dc25 pm25 an25 cd25 ct25, fun s v => .of_eq rfl, fun base _ _ => ?_⟩
  have kb17_many : ∃ g, KBn K (PySem.W.fnOf "ran" "ran" (defArgs s_ran) (defBody s_ran) (defScope s_ran) .none (.ref Dk17) dc17 pm17 an17 cd17 ct17) ["net", "values", "many"] 2 ["many"] g (fun vs zs => vs ++ zs) := ⟨fun vs zs => vs ++ zs, ⟨kbn_of (st := s_ran) (ml := []) (gV := fun vs zs => vs ++ zs) (fun q hq => nomatch hq) (fun us ws l1 l2 => match us, ws, l1, l2 with | [_, _], [_], _, _ => (show _ = pure _ from rfl)) (fun _ _ r1 r2 => r1.append r2), fun r1 r2 => r1.append r2⟩⟩
  have L : LL K mg C (pkz f1 [f2, f3, f4, f5, f6, f7, f8, f9, f10, f11, f12, f13, f14, f15, f16, f17, f18, f19, f20, f21, f22, f23, f24, f26, f27, f28, f29, f30, f31, f32, f33, f34, f35, f36, f37, f38, f39]) (pkz _ [_, _, _, _, _, _, _, _, _, _, _, _, _, _, _, _, _, _, _, _, _, _, _, _, _, _, _, _, _, _, _, _, _, _, _, _, _])  := ⟨F1, m1, b1, F2, m2, b2, F3, m3, b3, F4, m4, b4, F5, m5, b5, F6, m6, b6, F7, m7, b7, F8, m8, b8, F9, m9, b9, F10, m10, b10, F11, m11, b11, F12, m12, b12, F13, m13, b13, F14, m14, b14, F15, m15, b15, F16, m16, b16, F17, m17, kb17_many, F18, m18, b18, F19, m19, b19, F20, m20, b20, F21, m21, b21, F22, m22, b22, F23, m23, b23, F24, m24, b24, ⟨clC, naC0, naC1, naC2, naC3, mgC⟩, ⟨mkC, a26, i26, kcC⟩, F26, b26, F27, b27, M27, F28, b28, M28, F29, b29, M29, F30, b30, M30, F31, b31, M31, F32, b32, M32, F33, b33, M33, F34, b34, M34, F35, b35, M35, F36, b36, M36, F37, b37, M37, F38, b38, M38, F39, b39, M39, PySem.W.mg_none_of X G zsorted, PySem.W.mg_none_of X G zdict⟩
  exact ok_law F25 B L
end GZ
open PySem PySem.W PyProof.Rows
set_option maxRecDepth 100000 in
set_option maxHeartbeats 0 in
theorem PySem.Challenge.cw_guessedzeros_k90_whole_parts_beside_numb_holds : PySem.Challenge.rw_guessedzeros_k90_whole_parts_beside_numb.Holds := by
  w_on; o_law; k_headLK; (case hw => w_witness2)
  k_fill
  refine L2.walk_of (l := PySem.Challenge.rw_guessedzeros_k90_whole_parts_beside_numb) (n := 63) (k := 10) (x := "_law_script") (CX := fun _ => L2.CX0) (sp := fun w => GZ.spLaw _) rfl (by decide) rfl ⟨rfl, by decide, by decide⟩ (fun w h Y => PySem.W.kIn_of Y) ?F (fun _ _ a ns hl _ hS => ⟨a, ns, rfl, hS, hl, fun _ => rfl⟩) (fun _ _ _ _ _ h => h)
  case F =>
    intro w mg fa h KX G hmg
    refine' GZ.all_mk KX G hmg ?a1 ?l1 ?c1 ?k1 ?a2 ?l2 ?c2 ?k2 ?a3 ?l3 ?c3 ?k3 ?a4 ?l4 ?c4 ?k4 ?a5 ?l5 ?c5 ?k5 ?a6 ?l6 ?c6 ?k6 ?a7 ?l7 ?c7 ?k7 ?a8 ?l8 ?c8 ?k8 ?a9 ?l9 ?c9 ?k9 ?a10 ?l10 ?c10 ?k10 ?a11 ?l11 ?c11 ?k11 ?a12 ?l12 ?c12 ?k12 ?a13 ?l13 ?c13 ?k13 ?a14 ?l14 ?c14 ?k14 ?a15 ?l15 ?c15 ?k15 ?a16 ?l16 ?c16 ?k16 ?a17 ?l17 ?c17 ?k17 ?w17_0 ?a18 ?l18 ?c18 ?k18 ?a19 ?l19 ?c19 ?k19 ?a20 ?l20 ?c20 ?k20 ?a21 ?l21 ?c21 ?k21 ?a22 ?l22 ?c22 ?k22 ?a23 ?l23 ?c23 ?k23 ?a24 ?l24 ?c24 ?k24 ?a25 ?l25 ?c25 ?k25 ?aC ?pgC ?hdC ?poC ?saC ?mkC ?kcC ?naC0 ?naC1 ?naC2 ?naC3 ?a26 ?i26 ?l26 ?c26 ?k26 ?a27 ?i27 ?l27 ?c27 ?k27 ?a28 ?i28 ?l28 ?c28 ?k28 ?a29 ?i29 ?l29 ?c29 ?k29 ?a30 ?i30 ?l30 ?c30 ?k30 ?a31 ?i31 ?l31 ?c31 ?k31 ?a32 ?i32 ?l32 ?c32 ?k32 ?a33 ?i33 ?l33 ?c33 ?k33 ?a34 ?i34 ?l34 ?c34 ?k34 ?a35 ?i35 ?l35 ?c35 ?k35 ?a36 ?i36 ?l36 ?c36 ?k36 ?a37 ?i37 ?l37 ?c37 ?k37 ?a38 ?i38 ?l38 ?c38 ?k38 ?a39 ?i39 ?l39 ?c39 ?k39 ?z1 ?z2 ?z3 ?z4 ?z5 ?z6 ?z7 ?z8 ?z9 ?z10 ?z11 ?z12 ?z13 ?z14 ?z15 ?z16 ?z17 ?zsorted ?zdict
    (case a1 => k_is)
    (case l1 => k_is)
    (case c1 => k_is)
    (case k1 => k_is)
    (case a2 => k_is)
    (case l2 => k_is)
    (case c2 => k_is)
    (case k2 => k_is)
    (case a3 => k_is)
    (case l3 => k_is)
    (case c3 => k_is)
    (case k3 => k_is)
    (case a4 => k_is)
    (case l4 => k_is)
    (case c4 => k_is)
    (case k4 => k_is)
    (case a5 => k_is)
    (case l5 => k_is)
    (case c5 => k_is)
    (case k5 => k_is)
    (case a6 => k_is)
    (case l6 => k_is)
    (case c6 => k_is)
    (case k6 => k_is)
    (case a7 => k_is)
    (case l7 => k_is)
    (case c7 => k_is)
    (case k7 => k_is)
    (case a8 => k_is)
    (case l8 => k_is)
    (case c8 => k_is)
    (case k8 => k_is)
    (case a9 => k_is)
    (case l9 => k_is)
    (case c9 => k_is)
    (case k9 => k_is)
    (case a10 => k_is)
    (case l10 => k_is)
    (case c10 => k_is)
    (case k10 => k_is)
    (case a11 => k_is)
    (case l11 => k_is)
    (case c11 => k_is)
    (case k11 => k_is)
    (case a12 => k_is)
    (case l12 => k_is)
    (case c12 => k_is)
    (case k12 => k_is)
    (case a13 => k_is)
    (case l13 => k_is)
    (case c13 => k_is)
    (case k13 => k_is)
    (case a14 => k_is)
    (case l14 => k_is)
    (case c14 => k_is)
    (case k14 => k_is)
    (case a15 => k_is)
    (case l15 => k_is)
    (case c15 => k_is)
    (case k15 => k_is)
    (case a16 => k_is)
    (case l16 => k_is)
    (case c16 => k_is)
    (case k16 => k_is)
    (case a17 => k_is)
    (case l17 => k_is)
    (case c17 => k_is)
    (case k17 => k_is)
    (case w17_0 => k_is)
    (case a18 => k_is)
    (case l18 => k_is)
    (case c18 => k_is)
    (case k18 => k_is)
    (case a19 => k_is)
    (case l19 => k_is)
    (case c19 => k_is)
    (case k19 => k_is)
    (case a20 => k_is)
    (case l20 => k_is)
    (case c20 => k_is)
    (case k20 => k_is)
    (case a21 => k_is)
    (case l21 => k_is)
    (case c21 => k_is)
    (case k21 => k_is)
    (case a22 => k_is)
    (case l22 => k_is)
    (case c22 => k_is)
    (case k22 => k_is)
    (case a23 => k_is)
    (case l23 => k_is)
    (case c23 => k_is)
    (case k23 => k_is)
    (case a24 => k_is)
    (case l24 => k_is)
    (case c24 => k_is)
    (case k24 => k_is)
    (case a25 => k_is)
    (case l25 => k_is)
    (case c25 => k_is)
    (case k25 => k_is)
    (case aC => k_is)
    (case pgC => k_is)
    (case hdC => k_is)
    (case poC => k_is)
    (case saC => k_is)
    (case mkC => k_is)
    (case kcC => k_is)
    (case naC0 => k_is)
    (case naC1 => k_is)
    (case naC2 => k_is)
    (case naC3 => k_is)
    (case a26 => k_is)
    (case i26 => k_is)
    (case l26 => k_is)
    (case c26 => k_is)
    (case k26 => k_is)
    (case a27 => k_is)
    (case i27 => k_is)
    (case l27 => k_is)
    (case c27 => k_is)
    (case k27 => k_is)
    (case a28 => k_is)
    (case i28 => k_is)
    (case l28 => k_is)
    (case c28 => k_is)
    (case k28 => k_is)
    (case a29 => k_is)
    (case i29 => k_is)
    (case l29 => k_is)
    (case c29 => k_is)
    (case k29 => k_is)
    (case a30 => k_is)
    (case i30 => k_is)
    (case l30 => k_is)
    (case c30 => k_is)
    (case k30 => k_is)
    (case a31 => k_is)
    (case i31 => k_is)
    (case l31 => k_is)
    (case c31 => k_is)
    (case k31 => k_is)
    (case a32 => k_is)
    (case i32 => k_is)
    (case l32 => k_is)
    (case c32 => k_is)
    (case k32 => k_is)
    (case a33 => k_is)
    (case i33 => k_is)
    (case l33 => k_is)
    (case c33 => k_is)
    (case k33 => k_is)
    (case a34 => k_is)
    (case i34 => k_is)
    (case l34 => k_is)
    (case c34 => k_is)
    (case k34 => k_is)
    (case a35 => k_is)
    (case i35 => k_is)
    (case l35 => k_is)
    (case c35 => k_is)
    (case k35 => k_is)
    (case a36 => k_is)
    (case i36 => k_is)
    (case l36 => k_is)
    (case c36 => k_is)
    (case k36 => k_is)
    (case a37 => k_is)
    (case i37 => k_is)
    (case l37 => k_is)
    (case c37 => k_is)
    (case k37 => k_is)
    (case a38 => k_is)
    (case i38 => k_is)
    (case l38 => k_is)
    (case c38 => k_is)
    (case k38 => k_is)
    (case a39 => k_is)
    (case i39 => k_is)
    (case l39 => k_is)
    (case c39 => k_is)
    (case k39 => k_is)
    (case z1 => k_is)
    (case z2 => k_is)
    (case z3 => k_is)
    (case z4 => k_is)
    (case z5 => k_is)
    (case z6 => k_is)
    (case z7 => k_is)
    (case z8 => k_is)
    (case z9 => k_is)
    (case z10 => k_is)
    (case z11 => k_is)
    (case z12 => k_is)
    (case z13 => k_is)
    (case z14 => k_is)
    (case z15 => k_is)
    (case z16 => k_is)
    (case z17 => k_is)
    (case zsorted => k_is)
    (case zdict => k_is)

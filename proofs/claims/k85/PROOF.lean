import PyProof.Rows.All
import Wide.All
import OpenK.AllK
import Wide.FinOn
import HandS.ForMost
import HandS.Walk
import HandS.Zip
import HandS.WideBits
import HandS.IsInst
import OpenK.KEqL
import HandS.More
import HandS.Flow
import HandS.NoneIn
import HandS.Defaults
import HandS.Wide
import HandS.Style
import HandS.Dict
import HandS.Star
import HandS.Conv
import HandS.Small
import HandS.Codes
import HandS.Text
import HandS.WordsDict
import KE.OsRunLaw
import KE.GoesZip
import KE.GoesMore
import KE.GoesEnum
import KE.KUnpackStar
import KE.KRevSl
import KE.KDictZip
import HandS.ListItems
import HandS.Deep
import HandS.OwnEq
import HandS.StrMore
import HandS.Text
import HandS.Strs
import HandS.FStr
import HandS.ReplaceLit
import HandS.ReplaceList
import PyProof.Rows.FactsT3
import KE.DataEq
import PyProof.Rows.ListStrD
import PyProof.Rows.SortKeyStr
import PyProof.Rows.RegReprOcc
import HandS.ExcIs
import KE.KExcInit
import KE.KExcIs
import KE.KTryMore
import HandS.Exc
import HandS.ExcInit
import HandS.WordsExc
import HandS.ExcValue
import HandS.ExcOwn
import HandS.IsInst
import HandS.ForSpec
import PySem.Challenge.RW_guessedzeros_k85_whole_papers_both_ways
set_option Elab.async false
set_option linter.all false
set_option maxRecDepth 100000
set_option maxHeartbeats 40000000
namespace GZ
open PySem PySem.Spec PyProof.Rows L2
/-! ### the text by places -/
def topS (i : Nat) : Stmt := PySem.Challenge.pw_guessedzeros_k85_whole_papers_both_ways.main.body.getD i (.Pass ⟨0, 0, 0, 0⟩)
abbrev s_worth_of : Stmt := topS 9
theorem sc_worth_of : FnScope ["digits", "worth", "digit"] ["digits"] (defScope s_worth_of) := ⟨rfl, rfl, rfl, by decide +kernel, rfl, by decide +kernel, by decide +kernel⟩
abbrev s_ran : Stmt := topS 11
theorem sc_ran : FnScope ["net", "values", "many", "full", "wires", "gate", "value", "name", "wire"] ["net", "values", "many"] (defScope s_ran) := ⟨rfl, rfl, rfl, by decide +kernel, rfl, by decide +kernel, by decide +kernel⟩
abbrev s_gate_bits : Stmt := topS 12
theorem sc_gate_bits : FnScope ["gate", "wires", "full", "kind", "one", "other"] ["gate", "wires", "full"] (defScope s_gate_bits) := ⟨rfl, rfl, rfl, by decide +kernel, rfl, by decide +kernel, by decide +kernel⟩
abbrev s_all_cases : Stmt := topS 13
theorem sc_all_cases : FnScope ["many", "place"] ["many"] (defScope s_all_cases) := ⟨rfl, rfl, rfl, by decide +kernel, rfl, by decide +kernel, by decide +kernel⟩
abbrev s_place_in_cases : Stmt := topS 14
theorem sc_place_in_cases : FnScope ["place", "many", "size", "number", "doubled"] ["place", "many"] (defScope s_place_in_cases) := ⟨rfl, rfl, rfl, by decide +kernel, rfl, by decide +kernel, by decide +kernel⟩
abbrev s_one_case : Stmt := topS 15
theorem sc_one_case : FnScope ["net", "word", "values", "place", "name", "bits"] ["net", "word"] (defScope s_one_case) := ⟨rfl, rfl, rfl, by decide +kernel, rfl, by decide +kernel, by decide +kernel⟩
abbrev s_bits_text : Stmt := topS 17
theorem sc_bits_text : FnScope ["number", "many"] ["number", "many"] (defScope s_bits_text) := ⟨rfl, rfl, rfl, by decide +kernel, rfl, by decide +kernel, by decide +kernel⟩
abbrev s_lies_in : Stmt := topS 19
theorem sc_lies_in : FnScope ["bits", "cube"] ["bits", "cube"] (defScope s_lies_in) := ⟨rfl, rfl, rfl, by decide +kernel, rfl, by decide +kernel, by decide +kernel⟩
abbrev s_common : Stmt := topS 20
theorem sc_common : FnScope ["one", "other", "signs", "sign", "other_sign"] ["one", "other"] (defScope s_common) := ⟨rfl, rfl, rfl, by decide +kernel, rfl, by decide +kernel, by decide +kernel⟩
abbrev s_common_sign : Stmt := topS 21
theorem sc_common_sign : FnScope ["sign", "other_sign"] ["sign", "other_sign"] (defScope s_common_sign) := ⟨rfl, rfl, rfl, by decide +kernel, rfl, by decide +kernel, by decide +kernel⟩
abbrev s_split : Stmt := topS 22
theorem sc_split : FnScope ["cube", "place", "ahead", "behind"] ["cube", "place"] (defScope s_split) := ⟨rfl, rfl, rfl, by decide +kernel, rfl, by decide +kernel, by decide +kernel⟩
abbrev s_hole : Stmt := topS 23
theorem sc_hole : FnScope ["cubes", "many", "values", "left", "cube"] ["cubes", "many"] (defScope s_hole) := ⟨rfl, rfl, rfl, by decide +kernel, rfl, by decide +kernel, by decide +kernel⟩
abbrev s_cases_in : Stmt := topS 24
theorem sc_cases_in : FnScope ["cube", "values", "many", "found", "sign", "value"] ["cube", "values", "many"] (defScope s_cases_in) := ⟨rfl, rfl, rfl, by decide +kernel, rfl, by decide +kernel, by decide +kernel⟩
abbrev s_is_text_of : Stmt := topS 26
theorem sc_is_text_of : FnScope ["signs", "many", "thing", "sign"] ["signs", "many", "thing"] (defScope s_is_text_of) := ⟨rfl, rfl, rfl, by decide +kernel, rfl, by decide +kernel, by decide +kernel⟩
abbrev s_settled : Stmt := topS 28
theorem sc_settled : FnScope ["net", "cube", "signs", "gate", "name", "wire"] ["net", "cube"] (defScope s_settled) := ⟨rfl, rfl, rfl, by decide +kernel, rfl, by decide +kernel, by decide +kernel⟩
abbrev s_gate_sign : Stmt := topS 29
theorem sc_gate_sign : FnScope ["gate", "signs", "kind", "one", "other"] ["gate", "signs"] (defScope s_gate_sign) := ⟨rfl, rfl, rfl, by decide +kernel, rfl, by decide +kernel, by decide +kernel⟩
abbrev s_turned_sign : Stmt := topS 30
theorem sc_turned_sign : FnScope ["sign"] ["sign"] (defScope s_turned_sign) := ⟨rfl, rfl, rfl, by decide +kernel, rfl, by decide +kernel, by decide +kernel⟩
abbrev s_ruled_sign : Stmt := topS 31
theorem sc_ruled_sign : FnScope ["one", "other", "ruling"] ["one", "other", "ruling"] (defScope s_ruled_sign) := ⟨rfl, rfl, rfl, by decide +kernel, rfl, by decide +kernel, by decide +kernel⟩
abbrev s_same : Stmt := topS 33
theorem sc_same : FnScope ["one", "other", "most", "kept", "left", "looked_at", "cube", "found", "with_0", "with_1"] ["one", "other", "most"] (defScope s_same) := ⟨rfl, rfl, rfl, by decide +kernel, rfl, by decide +kernel, by decide +kernel⟩
abbrev s_looked : Stmt := topS 34
theorem sc_looked : FnScope ["one", "other", "cube", "told", "told_other"] ["one", "other", "cube"] (defScope s_looked) := ⟨rfl, rfl, rfl, by decide +kernel, rfl, by decide +kernel, by decide +kernel⟩
abbrev s_has_open : Stmt := topS 35
theorem sc_has_open : FnScope ["told", "name", "signs"] ["told"] (defScope s_has_open) := ⟨rfl, rfl, rfl, by decide +kernel, rfl, by decide +kernel, by decide +kernel⟩
abbrev s_need_fit : Stmt := topS 36
theorem sc_need_fit : FnScope ["one", "other", "name"] ["one", "other"] (defScope s_need_fit) := ⟨rfl, rfl, rfl, by decide +kernel, rfl, by decide +kernel, by decide +kernel⟩
abbrev s_shows_same : Stmt := topS 37
theorem sc_shows_same : FnScope ["one", "other", "thing", "many", "cube"] ["one", "other", "thing"] (defScope s_shows_same) := ⟨rfl, rfl, rfl, by decide +kernel, rfl, by decide +kernel, by decide +kernel⟩
abbrev s_shows_unlike : Stmt := topS 38
theorem sc_shows_unlike : FnScope ["one", "other", "thing"] ["one", "other", "thing"] (defScope s_shows_unlike) := ⟨rfl, rfl, rfl, by decide +kernel, rfl, by decide +kernel, by decide +kernel⟩
abbrev s_sum_wires : Stmt := topS 40
theorem sc_sum_wires : FnScope ["net", "ones", "others", "carry", "total", "one", "other", "half"] ["net", "ones", "others", "carry"] (defScope s_sum_wires) := ⟨rfl, rfl, rfl, by decide +kernel, rfl, by decide +kernel, by decide +kernel⟩
abbrev s_chosen_wires : Stmt := topS 41
theorem sc_chosen_wires : FnScope ["net", "wire", "ones", "others", "stays", "one", "other"] ["net", "wire", "ones", "others"] (defScope s_chosen_wires) := ⟨rfl, rfl, rfl, by decide +kernel, rfl, by decide +kernel, by decide +kernel⟩
abbrev s_is_less_wire : Stmt := topS 42
theorem sc_is_less_wire : FnScope ["net", "ones", "others", "many", "less", "one", "other", "turned"] ["net", "ones", "others"] (defScope s_is_less_wire) := ⟨rfl, rfl, rfl, by decide +kernel, rfl, by decide +kernel, by decide +kernel⟩
abbrev s_lengthened : Stmt := topS 43
theorem sc_lengthened : FnScope ["net", "wires", "many"] ["net", "wires", "many"] (defScope s_lengthened) := ⟨rfl, rfl, rfl, by decide +kernel, rfl, by decide +kernel, by decide +kernel⟩
abbrev s_raise_wires : Stmt := topS 44
theorem sc_raise_wires : FnScope ["net", "ones", "wire", "total", "one"] ["net", "ones", "wire"] (defScope s_raise_wires) := ⟨rfl, rfl, rfl, by decide +kernel, rfl, by decide +kernel, by decide +kernel⟩
abbrev s_times_wires : Stmt := topS 45
theorem sc_times_wires : FnScope ["net", "ones", "others", "nought", "total", "ended", "other", "row", "last", "one"] ["net", "ones", "others"] (defScope s_times_wires) := ⟨rfl, rfl, rfl, by decide +kernel, rfl, by decide +kernel, by decide +kernel⟩
abbrev s_Net___init__ : Stmt := inClass (topS 47) 0
theorem sc_Net___init__ : FnScope ["self", "many"] ["self", "many"] (defScope s_Net___init__) := ⟨rfl, rfl, rfl, by decide +kernel, rfl, by decide +kernel, by decide +kernel⟩
abbrev s_Net_both : Stmt := inClass (topS 47) 1
theorem sc_Net_both : FnScope ["self", "a", "b"] ["self", "a", "b"] (defScope s_Net_both) := ⟨rfl, rfl, rfl, by decide +kernel, rfl, by decide +kernel, by decide +kernel⟩
abbrev s_Net_either : Stmt := inClass (topS 47) 2
theorem sc_Net_either : FnScope ["self", "a", "b"] ["self", "a", "b"] (defScope s_Net_either) := ⟨rfl, rfl, rfl, by decide +kernel, rfl, by decide +kernel, by decide +kernel⟩
abbrev s_Net_unlike : Stmt := inClass (topS 47) 3
theorem sc_Net_unlike : FnScope ["self", "a", "b"] ["self", "a", "b"] (defScope s_Net_unlike) := ⟨rfl, rfl, rfl, by decide +kernel, rfl, by decide +kernel, by decide +kernel⟩
abbrev s_Net_other : Stmt := inClass (topS 47) 4
theorem sc_Net_other : FnScope ["self", "a"] ["self", "a"] (defScope s_Net_other) := ⟨rfl, rfl, rfl, by decide +kernel, rfl, by decide +kernel, by decide +kernel⟩
abbrev s_Net_fixed : Stmt := inClass (topS 47) 5
theorem sc_Net_fixed : FnScope ["self", "bit"] ["self", "bit"] (defScope s_Net_fixed) := ⟨rfl, rfl, rfl, by decide +kernel, rfl, by decide +kernel, by decide +kernel⟩
abbrev s_Net_put : Stmt := inClass (topS 47) 6
theorem sc_Net_put : FnScope ["self", "kind", "wires", "depth", "wire"] ["self", "kind", "wires"] (defScope s_Net_put) := ⟨rfl, rfl, rfl, by decide +kernel, rfl, by decide +kernel, by decide +kernel⟩
abbrev s_Net_put_gate : Stmt := inClass (topS 47) 7
theorem sc_Net_put_gate : FnScope ["self", "gate", "depth"] ["self", "gate", "depth"] (defScope s_Net_put_gate) := ⟨rfl, rfl, rfl, by decide +kernel, rfl, by decide +kernel, by decide +kernel⟩
abbrev s_Net_need : Stmt := inClass (topS 47) 8
theorem sc_Net_need : FnScope ["self", "wires", "wire"] ["self", "wires"] (defScope s_Net_need) := ⟨rfl, rfl, rfl, by decide +kernel, rfl, by decide +kernel, by decide +kernel⟩
abbrev s_Net_give : Stmt := inClass (topS 47) 9
theorem sc_Net_give : FnScope ["self", "name", "wires"] ["self", "name", "wires"] (defScope s_Net_give) := ⟨rfl, rfl, rfl, by decide +kernel, rfl, by decide +kernel, by decide +kernel⟩
abbrev s_Net_given : Stmt := inClass (topS 47) 10
theorem sc_Net_given : FnScope ["self", "name"] ["self", "name"] (defScope s_Net_given) := ⟨rfl, rfl, rfl, by decide +kernel, rfl, by decide +kernel, by decide +kernel⟩
abbrev s_Net_names : Stmt := inClass (topS 47) 11
theorem sc_Net_names : FnScope ["self"] ["self"] (defScope s_Net_names) := ⟨rfl, rfl, rfl, by decide +kernel, rfl, by decide +kernel, by decide +kernel⟩
abbrev s_Net_inputs : Stmt := inClass (topS 47) 12
theorem sc_Net_inputs : FnScope ["self"] ["self"] (defScope s_Net_inputs) := ⟨rfl, rfl, rfl, by decide +kernel, rfl, by decide +kernel, by decide +kernel⟩
abbrev s_Net_gates : Stmt := inClass (topS 47) 13
theorem sc_Net_gates : FnScope ["self"] ["self"] (defScope s_Net_gates) := ⟨rfl, rfl, rfl, by decide +kernel, rfl, by decide +kernel, by decide +kernel⟩
abbrev sBox : Stmt := topS 49
abbrev sTake : Stmt := topS 50
abbrev sFolded : Stmt := topS 51
abbrev s__law_net : Stmt := topS 52
theorem sc__law_net : FnScope ["_law_first", "_law_rows", "_law_given", "_law_net_here", "_law_row", "_law_name", "_law_wires"] ["_law_first", "_law_rows", "_law_given"] (defScope s__law_net) := ⟨rfl, rfl, rfl, by decide +kernel, rfl, by decide +kernel, by decide +kernel⟩
abbrev s__law_bent_rows : Stmt := topS 53
theorem sc__law_bent_rows : FnScope ["_law_box_here", "_law_first", "_law_rows", "_law_made_here", "_law_at", "_law_row", "_law_way", "_law_some", "_law_kinds"] ["_law_box_here", "_law_first", "_law_rows"] (defScope s__law_bent_rows) := ⟨rfl, rfl, rfl, by decide +kernel, rfl, by decide +kernel, by decide +kernel⟩
abbrev s__law_rows_of : Stmt := topS 54
theorem sc__law_rows_of : FnScope ["_law_net_here", "_law_name"] ["_law_net_here"] (defScope s__law_rows_of) := ⟨rfl, rfl, rfl, by decide +kernel, rfl, by decide +kernel, by decide +kernel⟩
abbrev s__law_spoilt : Stmt := topS 55
theorem sc__law_spoilt : FnScope ["_law_box_here", "_law_first", "_law_net_here", "_law_rows", "_law_given", "_law_name", "_law_wires", "_law_at", "_law_one", "_law_some"] ["_law_box_here", "_law_first", "_law_net_here"] (defScope s__law_spoilt) := ⟨rfl, rfl, rfl, by decide +kernel, rfl, by decide +kernel, by decide +kernel⟩
abbrev s__law_paper_right : Stmt := topS 56
theorem sc__law_paper_right : FnScope ["_law_one", "_law_other", "_law_first", "_law_told", "_law_cases", "_law_alike", "_law_word", "_law_met", "_law_at", "_law_sign", "_law_cube"] ["_law_one", "_law_other", "_law_first", "_law_told"] (defScope s__law_paper_right) := ⟨rfl, rfl, rfl, by decide +kernel, rfl, by decide +kernel, by decide +kernel⟩
abbrev s__law_made : Stmt := topS 57
theorem sc__law_made : FnScope ["_law_way", "_law_which", "_law_size", "_law_first", "_law_net_here", "_law_ones", "_law_others", "_law_told", "_law_noughts", "_law_wire"] ["_law_way", "_law_which", "_law_size"] (defScope s__law_made) := ⟨rfl, rfl, rfl, by decide +kernel, rfl, by decide +kernel, by decide +kernel⟩
abbrev s__law_looked_at : Stmt := topS 58
theorem sc__law_looked_at : FnScope ["_law_one", "_law_other", "_law_limit", "_law_caught", "error"] ["_law_one", "_law_other", "_law_limit"] (defScope s__law_looked_at) := ⟨rfl, rfl, rfl, by decide +kernel, rfl, by decide +kernel, by decide +kernel⟩
abbrev s__law_most_right : Stmt := topS 59
theorem sc__law_most_right : FnScope ["_law_one", "_law_other", "_law_first", "_law_low", "_law_high", "_law_turn", "_law_mid"] ["_law_one", "_law_other", "_law_first"] (defScope s__law_most_right) := ⟨rfl, rfl, rfl, by decide +kernel, rfl, by decide +kernel, by decide +kernel⟩
abbrev s__law_cubes_right : Stmt := topS 60
theorem sc__law_cubes_right : FnScope ["_law_box_here", "_law_one", "_law_other", "_law_first", "_law_cubes", "_law_at", "_law_cube", "_law_rest", "_law_found", "_law_before"] ["_law_box_here", "_law_one", "_law_other", "_law_first", "_law_cubes"] (defScope s__law_cubes_right) := ⟨rfl, rfl, rfl, by decide +kernel, rfl, by decide +kernel, by decide +kernel⟩
abbrev s__law_right : Stmt := topS 61
theorem sc__law_right : FnScope ["_law_box_here", "_law_way", "_law_size", "_law_one", "_law_other", "_law_first", "_law_told"] ["_law_box_here"] (defScope s__law_right) := ⟨rfl, rfl, rfl, by decide +kernel, rfl, by decide +kernel, by decide +kernel⟩
abbrev s_law : Stmt := topS 62
theorem sc_law : FnScope ["_law_script", "_law_cells", "_law_k"] ["_law_script"] (defScope s_law) := ⟨rfl, rfl, rfl, by decide +kernel, rfl, by decide +kernel, by decide +kernel⟩
/-! ### built-in names that the text leaves alone -/
structure Bl (mg : Str → Option Value) : Prop where
  len : mg "len" = none
  abs : mg "abs" = none
  int : mg "int" = none
  divmod : mg "divmod" = none
  list : mg "list" = none
  enumerate : mg "enumerate" = none
  isinstance : mg "isinstance" = none
  tuple : mg "tuple" = none
  str : mg "str" = none
  bool : mg "bool" = none
  zip : mg "zip" = none
  all : mg "all" = none
  range : mg "range" = none
  max : mg "max" = none
  any : mg "any" = none
  min : mg "min" = none
  sum : mg "sum" = none
/-! ### rules with the written part told (for the blocks of comprehensions) -/
section
variable {X : Cx} {K : PySem.W.Frag}
theorem ix_listK (h : X.K = K := by rfl) : IxR X (rIxL K) := by subst h; exact ix_list
theorem pi_listK {tg l : Expr} {tl : TE} (hl : PE X l tl) (h : X.K = K := by rfl) : PI X tg l (iList K tl) := by subst h; exact pi_list hl
theorem pe_fldK {e : Expr} {ta : TE} {f : Str} {pos : Pos} (he : PE X e ta) (hb : attributeBase e f X.env (eval e X.env) = eval e X.env) (h : X.K = K := by rfl) : PE X (.Attribute e f pos) (tFld K ta f) := by subst h; exact pe_fld he hb
end
/-! ### heaps -/
theorem same_upd {H : Hp} {p : Addr} {o : HO} (h : H p = none) : Same H (upd H p o) := fun b x e => by
  rw [upd_ne (ne_of_none e h)]
  exact e
/-- all but what stands at b is as it was -/
def Keep (b : Addr) (H H' : Hp) : Prop := ∀ p o, H p = some o → p ≠ b → H' p = some o
theorem Keep.refl (b : Addr) (H : Hp) : Keep b H H := fun _ _ h _ => h
theorem Keep.trans {b : Addr} {H H1 H2 : Hp} (x : Keep b H H1) (y : Keep b H1 H2) : Keep b H H2 := fun p o h n => y p o (x p o h n) n
theorem Keep.ofSame {b : Addr} {H H1 : Hp} (x : Same H H1) : Keep b H H1 := fun p o h _ => x p o h
theorem Keep.upd {b : Addr} {H : Hp} {o : HO} : Keep b H (upd H b o) := fun p x h n => by
  rw [upd_ne n]
  exact h
theorem Keep.new {b p : Addr} {H : Hp} {o : HO} (h : H p = none) : Keep b H (L2.upd H p o) := .ofSame (same_upd h)
theorem Keep.seq {K : PySem.W.Frag} {b a : Addr} {H H' : Hp} {xs : List V} (e : Keep b H H') (n : a ≠ b) (h : SqL K H a xs) : SqL K H' a xs := by
  rcases h with (h | ⟨o, h⟩) | h
  · exact .inl (.inl (e _ _ h n))
  · exact .inl (.inr ⟨o, e _ _ h n⟩)
  · exact .inr h
theorem Keep.seqT {K : PySem.W.Frag} {b a : Addr} {H H' : Hp} {xs : List V} (e : Keep b H H') (n : a ≠ b) (h : SqT K H a xs) : SqT K H' a xs := by
  rcases h with (h | ⟨o, h⟩) | h
  · exact .inl (.inl (e _ _ h n))
  · exact .inl (.inr ⟨o, e _ _ h n⟩)
  · exact .inr h
theorem Same.seqT {K : PySem.W.Frag} {a : Addr} {H H' : Hp} {xs : List V} (e : Same H H') (h : SqT K H a xs) : SqT K H' a xs := by
  rcases h with (h | ⟨o, h⟩) | h
  · exact .inl (.inl (e _ _ h))
  · exact .inl (.inr ⟨o, e _ _ h⟩)
  · exact .inr h
/-- a drawing box: three ints, the last at most c -/
def BoxAt (c : Int) (H : Hp) (b : Addr) : Prop := ∃ x0 x1 x2 : Int, H b = some (.lst [.int x0, .int x1, .int x2]) ∧ 0 ≤ x0 ∧ 0 ≤ x1 ∧ x1 < 2147483647 ∧ 0 ≤ x2 ∧ x2 ≤ c
theorem BoxAt.mono {c d : Int} {H : Hp} {b : Addr} (h : BoxAt c H b) (l : c ≤ d) : BoxAt d H b := by
  obtain ⟨x0, x1, x2, e, a1, a2, a3, a4, a5⟩ := h
  exact ⟨x0, x1, x2, e, a1, a2, a3, a4, by omega⟩
theorem BoxAt.same {c : Int} {H H' : Hp} {b : Addr} (h : BoxAt c H b) (s : Same H H') : BoxAt c H' b := by
  obtain ⟨x0, x1, x2, e, r⟩ := h
  exact ⟨x0, x1, x2, s _ _ e, r⟩
theorem BoxAt.at {c : Int} {H H' : Hp} {b : Addr} (h : BoxAt c H b) (s : H' b = H b) : BoxAt c H' b := by
  obtain ⟨x0, x1, x2, e, r⟩ := h
  exact ⟨x0, x1, x2, by rw [s]; exact e, r⟩
theorem BoxAt.ne {c : Int} {H : Hp} {b p : Addr} (h : BoxAt c H b) (n : H p = none) : b ≠ p := by
  obtain ⟨x0, x1, x2, e, r⟩ := h
  exact ne_of_none e n
theorem e7 : (10 : Int) ^ ((7 : Int).toNat) = 10000000 := by decide
theorem divp_small {i j : Int} (h0 : 0 < j) (h1 : j < 2 ^ 250) : CDivP i j := by
  refine ⟨h0, ?_⟩
  show (decide ((if j == 0 then 0 else j.natAbs.log2 / 30 + 1) > 300) && _) = false
  rw [if_neg (show ¬ (j == 0) = true by simpa using (show j ≠ 0 by omega))]
  have hl : j.natAbs.log2 < 250 := PySem.Flt.log2_lt_of (by decide) (by omega)
  rw [decide_eq_false (show ¬ (j.natAbs.log2 / 30 + 1 > 300) by omega), Bool.false_and]
section
variable {P : Program} {w : World} {K : PySem.W.Frag} {mg : Str → Option Value} {base : Heap}
/-! ### _law_take -/
theorem scTake : FnScope ["_law_box_here", "_law_size", "_law_found", "_law_step", "_law_once", "_law_twice"] ["_law_box_here", "_law_size"] (defScope sTake) := ⟨rfl, rfl, rfl, by decide +kernel, rfl, by decide +kernel, by decide +kernel⟩
def spTake (k : Nat) : Sp := fun vs H Q _ => ∃ (b : Addr) (n c : Int), vs = [.ref b, .int n] ∧ BoxAt c H b ∧ 1 ≤ n ∧ n ≤ 10000000 ^ k ∧ n < 2 ^ 250 ∧ c + 2 ^ k ≤ 1000000000 ∧ 0 < k ∧
  ∀ (r : Int) (H' : Hp), 0 ≤ r → r < n → BoxAt (c + 2 ^ (k - 1)) H' b → Keep b H H' → Q (.int r) H'
theorem take_none {f : Addr} {fd : FuncData} : FnOk P w K mg base CX0 0 f fd ["_law_box_here", "_law_size"] (spTake 0) := by
  have no : ∀ vs H Q E, ¬ spTake 0 vs H Q E := fun vs H Q E h => by
    obtain ⟨b, n, c, _, _, _, _, _, _, h0, _⟩ := h
    omega
  exact ⟨fun vs H Q E h => absurd h (no vs H Q E), fun A outer s H args us vs Q E _ _ _ _ h => absurd h (no vs H Q E)⟩
theorem ok_take1 {f : Addr} {fd : FuncData} {k : Nat} (F : Fun K "_law_take" "_law_take" sTake f fd) (G : FnOk P w K mg base CX0 k f fd ["_law_box_here", "_law_size"] (spTake k)) (bf : Binds K fd ["_law_box_here", "_law_size"] []) (mf : mg "_law_take" = some (.ref f)) (B : Bl mg) :
    FnOk P w K mg base CX0 (k + 1) f fd ["_law_box_here", "_law_size"] (spTake (k + 1)) := by
  refine F.ok scTake (fun vs H Q E h => ?_) (fun cdv A outer s H vs Q E hr h => ?_)
  · obtain ⟨b, n, c, rfl, _⟩ := h
    rfl
  obtain ⟨b, n, c, rfl, hB, hn1, hnk, hn60, hc, _, q⟩ := h
  obtain ⟨x0, x1, x2, hb, h0, h1, h1', h2, h2'⟩ := hB
  have hp : (0 : Int) < 2 ^ k := Int.pow_pos (by decide)
  have hk2 : (2 : Int) ^ (k + 1) = 2 ^ k * 2 := Int.pow_succ 2 k
  refine ⟨_, pss_cons (ps_if (pt_cmpR op_gt (pe_ix ix_list (pv 0) pe_int (fun _ _ => rfl)) pe_int (nomark _))
      (pss_cons (ps_asg (pe_callB call_divmodW (by rfl) B.divmod boot_divmod (pa_cons (pe_ix ix_list (pv 0) pe_int (fun _ _ => rfl)) (pa_cons (pv 1) pa_nil)))
          (pg_tup (by rfl) (pgs_cons (pg_sub (pv 0) pe_int set_list) (pgs_cons (pg_name (i := 2) scTake.nd rfl (.inl rfl)) pgs_nil))))
        (pss_one (ps_ret (pv 2)))) pss_nil)
    (pss_cons (ps_if (pt_cmpR op_gt (pv 1) (pe_op op_pow pe_int pe_int) (nomark _))
      (pss_one (ps_ret (pe_op op_mod (pe_op op_add (pe_call G hr (by rfl) mf F.kp bf .nil pass0 (pa_cons (pv 0) (pa_cons (pe_op op_pow pe_int pe_int) pa_nil)))
          (pe_op op_mul (pe_op op_pow pe_int pe_int) (pe_call G hr (by rfl) mf F.kp bf .nil pass0 (pa_cons (pv 0) (pa_cons (pe_op op_add (pe_op op_fdiv (pe_op op_sub (pv 1) pe_int) (pe_op op_pow pe_int pe_int)) pe_int) pa_nil))))) (pv 1)))) pss_nil)
    (pss_cons (ps_asg (pe_op op_add (pe_ix ix_list (pv 0) pe_int (fun _ _ => rfl)) pe_int) (pg_sub (pv 0) pe_int set_list))
    (pss_cons (ps_set (i := 3) scTake.nd rfl (.inl rfl) (pe_op op_add pe_int (pe_op op_mul (pe_ix ix_list (pv 0) pe_int (fun _ _ => rfl)) (pe_ix ix_list (pv 0) pe_int (fun _ _ => rfl)))))
    (pss_cons (ps_set (i := 4) scTake.nd rfl (.inl rfl) (pe_op op_mod (pe_op op_mul (pe_op op_add (pe_ix ix_list (pv 0) pe_int (fun _ _ => rfl)) (pe_op op_mul pe_int (pe_ix ix_list (pv 0) pe_int (fun _ _ => rfl)))) (pv 3)) pe_int))
    (pss_cons (ps_set (i := 5) scTake.nd rfl (.inl rfl) (pe_op op_mod (pe_op op_add (pe_op op_mul (pv 4) (pe_op op_add (pe_op op_mod (pv 4) pe_int) pe_int)) (pe_ix ix_list (pv 0) pe_int (fun _ _ => rfl))) pe_int))
    (pss_one (ps_ret (pe_op op_mod (pe_op op_fdiv (pe_op op_mod (pe_op op_mul (pv 5) (pe_op op_add (pe_op op_mod (pv 5) pe_int) pe_int)) pe_int) pe_int) (pv 1))))))))), ?_⟩
  refine ⟨_, rfl, b, _, _, _, rfl, rfl, SqL.of hb, rfl, _, _, rfl, rfl, _, rfl, ite2 (fun cc => ?_) (fun cc => ?_)⟩
  · -- the great number's own digits
    refine ⟨_, rfl, b, _, _, _, rfl, rfl, SqL.of hb, rfl, _, rfl, _, _, rfl, divp_small (by omega) (by omega), fun p np => ?_⟩
    have nbp : b ≠ p := ne_of_none hb np
    refine ⟨p, _, rfl, .inl (.inl upd_same), rfl, _, _, rfl, _, rfl, b, _, _, 0, rfl, rfl, (by rw [upd_ne nbp]; exact hb), rfl, _, _, rfl, rfl, _, rfl, ?_⟩
    refine q _ _ (Int.emod_nonneg _ (by omega)) (Int.emod_lt_of_pos _ (by omega)) ⟨x0 / n, x1, x2, upd_same, Int.ediv_nonneg h0 (by omega), h1, h1', h2, by show x2 ≤ c + 2 ^ k; omega⟩ ?_
    exact Keep.trans (Keep.new np) Keep.upd
  · refine ⟨_, rfl, _, _, rfl, rfl, ⟨by decide, by decide, by decide⟩, _, _, rfl, rfl, _, rfl, ite2 (fun c2 => ?_) (fun c2 => ?_)⟩
    · -- two lesser draws
      have c3 : (10 : Int) ^ ((7 : Int).toNat) < n := of_decide_eq_true c2
      rw [e7] at c3
      have hk : 0 < k := by
        rcases Nat.eq_zero_or_pos k with z | z
        · subst z
          rw [show (10000000 : Int) ^ (0 + 1) = 10000000 by decide] at hnk
          omega
        · exact z
      obtain ⟨j, rfl⟩ : ∃ j, k = j + 1 := ⟨k - 1, by omega⟩
      have hj2 : (2 : Int) ^ (j + 1) = 2 ^ j * 2 := Int.pow_succ 2 j
      have hjp : (0 : Int) < 2 ^ j := Int.pow_pos (by decide)
      have h10 : (10000000 : Int) ≤ 10000000 ^ (j + 1) := by
        rw [Int.pow_succ]
        have : (0 : Int) < 10000000 ^ j := Int.pow_pos (by decide)
        omega
      have hdiv : (n - 1) / 10000000 + 1 ≤ 10000000 ^ (j + 1) := by
        rw [Int.pow_succ] at hnk
        have : n - 1 < 10000000 ^ (j + 1) * 10000000 := by omega
        have := Int.ediv_lt_of_lt_mul (by decide) this
        omega
      refine ⟨_, rfl, _, _, rfl, rfl, ⟨by decide, by decide, by decide⟩, b, _, c, rfl, ⟨x0, x1, x2, hb, h0, h1, h1', h2, h2'⟩, (by rw [e7]; decide), (by rw [e7]; exact h10), (by rw [e7]; decide), by omega, by omega, fun r1 H1 a1 a2 B1 k1 => ?_⟩
      refine ⟨_, _, rfl, rfl, ⟨by decide, by decide, by decide⟩, _, rfl, _, rfl, _, _, rfl, rfl, _, _, rfl, rfl, ⟨by decide, by decide, by decide⟩, _, _, rfl, rfl, (by rw [e7]; exact ⟨by decide, by decide⟩), _, _, rfl, rfl, ?_⟩
      rw [e7]
      refine ⟨b, _, c + 2 ^ j, rfl, B1, by omega, hdiv, by omega, by omega, by omega, fun r2 H2 a3 a4 B2 k2 => ?_⟩
      refine ⟨_, _, rfl, rfl, .inl ⟨by decide, by decide⟩, _, _, rfl, rfl, _, rfl, _, _, rfl, rfl, (by show (0 : Int) < n; omega), ?_⟩
      refine q _ _ (Int.emod_nonneg _ (by omega)) (Int.emod_lt_of_pos _ (by omega)) (B2.mono ?_) (k1.trans k2)
      show c + 2 ^ j + 2 ^ j ≤ c + 2 ^ (j + 1)
      omega
    · -- a turn of the wheel
      refine ⟨_, rfl, b, _, _, _, rfl, rfl, SqL.of hb, rfl, _, _, rfl, rfl, _, rfl, b, _, _, 2, rfl, rfl, hb, rfl, ?_⟩
      have hb2 : (upd H b (.lst [.int x0, .int x1, .int (x2 + 1)])) b = some (.lst [.int x0, .int x1, .int (x2 + 1)]) := upd_same
      refine ⟨_, rfl, b, _, _, _, rfl, rfl, SqL.of hb2, rfl, _, rfl, b, _, _, _, rfl, rfl, SqL.of hb2, rfl, _, _, rfl, rfl, .inl ⟨by omega, by omega⟩, _, _, rfl, rfl, ?_⟩
      refine ⟨_, rfl, b, _, _, _, rfl, rfl, SqL.of hb2, rfl, _, rfl, b, _, _, _, rfl, rfl, SqL.of hb2, rfl, _, _, rfl, rfl, .inl ⟨by omega, by omega⟩, _, _, rfl, rfl, _, rfl, _, _, rfl, rfl, .inl ⟨by omega, by omega⟩, _, _, rfl, rfl, (by show (0 : Int) < 2147483587; decide), ?_⟩
      generalize (x1 + 39373 * (x2 + 1)) * (69621 + (x2 + 1) * (x2 + 1)) = y
      have y1 := Int.emod_nonneg y (show (2147483587 : Int) ≠ 0 by decide)
      have y2 := Int.emod_lt_of_pos y (show (0 : Int) < 2147483587 by decide)
      refine ⟨_, rfl, _, rfl, _, _, rfl, rfl, (by show (0 : Int) < 30011; decide), _, _, rfl, rfl, _, _, rfl, rfl, .inl ⟨by omega, by omega⟩, _, rfl, b, _, _, _, rfl, rfl, SqL.of hb2, rfl, _, _, rfl, rfl, _, _, rfl, rfl, (by show (0 : Int) < 2147483563; decide), ?_⟩
      generalize (y % 2147483587 * (y % 2147483587 % 30011 + 5) + (x2 + 1)) = z
      have z1 := Int.emod_nonneg z (show (2147483563 : Int) ≠ 0 by decide)
      have z2 := Int.emod_lt_of_pos z (show (0 : Int) < 2147483563 by decide)
      refine ⟨_, rfl, _, rfl, _, _, rfl, rfl, (by show (0 : Int) < 1013; decide), _, _, rfl, rfl, _, _, rfl, rfl, .inl ⟨by omega, by omega⟩, _, _, rfl, rfl, (by show (0 : Int) < 998244353; decide), _, _, rfl, rfl, ⟨by decide, by decide⟩, _, rfl, _, _, rfl, rfl, (by show (0 : Int) < n; omega), ?_⟩
      refine q _ _ (Int.emod_nonneg _ (by omega)) (Int.emod_lt_of_pos _ (by omega)) ⟨x0, x1, x2 + 1, hb2, h0, h1, h1', by omega, by show x2 + 1 ≤ c + 2 ^ k; omega⟩ Keep.upd
theorem ok_take {f : Addr} {fd : FuncData} (F : Fun K "_law_take" "_law_take" sTake f fd) (bf : Binds K fd ["_law_box_here", "_law_size"] []) (mf : mg "_law_take" = some (.ref f)) (B : Bl mg) : ∀ k : Nat, FnOk P w K mg base CX0 k f fd ["_law_box_here", "_law_size"] (spTake k)
  | 0 => take_none
  | k + 1 => ok_take1 F (ok_take F bf mf B k) bf mf B
/-! ### _law_box -/
theorem scBox : FnScope ["_law_script", "_law_k", "_law_cell"] ["_law_script", "_law_k"] (defScope sBox) := ⟨rfl, rfl, rfl, by decide +kernel, rfl, by decide +kernel, by decide +kernel⟩
def spBox (K : PySem.W.Frag) : Sp := fun vs H Q _ => ∃ (a : Addr) (zs : List Int) (k : Int), vs = [.ref a, .int k] ∧ SqL K H a (zs.map V.int) ∧ 0 ≤ k ∧ k ≤ 1000 ∧
  ∀ (p : Addr) (H' : Hp), H p = none → Same H H' → BoxAt 0 H' p → Q (.ref p) H'
theorem b01 (b : Bool) : (-(2 ^ 64) < (if b = true then (1 : Int) else 0)) ∧ (if b = true then (1 : Int) else 0) < 2 ^ 64 := by cases b <;> decide
theorem b01n (b : Bool) : 0 ≤ (if b = true then (1 : Int) else 0) := by cases b <;> decide
theorem abs_nn (i : Int) : 0 ≤ (if i < 0 then -i else i) := by
  split <;> omega
theorem at_int {zs : List Int} {k : Int} (h0 : 0 ≤ k) (h : k < (zs.length : Int)) : ∃ v : Int, atI (zs.map V.int) k = some (.int v) ∧ zs[k.toNat]? = some v := by
  have hk : k.toNat < zs.length := by omega
  have ek : k = ((k.toNat : Nat) : Int) := by omega
  have q : atI (zs.map V.int) ((k.toNat : Nat) : Int) = some (.int zs[k.toNat]) := atI_nat (by rw [List.getElem?_map, List.getElem?_eq_getElem hk] <;> rfl)
  rw [← ek] at q
  exact ⟨zs[k.toNat], q, List.getElem?_eq_getElem hk⟩
theorem ok_box {f : Addr} {fd : FuncData} {k : Nat} (F : Fun K "_law_box" "_law_box" sBox f fd) (B : Bl mg) : FnOk P w K mg base CX0 (k + 1) f fd ["_law_script", "_law_k"] (spBox K) := by
  refine F.ok scBox (fun vs H Q E h => ?_) (fun cdv A outer s H vs Q E hr h => ?_)
  · obtain ⟨a, zs, k, rfl, _⟩ := h
    rfl
  obtain ⟨a, zs, k, rfl, hS, h0, h1, q⟩ := h
  refine ⟨_, pss_cons (ps_set (i := 2) scBox.nd rfl (.inl rfl) (pe_ifExp (pt_cmpR op_lt (pv 1) (pe_callB call_len_seq (by rfl) B.len PySem.boot_len (pa_cons (pv 0) pa_nil)) (nomark _)) (pe_ix ix_list (pv 0) (pv 1) (fun _ _ => rfl)) pe_int))
    (pss_one (ps_ret (pe_lst (pa_cons (pe_op op_mul (pe_callB call_abs (by rfl) B.abs boot_abs (pa_cons (pv 2) pa_nil)) (pe_callTy call_int1 (by rfl) B.int PyProof.Rows.boot_int (pa_cons (pe_cmpR op_ge (pe_callB call_abs (by rfl) B.abs boot_abs (pa_cons (pv 2) pa_nil)) (pe_op op_pow pe_int pe_int) (nomark _)) pa_nil)))
      (pa_cons (pe_op op_mod (pe_op op_mul (pe_op op_add (pe_op op_add (pe_op op_mod (pv 2) pe_int) (pe_op op_mul pe_int (pv 1))) pe_int) pe_int) pe_int) (pa_cons pe_int pa_nil)))))), ?_⟩
  refine ⟨_, rfl, _, rfl, a, _, rfl, .inl hS, _, _, rfl, rfl, _, rfl, ite2 (fun cc => ?_) (fun cc => ?_)⟩
  · have c1 : k < (((zs.map V.int).length : Nat) : Int) := of_decide_eq_true cc
    rw [List.length_map] at c1
    obtain ⟨v, hv, _⟩ := at_int h0 c1
    refine ⟨_, rfl, _, rfl, a, _, _, _, rfl, rfl, hS, hv, ?_⟩
    refine ⟨_, rfl, _, rfl, _, rfl, _, rfl, _, _, rfl, rfl, ⟨by decide, by decide, by decide⟩, _, _, rfl, rfl, .inr ⟨_, rfl, ?_⟩⟩
    refine ⟨_, _, rfl, rfl, .inr (b01 _), _, rfl, _, _, rfl, rfl, (by show (0 : Int) < 2147483629; decide), _, rfl, _, _, rfl, rfl, .inl ⟨by decide, by decide⟩, _, _, rfl, rfl, _, _, rfl, rfl, _, _, rfl, rfl, .inr ⟨by decide, by decide⟩, _, _, rfl, rfl, (by show (0 : Int) < 2147483647; decide), (by show 3 ≤ sizeLine; decide), fun p np => ?_⟩
    refine q p _ np (same_upd np) ⟨_, _, _, upd_same, Int.mul_nonneg (abs_nn v) (b01n _), Int.emod_nonneg _ (by decide), Int.emod_lt_of_pos _ (by decide), by decide, by decide⟩
  · refine ⟨_, rfl, _, rfl, _, rfl, _, rfl, _, _, rfl, rfl, ⟨by decide, by decide, by decide⟩, _, _, rfl, rfl, .inr ⟨_, rfl, ?_⟩⟩
    refine ⟨_, _, rfl, rfl, .inr (b01 _), _, rfl, _, _, rfl, rfl, (by show (0 : Int) < 2147483629; decide), _, rfl, _, _, rfl, rfl, .inl ⟨by decide, by decide⟩, _, _, rfl, rfl, _, _, rfl, rfl, _, _, rfl, rfl, .inr ⟨by decide, by decide⟩, _, _, rfl, rfl, (by show (0 : Int) < 2147483647; decide), (by show 3 ≤ sizeLine; decide), fun p np => ?_⟩
    refine q p _ np (same_upd np) ⟨_, _, _, upd_same, Int.mul_nonneg (abs_nn 0) (b01n _), Int.emod_nonneg _ (by decide), Int.emod_lt_of_pos _ (by decide), by decide, by decide⟩
/-! ### _law_folded -/
theorem scFolded : FnScope ["_law_script", "_law_size", "_law_cells", "_law_k", "_law_cell"] ["_law_script", "_law_size"] (defScope sFolded) := ⟨rfl, rfl, rfl, by decide +kernel, rfl, by decide +kernel, by decide +kernel⟩
def spFolded (K : PySem.W.Frag) : Sp := fun vs H Q _ => ∃ (a : Addr) (ns : List Int) (m : Nat), vs = [.ref a, .int (m : Int)] ∧ SqL K H a (ns.map V.int) ∧ ns.length ≤ 63 ∧ 1 ≤ m ∧ m ≤ 63 ∧
  ∀ (p : Addr) (H' : Hp) (zs : List Int), H p = none → Same H H' → H' p = some (.lst (zs.map V.int)) → zs.length = min ns.length m → Q (.ref p) H'
theorem cut_lo (ns : List Int) (m : Nat) : cutV (ns.map V.int) none (some (m : Int)) = (ns.take m).map V.int := by
  unfold cutV
  rw [HT.sIx_none, HT.sIx_nat, List.drop_zero, Nat.sub_zero, List.length_map, ← List.map_take]
  congr 1
  rw [List.take_eq_take_iff]
  omega
theorem cut_mid (ns : List Int) (m j : Nat) : ∃ ws : List Int, cutV (ns.map V.int) (some (m : Int)) (some (j : Int)) = ws.map V.int ∧ ws.length ≤ ns.length - m := by
  unfold cutV
  rw [HT.sIx_nat, HT.sIx_nat, List.length_map, ← List.map_drop, ← List.map_take]
  refine ⟨_, rfl, ?_⟩
  rw [List.length_take, List.length_drop]
  omega
theorem int_at {ws : List Int} {i : Nat} {x : V} (h : (ws.map V.int)[i]? = some x) : ∃ z, ws[i]? = some z ∧ x = .int z := by
  rw [List.getElem?_map] at h
  cases e : ws[i]? with
  | none =>
    rw [e] at h
    cases h
  | some z =>
    rw [e] at h
    exact ⟨z, rfl, (Option.some.inj h).symm⟩
theorem map_set (zs : List Int) (j : Nat) (v : Int) : (zs.map V.int).set j (.int v) = (zs.set j v).map V.int := List.map_set.symm
theorem ixN_nat {n j : Nat} (h : j < n) : ixN n (j : Int) = some j := by
  unfold ixN
  rw [if_pos (Int.natCast_nonneg j), if_pos (by omega), Int.toNat_natCast]
theorem ok_folded {f : Addr} {fd : FuncData} {k : Nat} (F : Fun K "_law_folded" "_law_folded" sFolded f fd) (B : Bl mg) : FnOk P w K mg base CX0 (k + 1) f fd ["_law_script", "_law_size"] (spFolded K) := by
  refine F.ok scFolded (fun vs H Q E h => ?_) (fun cdv A outer s H vs Q E hr h => ?_)
  · obtain ⟨a, ns, m, rfl, _⟩ := h
    rfl
  obtain ⟨a, ns, m, rfl, hS, h63, hm1, hm2, q⟩ := h
  refine ⟨_, pss_cons (ps_set (i := 2) scFolded.nd rfl (.inl rfl) (pe_callTy call_list_of (by rfl) B.list PyProof.Rows.boot_list (pa_cons (pe_slice sl_list (pv 0) po_none (po_some (pv 1))) pa_nil)))
    (pss_cons (ps_for PassesOwn.never rfl (pi_enum (by rfl) B.enumerate (pa_cons (pe_slice sl_list (pv 0) (po_some (pv 1)) (po_some pe_int)) pa_nil))
        (pg_tup rfl (pgs_cons (pg_name (i := 3) scFolded.nd rfl (.inl rfl)) (pgs_cons (pg_name (i := 4) scFolded.nd rfl (.inl rfl)) pgs_nil)))
      (pss_one (ps_asg (pe_op op_add (pe_ix ix_list (pv 2) (pe_op op_mod (pv 3) (pv 1)) (fun _ _ => rfl)) (pe_op op_mul (pv 4) (pe_op op_add (pv 3) pe_int))) (pg_sub (pv 2) (pe_op op_mod (pv 3) (pv 1)) set_list))))
    (pss_one (ps_ret (pv 2)))), ?_⟩
  refine ⟨_, rfl, _, rfl, _, rfl, a, _, rfl, hS, fun c0 nc0 => ?_⟩
  rw [cut_lo]
  have s0 : Same H (upd H c0 (.lst ((ns.take m).map V.int))) := same_upd nc0
  refine ⟨c0, _, rfl, .inl (.inl (.inl upd_same)), fun p np => ?_⟩
  have npH : H p = none := s0.free np
  have ne0 : c0 ≠ p := fun e => by
    subst e
    rw [upd_same] at np
    cases np
  have s1 := s0.trans (same_upd (o := .lst ((ns.take m).map V.int)) np)
  refine ⟨_, rfl, _, rfl, _, rfl, _, rfl, a, _, rfl, s1.seq hS, fun c nc => ?_⟩
  obtain ⟨ws, ew, lw⟩ := cut_mid ns m 63
  rw [show ((63 : Nat) : Int) = (63 : Int) from rfl] at ew
  rw [ew]
  have s2 := s1.trans (same_upd (o := .lst (ws.map V.int)) nc)
  have nec : c ≠ p := fun e => by
    subst e
    rw [upd_same] at nc
    cases nc
  refine ⟨c, _, rfl, .inl (.inl upd_same), ?_⟩
  refine for_it (walk_enum (K := K) (a := c) (xs := ws.map V.int)) (fun i σ H3 => ∃ (y3 y4 : Option V) (zs : List Int), σ = [some (.ref a), some (.int (m : Int)), some (.ref p), y3, y4] ∧ Same H H3 ∧ H3 c = some (.lst (ws.map V.int)) ∧ H3 p = some (.lst (zs.map V.int)) ∧ zs.length = min ns.length m)
    ⟨none, none, ns.take m, rfl, s2, upd_same, ?_, ?_⟩ (fun i σ H3 _ ⟨_, _, _, _, _, e, _⟩ => .inl (.inl e)) ?_ ?_
  · rw [upd_ne nec.symm]
    exact upd_same
  · rw [List.length_take, Nat.min_comm]
  · rintro i v σ H3 H4 hi ⟨y3, y4, zs, rfl, s3, ec, ep, el⟩ ⟨T, x, y, rfl, nT, rfl, e1, e2⟩
    cases e1
    obtain ⟨z, _, rfl⟩ := int_at e2
    rw [List.length_map] at hi
    have npT : p ≠ T := ne_of_none ep nT
    have ncT : c ≠ T := ne_of_none ec nT
    have sT : Same H3 (upd H3 T (.tup [.int (i : Nat), .int z])) := same_upd nT
    refine ⟨T, _, rfl, .inl (.inl upd_same), rfl, _, _, rfl, _, _, rfl, rfl, ?_⟩
    have lm : (i : Int) % (m : Int) = ((i % m : Nat) : Int) := rfl
    have hl : i % m < zs.length := by
      have := Nat.mod_lt i (show 0 < m by omega)
      omega
    have ev : (zs.map V.int)[i % m]? = some (.int zs[i % m]) := by
      rw [List.getElem?_map, List.getElem?_eq_getElem hl]
      rfl
    refine ⟨_, rfl, _, rfl, _, rfl, _, _, rfl, rfl, (by show (0 : Int) < (m : Int); omega), p, _, _, _, rfl, rfl, SqL.of (sT _ _ ep), (by rw [lm]; exact atI_nat ev), _, rfl, _, rfl, _, _, rfl, rfl, _, _, rfl, rfl, .inr ⟨by omega, by omega⟩, _, _, rfl, rfl, ?_⟩
    refine ⟨_, rfl, _, rfl, _, rfl, _, _, rfl, rfl, (by show (0 : Int) < (m : Int); omega), p, _, _, i % m, rfl, rfl, sT _ _ ep, (by rw [lm, List.length_map]; exact ixN_nat hl), ?_⟩
    refine ⟨_, _, zs.set (i % m) (zs[i % m] + z * ((i : Int) + 2)), rfl, fun b o e => ?_, ?_, ?_, ?_⟩
    · rw [upd_ne (ne_of_none e npH)]
      exact sT _ _ (s3 _ _ e)
    · rw [upd_ne nec]
      exact sT _ _ ec
    · rw [upd_same, map_set]
    · rw [List.length_set]
      exact el
  · rintro σ H3 ⟨y3, y4, zs, rfl, s3, ec, ep, el⟩
    exact ⟨_, rfl, q p H3 zs npH s3 ep el⟩
theorem ty_lst {H : Hp} {a : Addr} {xs : List V} (h : SqL K H a xs) : TyX K H (.ref a) (.type "list") := by
  rcases h with (h | ⟨o, h⟩) | ⟨o, its, n, h1, h2, _⟩
  · exact .base (.lst h)
  · exact .base (.frz h)
  · exact .kList h1 h2
theorem ty_tup {H : Hp} {a : Addr} {xs : List V} (h : SqT K H a xs) : TyX K H (.ref a) (.type "tuple") := by
  rcases h with (h | ⟨o, h⟩) | ⟨o, its, n, h1, h2, _⟩
  · exact .base (.tup h)
  · exact .fTuple h
  · exact .kTuple h1 h2
theorem yesT {σ : L2.St} {H : Hp} {R S : Hp → Prop} (h : R H) : tYes σ H fun b H3 => if b = true then R H3 else S H3 := h
theorem repl_snoc {α : Type} (i : Nat) (x : α) : List.replicate i x ++ [x] = List.replicate (i + 1) x := List.replicate_succ'.symm
theorem all_repl (n : Nat) : (List.replicate n true).all id = true := by
  rw [List.all_eq_true]
  intro x hx
  rw [List.eq_of_mem_replicate hx]
  rfl
end
end GZ
namespace GM
theorem pow_pos' (n : Nat) : (0 : Int) < 2 ^ n := Int.pow_pos (by decide)
theorem pow_s (n : Nat) : (2 : Int) ^ (n + 1) = 2 ^ n * 2 := Int.pow_succ 2 n
theorem pow_le' {m n : Nat} (h : m ≤ n) : (2 : Int) ^ m ≤ 2 ^ n := by
  induction n with
  | zero =>
    have : m = 0 := by omega
    rw [this]
    exact Int.le_refl _
  | succ n ih =>
    by_cases e : m = n + 1
    · rw [e]
      exact Int.le_refl _
    · have := ih (by omega)
      have := pow_s n
      have := pow_pos' n
      omega
theorem pow_add' (m n : Nat) : (2 : Int) ^ (m + n) = 2 ^ m * 2 ^ n := Int.pow_add 2 m n
end GM
namespace PySem
namespace WhX
open PySem.W PySem.Calls PyProof.Rows PySem.HandSPX
/-! ### an own error over any base, whose __init__ keeps its one argument as what -/
def whA (p1 p2 : Pos) : Arguments := { posonlyargs := [], args := [{ arg := "self", annotation := none, pos := p1 }, { arg := "what", annotation := none, pos := p2 }], vararg := none, kwonlyargs := [], kw_defaults := [], kwarg := none, defaults := [] }
def whB (q1 q2 q3 q4 : Pos) : List Stmt := [.Assign [.Attribute (.Name "self" q1) "what" q2] (.Name "what" q3) q4]
def whS : Scope := { kind := .function, names := [(PySem.Str.ofString "self", .local), (PySem.Str.ofString "what", .local)], isGenerator := false, isCoroutine := false, more := [] }
/-- what the written part says of an error's class, at C -/
structure ErrC (K : Frag) (C : Addr) : Prop where
  ga : findIn K (.ref C) "__getattribute__" = some (some (.builtin "BaseException.__getattribute__"))
  gg : findIn K (.ref C) "__getattr__" = some none
  noN : findIn K (.ref C) "what" = some none
  kC : keepIn K (.ref C) = true
  exC : subIn K (.ref C) (.type "BaseException") = some true
  tyC : typeIn K (.ref C) = some (.type "type")
  hdC : hasDictIn K C = true
  cl : findIn K (.ref C) "__class__" = some (some (.builtin "object.__class__"))
  sp : specialIn K (.builtin "object.__class__") "__get__" = some (some (.builtin "getset_descriptor.__get__"))
  tk : takesIn K (.builtin "object.__class__") = some true
  mr : mroIn K C (.type "object") = some true
/-- and of one that is raised, with its __init__ at fI -/
structure ErrR (K : Frag) (C fI : Addr) : Prop extends ErrC K C where
  cls : ∃ (B newId initId : String) (bm : List Value) (nm q : Str) (N : Addr) (bs : List Value) (sn : List Str) (sub : List Value) (ab : Bool) (col : Option Bool) (dd : Option Addr) (k0 k1 k2 k3 k5 : Option Value),
    ExcBaseFacts B newId initId bm ∧ K.lookup C = some (excClassObj nm q C N bs bm true sn sub ab col dd k0 k1 k2 k3 k5 newId) ∧ bm.contains (.type "object") = true ∧ ∀ self : Value, refuseLoop self "__setattr__" bm = pure ()
  sa : findIn K (.ref C) "__setattr__" = some (some (.builtin "object.__setattr__"))
  iC : findIn K (.ref C) "__init__" = some (some (.ref fI))
  tC : typeIn K (.ref fI) = some (.type "function")
  fn : ∃ (qual : Str) (oc : Value) (od : Option Addr) (doc pm : Value) (an : Option Addr) (cdv ct : Value) (osl : Array (Option Value)) (p1 p2 q1 q2 q3 q4 : Pos),
    K.lookup fI = some ⟨oc, od, .func (fnOf "__init__" qual (whA p1 p2) (whB q1 q2 q3 q4) whS .none .none doc pm an cdv ct), osl⟩ ∧ codeIn K cdv qual = true
section
open Builtin Builtin.ObjectAttr
variable {prog : Program} {w : World} {A : Around} {E : Value → Shared → Prop} {R : Result → Shared → Prop} {hp : Heap} {g : Array GenState} {dr : Drawn} {t : Nat} {os : OsState}
/-- the first field that is stored in a new error -/
theorem osaW {K : Frag} {nam : Str} {tk : Tok} {vv : Value} {x C : Addr} {fv : Array Value} {cd : ClassData} (X : K.In hp) (hx : hp.get? x = some { cls := .ref C, data := .fields fv }) (hcd : clsIn K C = some cd) (hob : cd.mro.contains (.type "object") = true) (hne : cd.mro.isEmpty = false)
    (hps : ∀ self : Value, refuseLoop self "__setattr__" cd.mro = pure ()) (hh : cd.hasDict = true) (ha : findIn K (.ref C) nam = some none)
    (hq : ∀ h' tk' dx, (∀ b o, b ≠ x → hp.get? b = some o → h'.get? b = some o) → hp.objs.size ≤ dx → dx ≠ x → h'.get? x = some { cls := .ref C, dict := some dx, data := .fields fv } → h'.Ns1 dx (fun y => if y = nam then some vv else none) → R (.ok (.ret .none)) ⟨h', g, dr, tk', os⟩) :
    codeAny (model prog w) A (.call (.builtin "object.__setattr__") ⟨[.ref x, .str nam tk, vv], []⟩) R ⟨hp, g, dr, t, os⟩ := by
  have IA : InstAt hp x { cls := .ref C, data := .fields fv } C none := ⟨hx, rfl, rfl, trivial⟩
  have nx : x ≠ hp.objs.size := Nat.ne_of_lt (Heap.lt_size hx)
  have isO : Looks (model prog w) hp (isInstance (.ref x) (.type "object")) true := IA.type.andThen (looks_mroIn X (by unfold mroIn; rw [hcd, Option.bind_some, if_neg (by rw [hne]; decide), hob]))
  have lc : Looks (model prog w) hp (classData C) cd := looks_clsIn X hcd
  refine codeAny_call_builtin F.store_object.slot.plain F.store_object.entry (@check_slot (model prog w) _ _ ⟨hp, g, dr, t, os⟩ "object.__setattr__" "object" "__setattr__" (.ref x) [.str nam tk, vv] [] _ F.store_object.kind F.store_object.split isO (F.store_object.args (.ref x) (.str nam tk) vv) ?_)
  have lm : Looks (model prog w) hp (mroOf (.ref C)) cd.mro := lc.andThen .now
  have ln : Looks (model prog w) hp (storeTaker? none) none := .now
  rw [osa_eq, refuse_eq]
  refine wpAny_bind (wpAny_bind (IA.type.at (wpAny_bind (lm.at ?_))))
  rw [hps]
  refine wpAny_pure (wpAny_bind (IA.type.at (wpAny_bind ((looks_findIn X ha).at (wpAny_bind (ln.at ?_))))))
  show wpAny _ _ (storeInOwnDict (.ref x) (.ref C) (.str nam tk) nam vv false) _ _ _
  obtain ⟨c1, c2, c3, c4, c5, c6, c7, c8, c9, c10, c11⟩ := cd
  dsimp only at hh
  subst hh
  unfold storeInOwnDict ownDictForStores
  repeat (first | with_reducible refine store_in_new ?_ ?_ | with_reducible refine wpAny_loadPart_at hx ?_ | with_reducible refine lc.at ?_ | wp_step)
  · refine ⟨_, #[], _, (Heap.get?_update_ne _ _ _ _ nx.symm).trans (Heap.get?_push_at rfl rfl), rfl, ?_, fun _ => rfl⟩
    exact fun e he => absurd he (by simp)
  · intro h' tk' hn' sb
    have hx1 : (hp.push { cls := .type "dict", data := .dict #[] }).get? x = some { cls := .ref C, data := .fields fv } := Heap.get?_push_of_some _ hx
    refine hq h' tk' hp.objs.size (fun b o nb eb => ?_) (Nat.le_refl _) nx.symm ((sb.2 x nx).trans (Heap.get?_update_self _ hx1 rfl)) hn'
    rw [sb.2 b (Nat.ne_of_lt (Heap.lt_size eb)), Heap.get?_update_ne _ _ _ _ nb]
    exact Heap.get?_push_of_some _ eb
end
section
variable {prog : Program} {w : World} {A : Around} {R : Result → Shared → Prop} {s : Shared} {K : Frag} {C fI : Addr}
theorem wone (v : Value) : [v].length ≤ sizeLine := by
  rw [sizeLine_eq]
  exact Nat.le_of_ble_eq_true rfl
theorem wld {M : Model} {u : Shared} {qn : Str} {sc : Scope} {L f : Addr} {cd : Value} {mm : Str → Option Value} {y : Str} {pos : Pos} {vv : Value} {Q : Value → Shared → Prop} {B : Around} {E : Value → Shared → Prop} (hn : u.heap.Ns L mm) (hv : mm y = some vv) (q : Q vv u) (hk : sc.kind = .function := by rfl)
    (hl : (envOfC qn sc L f cd).kindOf y = some .local := by rfl) (hd : (y == ("__debug__" : Str)) = false := by decide) : wpAny M B (eval (.Name y pos) (envOfC qn sc L f cd)) Q E u :=
  wpAny_Name (wpAny_loadName_local hk hl hn hv q) hd
/-- the class is called: a new error at e, its dict at dx holds what -/
theorem whMade (T : ErrR K C fI) {vv : Value} (X : K.In s.heap) (nl : s.heap.NoLimit) (room : A.depth + 1 < recursionLimit)
    (hq : ∀ (h' : Heap) (tk : Nat) (e dx : Addr), (∀ b o, s.heap.get? b = some o → h'.get? b = some o) → s.heap.objs.size ≤ e → s.heap.objs.size ≤ dx → dx ≠ e →
      (∃ t1 : Addr, h'.get? e = some ({ cls := .ref C, dict := some dx, data := .fields #[.ref t1, .none, .none, .none, .bool false, .none] } : Obj)) → h'.Ns1 dx (fun y => if y = "what" then some vv else none) → R (.ok (.ret (.ref e))) { s with heap := h', toks := tk }) :
    codeAny (model prog w) A (.call (.ref C) ⟨[vv], []⟩) R s := by
  obtain ⟨Bn, newId, initId, bm, nm, q, N, bs, sn, sub, ab, col, dd, k0, k1, k2, k3, k5, FB, hC, hob, hps⟩ := T.cls
  obtain ⟨qual, oc, od, doc, pm, an, cdv, ct, osl, p1, p2, q1, q2, q3, q4, ho, hcd⟩ := T.fn
  have hcl : clsIn K C = some { name := nm, bases := bs, mro := .ref C :: bm, ns := N, qualname := q, hasDict := true, slotNames := sn, subclasses := sub, abstract := ab, collection := col, hasDel := false } := by
    unfold clsIn
    rw [hC] <;> rfl
  obtain ⟨hp, g, dr, tk0, os⟩ := s
  have grow : ∀ b o, hp.get? b = some o → ((hp.push (kdv_tup [vv])).push (excO C hp.objs.size)).get? b = some o := fun b o z => Heap.get?_push_of_some _ (Heap.get?_push_of_some _ z)
  have isE : ((hp.push (kdv_tup [vv])).push (excO C hp.objs.size)).get? (hp.objs.size + 1) = some (excO C hp.objs.size) := by heap_get
  refine call_own FB (fun _ => rfl) (X _ _ hC) (looks_findIn X T.iC) (fun self => bind_fn X self T.tC) (wone vv) ?_
  -- __init__ runs
  refine Att.call_fn (binds := [("self", .ref (hp.objs.size + 1)), ("what", vv)]) (X.keeps grow) (nl.keeps grow) ho hcd room (BindsTo.of_eq (by first | rfl | with_unfolding_all rfl)) (by first | rfl | decide | with_unfolding_all rfl) (fun s1 IC => ?_) rfl rfl rfl
  obtain ⟨h1, tk1, rfl⟩ := IC.toInCall.same
  have up1 : ∀ b o, ((hp.push (kdv_tup [vv])).push (excO C hp.objs.size)).get? b = some o → h1.get? b = some o := IC.toInCall.keep
  have ns1 := IC.toInCall.ns
  have X1 : K.In h1 := (X.keeps grow).keeps up1
  have isE1 := up1 _ _ isE
  have big : hp.objs.size + 1 + 1 ≤ h1.objs.size := by
    have z : ((hp.push (kdv_tup [vv])).push (excO C hp.objs.size)).objs.size < h1.objs.size := ns1.lt
    rw [Heap.size_push, Heap.size_push] at z
    exact Nat.le_of_lt z
  show wpAny _ _ (execs _ _) _ _ _
  refine wpAny_execs_cons (plainObj_wpAny_Assign_Attribute ?_)
  refine wld (vv := vv) ns1 (by first | rfl | with_unfolding_all rfl | kernel_rfl) ?_
  refine wld (vv := .ref (hp.objs.size + 1)) ns1 (by first | rfl | with_unfolding_all rfl | kernel_rfl) ?_
  refine set_plain X1 (ox := excO C hp.objs.size) (od := none) ⟨isE1, rfl, rfl, trivial⟩ T.sa ?_
  refine osaW X1 isE1 hcl (by rw [List.contains_cons, hob, Bool.or_true]) rfl (fun self => by rw [refuseLoop_ref]; exact hps self) rfl T.noN fun h3 tk3 dx up3 dbig dne isE3 ns3 => ?_
  show wpAny _ _ (execs _ _) _ _ _
  refine wpAny_execs_nil ⟨rfl, ?_⟩
  refine hq h3 tk3 (hp.objs.size + 1) dx (fun b o z => ?_) (Nat.le_succ _) ?_ dne ⟨_, isE3⟩ ns3
  · exact up3 b o (Nat.ne_of_lt (Nat.lt_succ_of_lt (Heap.lt_size z))) (up1 b o (grow b o z))
  have z : h1.objs.size ≤ dx := dbig
  show hp.objs.size ≤ dx
  omega
end
end WhX
end PySem
namespace L2
open PySem PySem.Spec PyProof.Rows
/-- C(e), C an error's class -/
def tMkW (C : Addr) (ta : TA) : St → Hp → XK → Prop := fun σ H Q => ta σ H fun vs H1 => ∃ v, vs = [v] ∧ ∀ d, H1 d = none → Q (.ref C) (some d) (upd H1 d (.xd [(("what" : Str), v)]))
theorem relW {v : V} {u : Value} (r : RelV v u) (f : Str) : RelO (List.lookup f [(("what" : Str), v)]) (if f = "what" then some u else none) := by
  by_cases c : f = "what"
  · subst c
    rw [if_pos rfl, show List.lookup ("what" : Str) [(("what" : Str), v)] = some v by simp [List.lookup]]
    exact r
  · have c2 : (f == ("what" : Str)) = false := by simpa using c
    rw [if_neg c, show List.lookup f [(("what" : Str), v)] = none by simp [List.lookup, c2]]
    trivial
theorem pmk_what {X : Cx} {C fI : Addr} {x : Str} {a : Expr} {ta : TA} {p pos : Pos} {k : Nat} (T : PySem.WhX.ErrR X.K C fI) (hr : Room k X.A) (hk : 0 < k) (gC : X.mg x = some (.ref C)) (hg : Gl X x) (ha : PA X [a] ta) (hdb : (x == ("__debug__" : Str)) = false := by decide)
    (he : starEach (a :: []) X.env = (false, eval a X.env) :: starEach [] X.env := by rfl) (hpl : (backTo pos (starEach [] X.env)).any (·.1) = false := by rfl) : PMk X (.Call (.Name x p) [a] [] pos) (tMkW C ta) := by
  intro pz u0 τ G0 Q I h
  refine wpAny_Call_Name_kw (ld_glob I hg gC ?_ hdb)
  refine PySem.W.callWith_K (h₀ := X.base) I.ok.mod.kin T.kC (thn (ha.run pos pz u0 τ G0 _ I h) fun us s1 hh => ?_) he hpl
  obtain ⟨vs, H1, I1, r1, v, rfl, q1⟩ := hh
  refine ⟨I1.kIn, ?_⟩
  match us, r1 with
  | [vv], .cons rv .nil =>
    show wpAny _ _ (call (.ref C) [vv]) _ _ _
    have nl := I1.nolimit
    obtain ⟨hp, g, dr, tk, os⟩ := s1
    refine wpAny_call (PySem.WhX.whMade T I1.kIn nl (by have := hr.dp; omega) fun h' tk' e dx old ebig dbig dne ise ns => ?_)
    show MkP X pz τ Q (.ref e) ⟨h', g, dr, tk', os⟩
    obtain ⟨t1, ise⟩ := ise
    obtain ⟨G', g1, g2⟩ := restrict h' fun b => decide (b ≠ e)
    have gk : ∀ b, b ≠ e → G'.get? b = h'.get? b := fun b nb => g1 b (decide_eq_true nb)
    have ge : G'.get? e = none := g2 e (decide_eq_false fun z => z rfl)
    have oldG : ∀ b o, hp.get? b = some o → G'.get? b = some o := fun b o z => by
      rw [gk b (Nat.ne_of_lt (Nat.lt_of_lt_of_le (Heap.lt_size z) ebig))]
      exact old b o z
    have okd : ObjOk X.prog X.w (upd H1 dx (.xd [(("what" : Str), v)])) G' dx (.xd [(("what" : Str), v)]) := ⟨_, ns.at (fun o z => (gk dx dne).trans z), fun f => relW rv f⟩
    have J : Inv X pz τ (upd H1 dx (.xd [(("what" : Str), v)])) ⟨G', g, dr, tk', os⟩ := I1.laid (t' := tk') oldG dbig okd
    refine ⟨e, _, _, ⟨G', g, dr, tk', os⟩, _, .ref C, some dx, rfl, J, fun b o z => ?_, ge, ise, ⟨rfl, rfl⟩, rfl, rfl, ?_, rfl, I1.bare, raises_own T.exC T.tyC, q1 dx (I1.hok.fresh dbig)⟩
    · by_cases nb : b = e
      · have z' : G'.get? b = some o := z
        rw [nb, ge] at z'
        cases z'
      · exact (gk b nb).symm.trans z
    · rw [upd_ne (Ne.symm dne)]
      exact I1.hok.fresh ebig
end L2
namespace L2
open PySem PySem.Spec PyProof.Rows
/-! ### an error that was caught and is kept behind the try -/
/-- at a: an error of the class cls, its dict d -/
def Exk (a : Addr) (cls : Value) (d : Option Addr) : HO := .ext fun h => ∃ (oe : Obj) (vs : Array Value), h.get? a = some oe ∧ Zc cls d oe ∧ oe.data = .fields vs
theorem exk_ok {P : Program} {w : World} {H : Hp} {h : Heap} {a : Addr} {cls : Value} {d : Option Addr} {oe : Obj} {vs : Array Value} (e : h.get? a = some oe) (z : Zc cls d oe) (dd : oe.data = .fields vs) : ObjOk P w H h a (Exk a cls d) :=
  ⟨⟨oe, vs, e, z, dd⟩, ⟨oe, e⟩, fun _ _ ⟨o1, v1, e1, r⟩ k => ⟨o1, v1, k o1 e1, r⟩⟩
/-- a thing that was not there when the def began is told of -/
theorem Inv.track {X : Cx} {pz : List (Addr × Obj)} {τ : St} {H : Hp} {u0 : Shared} {a : Addr} {o : HO} (I : Inv X pz τ H u0) (na : H a = none) (n0 : X.s_0.heap.get? a = none) (nL : a ≠ X.env.locals) (nC : ∀ x c, X.env.cells.lookup x = some c → c ≠ a)
    (nP : ∀ p ∈ X.pn ++ pz, p.1 ≠ a) (new : ObjOk X.prog X.w (upd H a o) u0.heap a o) : Inv X pz τ (upd H a o) u0 where
  ok := I.ok
  os := I.os
  bare := I.bare
  base := {
    keep := I.base.keep
    slot := I.base.slot
    free := fun b ob q n hx => by
      rw [upd_ne (fun z => by rw [z, n0] at q; cases q)]
      exact I.base.free b ob q n hx
    there := I.base.there
    tups := fun b xs q => by
      have q2 := I.base.tups b xs q
      rw [upd_ne (ne_of_none q2 na)]
      exact q2
    frzs := fun b ob v q => by
      have q2 := I.base.frzs b ob v q
      rw [upd_ne (ne_of_none q2 na)]
      exact q2
    tbls := fun b ps q => by
      obtain ⟨more, q2⟩ := I.base.tbls b ps q
      exact ⟨more, by rw [upd_ne (ne_of_none q2 na)]; exact q2⟩ }
  loc := I.loc
  cell := I.cell
  free := by
    rw [upd_ne nL.symm]
    exact I.free
  freeC := fun x c e => by
    rw [upd_ne (nC x c e)]
    exact I.freeC x c e
  pin := fun p hp => by
    obtain ⟨z1, z2, z3⟩ := I.pin p hp
    refine ⟨z1, ?_, z3⟩
    rw [upd_ne (nP p hp)]
    exact z2
  hok := fun b ob e => by
    by_cases nb : b = a
    · subst nb
      rw [upd_same] at e
      cases e
      exact new
    · rw [upd_ne nb] at e
      exact (I.hok b ob e).stay (fun _ _ _ z => z) (fun c z => by rw [upd_ne (ne_of_none z na)]; exact z) (fun c xs z => by rw [upd_ne (ne_of_none z na)]; exact z)
  len := I.len
/-- what is wished of an error of the body: it is caught; the suite runs; the error is told of behind it -/
def wKp (K : PySem.W.Frag) (c : Value) (i : Nat) (ts : Addr → Value → Option Addr → TS) (D : Ends) : WX := fun cls d τ H => PySem.W.exmOne K cls c = some true ∧
  ∀ a, H a = none → ts a cls d { nx := fun τ' H' => D.nx (τ'.set i none) (upd H' a (Exk a cls d)), rt := fun _ _ => False, bk := fun _ _ => False, ct := fun _ _ => False } (τ.set i (some (.ref a))) H
theorem ps_try_keep {X : Cx} {x n : Str} {c : Value} {i : Nat} {body suite : List Stmt} {b0 : Stmt} {np pos pos' : Pos} {tb : WX → TS} {ts : Addr → Value → Option Addr → TS} (hs : X.stack = X.env :: X.outer) (hf : X.env.frame = some X.env.locals) (hex : X.ex = []) (hN : X.N.Nodup) (hi : X.N[i]? = some n)
    (hln : X.env.kindOf n = some .local) (hc : Names X x c)
    (hb : ∀ (W : WX) (pn : List (Addr × Obj)) (xe : Value → Shared → Prop), Takes (X.tr pn xe) W → PassesOwn (model X.prog X.w) X.A X.env xe → PSs (X.tr pn xe) body (tb W))
    (hsu : ∀ (a : Addr) (oe : Obj) (cls : Value) (d : Option Addr) (pn : List (Addr × Obj)), Zc cls d oe → (∃ vs, oe.data = .fields vs) → PSs (X.suite a ((a, oe) :: pn)) (b0 :: suite) (ts a cls d)) :
    PS X (.Try body [.ExceptHandler (some (.Name x np)) (some n) (b0 :: suite) pos'] [] [] pos) (fun D τ H => tb (wKp X.K c i ts D) D τ H) := by
  constructor
  intro pz u0 τ H D I h
  have ok := I.ok
  have frA : X.A.frames = some (X.env :: X.outer) := ok.frames.trans (congrArg some hs)
  refine wpAny_Try_except (wpAny_mono ((hb (wKp X.K c i ts D) (X.pn ++ pz) _ (fun u s1 xx => ?caught) PassesOwn.looking).run [] u0 τ H D (I.toTry _) h) (fun f s1 z => ?fine) (fun _ _ z => z))
  case fine =>
    cases f with
    | next =>
      obtain ⟨τ1, H1, J1, q1⟩ := z
      exact wpAny_execs_nil ⟨τ1, H1, J1.ofTry ok, q1⟩
    | brk =>
      obtain ⟨τ1, H1, J1, q1⟩ := z
      exact ⟨τ1, H1, J1.ofTry ok, q1⟩
    | cont =>
      obtain ⟨τ1, H1, J1, q1⟩ := z
      exact ⟨τ1, H1, J1.ofTry ok, q1⟩
    | ret v1 =>
      obtain ⟨v, τ1, H1, J1, r1, q1⟩ := z
      exact ⟨v, τ1, H1, J1.ofTry ok, r1, q1⟩
  case caught =>
    obtain ⟨a, Bh, sI, pI, τ1, H1, cls, d, rfl, J0, nb, up, sky, na, eos, bare, mt, goes⟩ := xx
    have J : Inv X pz τ1 H1 sI := J0.ofTry ok
    rw [show (X.tr (X.pn ++ pz) _).stack = X.env :: X.outer from hs] at sky
    show wpAny (model X.prog X.w) X.A (noteFrame (.ref a) X.env) _ _ _
    refine Sky.land Zc.steady frA hf sky fun h3 fl3 up3 => ?_
    have J3 : Inv X pz τ1 H1 { s1 with heap := h3 } := J.landed nb fl3.1 (up.trans up3) eos bare
    obtain ⟨oe3, vs3, at3, z3, dt3⟩ := fl3.there
    have noFr : a ∉ frs (X.env :: X.outer) := fun hm => by
      obtain ⟨_, o1, e1, n1⟩ := fl3.2.2.1.mem hm
      rw [at3] at e1
      cases e1
      exact n1 _ dt3
    have nL : a ≠ X.env.locals := fun z => noFr (List.mem_filterMap.mpr ⟨X.env, List.mem_cons_self, by rw [hf, z]⟩)
    have nF : a ∉ X.fs := fun hm => by
      obtain ⟨e1, m1, q1⟩ := List.mem_filterMap.mp hm
      exact noFr (List.mem_filterMap.mpr ⟨e1, List.mem_cons_of_mem _ m1, q1⟩)
    -- it was not there before
    have newA : sI.heap.get? a = none := by
      cases q : sI.heap.get? a with
      | none => rfl
      | some o1 =>
        have z := nb a o1 q (by rw [show frs (X.tr (X.pn ++ pz) _).stack = frs (X.env :: X.outer) from congrArg frs hs]; exact noFr)
        rw [fl3.2.1] at z
        cases z
    have new0 : X.s_0.heap.get? a = none := by
      cases q : X.s_0.heap.get? a with
      | none => rfl
      | some o1 =>
        obtain ⟨o2, z⟩ := J.base.there a o1 q (by rw [hex]; exact fun z => nomatch z)
        rw [newA] at z
        cases z
    have S3 := J3.suite at3 dt3 na nL nF
    refine wpAny_handleBy_cons (codeAny_handlers_test ?_) (by intro q; cases q)
    have isC : PySem.W.Looks (model X.prog X.w) h3 (typeOf (.ref a)) cls := fun A1 Q1 E1 s2 k2 q2 => wpAny_typeOf_ref (k2 _ _ at3) (by rw [z3.1]; exact q2)
    have meets := PySem.W.exm_one (M := model X.prog X.w) J3.kIn isC mt
    have named : ∀ {Q1 : Value → Shared → Prop} {E1 : Value → Shared → Prop}, Q1 c { s1 with heap := h3 } → wpAny (model X.prog X.w) (X.A.mark (some (.ref a))) (eval (.Name x np) X.env) Q1 E1 { s1 with heap := h3 } := fun {Q1 E1} q1 => by
      obtain ⟨g1, g2, g3 | ⟨g3, g4, g5⟩⟩ := hc
      · exact ld_glob (X := X.suite a ((a, oe3) :: (X.pn ++ pz))) S3 g1 g3 q1 g2
      · exact ld_blt (X := X.suite a ((a, oe3) :: (X.pn ++ pz))) S3 g1 g3 g4 q1 g5 g2
    refine named (meets.here (codeAny_handlers_suite_as (HandSPX.lands_againZ fl3 fun h4 fl4 up4 => ?_)))
    have J4 : Inv X pz τ1 H1 { s1 with heap := h4 } := J.landed nb fl4.1 ((up.trans up3).trans up4) eos bare
    obtain ⟨oe4, vs4, at4, z4, dt4⟩ := fl4.there
    refine store_ok (X := X.suite a ((a, oe4) :: (X.pn ++ pz))) (v := .ref a) (J4.suite at4 dt4 na nL nF) hN hi (.inl hln) rfl (fun s5 S5 => ?_) (.inr hln)
    refine wpAny_mono ((hsu a oe4 cls d (X.pn ++ pz) z4 ⟨_, dt4⟩).run [] s5 _ H1 _ S5 (goes a na)) (fun f s6 z => ?_) (fun _ _ z => z.elim)
    cases f with
    | brk => exact (z.choose_spec.choose_spec.2).elim
    | cont => exact (z.choose_spec.choose_spec.2).elim
    | ret v1 => exact (z.choose_spec.choose_spec.choose_spec.2.2).elim
    | next =>
      obtain ⟨τ6, H6, S6, q6⟩ := z
      obtain ⟨at6, na6, _⟩ := S6.pin (a, oe4) (List.mem_append_left _ List.mem_cons_self)
      have J6 : Inv X pz τ6 H6 s6 := S6.unsuite ok
      have K6 : Inv X pz τ6 (upd H6 a (Exk a cls d)) s6 := by
        refine J6.track na6 new0 nL (fun y cc e => ?_) (fun p hp => ?_) (exk_ok at6 z4 dt4)
        · obtain ⟨v, oc, hoc, _⟩ := J.cell y cc e
          exact fun z => by rw [z, newA] at hoc; cases hoc
        · obtain ⟨z1, _⟩ := J.pin p hp
          exact fun z => by rw [z, newA] at z1; cases z1
      exact gone_ok K6 hN hi hln fun s7 J7 => ⟨_, _, J7, q6⟩
end L2
namespace L2
open PySem PySem.Spec PyProof.Rows
end L2
namespace L2
open PySem PySem.Spec PyProof.Rows
/-! ### a call with keywords whose errors go to a try; promises side by side -/
def tCallNS (n m : Nat) (sp : Sp) (gV : List V → List V → List V) (E : St → XK) (t tk : TA) : TE := fun σ H Q => t σ H fun vs H1 => tk σ H1 fun zs H2 => vs.length = n ∧ zs.length = m ∧ sp (gV vs zs) H2 Q (E σ)
section
variable {X : Cx} {CX : CXT} {k n : Nat} {f : Addr} {fd : FuncData} {ps ks : List Str} {sp : Sp} {E : St → XK} {x : Str} {p pos : Pos} {e : Expr} {es : List Expr} {kws : List Keyword} {t tk : TA} {g : List Value → List Value → List Value} {gV : List V → List V → List V}
theorem pe_callNS (F : FnOk X.prog X.w X.K X.mg X.base CX k f fd ps sp) (hr : Room k X.A) (hg : Gl X x) (hm : X.mg x = some (.ref f)) (hk : PySem.W.keepIn X.K (.ref f) = true) (hb : KBn X.K fd ps n ks g gV) (hx : ∀ σ, PassesAt CX X σ (E σ)) (ha : PA X (e :: es) t) (hkw : PK X kws tk)
    (hall : (backToKw pos (keywordEach kws X.env)).all (·.1.isSome) = true := by rfl) (hks : (backToKw pos (keywordEach kws X.env)).filterMap (·.1) = ks := by rfl) (hdb : (x == ("__debug__" : Str)) = false := by decide)
    (he : starEach (e :: es) X.env = (false, eval e X.env) :: starEach es X.env := by rfl) (hpl : ((backTo pos (starEach (e :: es) X.env)).any (·.1) || (backToKw pos (keywordEach kws X.env)).any (·.1.isNone)) = false := by rfl) :
    PE X (.Call (.Name x p) (e :: es) kws pos) (tCallNS n ks.length sp gV E t tk) := by
  constructor
  intro pz u0 τ H Q I h
  refine wpAny_Call_Name_kw (ld_glob I hg hm (PySem.W.callWith_KW (h₀ := X.base) I.ok.mod.kin hk hall (thn (ha.run pos pz u0 τ H _ I h) fun us s1 z => ?_) hpl he) hdb)
  obtain ⟨vs, H1, I1, r1, q1⟩ := z
  refine thn (hkw.run pos pz s1 τ H1 _ I1 q1) fun ws s2 z => ?_
  obtain ⟨zs, H2, I2, r2, l1, l2, q2⟩ := z
  refine ⟨I2.kIn, ?_⟩
  rw [hks]
  refine wpAny_call (codeAny_mono (F.run X.A X.stack s2 H2 ⟨us, ks.zip ws⟩ (g us ws) (gV vs zs) Q (E τ) hr I2.env0 (hb.to s2 us ws I2.kIn (r1.length.symm.trans l1) (r2.length.symm.trans l2)) (hb.rel r1 r2) q2) fun r s3 z => ?_)
  match r with
  | .error er => exact hx τ pz H2 s2 er s3 I2 z
  | .ok (.ret v) => exact I2.after z
  | .ok .next => exact z.elim
  | .ok .brk => exact z.elim
  | .ok .cont => exact z.elim
end
end L2
namespace L2
open PySem PySem.Spec PyProof.Rows
/-! ### except (A, B, ..) as n: the error is kept behind the try -/
inductive NamesL (X : Cx) : List Expr → List Value → Prop
  | nil : NamesL X [] []
  | cons {x : Str} {c : Value} {np : Pos} {es : List Expr} {cs : List Value} (h : Names X x c) (r : NamesL X es cs) : NamesL X (.Name x np :: es) (c :: cs)
theorem NamesL.len {X : Cx} {es : List Expr} {cs : List Value} (h : NamesL X es cs) : cs.length = es.length := by
  induction h with
  | nil => rfl
  | cons _ _ ih => rw [List.length_cons, List.length_cons, ih]
end L2
namespace L2
open PySem PySem.Spec PyProof.Rows
end L2
namespace L2
open PySem PySem.Spec PyProof.Rows CwR
theorem pa_strU {X : Cx} {x : Str} {j : Nat} {cpos : Pos} {es : List Expr} {t : TA} (hr : PAT X es t) (hs : starEach (.Constant (.str x) j cpos :: es) X.env = (false, eval (.Constant (.str x) j cpos) X.env) :: starEach es X.env := by rfl) : PA X (.Constant (.str x) j cpos :: es) (tCons (tC (.str x)) t) := by
  refine ⟨fun pos pins s σ H Q I h => ?_⟩
  rw [hs]
  show wpAny _ _ (spliced ((false, eval (.Constant (.str x) j cpos) X.env) :: backTo pos (starEach es X.env))) _ _ s
  refine Calls.spliced_cons (Calls.Constant_str ?_)
  exact thn (hr pos pins _ σ H _ (by show 1 ≤ s.toks + 1; omega) (I.tok _) h) fun us s2 ⟨xs, H2, I2, r2, q2⟩ => ⟨.str x :: xs, H2, I2, .cons ⟨_, rfl⟩ r2, q2⟩
end L2
/-! ### list(text) -/
namespace L2
open PySem PySem.Spec PyProof.Rows
theorem vals_at : ∀ {xs : List V} {us : List Value}, xs.length = us.length → (∀ (j : Nat) (x : V) (u : Value), xs[j]? = some x → us[j]? = some u → RelV x u) → Vals xs us
  | [], [], _, _ => .nil
  | [], _ :: _, h, _ => nomatch h
  | _ :: _, [], h, _ => nomatch h
  | x :: xs, u :: us, h, f => .cons (f 0 x u rfl rfl) (vals_at (Nat.succ.inj h) fun j a b => f (j + 1) a b)
theorem call_listTx {X : Cx} (calm : X.calm = true) : CallR X (.type "list") (fun xs H Q => ∃ z : Str, xs = [.str z] ∧ z.length ≤ sizeLine ∧ ∀ l, H l = none → Q (.ref l) (upd H l (.lst (z.cps.toList.map fun c => V.str ⟨#[c]⟩)))) := by
  intro pz u0 τ H xs us Q I r h
  obtain ⟨z, rfl, hz, q⟩ := h
  obtain ⟨u, rfl, t, rfl⟩ := vals1 r
  refine call_list_str (I.ok.hd calm) z t (fun h' tk acc c' kp e it => ?_) hz
  have ln : acc.size = z.cps.size := it.1
  have va : Vals (z.cps.toList.map fun c => V.str ⟨#[c]⟩) acc.toList := vals_at (by rw [List.length_map, Array.length_toList, Array.length_toList, ln]) fun j x v hx hv => by
    obtain ⟨c, u, hc, rfl⟩ := it.2 j v (by simpa using hv)
    rw [List.getElem?_map, Array.getElem?_toList, hc] at hx
    cases hx
    exact ⟨u, rfl⟩
  refine ⟨.ref u0.heap.objs.size, _, I.laid (t' := tk) kp (Nat.le_refl _) (show ObjOk X.prog X.w _ h' _ (.lst _) from ⟨?_, acc.toList, c', va, e⟩), rfl, q _ (I.hok.fresh (Nat.le_refl _))⟩
  rw [List.length_map, Array.length_toList]
  exact hz
end L2
/-! ### a built-in method in a comprehension's block -/
namespace L2
open PySem PySem.Spec PyProof.Rows
theorem pe_bmKX {X : Cx} {K : PySem.W.Frag} {o e : Expr} {es : List Expr} {to : TE} {t : TA} {name : Str} {apos cpos : Pos} {T id : String} {r : V → List V → Hp → VK → Prop}
    (pa : PlainAttrs T) (slot : Slot T name id) (hty : typeOf (.builtin id) = pure (.type "method_descriptor")) (hm : MtR X id r) (ho : PE X o to) (ha : PA X (e :: es) t)
    (h : X.K = K := by rfl) (hbase : attributeBase o name X.env (eval o X.env) = eval o X.env := by rfl)
    (hfew : ((backTo cpos (starEach (e :: es) X.env)).all (fun x => !x.1) && (backToKw cpos (keywordEach [] X.env)).all (fun x => x.1.isSome)
      && decide ((e :: es).length + ([] : List Keyword).length + (if ([] : List Keyword).isEmpty then 0 else 1) < 30)) = true := by rfl)
    (hline : (apos.endLine == cpos.line) = true := by rfl) (hs : starEach (e :: es) X.env = (false, eval e X.env) :: starEach es X.env := by rfl) (hplain : (backTo cpos (starEach es X.env)).any (·.1) = false := by rfl) :
    PE X (.Call (.Attribute o name apos) (e :: es) [] cpos) (tBM K T r to t) := by
  subst h
  exact pe_bm pa slot hty hm ho ha hbase hfew hline hs hplain
def rJoin (K : PySem.W.Frag) : V → List V → Hp → VK → Prop := fun x xs H Q => ∃ a p, ∃ ys : List Str, x = .str a ∧ xs = [.ref p] ∧ (SqL K H p (ys.map V.str) ∨ SqT K H p (ys.map V.str)) ∧
    (ys.map (·.length)).sum + ys.length * a.length ≤ 16777216 ∧ Q (.str (Txt.join a ys)) H
theorem mt_joinKX {X : Cx} {K : PySem.W.Frag} (h : X.K = K := by rfl) : MtR X "str.join" (rJoin K) := by
  subst h
  exact mt_join
end L2
namespace GZ
open PySem PySem.Spec PyProof.Rows L2
def pkz {α : Type} : α → List α → Nat → α
  | a, _, 0 => a
  | a, _, 1 => a
  | a, [], _ => a
  | _, b :: xs, n + 2 => pkz b xs (n + 1)
/-! ### keyword-only parameters -/
theorem kbn_of {K : PySem.W.Frag} {x qual : Str} {st : Stmt} {D : Addr} {an : Option Addr} {doc pm cdv ct : Value} {ps ks : List Str} {n : Nat} {ml : List (Str × Value)} {g : List Value → List Value → List Value} {gV : List V → List V → List V} (hml : ∀ q ∈ ml, PySem.W.nsIn K D q.1 = some (some q.2))
    (h : ∀ us ws : List Value, us.length = n → ws.length = ks.length → KwChain D ml (bindArgs (PySem.W.fnOf x qual (defArgs st) (defBody st) (defScope st) .none (.ref D) doc pm an cdv ct) ⟨us, ks.zip ws⟩) (ps.zip (g us ws)))
    (rel : ∀ {vs : List V} {us : List Value} {zs : List V} {ws : List Value}, vs.length = n → zs.length = ks.length → Vals vs us → Vals zs ws → Vals (gV vs zs) (g us ws)) :
    ∀ (s : Shared) (us ws : List Value), K.In s.heap → us.length = n → ws.length = ks.length → BindsTo s (PySem.W.fnOf x qual (defArgs st) (defBody st) (defScope st) .none (.ref D) doc pm an cdv ct) ⟨us, ks.zip ws⟩ (ps.zip (g us ws)) :=
  fun s us ws X l1 l2 => BindsTo.of_looks fun M => KwChain.looks X hml (h us ws l1 l2)
theorem bnd_of {K : PySem.W.Frag} {x qual : Str} {st : Stmt} {D : Addr} {an : Option Addr} {doc pm cdv ct : Value} {ps : List Str} {ml : List (Str × Value)} {ds : List Value} (hml : ∀ q ∈ ml, PySem.W.nsIn K D q.1 = some (some q.2))
    (h : ∀ us : List Value, us.length + ds.length = ps.length → KwChain D ml (bindArgs (PySem.W.fnOf x qual (defArgs st) (defBody st) (defScope st) .none (.ref D) doc pm an cdv ct) ⟨us, []⟩) (ps.zip (us ++ ds))) :
    Binds K (PySem.W.fnOf x qual (defArgs st) (defBody st) (defScope st) .none (.ref D) doc pm an cdv ct) ps ds := fun s us X hl => by
  rw [List.length_append] at hl
  exact BindsTo.of_looks fun M => KwChain.looks X hml (h us hl)
/-! ### a def whose defaults aren't asked for -/
structure FunA (K : PySem.W.Frag) (x qual : Str) (st : Stmt) (f : Addr) (fd : FuncData) : Prop where
  ex : ∃ (oc : Value) (od : Option Addr) (dV kV doc pm : Value) (an : Option Addr) (cdv ct : Value) (osl : Array (Option Value)),
    fd = PySem.W.fnOf x qual (defArgs st) (defBody st) (defScope st) dV kV doc pm an cdv ct ∧ K.lookup f = some ⟨oc, od, .func fd, osl⟩ ∧ PySem.W.codeIn K cdv qual = true
  kp : PySem.W.keepIn K (.ref f) = true
theorem FunA.ok {P : Program} {w : World} {K : PySem.W.Frag} {mg : Str → Option Value} {base : Heap} {x qual : Str} {st : Stmt} {f : Addr} {fd : FuncData} {N ps : List Str} {k : Nat} {sp : Sp} (F : FunA K x qual st f fd) (S : FnScope N ps (defScope st)) (len : ∀ vs H Q E, sp vs H Q E → vs.length = ps.length)
    (hbody : ∀ (cdv : Value) (A : Around) (outer : List Env) (s : Shared) (H : Hp) (vs : List V) (Q : VK) (E : XK), Room k (A.deeper (envOfC qual (defScope st) s.heap.objs.size f cdv)) → sp vs H Q E →
      ∃ t, PSs (cxOf CX0 P w K mg base N qual (defScope st) f cdv A outer s H E).nox (defBody st) t ∧ t { nx := fun _ H' => Q .non H', rt := Q } (start N vs) H) : FnOk P w K mg base CX0 (k + 1) f fd ps sp := by
  obtain ⟨oc, od, dV, kV, doc, pm, an, cdv, ct, osl, rfl, lk, hcd⟩ := F.ex
  refine fn_of lk hcd S len fun A outer s H vs Q E hr hsp => ?_
  obtain ⟨t, h, q⟩ := hbody cdv A outer s H vs Q E hr hsp
  exact ⟨t, h.nox, q⟩
section
variable {P : Program} {w : World} {K : PySem.W.Frag} {mg : Str → Option Value} {base : Heap}
theorem gB {i : Nat} {v u : Bool} {σ : L2.St} {H : Hp} {D : L2.St → Hp → Prop} (e : v = u) (h : gName i (V.bl u) σ H D) : gName i (V.bl v) σ H D := e ▸ h
theorem bx1 {c : Int} {H : Hp} {b : Addr} (h : BoxAt (c + 2 ^ (1 - 1)) H b) : BoxAt (c + 1) H b := h
theorem Keep.none {b p : Addr} {H H' : Hp} (k : Keep b H H') (n : p ≠ b) (h : H' p = none) : H p = none := by
  cases q : H p with
  | none => rfl
  | some o =>
    rw [k p o q n] at h
    cases h
theorem dp_ints {H : Hp} : ∀ ds : List Int, DpAll K H (ds.map V.int) (ds.map PyData.int)
  | [] => .nil
  | d :: ds => .cons (.int d) (dp_ints ds)
/-! ### nets -/
def KeepS (S : List Addr) (H H' : Hp) : Prop := (∀ y o, H y = some o → y ∉ S → H' y = some o) ∧ ∀ y, H y ≠ none → H' y ≠ none
theorem KeepS.refl (S : List Addr) (H : Hp) : KeepS S H H := ⟨fun _ _ e _ => e, fun _ e => e⟩
theorem KeepS.trans {S : List Addr} {H H1 H2 : Hp} (a : KeepS S H H1) (b : KeepS S H1 H2) : KeepS S H H2 := ⟨fun y o e n => b.1 y o (a.1 y o e n) n, fun y e => b.2 y (a.2 y e)⟩
theorem some_ne {H : Hp} {y : Addr} {o : HO} (e : H y = some o) : H y ≠ none := fun z => by rw [z] at e; cases e
theorem KeepS.ofSame {S : List Addr} {H H1 : Hp} (s : Same H H1) : KeepS S H H1 := ⟨fun y o e _ => s y o e, fun y e => by
  cases q : H y with
  | none => exact absurd q e
  | some o => exact some_ne (s y o q)⟩
theorem KeepS.mono {S T : List Addr} {H H1 : Hp} (h : ∀ y ∈ S, y ∈ T) (a : KeepS S H H1) : KeepS T H H1 := ⟨fun y o e n => a.1 y o e (fun m => n (h y m)), a.2⟩
theorem KeepS.ofKeep {b : Addr} {S : List Addr} {H H1 : Hp} (k : Keep b H H1) (m : b ∈ S) (hb : H1 b ≠ none) : KeepS S H H1 := ⟨fun y o e n => k y o e (fun z => n (by rw [z]; exact m)), fun y e => by
  by_cases c : y = b
  · rw [c]
    exact hb
  · cases q : H y with
    | none => exact absurd q e
    | some o => exact some_ne (k y o q c)⟩
theorem KeepS.upd {S : List Addr} {H : Hp} {a : Addr} {o : HO} (m : a ∈ S) : KeepS S H (upd H a o) := ⟨fun y u e n => by rw [upd_ne (fun z => n (by rw [z]; exact m))]; exact e, fun y e => by
  by_cases c : y = a
  · rw [c, upd_same]
    exact fun z => by cases z
  · rw [upd_ne c]
    exact e⟩
theorem KeepS.new {S : List Addr} {H : Hp} {a : Addr} {o : HO} (n : H a = none) : KeepS S H (L2.upd H a o) := .ofSame (same_upd n)
theorem KeepS.keep {b : Addr} {H H1 : Hp} (k : KeepS [b] H H1) : Keep b H H1 := fun y o e n => k.1 y o e (by simp only [List.mem_singleton]; exact n)
theorem KeepS.same {H H1 : Hp} (k : KeepS [] H H1) : Same H H1 := fun y o e => k.1 y o e (fun z => nomatch z)
theorem KeepS.seq {K : PySem.W.Frag} {S : List Addr} {a : Addr} {H H' : Hp} {xs : List V} (e : KeepS S H H') (n : a ∉ S) (h : SqL K H a xs) : SqL K H' a xs := by
  rcases h with (h | ⟨o, h⟩) | h
  · exact .inl (.inl (e.1 _ _ h n))
  · exact .inl (.inr ⟨o, e.1 _ _ h n⟩)
  · exact .inr h
theorem KeepS.seqT {K : PySem.W.Frag} {S : List Addr} {a : Addr} {H H' : Hp} {xs : List V} (e : KeepS S H H') (n : a ∉ S) (h : SqT K H a xs) : SqT K H' a xs := by
  rcases h with (h | ⟨o, h⟩) | h
  · exact .inl (.inl (e.1 _ _ h n))
  · exact .inl (.inr ⟨o, e.1 _ _ h n⟩)
  · exact .inr h
theorem BoxAt.keepS {c : Int} {S : List Addr} {H H' : Hp} {b : Addr} (h : BoxAt c H b) (k : KeepS S H H') (n : b ∉ S) : BoxAt c H' b := by
  obtain ⟨x, y, z, e, r⟩ := h
  exact ⟨x, y, z, k.1 _ _ e n, r⟩
inductive Gt where
  | w (k : Str) (ws : List Nat)
  | fi (b : Nat)
def nts (ws : List Nat) : List V := ws.map fun (a : Nat) => V.int (a : Int)
theorem nts_at {ws : List Nat} {i : Nat} {x : V} (h : (nts ws)[i]? = some x) : ∃ v, ws[i]? = some v ∧ x = .int (v : Int) := by
  unfold nts at h
  rw [List.getElem?_map] at h
  cases q : ws[i]? with
  | none => rw [q] at h; cases h
  | some v => rw [q] at h; exact ⟨v, rfl, (Option.some.inj h).symm⟩
theorem nts_len (ws : List Nat) : (nts ws).length = ws.length := by
  unfold nts
  rw [List.length_map]
def Gt.row : Gt → List V
  | .w k ws => .str k :: nts ws
  | .fi b => [.str "fixed", .int (b : Int)]
def Gt.ok (n : Nat) : Gt → Prop
  | .w k ws => (((k = "both" ∨ k = "either" ∨ k = "unlike") ∧ ws.length = 2) ∨ (k = "other" ∧ ws.length = 1)) ∧ ∀ a ∈ ws, a < n
  | .fi b => b ≤ 1
def mx (l : List Int) : Int := l.foldl (fun m x => if x > m then x else m) 0
theorem mx_fold : ∀ (l : List Int) (a : Int), a ≤ l.foldl (fun m x => if x > m then x else m) a ∧ (∀ y ∈ l, y ≤ l.foldl (fun m x => if x > m then x else m) a) ∧ (l.foldl (fun m x => if x > m then x else m) a = a ∨ l.foldl (fun m x => if x > m then x else m) a ∈ l)
  | [], a => ⟨Int.le_refl _, (fun _ z => nomatch z), .inl rfl⟩
  | x :: l, a => by
    obtain ⟨h1, h2, h3⟩ := mx_fold l (if x > a then x else a)
    have e : a ≤ (if x > a then x else a) ∧ x ≤ (if x > a then x else a) ∧ ((if x > a then x else a) = a ∨ (if x > a then x else a) = x) := by split <;> omega
    rw [List.foldl_cons]
    refine ⟨by omega, fun y hy => ?_, ?_⟩
    · rcases List.mem_cons.mp hy with z | z
      · rw [z]
        omega
      · exact h2 y z
    · rcases h3 with z | z
      · rcases e.2.2 with u | u
        · exact .inl (z.trans u)
        · exact .inr (List.mem_cons.mpr (.inl (z.trans u)))
      · exact .inr (List.mem_cons.mpr (.inr z))
theorem mx_is {l : List Int} {m : Int} (h : m ∈ l) (hm : ∀ y ∈ l, y ≤ m) (h0 : ∀ y ∈ l, 0 ≤ y) : mx l = m := by
  obtain ⟨h1, h2, h3⟩ := mx_fold l 0
  have a := h2 m h
  have b := h0 m h
  unfold mx
  rcases h3 with z | z
  · omega
  · have := hm _ z
    omega
theorem mx_nn (l : List Int) : 0 ≤ mx l := (mx_fold l 0).1
def dep (ds : List Int) : Gt → Int
  | .w _ ws => 1 + mx (ws.map fun a => ds.getD a 0)
  | .fi _ => 0
theorem dep_nn (ds : List Int) (g : Gt) : 0 ≤ dep ds g := by
  cases g with
  | w k ws =>
    have := mx_nn (ws.map fun a => ds.getD a 0)
    show 0 ≤ 1 + mx (ws.map fun a => ds.getD a 0)
    omega
  | fi b => exact Int.le_refl _
def dps (m : Nat) (gs : List Gt) : List Int := gs.foldl (fun ds g => ds ++ [dep ds g]) (List.replicate m 0)
theorem dps_snoc (m : Nat) (gs : List Gt) (g : Gt) : dps m (gs ++ [g]) = dps m gs ++ [dep (dps m gs) g] := by
  unfold dps
  rw [List.foldl_append]
  rfl
theorem dps_fold : ∀ (gs : List Gt) (ds : List Int), (∀ d ∈ ds, 0 ≤ d) → (gs.foldl (fun ds g => ds ++ [dep ds g]) ds).length = ds.length + gs.length ∧ ∀ d ∈ gs.foldl (fun ds g => ds ++ [dep ds g]) ds, 0 ≤ d
  | [], ds, h => ⟨rfl, h⟩
  | g :: gs, ds, h => by
    have a := dps_fold gs (ds ++ [dep ds g]) (fun d hd => by
      rcases List.mem_append.mp hd with z | z
      · exact h d z
      · rw [List.mem_singleton.mp z]
        exact dep_nn ds g)
    rw [List.foldl_cons]
    refine ⟨?_, a.2⟩
    rw [a.1, List.length_append, List.length_cons, List.length_cons, List.length_nil]
    omega
theorem dps_len (m : Nat) (gs : List Gt) : (dps m gs).length = m + gs.length := by
  have a := (dps_fold gs (List.replicate m 0) (fun d hd => by rw [List.eq_of_mem_replicate hd]; exact Int.le_refl _)).1
  rw [List.length_replicate] at a
  exact a
theorem dps_nn (m : Nat) (gs : List Gt) : ∀ d ∈ dps m gs, 0 ≤ d := (dps_fold gs (List.replicate m 0) (fun d hd => by rw [List.eq_of_mem_replicate hd]; exact Int.le_refl _)).2
structure NetP where
  x : Addr
  lm : Addr
  ld : Addr
  dn : Addr
def GsAt (Z : List Addr) (H : Hp) (ps : List Addr) (gs : List Gt) : Prop := ps.length = gs.length ∧ ∀ (i : Nat) (q : Addr) (g : Gt), ps[i]? = some q → gs[i]? = some g → q ∉ Z ∧ H q = some (.tup g.row)
def NmAt (Z : List Addr) (H : Hp) (p : NetP) (kvs : List (Key × V)) (nm : List (Str × List Nat)) : Prop :=
  kvs.length = nm.length ∧ (nm.map (·.1)).Nodup ∧ ∀ (i : Nat) (k : Key) (v : V) (n : Str) (ws : List Nat), kvs[i]? = some (k, v) → nm[i]? = some (n, ws) → k = .inr n ∧ ∃ l, v = .ref l ∧ l ∉ Z ∧ l ≠ p.lm ∧ l ≠ p.ld ∧ H l = some (.lst (nts ws))
def NetAt (C : Addr) (Z : List Addr) (H : Hp) (p : NetP) (m : Nat) (gs : List Gt) (nm : List (Str × List Nat)) : Prop :=
  (∀ z ∈ Z, H z ≠ none) ∧ p.lm ≠ p.ld ∧ (p.x ∉ Z ∧ p.lm ∉ Z ∧ p.ld ∉ Z ∧ p.dn ∉ Z) ∧ ∃ dx ps kvs, H p.x = some (.ins C dx [("input_count", .int (m : Int)), ("made", .ref p.lm), ("depths", .ref p.ld), ("by_name", .ref p.dn)]) ∧
    H p.lm = some (.lst (ps.map V.ref)) ∧ H p.ld = some (.lst ((dps m gs).map V.int)) ∧ H p.dn = some (.dK kvs) ∧ GsAt Z H ps gs ∧ NmAt Z H p kvs nm
theorem NetAt.keep {C : Addr} {S Z : List Addr} {H H' : Hp} {p : NetP} {m : Nat} {gs : List Gt} {nm : List (Str × List Nat)} (h : NetAt C Z H p m gs nm) (k : KeepS S H H') (hs : ∀ y ∈ S, y ∈ Z) : NetAt C Z H' p m gs nm := by
  obtain ⟨a, b, ⟨c1, c2, c3, c4⟩, dx, ps, kvs, e1, e2, e3, e4, ⟨g1, g2⟩, n1, n2, n3⟩ := h
  have f : ∀ {y : Addr} {o : HO}, y ∉ Z → H y = some o → H' y = some o := fun n e => k.1 _ _ e (fun z => n (hs _ z))
  refine ⟨fun z hz => k.2 z (a z hz), b, ⟨c1, c2, c3, c4⟩, dx, ps, kvs, f c1 e1, f c2 e2, f c3 e3, f c4 e4, ⟨g1, fun i q g hi hg => ?_⟩, n1, n2, fun i k v n ws hi hn => ?_⟩
  · have := g2 i q g hi hg
    exact ⟨this.1, f this.1 this.2⟩
  · obtain ⟨ek, l, ev, l1, l2, l3, l4⟩ := n3 i k v n ws hi hn
    exact ⟨ek, l, ev, l1, l2, l3, f l1 l4⟩
theorem NetAt.same {C : Addr} {Z : List Addr} {H H' : Hp} {p : NetP} {m : Nat} {gs : List Gt} {nm : List (Str × List Nat)} (h : NetAt C Z H p m gs nm) (s : Same H H') : NetAt C Z H' p m gs nm := h.keep (S := []) (.ofSame s) (fun _ z => nomatch z)
theorem NetAt.keepB {C b : Addr} {Z : List Addr} {H H' : Hp} {p : NetP} {m : Nat} {gs : List Gt} {nm : List (Str × List Nat)} (h : NetAt C Z H p m gs nm) (k : Keep b H H') (hb : H' b ≠ none) (m' : b ∈ Z) : NetAt C Z H' p m gs nm := h.keep (S := [b]) (.ofKeep k (List.mem_singleton.mpr rfl) hb) (fun y hy => by rw [List.mem_singleton.mp hy]; exact m')
theorem BoxAt.some {c : Int} {H : Hp} {b : Addr} (h : BoxAt c H b) : H b ≠ none := by
  obtain ⟨_, _, _, e, _⟩ := h
  exact some_ne e
theorem made {C : Addr} {H : Hp} {x dx : Addr} (nx : H x = none) (nd : H dx = none) (ne : dx ≠ x) {H' : Hp} (k : ∀ p o, (upd (upd H dx (.own x)) x (.ins C dx [])) p = some o → p ≠ x → H' p = some o) : Same H H' := fun p o e =>
  k p o (by rw [upd_ne (ne_of_none e nx), upd_ne (ne_of_none e nd)]; exact e) (ne_of_none e nx)
theorem units1 {k : Nat} {A : Around} (r : Room k A) : A.units + 1 < cLine := by have := r.un; omega
theorem pi_or {X : Cx} {tg e : Expr} {i j : TI} (h1 : PI X tg e i) (h2 : PI X tg e j) : PI X tg e (fun σ H R => i σ H R ∨ j σ H R) := ⟨fun pins s σ H R I h => h.elim (fun a => h1.run pins s σ H R I a) (fun b => h2.run pins s σ H R I b)⟩
structure FT (K : PySem.W.Frag) (mg : Str → Option Value) (C : Addr) : Prop where
  cl : Cls K C
  n_input_count : NoAttr K C "input_count"
  n_made : NoAttr K C "made"
  n_depths : NoAttr K C "depths"
  n_by_name : NoAttr K C "by_name"
  mgC : mg "Net" = some (.ref C)
structure LL (K : PySem.W.Frag) (mg : Str → Option Value) (C : Addr) (za : Nat → Addr) (zl : Nat → FuncData) (E_TooMuch I_TooMuch : Addr) : Prop where
  F_worth_of : Fun K "worth_of" "worth_of" s_worth_of (za 1) (zl 1)
  m_worth_of : mg "worth_of" = some (.ref (za 1))
  b_worth_of : Binds K (zl 1) ["digits"] []
  F_ran : Fun K "ran" "ran" s_ran (za 2) (zl 2)
  m_ran : mg "ran" = some (.ref (za 2))
  kb_ran : ∃ ds, Vals [.int 1] ds ∧ Binds K (zl 2) ["net", "values", "many"] ds
  kb_ran_many : ∃ g, KBn K (zl 2) ["net", "values", "many"] 2 ["many"] g (fun vs zs => vs ++ zs)
  F_gate_bits : Fun K "gate_bits" "gate_bits" s_gate_bits (za 3) (zl 3)
  m_gate_bits : mg "gate_bits" = some (.ref (za 3))
  b_gate_bits : Binds K (zl 3) ["gate", "wires", "full"] []
  F_all_cases : Fun K "all_cases" "all_cases" s_all_cases (za 4) (zl 4)
  m_all_cases : mg "all_cases" = some (.ref (za 4))
  b_all_cases : Binds K (zl 4) ["many"] []
  F_place_in_cases : Fun K "place_in_cases" "place_in_cases" s_place_in_cases (za 5) (zl 5)
  m_place_in_cases : mg "place_in_cases" = some (.ref (za 5))
  b_place_in_cases : Binds K (zl 5) ["place", "many"] []
  F_one_case : Fun K "one_case" "one_case" s_one_case (za 6) (zl 6)
  m_one_case : mg "one_case" = some (.ref (za 6))
  b_one_case : Binds K (zl 6) ["net", "word"] []
  F_bits_text : Fun K "bits_text" "bits_text" s_bits_text (za 7) (zl 7)
  m_bits_text : mg "bits_text" = some (.ref (za 7))
  b_bits_text : Binds K (zl 7) ["number", "many"] []
  F_lies_in : Fun K "lies_in" "lies_in" s_lies_in (za 8) (zl 8)
  m_lies_in : mg "lies_in" = some (.ref (za 8))
  b_lies_in : Binds K (zl 8) ["bits", "cube"] []
  F_common : Fun K "common" "common" s_common (za 9) (zl 9)
  m_common : mg "common" = some (.ref (za 9))
  b_common : Binds K (zl 9) ["one", "other"] []
  F_common_sign : Fun K "common_sign" "common_sign" s_common_sign (za 10) (zl 10)
  m_common_sign : mg "common_sign" = some (.ref (za 10))
  b_common_sign : Binds K (zl 10) ["sign", "other_sign"] []
  F_split : Fun K "split" "split" s_split (za 11) (zl 11)
  m_split : mg "split" = some (.ref (za 11))
  b_split : Binds K (zl 11) ["cube", "place"] []
  F_hole : Fun K "hole" "hole" s_hole (za 12) (zl 12)
  m_hole : mg "hole" = some (.ref (za 12))
  b_hole : Binds K (zl 12) ["cubes", "many"] []
  F_cases_in : Fun K "cases_in" "cases_in" s_cases_in (za 13) (zl 13)
  m_cases_in : mg "cases_in" = some (.ref (za 13))
  b_cases_in : Binds K (zl 13) ["cube", "values", "many"] []
  F_is_text_of : Fun K "is_text_of" "is_text_of" s_is_text_of (za 14) (zl 14)
  m_is_text_of : mg "is_text_of" = some (.ref (za 14))
  b_is_text_of : Binds K (zl 14) ["signs", "many", "thing"] []
  F_settled : Fun K "settled" "settled" s_settled (za 15) (zl 15)
  m_settled : mg "settled" = some (.ref (za 15))
  b_settled : Binds K (zl 15) ["net", "cube"] []
  F_gate_sign : Fun K "gate_sign" "gate_sign" s_gate_sign (za 16) (zl 16)
  m_gate_sign : mg "gate_sign" = some (.ref (za 16))
  b_gate_sign : Binds K (zl 16) ["gate", "signs"] []
  F_turned_sign : Fun K "turned_sign" "turned_sign" s_turned_sign (za 17) (zl 17)
  m_turned_sign : mg "turned_sign" = some (.ref (za 17))
  b_turned_sign : Binds K (zl 17) ["sign"] []
  F_ruled_sign : Fun K "ruled_sign" "ruled_sign" s_ruled_sign (za 18) (zl 18)
  m_ruled_sign : mg "ruled_sign" = some (.ref (za 18))
  b_ruled_sign : Binds K (zl 18) ["one", "other", "ruling"] []
  F_same : Fun K "same" "same" s_same (za 19) (zl 19)
  m_same : mg "same" = some (.ref (za 19))
  kb_same_most : ∃ g, KBn K (zl 19) ["one", "other", "most"] 2 ["most"] g (fun vs zs => vs ++ zs)
  F_looked : Fun K "looked" "looked" s_looked (za 20) (zl 20)
  m_looked : mg "looked" = some (.ref (za 20))
  b_looked : Binds K (zl 20) ["one", "other", "cube"] []
  F_has_open : Fun K "has_open" "has_open" s_has_open (za 21) (zl 21)
  m_has_open : mg "has_open" = some (.ref (za 21))
  b_has_open : Binds K (zl 21) ["told"] []
  F_need_fit : Fun K "need_fit" "need_fit" s_need_fit (za 22) (zl 22)
  m_need_fit : mg "need_fit" = some (.ref (za 22))
  b_need_fit : Binds K (zl 22) ["one", "other"] []
  F_shows_same : Fun K "shows_same" "shows_same" s_shows_same (za 23) (zl 23)
  m_shows_same : mg "shows_same" = some (.ref (za 23))
  b_shows_same : Binds K (zl 23) ["one", "other", "thing"] []
  F_shows_unlike : Fun K "shows_unlike" "shows_unlike" s_shows_unlike (za 24) (zl 24)
  m_shows_unlike : mg "shows_unlike" = some (.ref (za 24))
  b_shows_unlike : Binds K (zl 24) ["one", "other", "thing"] []
  F_sum_wires : Fun K "sum_wires" "sum_wires" s_sum_wires (za 25) (zl 25)
  m_sum_wires : mg "sum_wires" = some (.ref (za 25))
  b_sum_wires : Binds K (zl 25) ["net", "ones", "others", "carry"] []
  F_chosen_wires : Fun K "chosen_wires" "chosen_wires" s_chosen_wires (za 26) (zl 26)
  m_chosen_wires : mg "chosen_wires" = some (.ref (za 26))
  b_chosen_wires : Binds K (zl 26) ["net", "wire", "ones", "others"] []
  F_is_less_wire : Fun K "is_less_wire" "is_less_wire" s_is_less_wire (za 27) (zl 27)
  m_is_less_wire : mg "is_less_wire" = some (.ref (za 27))
  b_is_less_wire : Binds K (zl 27) ["net", "ones", "others"] []
  F_lengthened : Fun K "lengthened" "lengthened" s_lengthened (za 28) (zl 28)
  m_lengthened : mg "lengthened" = some (.ref (za 28))
  b_lengthened : Binds K (zl 28) ["net", "wires", "many"] []
  F_raise_wires : Fun K "raise_wires" "raise_wires" s_raise_wires (za 29) (zl 29)
  m_raise_wires : mg "raise_wires" = some (.ref (za 29))
  b_raise_wires : Binds K (zl 29) ["net", "ones", "wire"] []
  F_times_wires : Fun K "times_wires" "times_wires" s_times_wires (za 30) (zl 30)
  m_times_wires : mg "times_wires" = some (.ref (za 30))
  b_times_wires : Binds K (zl 30) ["net", "ones", "others"] []
  F__law_box : Fun K "_law_box" "_law_box" sBox (za 31) (zl 31)
  m__law_box : mg "_law_box" = some (.ref (za 31))
  b__law_box : Binds K (zl 31) ["_law_script", "_law_k"] []
  F__law_take : Fun K "_law_take" "_law_take" sTake (za 32) (zl 32)
  m__law_take : mg "_law_take" = some (.ref (za 32))
  b__law_take : Binds K (zl 32) ["_law_box_here", "_law_size"] []
  F__law_folded : Fun K "_law_folded" "_law_folded" sFolded (za 33) (zl 33)
  m__law_folded : mg "_law_folded" = some (.ref (za 33))
  b__law_folded : Binds K (zl 33) ["_law_script", "_law_size"] []
  F__law_net : Fun K "_law_net" "_law_net" s__law_net (za 34) (zl 34)
  m__law_net : mg "_law_net" = some (.ref (za 34))
  b__law_net : Binds K (zl 34) ["_law_first", "_law_rows", "_law_given"] []
  F__law_bent_rows : Fun K "_law_bent_rows" "_law_bent_rows" s__law_bent_rows (za 35) (zl 35)
  m__law_bent_rows : mg "_law_bent_rows" = some (.ref (za 35))
  b__law_bent_rows : Binds K (zl 35) ["_law_box_here", "_law_first", "_law_rows"] []
  F__law_rows_of : Fun K "_law_rows_of" "_law_rows_of" s__law_rows_of (za 36) (zl 36)
  m__law_rows_of : mg "_law_rows_of" = some (.ref (za 36))
  b__law_rows_of : Binds K (zl 36) ["_law_net_here"] []
  F__law_spoilt : Fun K "_law_spoilt" "_law_spoilt" s__law_spoilt (za 37) (zl 37)
  m__law_spoilt : mg "_law_spoilt" = some (.ref (za 37))
  b__law_spoilt : Binds K (zl 37) ["_law_box_here", "_law_first", "_law_net_here"] []
  F__law_paper_right : Fun K "_law_paper_right" "_law_paper_right" s__law_paper_right (za 38) (zl 38)
  m__law_paper_right : mg "_law_paper_right" = some (.ref (za 38))
  b__law_paper_right : Binds K (zl 38) ["_law_one", "_law_other", "_law_first", "_law_told"] []
  F__law_made : Fun K "_law_made" "_law_made" s__law_made (za 39) (zl 39)
  m__law_made : mg "_law_made" = some (.ref (za 39))
  b__law_made : Binds K (zl 39) ["_law_way", "_law_which", "_law_size"] []
  F__law_looked_at : Fun K "_law_looked_at" "_law_looked_at" s__law_looked_at (za 40) (zl 40)
  m__law_looked_at : mg "_law_looked_at" = some (.ref (za 40))
  b__law_looked_at : Binds K (zl 40) ["_law_one", "_law_other", "_law_limit"] []
  F__law_most_right : Fun K "_law_most_right" "_law_most_right" s__law_most_right (za 41) (zl 41)
  m__law_most_right : mg "_law_most_right" = some (.ref (za 41))
  b__law_most_right : Binds K (zl 41) ["_law_one", "_law_other", "_law_first"] []
  F__law_cubes_right : Fun K "_law_cubes_right" "_law_cubes_right" s__law_cubes_right (za 42) (zl 42)
  m__law_cubes_right : mg "_law_cubes_right" = some (.ref (za 42))
  b__law_cubes_right : Binds K (zl 42) ["_law_box_here", "_law_one", "_law_other", "_law_first", "_law_cubes"] []
  F__law_right : Fun K "_law_right" "_law_right" s__law_right (za 43) (zl 43)
  m__law_right : mg "_law_right" = some (.ref (za 43))
  b__law_right : Binds K (zl 43) ["_law_box_here"] []
  T : FT K mg C
  M : Mk K C (za 44)
  F_Net___init__ : Fun K "__init__" "Net.__init__" s_Net___init__ (za 44) (zl 44)
  b_Net___init__ : Binds K (zl 44) ["self", "many"] []
  F_Net_both : Fun K "both" "Net.both" s_Net_both (za 45) (zl 45)
  b_Net_both : Binds K (zl 45) ["self", "a", "b"] []
  M_Net_both : Meth K C "both" (za 45)
  F_Net_either : Fun K "either" "Net.either" s_Net_either (za 46) (zl 46)
  b_Net_either : Binds K (zl 46) ["self", "a", "b"] []
  M_Net_either : Meth K C "either" (za 46)
  F_Net_unlike : Fun K "unlike" "Net.unlike" s_Net_unlike (za 47) (zl 47)
  b_Net_unlike : Binds K (zl 47) ["self", "a", "b"] []
  M_Net_unlike : Meth K C "unlike" (za 47)
  F_Net_other : Fun K "other" "Net.other" s_Net_other (za 48) (zl 48)
  b_Net_other : Binds K (zl 48) ["self", "a"] []
  M_Net_other : Meth K C "other" (za 48)
  F_Net_fixed : Fun K "fixed" "Net.fixed" s_Net_fixed (za 49) (zl 49)
  b_Net_fixed : Binds K (zl 49) ["self", "bit"] []
  M_Net_fixed : Meth K C "fixed" (za 49)
  F_Net_put : Fun K "put" "Net.put" s_Net_put (za 50) (zl 50)
  b_Net_put : Binds K (zl 50) ["self", "kind", "wires"] []
  M_Net_put : Meth K C "put" (za 50)
  F_Net_put_gate : Fun K "put_gate" "Net.put_gate" s_Net_put_gate (za 51) (zl 51)
  b_Net_put_gate : Binds K (zl 51) ["self", "gate", "depth"] []
  M_Net_put_gate : Meth K C "put_gate" (za 51)
  F_Net_need : Fun K "need" "Net.need" s_Net_need (za 52) (zl 52)
  b_Net_need : Binds K (zl 52) ["self", "wires"] []
  M_Net_need : Meth K C "need" (za 52)
  F_Net_give : Fun K "give" "Net.give" s_Net_give (za 53) (zl 53)
  b_Net_give : Binds K (zl 53) ["self", "name", "wires"] []
  M_Net_give : Meth K C "give" (za 53)
  F_Net_given : Fun K "given" "Net.given" s_Net_given (za 54) (zl 54)
  b_Net_given : Binds K (zl 54) ["self", "name"] []
  M_Net_given : Meth K C "given" (za 54)
  F_Net_names : Fun K "names" "Net.names" s_Net_names (za 55) (zl 55)
  b_Net_names : Binds K (zl 55) ["self"] []
  M_Net_names : Meth K C "names" (za 55)
  F_Net_inputs : Fun K "inputs" "Net.inputs" s_Net_inputs (za 56) (zl 56)
  b_Net_inputs : Binds K (zl 56) ["self"] []
  M_Net_inputs : Meth K C "inputs" (za 56)
  F_Net_gates : Fun K "gates" "Net.gates" s_Net_gates (za 57) (zl 57)
  b_Net_gates : Binds K (zl 57) ["self"] []
  M_Net_gates : Meth K C "gates" (za 57)
  z_sorted : mg "sorted" = none
  z_dict : mg "dict" = none
  g_TooMuch : mg "TooMuch" = some (.ref E_TooMuch)
  R_TooMuch : PySem.WhX.ErrR K E_TooMuch I_TooMuch
  x_TooMuch : PySem.W.exmOne K (.ref E_TooMuch) (.ref E_TooMuch) = some true
variable {C : Addr} {za : Nat → Addr} {zl : Nat → FuncData} {E_TooMuch I_TooMuch : Addr}
end
theorem ifS_cut {c : TT} {t u : TS} {D : Ends} {σ : L2.St} {H : Hp} (R : L2.St → Hp → Prop) (h : ∀ D' : Ends, (∀ σ' H', R σ' H' → D'.nx σ' H') → tIfS c t u D' σ H) (q : ∀ σ' H', R σ' H' → D.nx σ' H') : tIfS c t u D σ H := h D q
theorem ifS_ev {c : TT} {t u : TS} {D : Ends} {σ : L2.St} {H : Hp} (R : Bool → Hp → Prop) (h : ∀ Q : Bool → Hp → Prop, (∀ z H', R z H' → Q z H') → c σ H Q) (q1 : ∀ H', R true H' → t D σ H') (q2 : ∀ H', R false H' → u D σ H') : tIfS c t u D σ H := h _ fun z H' r => by
  cases z with
  | true => exact q1 H' r
  | false => exact q2 H' r
section
variable {P : Program} {w : World} {K : PySem.W.Frag} {mg : Str → Option Value} {base : Heap}
variable {C : Addr} {za : Nat → Addr} {zl : Nat → FuncData} {E_TooMuch I_TooMuch : Addr}
theorem walk_S {x : List Nat} : Walk (Its (SX.S x)) x.length (fun _ => True) (fun i H v H' => H' = H ∧ ∃ c, x[i]? = some c ∧ v = .str (SX.S [c])) := by
  have w := walk_str (z := SX.S x)
  rw [show (SX.S x).cps.size = x.length from List.size_toArray] at w
  refine ⟨w.goes, w.stops, fun i H v H' hi g z => ?_⟩
  obtain ⟨e, c, h1, h2⟩ := w.yields i H v H' hi g z
  refine ⟨e, c, ?_, h2⟩
  rw [← h1]
  show _ = x.toArray[i]?
  rw [List.getElem?_toArray]
theorem in_strs (x : Str) (ys : List Str) : inV (.str x) (ys.map V.str) = true ↔ x ∈ ys := by
  induction ys with
  | nil => exact ⟨fun z => Bool.noConfusion z, fun z => nomatch z⟩
  | cons y ys ih =>
    show ((y == x) || inV (.str x) (ys.map V.str)) = true ↔ _
    rw [Bool.or_eq_true, beq_iff_eq, ih, List.mem_cons]
    exact ⟨fun z => z.imp Eq.symm id, fun z => z.imp Eq.symm id⟩
theorem S1_inj {a b : Nat} (h : SX.S [a] = SX.S [b]) : a = b := by
  have e := SX.S_inj h
  cases e
  rfl
theorem dS1 (a b : Nat) : decide (V.str (SX.S [a]) = V.str (SX.S [b])) = decide (a = b) := by
  by_cases c : a = b
  · subst c
    rw [decide_eq_true rfl, decide_eq_true rfl]
  · rw [decide_eq_false c, decide_eq_false (fun z => c (S1_inj (V.str.inj z)))]
theorem joinL_1 : ∀ l : List Nat, TL.joinL [] (l.map fun c => [c]) = l
  | [] => rfl
  | [_] => rfl
  | a :: b :: l => by
    show [a] ++ ([] ++ TL.joinL [] ((b :: l).map fun c => [c])) = _
    rw [joinL_1 (b :: l)]
    rfl
theorem join_1 (l : List Nat) : Txt.join "" (l.map fun c => SX.S [c]) = SX.S l := by
  have e := SX.join_S [] (l.map fun c => [c])
  rw [List.map_map, joinL_1] at e
  exact e
theorem join_z (l : List Nat) (h : l.length ≤ 1000) : ((l.map fun c => SX.S [c]).map (·.length)).sum + (l.map fun c => SX.S [c]).length * ("" : Str).length ≤ 16777216 := by
  have : ((l.map fun c => SX.S [c]).map (·.length)).sum = l.length := by
    induction l with
    | nil => rfl
    | cons a l ih =>
      have h2 : l.length ≤ 1000 := by
        rw [List.length_cons] at h
        omega
      rw [List.map_cons, List.map_cons, List.sum_cons, ih h2, List.length_cons]
      show 1 + l.length = l.length + 1
      omega
  rw [this, List.length_map, show ("" : Str).length = 0 from rfl]
  omega
theorem mns : Str.ofString "-" = SX.S [45] := by decide +kernel
theorem dM (a : Nat) : decide (V.str (SX.S [a]) = V.str (Str.ofString "-")) = decide (a = 45) := by
  rw [mns]
  exact dS1 a 45
end
/-! ### {n:b} -/
def binT (n : Nat) : Str := ⟨((Nat.toDigits 2 n).map Char.toNat).toArray⟩
theorem digc2_ne : ∀ (fuel n : Nat) (ds : List Char), ds ≠ [] → Nat.toDigitsCore 2 fuel n ds ≠ []
  | 0, _, _, h => h
  | fuel + 1, n, ds, h => by
    unfold Nat.toDigitsCore
    simp only
    split
    · exact List.cons_ne_nil _ _
    · exact digc2_ne fuel _ _ (List.cons_ne_nil _ _)
theorem dig2_ne (n : Nat) : Nat.toDigits 2 n ≠ [] := by
  unfold Nat.toDigits Nat.toDigitsCore
  simp only
  split
  · exact List.cons_ne_nil _ _
  · exact digc2_ne _ _ _ (List.cons_ne_nil _ _)
theorem fmt_b {prog : Program} {w : World} {A : Around} {E : Value → Shared → Prop} {s : Shared} {n : Nat} {t : Tok} {Q : Value → Shared → Prop} (hl : (binT n).length ≤ sizeLine)
    (h : Q (.str (binT n) (s.toks + 1)) { s with toks := s.toks + 1 + 1 }) : wpAny (model prog w) A (formatField (.int (n : Int) t) "b") Q E s := by
  show wpAny _ _ (holding [.int (n : Int) t] (pyFormat (.int (n : Int) t) "b")) Q E s; refine wpAny_holding ?_; unfold pyFormat
  refine wpAny_bind (wpAny_mkStr ?_ (by decide))
  refine wpAny_bind (m := callSpecial? (.int (n : Int) t) (Str.ofString "__format__") [.str "b" s.toks]) (wpAny_callSpecial?_slot (name := Str.ofString "__format__") (typeIs_int _ (n : Int) t) slot_int_format ?_)
  refine wpAny_call (codeAny_call_builtin slot_int_format.plain entry_int_format (slot_int_format.check _ _ _ _ _ _ _ _ (typeIs_int _ (n : Int) t) (args_int_format _ _) ?_))
  unfold Builtin.«int.__format__»
  simp only [selfAndOne, noKeywords, Builtin.Int.intOfSelf, asInt?, asStr?, List.isEmpty_nil, if_true, pure_bind, bind_pure, bind_assoc, show (((Str.ofString "b").length == 0) = false) by decide, show ((((Str.ofString "b").cps.toList.drop 1).any (· ≥ 128) || ((Str.ofString "b").cps.getD 0 0 ≥ 128 && !([60, 62, 61, 94] : List Nat).contains ((Str.ofString "b").cps.getD 1 0))) = false) by decide, Bool.false_eq_true, if_false, show (Value.str "b" s.toks == Value.none) = false from rfl]
  refine wpAny_bind (wpAny_typeNameOf (T := "str") (typeIs_str _ _ _) (by decide) fun _ => wpAny_bind (wpAny_typeNameOfCut_int ?_))
  have hp : Builtin.Float.parseFormatSpec (Str.ofString "b").cps.toList "int" 62 = .ok { align := 62, type := some 98 } := by rfl
  simp only [hp, Option.getD_some]
  rw [if_pos (by decide)]
  have hne : (((Nat.toDigits 2 n).map Char.toNat).isEmpty) = false := by
    cases q : Nat.toDigits 2 n with
    | nil => exact absurd q (dig2_ne n)
    | cons _ _ => rfl
  refine (id (?_ : wpAny _ _ (bind _ _) _ _ _))
  have key : ∀ {A' : Around} {E' : Value → Shared → Prop} {Q' : Fin → Shared → Prop} {s' : Shared} (y : Str), y = binT n → Q' (.done (.ret (.str (binT n) s'.toks))) { s' with toks := s'.toks + 1 } → wpAny (model prog w) A' (mkStr y >>= fun v => ret v) Q' E' s' := fun y e q => by
    rw [e]
    exact wpAny_bind (wpAny_mkStr (wpAny_pure q) hl)
  refine key _ ?_ ?_
  · have e0 : decide (((n : Nat) : Int) < 0) = false := decide_eq_false (by omega)
    rw [e0]
    conv => lhs; arg 4; change ((Nat.toDigits 2 n).map Char.toNat)
    unfold binT
    generalize (Nat.toDigits 2 n).map Char.toNat = ds at hne ⊢
    cases ds with
    | nil => cases hne
    | cons d r =>
      conv => lhs; whnf
      simp
      omega
  · exact wpAny_bind (wpAny_isInstance (typeIs_str _ _ _) isSubtype_str_str (wpAny_pure h))
def tFmtB (te ts : TE) : TE := fun σ H Q => te σ H fun x H1 => ts σ H1 fun y H2 => ∃ n : Nat, x = .int (n : Int) ∧ y = .str "b" ∧ (binT n).length ≤ sizeLine ∧ Q (.str (binT n)) H2
theorem pe_fmtB {X : Cx} {e spec : Expr} {te ts : TE} {pos : Pos} (he : PE X e te) (hs : PE X spec ts) : PE X (.FormattedValue e (-1) (some spec) pos) (tFmtB te ts) := by
  refine ⟨fun pins s σ H Q I h => ?_⟩
  refine PySem.wpAny_FormattedValue_spec (thn (he.run pins s σ H _ I h) fun v s1 ⟨x, H1, I1, r1, q1⟩ => thn (hs.run pins s1 σ H1 _ I1 q1) fun u s2 ⟨y, H2, I2, r2, q2⟩ => ?_)
  obtain ⟨n, rfl, rfl, hl, q⟩ := q2
  obtain ⟨t, rfl⟩ := r1
  obtain ⟨t2, rfl⟩ := r2
  exact ⟨_, _, rfl, fmt_b hl ⟨.str (binT n), H2, I2.tok _, ⟨_, rfl⟩, q⟩⟩
/-! ### a text so many times -/
def strRep (x : Str) (n : Nat) : Str := ⟨(List.replicate n x.cps).foldl (· ++ ·) #[]⟩
theorem strRep_len (x : Str) (n : Nat) : (strRep x n).length = n * x.length := by
  have key : ∀ (n : Nat) (a : Array Nat), ((List.replicate n x.cps).foldl (· ++ ·) a).size = a.size + n * x.cps.size := by
    intro n
    induction n with
    | zero => intro a; simp
    | succ k ih =>
      intro a
      rw [List.replicate_succ, List.foldl_cons, ih, Array.size_append, Nat.add_mul, Nat.one_mul]
      omega
  have := key n #[]
  show ((List.replicate n x.cps).foldl (· ++ ·) #[]).size = n * x.cps.size
  rw [this]
  simp
theorem op_mul_str {X : Cx} : OpR X (binaryOp .Mult) (fun x y H Q => ∃ (i : Str) (n : Nat), x = .str i ∧ y = .int (n : Int) ∧ i.length ≤ 1000 ∧ n ≤ 1000 ∧ Q (.str (strRep i n)) H) := by
  intro pins s σ H x y v u Q I rx ry h
  obtain ⟨i, n, rfl, rfl, h1, h2, q⟩ := h
  obtain ⟨t, rfl⟩ := rx
  obtain ⟨t', rfl⟩ := ry
  have hm : i.length * n ≤ 1000 * 1000 := Nat.mul_le_mul h1 h2
  refine P.mul_str (by rw [decide_eq_false (by omega), decide_eq_false (by omega)]; rfl) (fun c _ => ?_) (fun c _ => ?_) ?_
  · have : (1 : Int) ≤ n := by omega
    have hd : ((2 ^ 63 - 1 : Int)) / 1000 ≤ (2 ^ 63 - 1) / (n : Int) := by
      refine Int.le_ediv_of_mul_le (by omega) ?_
      have : ((2 ^ 63 - 1 : Int) / 1000) * n ≤ (2 ^ 63 - 1) / 1000 * 1000 := Int.mul_le_mul_of_nonneg_left (by omega) (by decide)
      have e : ((2 ^ 63 - 1 : Int) / 1000) * 1000 ≤ 2 ^ 63 - 1 := by decide
      omega
    have e2 : (1000 : Int) ≤ (2 ^ 63 - 1) / 1000 := by decide
    omega
  · rw [Int.toNat_natCast]
    unfold Builtin.Str.tooLong
    have : (1000 * 1000 : Nat) ≤ sizeLine := by decide
    simp only [decide_eq_false_iff_not]
    omega
  · have fin : ∀ (tk : Nat), EP X pins σ Q (.str (strRep i n) tk) s := fun tk => ⟨.str (strRep i n), H, I, ⟨_, rfl⟩, q⟩
    by_cases c : (n : Int) < 1
    · rw [if_pos c]
      have n0 : n = 0 := by omega
      subst n0
      exact ⟨by decide, ⟨.str (strRep i 0), H, I.tok _, ⟨_, rfl⟩, q⟩⟩
    · rw [if_neg c]
      by_cases c2 : ((n : Int) == 1 || i.length == 0) = true
      · rw [if_pos c2]
        have e : strRep i n = i := by
          rcases Bool.or_eq_true_iff.mp c2 with z | z
          · have n1 : n = 1 := by
              have := beq_iff_eq.mp z
              omega
            subst n1
            show (⟨#[] ++ i.cps⟩ : Str) = i
            rw [Array.empty_append]
          · have l0 : (strRep i n).length = 0 := by rw [strRep_len, beq_iff_eq.mp z, Nat.mul_zero]
            have a : (strRep i n).cps = #[] := Array.eq_empty_of_size_eq_zero l0
            have b : i.cps = #[] := Array.eq_empty_of_size_eq_zero (beq_iff_eq.mp z)
            show strRep i n = i
            cases h5 : strRep i n
            cases i
            rw [h5] at a
            dsimp only at a b
            rw [a, b]
        rw [e] at q
        exact ⟨.str i, H, I, ⟨_, rfl⟩, q⟩
      · rw [if_neg c2]
        refine ⟨?_, ⟨.str (strRep i n), H, I.tok _, ⟨_, rfl⟩, q⟩⟩
        have := strRep_len i n
        have : (1000 * 1000 : Nat) ≤ sizeLine := by decide
        show (strRep i n).length ≤ sizeLine
        rw [strRep_len, Nat.mul_comm]
        omega
/-! ### == and != of things that read as data, whatever their texts -/
theorem op_nePl {X : Cx} (hu : X.A.units + 64 < cLine) : OpR X (compareOp .NotEq) (fun x y H Q => ∃ d e, Dp X.K H x d ∧ Dp X.K H y e ∧ d.plain = true ∧ e.plain = true ∧ d.depth ≤ 64 ∧ Q (.bl (!PyData.eqv d e)) H) := by
  intro pins s σ H x y v u Q I rx ry h
  obtain ⟨d, e, hd, he, sd, se, dd, q⟩ := h
  obtain ⟨as, r1⟩ := Dp.reads I d x v hd rx
  obtain ⟨bs, r2⟩ := Dp.reads I e y u he ry
  refine SeqAt.ne_plain r1 r2 sd se ?_ ⟨.bl _, H, I, rfl, q⟩
  have := Nat.min_le_left d.depth e.depth
  omega
theorem op_eqPl {X : Cx} (hu : X.A.units + 64 < cLine) : OpR X (compareOp .Eq) (fun x y H Q => ∃ d e, Dp X.K H x d ∧ Dp X.K H y e ∧ d.plain = true ∧ e.plain = true ∧ d.depth ≤ 64 ∧ Q (.bl (PyData.eqv d e)) H) := by
  intro pins s σ H x y v u Q I rx ry h
  obtain ⟨d, e, hd, he, sd, se, dd, q⟩ := h
  obtain ⟨as, r1⟩ := Dp.reads I d x v hd rx
  obtain ⟨bs, r2⟩ := Dp.reads I e y u he ry
  refine SeqAt.eq_plain r1 r2 sd se ?_ ⟨.bl _, H, I, rfl, q⟩
  have := Nat.min_le_left d.depth e.depth
  omega
theorem pl_all : ∀ ds : List PyData, (∀ d ∈ ds, d.plain = true ∧ d.depth ≤ 50) → PyData.plainAll ds = true ∧ PyData.depthAll ds ≤ 50
  | [], _ => ⟨rfl, by simp [PyData.depthAll]⟩
  | d :: ds, h => by
    obtain ⟨a, b⟩ := pl_all ds fun e he => h e (List.mem_cons_of_mem _ he)
    obtain ⟨a1, b1⟩ := h d (List.mem_cons_self ..)
    refine ⟨by rw [PyData.plainAll, a1, a]; rfl, ?_⟩
    simp only [PyData.depthAll]
    omega
theorem pl_list {ds : List PyData} (h : ∀ d ∈ ds, d.plain = true ∧ d.depth ≤ 50) : (PyData.list ds).plain = true ∧ (PyData.list ds).depth ≤ 64 := by
  obtain ⟨a, b⟩ := pl_all ds h
  refine ⟨a, ?_⟩
  simp only [PyData.depth]
  omega
/-! ### zip of two texts: new pairs of their signs -/
def Itzx (x y : Str) : It :=
  ⟨fun i _ => i < min x.cps.size y.cps.size,
   fun i H v H' => ∃ T c d, v = .ref T ∧ H T = none ∧ H' = upd H T (.tup [.str ⟨#[c]⟩, .str ⟨#[d]⟩]) ∧ x.cps[i]? = some c ∧ y.cps[i]? = some d,
   fun i _ => i = min x.cps.size y.cps.size⟩
def StZx (x y : Str) (tx ty : Tok) (z TI TO i1 i2 : Addr) (i : Nat) (h : Heap) : Prop :=
  IsZip h z TI TO .none ∧ IsTupOf2 h TI (.ref i1) (.ref i2) ∧ (∃ u v, IsTupOf2 h TO u v) ∧ h.IsStrIter i1 (strIterType x) x tx i ∧ h.IsStrIter i2 (strIterType y) y ty i
theorem turn_zx {P : Program} {w : World} {K : PySem.W.Frag} {elts : List Expr} {kk : Nat} {tpos : Pos} {x y : Str} {tx ty : Tok} {z TI TO i1 i2 : Addr} (S : ZipSep2 z TI TO i1 i2 [i1] [i2]) :
    Turn P w K (.Tuple elts kk tpos) (Itzx x y) [z, TI, TO, i1, i2] z (StZx x y tx ty z TI TO i1 i2) where
  mem := List.mem_cons_self
  obj := by
    rintro i h ⟨a1, a2, ⟨u, v, a3⟩, ⟨o1, e1, _, d1⟩, ⟨o2, e2, _, d2⟩⟩ c hm
    simp only [List.mem_cons, List.not_mem_nil, or_false] at hm
    rcases hm with e | e | e | e | e <;> subst e
    · exact ⟨_, a1, (fun _ q => nomatch q)⟩
    · exact ⟨_, a2, (fun _ q => nomatch q)⟩
    · exact ⟨_, a3, (fun _ q => nomatch q)⟩
    · exact ⟨o1, e1, (fun _ q => by rw [d1] at q; cases q)⟩
    · exact ⟨o2, e2, (fun _ q => by rw [d2] at q; cases q)⟩
  keep := by
    rintro i h h' ⟨a1, a2, ⟨u, v, a3⟩, s1, s2⟩ k
    obtain ⟨o1, e1, r1⟩ := s1
    obtain ⟨o2, e2, r2⟩ := s2
    exact ⟨k z (by simp) _ a1, k TI (by simp) _ a2, ⟨u, v, k TO (by simp) _ a3⟩, ⟨o1, k i1 (by simp) _ e1, r1⟩, ⟨o2, k i2 (by simp) _ e2, r2⟩⟩
  item := by
    intro X hP hw hK hc i pins s σ H E I hf st hg
    subst hP hw hK
    have W := WalksT.zipD2 (prog := X.prog) (w := X.w) (A := X.A) S (Draws.text (A := X.A.in1) (I.ok.hd hc) i1 x tx) (Draws.text (A := X.A.in1) (I.ok.hd hc) i2 y ty)
    have hin : ∀ b ∈ [z, TO, i1, i2], b ∈ [z, TI, TO, i1, i2] := fun b hb => by
      simp only [List.mem_cons, List.not_mem_nil, or_false] at hb ⊢
      rcases hb with q | q | q | q <;> simp [q]
    refine W.item i s _ E hg st fun T vals h1 tk pt hT isT mid k1 => ?_
    obtain ⟨u1, u2, ⟨c, t1, hc1, rfl⟩, ⟨d, t2, hd1, rfl⟩, rfl⟩ := pt
    refine ⟨.ref T, rfl, W.go elts kk tpos i T { s with heap := h1, toks := tk } _ E mid fun h2 st2 k2 => ?_⟩
    have nT : T ∉ [z, TO, i1, i2] := W.apart i T h1 mid
    have isT2 : h2.IsTuple T #[.str ⟨#[c]⟩ t1, .str ⟨#[d]⟩ t2] := isT.at fun o e => k2 T o nT e
    have new : ObjOk X.prog X.w (upd H T (.tup [.str ⟨#[c]⟩, .str ⟨#[d]⟩])) h2 T (.tup [.str ⟨#[c]⟩, .str ⟨#[d]⟩]) :=
      ⟨by show 2 ≤ sizeLine; decide, [.str ⟨#[c]⟩ t1, .str ⟨#[d]⟩ t2], .cons ⟨t1, rfl⟩ (.cons ⟨t2, rfl⟩ .nil), isT2⟩
    have I2 : Inv X pins σ (upd H T (.tup [.str ⟨#[c]⟩, .str ⟨#[d]⟩])) { s with heap := h2, toks := tk } :=
      I.turnedNew (t' := tk) (ch := [z, TI, TO, i1, i2]) (fun b o nb e => k2 b o (fun q => nb (hin b q)) (k1 b o (fun q => nb (hin b q)) e)) hf hT new
    refine ⟨.ref T, _, I2, rfl, ⟨T, c, d, rfl, I.hok.fresh hT, rfl, hc1, hd1⟩, st2, fun b hb => ?_⟩
    have nb : b ≠ T := by
      obtain ⟨a1, a2, ⟨u, v, a3⟩, ⟨o1, e1, _⟩, ⟨o2, e2, _⟩⟩ := st
      have lt : b < s.heap.objs.size := by
        simp only [List.mem_cons, List.not_mem_nil, or_false] at hb
        rcases hb with q | q | q | q | q <;> subst q
        · exact Heap.lt_size a1
        · exact Heap.lt_size a2
        · exact Heap.lt_size a3
        · exact Heap.lt_size e1
        · exact Heap.lt_size e2
      exact Nat.ne_of_lt (Nat.lt_of_lt_of_le lt hT)
    rw [upd_ne nb]
    exact (hf b hb).1
  done := by
    intro X hP hw hK hc i pins s σ H E I hf st hg
    subst hP hw hK
    have W := WalksT.zipD2 (prog := X.prog) (w := X.w) (A := X.A) S (Draws.text (A := X.A.in1) (I.ok.hd hc) i1 x tx) (Draws.text (A := X.A.in1) (I.ok.hd hc) i2 y ty)
    have hg' : i = min x.cps.size y.cps.size := hg
    subst hg'
    refine W.done s _ E st fun h1 tk k1 => ⟨rfl, I.turnedL (t' := tk) (ch := [z, TI, TO, i1, i2]) (fun b o nb e => k1 b o (fun q => nb ?_) e) hf⟩
    simp only [List.mem_cons, List.not_mem_nil, or_false] at q ⊢
    rcases q with q | q | q | q <;> simp [q]
  self := fun A i s Q E st h => wpAny_pyIter_zip st.1 h
def iZx (ta : TA) : TI := fun σ H R => ta σ H fun vs H1 => ∃ x y, vs = [.str x, .str y] ∧ R (Itzx x y) H1
theorem pi_zx {X : Cx} {e e2 : Expr} {ta : TA} {p pos tpos : Pos} {elts : List Expr} {kk : Nat} (hg : Gl X "zip") (hm : X.mg "zip" = none) (ha : PA X [e, e2] ta)
    (hs : starEach [e, e2] X.env = (false, eval e X.env) :: starEach [e2] X.env := by rfl) (hp : (backTo pos (starEach [e2] X.env)).any (·.1) = false := by rfl) :
    PI X (.Tuple elts kk tpos) (.Call (.Name "zip" p) [e, e2] [] pos) (iZx ta) := by
  constructor
  intro pins s σ H R I h
  refine Call_ (ld_blt I hg hm PyProof.Rows.boot_zip (PyProof.Rows.callWith_type1 (thn (ha.run pos pins s σ H _ I h) fun us s1 hh => ?_) hs hp))
  obtain ⟨vs, H1, I1, r1, x, y, rfl, q⟩ := hh
  match us, r1 with
  | [v1, v2], .cons ⟨tx, hx⟩ (.cons ⟨ty, hy⟩ .nil) =>
    subst hx hy
    refine zip_begins2 (begins_text x tx) (begins_text y ty) trivial trivial fun h' a1 a2 a3 g1 g2 _ k => wpAny_pyIter_zip a1 ?_
    have I2 : Inv X pins σ H1 { s1 with heap := h' } := I1.kept (t' := s1.toks) k
    have S : ZipSep2 (s1.heap.objs.size + 4) (s1.heap.objs.size + 2) (s1.heap.objs.size + 3) s1.heap.objs.size (s1.heap.objs.size + 1) [s1.heap.objs.size] [s1.heap.objs.size + 1] := zip_sep2 (fp1 := []) (fp2 := []) (fun _ q => nomatch q) (fun _ q => nomatch q)
    have fr : ∀ b ∈ [s1.heap.objs.size + 4, s1.heap.objs.size + 2, s1.heap.objs.size + 3, s1.heap.objs.size, s1.heap.objs.size + 1], FpOk X pins H1 b := fun b hb => by
      have le : s1.heap.objs.size ≤ b := by
        simp only [List.mem_cons, List.not_mem_nil, or_false] at hb
        rcases hb with z | z | z | z | z <;> rw [z]
        · exact Nat.le_add_right _ _
        · exact Nat.le_add_right _ _
        · exact Nat.le_add_right _ _
        · exact Nat.le_refl _
        · exact Nat.le_add_right _ _
      exact I1.fpOk le (I1.hok.fresh le)
    exact ⟨s1.heap.objs.size + 4, [s1.heap.objs.size + 4, s1.heap.objs.size + 2, s1.heap.objs.size + 3, s1.heap.objs.size, s1.heap.objs.size + 1], _, _, H1, rfl, I2, turn_zx S, ⟨a1, a2, ⟨_, _, a3⟩, ⟨_, g1, rfl, rfl⟩, ⟨_, g2, rfl, rfl⟩⟩, fr, q⟩
/-! ### zip of two lists or tuples -/
def SqIt (t : Bool) (h : Heap) (i2 a : Addr) (i : Nat) : Prop := bif t then h.IsTupleIter i2 a i else h.IsListIter i2 a i
def SqIs (t : Bool) (h : Heap) (a : Addr) (its : Array Value) : Prop := bif t then h.IsTuple a its else h.IsList a its
theorem SqIt.ex {t : Bool} {h : Heap} {i2 a : Addr} {i : Nat} (s : SqIt t h i2 a i) : ∃ o, h.get? i2 = some o ∧ ∀ f, o.data ≠ .cell f := by
  cases t <;> obtain ⟨o, e, _, d⟩ := s <;> exact ⟨o, e, fun f q => by rw [d] at q; cases q⟩
theorem draws_sq {prog : Program} {w : World} {A : Around} (t : Bool) (hh : A.handled = none) (it l : Addr) (hne : l ≠ it) (items : Array Value) :
    Draws prog w A it [it, l] items.size (fun i v => items[i]? = some v) (fun i h => SqIt t h it l i ∧ SqIs t h l items) := by
  cases t
  · exact Draws.list hh it l hne items
  · exact Draws.tuple hh it l hne items
theorem sq_val {X : Cx} {t : Bool} {pins : List (Addr × Obj)} {σ : L2.St} {H : Hp} {s : Shared} {a : Addr} {ys : List V} (I : Inv X pins σ H s) (h : bif t then SqT X.K H a ys else SqL X.K H a ys) : ∃ its : List Value, Vals ys its ∧ SqIs t s.heap a its.toArray := by
  cases t
  · obtain ⟨its, rv, p, _⟩ := I.list h
    exact ⟨its, rv, p.isList⟩
  · obtain ⟨its, rv, p, _⟩ := I.tuple h
    exact ⟨its, rv, p⟩
theorem sq_inj {X : Cx} {t : Bool} {pins : List (Addr × Obj)} {σ : L2.St} {H : Hp} {s : Shared} {a : Addr} {ys zs : List V} (I : Inv X pins σ H s) (h : bif t then SqT X.K H a ys else SqL X.K H a ys) (h2 : bif t then SqT X.K H a zs else SqL X.K H a zs) : ys = zs := by
  cases t
  · exact I.list_inj h h2
  · exact I.tuple_inj h h2
theorem begins_sq (t : Bool) (l : Addr) (items : Array Value) : Begins (.ref l) { cls := .type (bif t then "tuple_iterator" else "list_iterator"), data := .fields #[.ref l, .int 0 0] } fun h => SqIs t h l items := by
  cases t
  · exact begins_list l items
  · exact begins_tuple l items
def Sq2 (t : Bool) (K : PySem.W.Frag) (H : Hp) (a : Addr) (xs : List V) : Prop := bif t then SqT K H a xs else SqL K H a xs
theorem Sq2.to {t : Bool} {K : PySem.W.Frag} {H : Hp} {a : Addr} {xs : List V} (h : Sq2 t K H a xs) : SqL K H a xs ∨ SqT K H a xs := by
  cases t
  · exact .inl h
  · exact .inr h
theorem Sq2.of {K : PySem.W.Frag} {H : Hp} {a : Addr} {xs : List V} (h : SqL K H a xs ∨ SqT K H a xs) : ∃ t, Sq2 t K H a xs := h.elim (fun z => ⟨false, z⟩) fun z => ⟨true, z⟩
def Itzb (t1 t2 : Bool) (K : PySem.W.Frag) (a b : Addr) : It :=
  ⟨fun i H => ∃ (xs ys : List V), Sq2 t1 K H a xs ∧ Sq2 t2 K H b ys ∧ i < xs.length ∧ i < ys.length,
   fun i H v H' => ∃ T x y, v = .ref T ∧ H T = none ∧ H' = upd H T (.tup [x, y]) ∧ (∀ xs, Sq2 t1 K H a xs → xs[i]? = some x) ∧ ∀ ys, Sq2 t2 K H b ys → ys[i]? = some y,
   fun i H => ∃ (xs ys : List V), Sq2 t1 K H a xs ∧ Sq2 t2 K H b ys ∧ i = min xs.length ys.length⟩
def StZb (t1 t2 : Bool) (a b z TI TO i1 i2 : Addr) (i : Nat) (h : Heap) : Prop :=
  IsZip h z TI TO .none ∧ IsTupOf2 h TI (.ref i1) (.ref i2) ∧ (∃ u v, IsTupOf2 h TO u v) ∧ SqIt t1 h i1 a i ∧ SqIt t2 h i2 b i
theorem turn_zb {P : Program} {w : World} {K : PySem.W.Frag} {elts : List Expr} {kk : Nat} {tpos : Pos} {t1 t2 : Bool} {a b z TI TO i1 i2 : Addr} (S : ZipSep2 z TI TO i1 i2 [i1, a] [i2, b]) (na : a ≠ i1) (nb : b ≠ i2) :
    Turn P w K (.Tuple elts kk tpos) (Itzb t1 t2 K a b) [z, TI, TO, i1, i2] z (StZb t1 t2 a b z TI TO i1 i2) where
  mem := List.mem_cons_self
  obj := by
    rintro i h ⟨a1, a2, ⟨u, v, a3⟩, s1, s2⟩ c hm
    simp only [List.mem_cons, List.not_mem_nil, or_false] at hm
    rcases hm with e | e | e | e | e <;> subst e
    · exact ⟨_, a1, (fun _ q => nomatch q)⟩
    · exact ⟨_, a2, (fun _ q => nomatch q)⟩
    · exact ⟨_, a3, (fun _ q => nomatch q)⟩
    · obtain ⟨o2, e2, n2⟩ := s1.ex
      exact ⟨o2, e2, n2⟩
    · obtain ⟨o2, e2, n2⟩ := s2.ex
      exact ⟨o2, e2, n2⟩
  keep := by
    rintro i h h' ⟨a1, a2, ⟨u, v, a3⟩, s1, s2⟩ k
    refine ⟨k z (by simp) _ a1, k TI (by simp) _ a2, ⟨u, v, k TO (by simp) _ a3⟩, ?_, ?_⟩
    · cases t1 <;> exact s1.at fun o q => k i1 (by simp) o q
    · cases t2 <;> exact s2.at fun o q => k i2 (by simp) o q
  item := by
    intro X hP hw hK hc i pins s σ H E I hf st hg
    subst hP hw hK
    obtain ⟨xs, ys, hx, hy, l1, l2⟩ := hg
    obtain ⟨its1, rv1, p1⟩ := sq_val I hx
    obtain ⟨its2, rv2, p2⟩ := sq_val I hy
    obtain ⟨u, hu, ru⟩ := rv1.get (List.getElem?_eq_getElem l1)
    obtain ⟨v, hv, rv⟩ := rv2.get (List.getElem?_eq_getElem l2)
    have W := WalksT.zipD2 (prog := X.prog) (w := X.w) (A := X.A) S (draws_sq (A := X.A.in1) t1 (I.ok.hd hc) i1 a na its1.toArray) (draws_sq (A := X.A.in1) t2 (I.ok.hd hc) i2 b nb its2.toArray)
    have hin : ∀ c ∈ [z, TO, i1, i2], c ∈ [z, TI, TO, i1, i2] := fun b hb => by
      simp only [List.mem_cons, List.not_mem_nil, or_false] at hb ⊢
      rcases hb with q | q | q | q <;> simp [q]
    obtain ⟨a1, a2, a3, s1, s2⟩ := id st
    have g1 := rv1.length
    have g2 := rv2.length
    refine W.item i s _ E (by simp only [List.size_toArray]; omega) ⟨a1, a2, a3, ⟨s1, p1⟩, ⟨s2, p2⟩⟩ fun T vals h1 tk pt hT isT mid k1 => ?_
    obtain ⟨u1, u2, e1, e2, rfl⟩ := pt
    rw [List.getElem?_toArray, hu] at e1
    rw [List.getElem?_toArray, hv] at e2
    cases e1
    cases e2
    refine ⟨.ref T, rfl, W.go elts kk tpos i T { s with heap := h1, toks := tk } _ E mid fun h2 st2 k2 => ?_⟩
    have nT : T ∉ [z, TO, i1, i2] := W.apart i T h1 mid
    have isT2 : h2.IsTuple T #[u, v] := isT.at fun o e => k2 T o nT e
    have new : ObjOk X.prog X.w (upd H T (.tup [xs[i], ys[i]])) h2 T (.tup [xs[i], ys[i]]) :=
      ⟨by show 2 ≤ sizeLine; decide, [u, v], .cons ru (.cons rv .nil), isT2⟩
    have I2 : Inv X pins σ (upd H T (.tup [xs[i], ys[i]])) { s with heap := h2, toks := tk } :=
      I.turnedNew (t' := tk) (ch := [z, TI, TO, i1, i2]) (fun b o nb e => k2 b o (fun q => nb (hin b q)) (k1 b o (fun q => nb (hin b q)) e)) hf hT new
    obtain ⟨b1, b2, b3, ⟨b4, _⟩, b5, _⟩ := st2
    refine ⟨.ref T, _, I2, rfl, ⟨T, _, _, rfl, I.hok.fresh hT, rfl, fun zs' hz' => ?_, fun zs' hz' => ?_⟩, ⟨b1, b2, b3, b4, b5⟩, fun b hb => ?_⟩
    · rw [sq_inj I hz' hx]
      exact List.getElem?_eq_getElem l1
    · rw [sq_inj I hz' hy]
      exact List.getElem?_eq_getElem l2
    have nb : b ≠ T := by
      obtain ⟨a1, a2, ⟨u, v, a3⟩, s1, s2⟩ := st
      obtain ⟨o1, e1, _⟩ := s1.ex
      obtain ⟨o2, e2, _⟩ := s2.ex
      have lt : b < s.heap.objs.size := by
        simp only [List.mem_cons, List.not_mem_nil, or_false] at hb
        rcases hb with q | q | q | q | q <;> subst q
        · exact Heap.lt_size a1
        · exact Heap.lt_size a2
        · exact Heap.lt_size a3
        · exact Heap.lt_size e1
        · exact Heap.lt_size e2
      exact Nat.ne_of_lt (Nat.lt_of_lt_of_le lt hT)
    rw [upd_ne nb]
    exact (hf b hb).1
  done := by
    intro X hP hw hK hc i pins s σ H E I hf st hg
    subst hP hw hK
    obtain ⟨xs, ys, hx, hy, hi⟩ := hg
    obtain ⟨its1, rv1, p1⟩ := sq_val I hx
    obtain ⟨its2, rv2, p2⟩ := sq_val I hy
    have W := WalksT.zipD2 (prog := X.prog) (w := X.w) (A := X.A) S (draws_sq (A := X.A.in1) t1 (I.ok.hd hc) i1 a na its1.toArray) (draws_sq (A := X.A.in1) t2 (I.ok.hd hc) i2 b nb its2.toArray)
    have hn : i = min its1.toArray.size its2.toArray.size := by
      have e1 := rv1.length
      have e2 := rv2.length
      simp only [List.size_toArray]
      omega
    subst hn
    obtain ⟨a1, a2, a3, s1, s2⟩ := id st
    refine W.done s _ E ⟨a1, a2, a3, ⟨s1, p1⟩, ⟨s2, p2⟩⟩ fun h1 tk k1 => ⟨rfl, I.turnedL (t' := tk) (ch := [z, TI, TO, i1, i2]) (fun b o nb e => k1 b o (fun q => nb ?_) e) hf⟩
    simp only [List.mem_cons, List.not_mem_nil, or_false] at q ⊢
    rcases q with q | q | q | q <;> simp [q]
  self := fun A i s Q E st h => wpAny_pyIter_zip st.1 h
def iZb (K : PySem.W.Frag) (ta : TA) : TI := fun σ H R => ta σ H fun vs H1 => ∃ (t1 t2 : Bool) (a b : Addr) (xs ys : List V), vs = [.ref a, .ref b] ∧ Sq2 t1 K H1 a xs ∧ Sq2 t2 K H1 b ys ∧ R (Itzb t1 t2 K a b) H1
theorem pi_zb {X : Cx} {e e2 : Expr} {ta : TA} {p pos tpos : Pos} {elts : List Expr} {kk : Nat} (hg : Gl X "zip") (hm : X.mg "zip" = none) (ha : PA X [e, e2] ta)
    (hs : starEach [e, e2] X.env = (false, eval e X.env) :: starEach [e2] X.env := by rfl) (hp : (backTo pos (starEach [e2] X.env)).any (·.1) = false := by rfl) :
    PI X (.Tuple elts kk tpos) (.Call (.Name "zip" p) [e, e2] [] pos) (iZb X.K ta) := by
  constructor
  intro pins s σ H R I h
  refine Call_ (ld_blt I hg hm PyProof.Rows.boot_zip (PyProof.Rows.callWith_type1 (thn (ha.run pos pins s σ H _ I h) fun us s1 hh => ?_) hs hp))
  obtain ⟨vs, H1, I1, r1, t1, t2, a, b, xs, ys, rfl, hx, hy, q⟩ := hh
  match us, r1 with
  | [v1, v2], .cons hv1 (.cons hv2 .nil) =>
    cases hv1
    cases hv2
    obtain ⟨its1, rv1, p1⟩ := sq_val I1 hx
    obtain ⟨its2, rv2, p2⟩ := sq_val I1 hy
    have la : a < s1.heap.objs.size := by
      cases t1 <;> obtain ⟨o, e, _⟩ := p1 <;> exact Heap.lt_size e
    have lb : b < s1.heap.objs.size := by
      cases t2 <;> obtain ⟨o, e, _⟩ := p2 <;> exact Heap.lt_size e
    refine zip_begins2 (begins_sq t1 a its1.toArray) (begins_sq t2 b its2.toArray) p1 p2 fun h' a1 a2 a3 g1 g2 _ k => wpAny_pyIter_zip a1 ?_
    have I2 : Inv X pins σ H1 { s1 with heap := h' } := I1.kept (t' := s1.toks) k
    have S : ZipSep2 (s1.heap.objs.size + 4) (s1.heap.objs.size + 2) (s1.heap.objs.size + 3) s1.heap.objs.size (s1.heap.objs.size + 1) [s1.heap.objs.size, a] [s1.heap.objs.size + 1, b] := zip_sep2 (fp1 := [a]) (fp2 := [b]) (fun c q => by rw [List.mem_singleton.mp q]; exact la) (fun c q => by rw [List.mem_singleton.mp q]; exact lb)
    have fr : ∀ c ∈ [s1.heap.objs.size + 4, s1.heap.objs.size + 2, s1.heap.objs.size + 3, s1.heap.objs.size, s1.heap.objs.size + 1], FpOk X pins H1 c := fun b hb => by
      have le : s1.heap.objs.size ≤ b := by
        simp only [List.mem_cons, List.not_mem_nil, or_false] at hb
        rcases hb with z | z | z | z | z <;> rw [z]
        · exact Nat.le_add_right _ _
        · exact Nat.le_add_right _ _
        · exact Nat.le_add_right _ _
        · exact Nat.le_refl _
        · exact Nat.le_add_right _ _
      exact I1.fpOk le (I1.hok.fresh le)
    refine ⟨s1.heap.objs.size + 4, [s1.heap.objs.size + 4, s1.heap.objs.size + 2, s1.heap.objs.size + 3, s1.heap.objs.size, s1.heap.objs.size + 1], _, _, H1, rfl, I2, turn_zb S (Nat.ne_of_lt la) (Nat.ne_of_lt (Nat.lt_succ_of_lt lb)), ⟨a1, a2, ⟨_, _, a3⟩, ?_, ?_⟩, fr, q⟩
    · cases t1 <;> exact ⟨_, g1, rfl, rfl⟩
    · cases t2 <;> exact ⟨_, g2, rfl, rfl⟩
theorem walk_zb {K : PySem.W.Frag} {t1 t2 : Bool} {a b : Addr} {xs ys : List V} {n : Nat} (hx : xs.length = n) (hy : ys.length = n) : Walk (Itzb t1 t2 K a b) n (fun H => Sq2 t1 K H a xs ∧ Sq2 t2 K H b ys) (YPair (fun i => xs[i]?) (fun i => ys[i]?)) := by
  refine ⟨fun i _ hi q => ⟨xs, ys, q.1, q.2, by omega, by omega⟩, fun _ q => ⟨xs, ys, q.1, q.2, by omega⟩, fun i H v H' hi q z => ?_⟩
  obtain ⟨T, c, y, h1, h2, h3, h4, h5⟩ := z
  exact ⟨T, _, _, h1, h2, h3, h4 xs q.1, h5 ys q.2⟩
/-! ### a list or a tuple walked -/
def Itq (t : Bool) (K : PySem.W.Frag) (a : Addr) : It := bif t then Itt K a else Itl K a
def iSq (K : PySem.W.Frag) (tl : TE) : TI := fun σ H R => tl σ H fun x H1 => ∃ (t : Bool) (a : Addr) (xs : List V), x = .ref a ∧ Sq2 t K H1 a xs ∧ R (Itq t K a) H1
theorem pi_sq {X : Cx} {tg l : Expr} {tl : TE} (hl : PE X l tl) : PI X tg l (iSq X.K tl) := by
  refine ⟨fun pins s σ H R I h => ?_⟩
  refine thn (hl.run pins s σ H _ I h) fun v s1 ⟨x, H1, I1, r1, q1⟩ => ?_
  obtain ⟨t, a, xs, e, hq, q⟩ := q1
  subst e
  cases r1
  cases t
  · obtain ⟨its, rv, p, hz⟩ := I1.list hq
    refine wpAny_pyIter_list p.isList ?_
    refine ⟨s1.heap.objs.size, [s1.heap.objs.size], _, _, H1, rfl, I1.kept (t' := s1.toks) fun b o e => Heap.get?_push_of_some _ e, turn_list a _, ⟨_, Heap.get?_push_size _ rfl, rfl, rfl⟩, fun b hb => ?_, q⟩
    have e : b = s1.heap.objs.size := by simpa using hb
    subst e
    exact I1.fpOk (Nat.le_refl _) (I1.hok.fresh (Nat.le_refl _))
  · obtain ⟨its, rv, p, hz⟩ := I1.tuple hq
    refine wpAny_pyIter_tuple (show s1.heap.IsTuple a its.toArray from p) ?_
    refine ⟨s1.heap.objs.size, [s1.heap.objs.size], _, _, H1, rfl, I1.kept (t' := s1.toks) fun b o e => Heap.get?_push_of_some _ e, turn_tuple a _, ⟨_, Heap.get?_push_size _ rfl, rfl, rfl⟩, fun b hb => ?_, q⟩
    have e : b = s1.heap.objs.size := by simpa using hb
    subst e
    exact I1.fpOk (Nat.le_refl _) (I1.hok.fresh (Nat.le_refl _))
theorem walk_q {t : Bool} {K : PySem.W.Frag} {a : Addr} {xs : List V} : Walk (Itq t K a) xs.length (fun H => Sq2 t K H a xs) (YAt xs) := by
  cases t
  · exact walk_list
  · exact walk_tup
theorem Sq2.len {t : Bool} {K : PySem.W.Frag} {H : Hp} {a : Addr} {xs : List V} (h : Sq2 t K H a xs) : SqL K H a xs ∨ SqT K H a xs := h.to
/-! ### zip of a text and a list or a tuple: new pairs of a sign and an item -/
def Itzl (t : Bool) (K : PySem.W.Frag) (x : Str) (a : Addr) : It :=
  ⟨fun i H => ∃ (ys : List V) (y : V), (bif t then SqT K H a ys else SqL K H a ys) ∧ i < x.cps.size ∧ ys[i]? = some y,
   fun i H v H' => ∃ T c y, v = .ref T ∧ H T = none ∧ H' = upd H T (.tup [.str ⟨#[c]⟩, y]) ∧ x.cps[i]? = some c ∧ ∀ ys, (bif t then SqT K H a ys else SqL K H a ys) → ys[i]? = some y,
   fun i H => ∃ ys : List V, (bif t then SqT K H a ys else SqL K H a ys) ∧ i = min x.cps.size ys.length⟩
def StZl (t : Bool) (x : Str) (tx : Tok) (a z TI TO i1 i2 : Addr) (i : Nat) (h : Heap) : Prop :=
  IsZip h z TI TO .none ∧ IsTupOf2 h TI (.ref i1) (.ref i2) ∧ (∃ u v, IsTupOf2 h TO u v) ∧ h.IsStrIter i1 (strIterType x) x tx i ∧ SqIt t h i2 a i
theorem turn_zl {P : Program} {w : World} {K : PySem.W.Frag} {elts : List Expr} {kk : Nat} {tpos : Pos} {t : Bool} {x : Str} {tx : Tok} {a z TI TO i1 i2 : Addr} (S : ZipSep2 z TI TO i1 i2 [i1] [i2, a]) (na : a ≠ i2) :
    Turn P w K (.Tuple elts kk tpos) (Itzl t K x a) [z, TI, TO, i1, i2] z (StZl t x tx a z TI TO i1 i2) where
  mem := List.mem_cons_self
  obj := by
    rintro i h ⟨a1, a2, ⟨u, v, a3⟩, ⟨o1, e1, _, d1⟩, s2⟩ c hm
    simp only [List.mem_cons, List.not_mem_nil, or_false] at hm
    rcases hm with e | e | e | e | e <;> subst e
    · exact ⟨_, a1, (fun _ q => nomatch q)⟩
    · exact ⟨_, a2, (fun _ q => nomatch q)⟩
    · exact ⟨_, a3, (fun _ q => nomatch q)⟩
    · exact ⟨o1, e1, (fun _ q => by rw [d1] at q; cases q)⟩
    · obtain ⟨o2, e2, n2⟩ := s2.ex
      exact ⟨o2, e2, n2⟩
  keep := by
    rintro i h h' ⟨a1, a2, ⟨u, v, a3⟩, s1, s2⟩ k
    obtain ⟨o1, e1, r1⟩ := s1
    refine ⟨k z (by simp) _ a1, k TI (by simp) _ a2, ⟨u, v, k TO (by simp) _ a3⟩, ⟨o1, k i1 (by simp) _ e1, r1⟩, ?_⟩
    cases t <;> exact s2.at fun o q => k i2 (by simp) o q
  item := by
    intro X hP hw hK hc i pins s σ H E I hf st hg
    subst hP hw hK
    obtain ⟨ys, y, hq, hi, hy⟩ := hg
    obtain ⟨its, rv, p⟩ := sq_val I hq
    obtain ⟨u, hu, ru⟩ := rv.get hy
    have W := WalksT.zipD2 (prog := X.prog) (w := X.w) (A := X.A) S (Draws.text (A := X.A.in1) (I.ok.hd hc) i1 x tx) (draws_sq (A := X.A.in1) t (I.ok.hd hc) i2 a na its.toArray)
    have hin : ∀ b ∈ [z, TO, i1, i2], b ∈ [z, TI, TO, i1, i2] := fun b hb => by
      simp only [List.mem_cons, List.not_mem_nil, or_false] at hb ⊢
      rcases hb with q | q | q | q <;> simp [q]
    obtain ⟨a1, a2, a3, s1, s2⟩ := id st
    have lt : i < its.length := by
      rw [← rv.length]
      obtain ⟨w, _⟩ := List.getElem?_eq_some_iff.mp hy
      exact w
    refine W.item i s _ E (by simp only [List.size_toArray]; omega) ⟨a1, a2, a3, s1, s2, p⟩ fun T vals h1 tk pt hT isT mid k1 => ?_
    obtain ⟨u1, u2, ⟨c, t1, hc1, rfl⟩, h2, rfl⟩ := pt
    rw [List.getElem?_toArray, hu] at h2
    cases h2
    refine ⟨.ref T, rfl, W.go elts kk tpos i T { s with heap := h1, toks := tk } _ E mid fun h2 st2 k2 => ?_⟩
    have nT : T ∉ [z, TO, i1, i2] := W.apart i T h1 mid
    have isT2 : h2.IsTuple T #[.str ⟨#[c]⟩ t1, u] := isT.at fun o e => k2 T o nT e
    have new : ObjOk X.prog X.w (upd H T (.tup [.str ⟨#[c]⟩, y])) h2 T (.tup [.str ⟨#[c]⟩, y]) :=
      ⟨by show 2 ≤ sizeLine; decide, [.str ⟨#[c]⟩ t1, u], .cons ⟨t1, rfl⟩ (.cons ru .nil), isT2⟩
    have I2 : Inv X pins σ (upd H T (.tup [.str ⟨#[c]⟩, y])) { s with heap := h2, toks := tk } :=
      I.turnedNew (t' := tk) (ch := [z, TI, TO, i1, i2]) (fun b o nb e => k2 b o (fun q => nb (hin b q)) (k1 b o (fun q => nb (hin b q)) e)) hf hT new
    obtain ⟨b1, b2, b3, b4, b5, _⟩ := st2
    refine ⟨.ref T, _, I2, rfl, ⟨T, c, y, rfl, I.hok.fresh hT, rfl, hc1, fun zs hz => ?_⟩, ⟨b1, b2, b3, b4, b5⟩, fun b hb => ?_⟩
    · rw [sq_inj I hz hq]
      exact hy
    have nb : b ≠ T := by
      obtain ⟨a1, a2, ⟨u, v, a3⟩, ⟨o1, e1, _⟩, s2⟩ := st
      obtain ⟨o2, e2, _⟩ := s2.ex
      have lt : b < s.heap.objs.size := by
        simp only [List.mem_cons, List.not_mem_nil, or_false] at hb
        rcases hb with q | q | q | q | q <;> subst q
        · exact Heap.lt_size a1
        · exact Heap.lt_size a2
        · exact Heap.lt_size a3
        · exact Heap.lt_size e1
        · exact Heap.lt_size e2
      exact Nat.ne_of_lt (Nat.lt_of_lt_of_le lt hT)
    rw [upd_ne nb]
    exact (hf b hb).1
  done := by
    intro X hP hw hK hc i pins s σ H E I hf st hg
    subst hP hw hK
    obtain ⟨ys, hq, hi⟩ := hg
    obtain ⟨its, rv, p⟩ := sq_val I hq
    have W := WalksT.zipD2 (prog := X.prog) (w := X.w) (A := X.A) S (Draws.text (A := X.A.in1) (I.ok.hd hc) i1 x tx) (draws_sq (A := X.A.in1) t (I.ok.hd hc) i2 a na its.toArray)
    have hn : i = min x.cps.size its.toArray.size := by
      have e1 := rv.length
      have e2 : its.toArray.size = its.length := List.size_toArray
      omega
    subst hn
    obtain ⟨a1, a2, a3, s1, s2⟩ := id st
    refine W.done s _ E ⟨a1, a2, a3, s1, s2, p⟩ fun h1 tk k1 => ⟨rfl, I.turnedL (t' := tk) (ch := [z, TI, TO, i1, i2]) (fun b o nb e => k1 b o (fun q => nb ?_) e) hf⟩
    simp only [List.mem_cons, List.not_mem_nil, or_false] at q ⊢
    rcases q with q | q | q | q <;> simp [q]
  self := fun A i s Q E st h => wpAny_pyIter_zip st.1 h
def iZl (K : PySem.W.Frag) (ta : TA) : TI := fun σ H R => ta σ H fun vs H1 => ∃ (t : Bool) (x : Str) (a : Addr) (ys : List V), vs = [.str x, .ref a] ∧ (bif t then SqT K H1 a ys else SqL K H1 a ys) ∧ R (Itzl t K x a) H1
theorem pi_zl {X : Cx} {e e2 : Expr} {ta : TA} {p pos tpos : Pos} {elts : List Expr} {kk : Nat} (hg : Gl X "zip") (hm : X.mg "zip" = none) (ha : PA X [e, e2] ta)
    (hs : starEach [e, e2] X.env = (false, eval e X.env) :: starEach [e2] X.env := by rfl) (hp : (backTo pos (starEach [e2] X.env)).any (·.1) = false := by rfl) :
    PI X (.Tuple elts kk tpos) (.Call (.Name "zip" p) [e, e2] [] pos) (iZl X.K ta) := by
  constructor
  intro pins s σ H R I h
  refine Call_ (ld_blt I hg hm PyProof.Rows.boot_zip (PyProof.Rows.callWith_type1 (thn (ha.run pos pins s σ H _ I h) fun us s1 hh => ?_) hs hp))
  obtain ⟨vs, H1, I1, r1, t, x, a, ys, rfl, hq, q⟩ := hh
  match us, r1 with
  | [v1, v2], .cons ⟨tx, hx⟩ (.cons hy .nil) =>
    subst hx
    cases hy
    obtain ⟨its, rv, pl⟩ := sq_val I1 hq
    have la : a < s1.heap.objs.size := by
      cases t <;> obtain ⟨o, e, _⟩ := pl <;> exact Heap.lt_size e
    refine zip_begins2 (begins_text x tx) (begins_sq t a its.toArray) trivial pl fun h' a1 a2 a3 g1 g2 _ k => wpAny_pyIter_zip a1 ?_
    have I2 : Inv X pins σ H1 { s1 with heap := h' } := I1.kept (t' := s1.toks) k
    have S : ZipSep2 (s1.heap.objs.size + 4) (s1.heap.objs.size + 2) (s1.heap.objs.size + 3) s1.heap.objs.size (s1.heap.objs.size + 1) [s1.heap.objs.size] [s1.heap.objs.size + 1, a] := zip_sep2 (fp1 := []) (fp2 := [a]) (fun _ q => nomatch q) (fun b q => by rw [List.mem_singleton.mp q]; exact la)
    have fr : ∀ b ∈ [s1.heap.objs.size + 4, s1.heap.objs.size + 2, s1.heap.objs.size + 3, s1.heap.objs.size, s1.heap.objs.size + 1], FpOk X pins H1 b := fun b hb => by
      have le : s1.heap.objs.size ≤ b := by
        simp only [List.mem_cons, List.not_mem_nil, or_false] at hb
        rcases hb with z | z | z | z | z <;> rw [z]
        · exact Nat.le_add_right _ _
        · exact Nat.le_add_right _ _
        · exact Nat.le_add_right _ _
        · exact Nat.le_refl _
        · exact Nat.le_add_right _ _
      exact I1.fpOk le (I1.hok.fresh le)
    refine ⟨s1.heap.objs.size + 4, [s1.heap.objs.size + 4, s1.heap.objs.size + 2, s1.heap.objs.size + 3, s1.heap.objs.size, s1.heap.objs.size + 1], _, _, H1, rfl, I2, turn_zl S (Nat.ne_of_lt (Nat.lt_succ_of_lt la)), ⟨a1, a2, ⟨_, _, a3⟩, ⟨_, g1, rfl, rfl⟩, ?_⟩, fr, q⟩
    cases t <;> exact ⟨_, g2, rfl, rfl⟩
theorem walk_zl {K : PySem.W.Frag} {t : Bool} {x : Str} {a : Addr} {ys : List V} {n : Nat} (hx : x.cps.size = n) (hy : ys.length = n) : Walk (Itzl t K x a) n (fun H => bif t then SqT K H a ys else SqL K H a ys) (YPair (fun i => (x.cps[i]?).map fun c => .str ⟨#[c]⟩) (fun i => ys[i]?)) := by
  refine ⟨fun i _ hi q => ⟨ys, ys[i]'(by omega), q, by omega, List.getElem?_eq_getElem (by omega)⟩, fun _ q => ⟨ys, q, by omega⟩, fun i H v H' hi q z => ?_⟩
  obtain ⟨T, c, y, h1, h2, h3, h4, h5⟩ := z
  exact ⟨T, _, _, h1, h2, h3, by simp only [h4]; rfl, h5 ys q⟩
/-! ### xs[::-1] of a list or a tuple; a starred name ahead of one -/
section
variable {prog : Program} {w : World} {A : Around} {E : Value → Shared → Prop} {s : Shared}
theorem fm_congr {α β : Type} {f g : α → Option β} : ∀ {l : List α}, (∀ x ∈ l, f x = g x) → l.filterMap f = l.filterMap g
  | [], _ => rfl
  | a :: l, h => by
    rw [List.filterMap_cons, List.filterMap_cons, h a (by simp), fm_congr fun x hx => h x (List.mem_cons_of_mem _ hx)]
theorem pick_rev (xs : Array Value) : ((List.range xs.size).filterMap fun (m : Nat) => xs[(((xs.size : Int) - 1) + (m : Int) * (-1)).toNat]?).toArray = xs.toList.reverse.toArray := by
  have e : (List.range xs.size).filterMap (fun (m : Nat) => xs[(((xs.size : Int) - 1) + (m : Int) * (-1)).toNat]?) = ((List.range xs.size).map fun k => xs.size - 1 - k).filterMap (xs[·]?) := by
    rw [List.filterMap_map]
    refine fm_congr fun m hm => ?_
    have := List.mem_range.mp hm
    show xs[(((xs.size : Int) - 1) + (m : Int) * (-1)).toNat]? = xs[xs.size - 1 - m]?
    rw [show (((xs.size : Int) - 1) + (m : Int) * (-1)).toNat = xs.size - 1 - m by omega]
  rw [e, PySem.W.krv_range, List.filterMap_reverse, PySem.W.krv_all]
theorem sliceApplied_rev {sl : Addr} {vs : Value} {n : Nat} {Q : Int × Int × Nat → Shared → Prop} (hs : s.heap.IsSliceOf sl .none .none vs) (ps : IsPart vs (some (-1)))
    (h : Q ((n : Int) - 1, -1, n) s) : wpAny (model prog w) A (Builtin.Slice.sliceApplied (.ref sl) (pure (n : Int))) Q E s := by
  obtain ⟨os, hos, hcs, hds⟩ := id hs
  unfold Builtin.Slice.sliceApplied Builtin.Slice.sliceFields
  refine wpAny_bind (wpAny_bind (wpAny_field hos hds (x := .none) rfl (wpAny_bind (wpAny_field hos hds (x := .none) rfl (wpAny_bind (wpAny_field hos hds (x := vs) rfl (wpAny_pure ?_)))))))
  refine wpAny_bind (HT.slicePart_ ps ?_)
  show wpAny _ _ (if ((-1 : Int) == 0) = true then _ else _) _ _ s
  rw [if_neg (by decide)]
  refine wpAny_bind (slicePart_none (wpAny_bind (slicePart_none (wpAny_bind (wpAny_pure ?_)))))
  have e : Builtin.Slice.slicePlaces ((n : Int) - 1) (-1) (-1) = n := by
    unfold Builtin.Slice.slicePlaces
    have h1 : ¬ ((-1 : Int) > 0) := by omega
    simp only [h1, if_false]
    split
    · rw [show (-(-1) : Int) = 1 by decide, Int.ediv_one]
      omega
    · omega
  show wpAny _ _ (pure (((n : Int) - 1), (-1 : Int), Builtin.Slice.slicePlaces ((n : Int) - 1) (-1) (-1))) _ _ s
  rw [e]
  exact wpAny_pure h
theorem getItem_tuple_rev {t sl : Addr} {items : Array Value} {vs : Value} {Q : Value → Shared → Prop} (ht : IsTup s.heap t items) (hs : s.heap.IsSliceOf sl .none .none vs) (ps : IsPart vs (some (-1)))
    (h : Q (.ref s.heap.objs.size) { s with heap := s.heap.push { cls := .type "tuple", data := .seq items.toList.reverse.toArray } })
    (hsz : items.size ≤ sizeLine) : wpAny (model prog w) A (getItem (.ref t) (.ref sl)) Q E s := by
  have htake : sizeOk (.seq items.toList.reverse.toArray) := by
    show items.toList.reverse.toArray.size ≤ sizeLine
    rw [List.size_toArray, List.length_reverse, Array.length_toList]
    exact hsz
  obtain ⟨os, hos, hcs, hds⟩ := id hs
  have hTs : s.TypeIs (.ref sl) "slice" := ⟨os, hos, hcs⟩
  unfold getItem
  try with_reducible refine wpAny_holding ?_
  first | refine wpAny_bind (wpAny_pure ?_) | skip
  refine wpAny_bind (wpAny_sequenceKey ht.typeIs (by decide) ?_)
  refine wpAny_bind (wpAny_callSpecial?_slot (name := Str.ofString "__getitem__") ht.typeIs PyProof.Rows.slot_tuple_getitem
    (wpAny_call_entry PyProof.Rows.slot_tuple_getitem ht.typeIs entry_tuple_getitem ?_ (args_tuple_getitem _ _)))
  show wpAny _ _ (Builtin.Tuple.tupleItemsOf (.ref t) >>= _) _ _ s
  refine wpAny_bind (tupleItemsOf_ ht ?_)
  refine wpAny_bind (wpAny_typeOf hTs ?_)
  rw [if_pos (by decide)]
  refine wpAny_bind (sliceApplied_rev hs ps ?_)
  have hno : ¬ ((((items.size : Int) - 1) == 0 && (-1 : Int) == 1 && items.size == items.size) = true) := by
    intro q
    rw [Bool.and_eq_true, Bool.and_eq_true] at q
    exact absurd q.1.2 (by decide)
  show wpAny _ _ (if (((items.size : Int) - 1) == 0 && (-1 : Int) == 1 && items.size == items.size) = true then _ else _) _ _ s
  rw [if_neg hno, pick_rev]
  first
    | exact wpAny_bind (m := Builtin.Tuple.tupleExact _) (wpAny_newObj_type (wpAny_pure ⟨_, rfl, wpAny_pure h⟩) htake)
    | exact wpAny_bind (m := Builtin.Tuple.tupleExact _) (wpAny_newObj_type (wpAny_bind (wpAny_pure (wpAny_pure ⟨_, rfl, wpAny_pure h⟩))) htake)
    | exact wpAny_bind (wpAny_bind (m := Builtin.Tuple.tupleExact _) (wpAny_newObj_type (wpAny_pure (wpAny_pure ⟨_, rfl, wpAny_pure h⟩)) htake))
    | exact wpAny_bind (wpAny_bind (m := Builtin.Tuple.tupleExact _) (wpAny_newObj_type (wpAny_pure ⟨_, rfl, wpAny_pure h⟩) htake))
end
section
variable {X : Cx}
def sqO (t : Bool) (xs : List V) : HO := bif t then .tup xs else .lst xs
def tRevS (K : PySem.W.Frag) (te : TE) : TE := fun σ H Q => te σ H fun x H1 => ∃ (t : Bool) (a : Addr) (xs : List V), x = .ref a ∧ Sq2 t K H1 a xs ∧ ∀ p, H1 p = none → Q (.ref p) (upd H1 p (sqO t xs.reverse))
theorem pe_revS {e : Expr} {te : TE} {k : Nat} {p1 p2 p3 pos : Pos} (he : PE X e te) : PE X (.Subscript e (.Slice none none (some (.UnaryOp .USub (.Constant (.int 1) k p1) p2)) p3) pos) (tRevS X.K te) := by
  refine ⟨fun pins s σ H Q I h => ?_⟩
  refine Subscript_ (thn (he.run pins s σ H _ I h) fun v s1 ⟨x, H1, I1, r1, q1⟩ => ?_)
  obtain ⟨t, a, xs, ex, hx, q⟩ := q1
  subst ex
  cases r1
  have hst : PO X (some (.UnaryOp .USub (.Constant (.int 1) k p1) p2)) (tPart (tUn (rU fun i => .int (-i)) (tC (.int 1)))) := po_some (pe_un un_neg pe_int)
  refine wpAny_Slice (thn (po_none.run pins s1 σ H1 (fun o H2 => o = none ∧ H2 = H1) I1 ⟨rfl, rfl⟩) fun vl s2 ⟨l, H2, I2, pl, el, e2⟩ => ?_)
  subst el e2
  refine thn (po_none.run pins s2 σ H2 (fun o H3 => o = none ∧ H3 = H2) I2 ⟨rfl, rfl⟩) fun vu s3 ⟨u, H3, I3, pu, eu, e3⟩ => ?_
  subst eu e3
  refine thn (hst.run pins s3 σ H3 (fun o H4 => o = some (-1) ∧ H4 = H3) I3 ⟨1, rfl, -1, rfl, rfl, rfl⟩) fun vs s4 ⟨o, H4, I4, ps, eo, e4⟩ => ?_
  subst eo e4
  have I5 : Inv X pins σ H4 { s4 with heap := s4.heap.push { cls := .type "slice", data := .fields #[vl, vu, vs] } } := I4.kept (t' := s4.toks) fun b ob q => Heap.get?_push_of_some _ q
  show wpAny (model X.prog X.w) X.A (subscriptTail e (.Slice none none (some (.UnaryOp .USub (.Constant (.int 1) k p1) p2)) p3) (.ref a) (.ref s4.heap.objs.size)) (EP X pins σ Q) X.xe { s4 with heap := s4.heap.push { cls := .type "slice", data := .fields #[vl, vu, vs] } }
  cases t
  · obtain ⟨its, r, ht, hz⟩ := I5.list hx
    have hlen := r.length
    refine tail_any (ops := [.ref a, .ref s4.heap.objs.size]) ht.isList.typeIs (PySem.slot_list_getitem.lookup) ?_ (by with_unfolding_all rfl)
    refine wpAny_getItem_list_slice ht.isList (Heap.IsSliceOf.new _ vl vu vs) pl pu ps (by decide) ?_ (by rw [List.size_toArray]; omega)
    rw [PySem.W.krv_pick]
    refine ⟨.ref _, _, I5.laid (t' := s4.toks) (o := .lst xs.reverse) (fun b ob q => Heap.get?_push_of_some _ q) (Nat.le_refl _) ?_, rfl, q _ (I5.hok.fresh (Nat.le_refl _))⟩
    exact ⟨by rw [List.length_reverse]; exact hz, _, 0, r.reverse, Heap.get?_push_size _ rfl⟩
  · obtain ⟨its, r, ht, hz⟩ := I5.tuple hx
    have hlen := r.length
    cases pl
    cases pu
    refine tail_any (ops := [.ref a, .ref s4.heap.objs.size]) ht.typeIs (PyProof.Rows.slot_tuple_getitem.lookup) ?_ (by with_unfolding_all rfl)
    refine getItem_tuple_rev ht (Heap.IsSliceOf.new _ _ _ vs) ps ?_ (by rw [List.size_toArray]; omega)
    refine ⟨.ref _, _, I5.laid (t' := s4.toks) (o := .tup xs.reverse) (fun b ob q => Heap.get?_push_of_some _ q) (Nat.le_refl _) ?_, rfl, q _ (I5.hok.fresh (Nat.le_refl _))⟩
    exact ⟨by rw [List.length_reverse]; exact hz, _, r.reverse, IsTup.new _ _⟩
theorem Sq2.new {t : Bool} {K : PySem.W.Frag} {H : Hp} {a : Addr} {xs : List V} : Sq2 t K (upd H a (sqO t xs)) a xs := by
  cases t
  · exact SqL.of upd_same
  · exact .inl (.inl upd_same)
/-- *xs, y = a list -/
def gStar1 (K : PySem.W.Frag) (t : TGs) : TG := fun v σ H Q => ∃ (a : Addr) (xs : List V) (y : V), v = .ref a ∧ SqL K H a (xs ++ [y]) ∧ xs.length ≤ 16000 ∧ ∀ D, H D = none → t [.ref D, y] σ (upd H D (.lst xs)) Q
theorem unpack_star1 {prog : Program} {w : World} {A : Around} {E : Value → Shared → Prop} {s : Shared} {l : Addr} {items : Array Value} {Q : List Value → Shared → Prop} (hl : s.heap.IsList l items) (hh : A.handled = none) (h0 : 1 ≤ items.size) (hz : items.size ≤ 16384)
    (h : ∀ (h₂ : Heap) (tk : Nat), (∀ b o, s.heap.get? b = some o → h₂.get? b = some o) → Q ([.ref h₂.objs.size] ++ items.toList.drop (items.size - 1)) { s with heap := h₂.push { cls := .type "list", data := .seq (items.toList.take (items.size - 1)).toArray 0 }, toks := tk }) : wpAny (model prog w) A (unpackItems (.ref l) 2 (some 0)) Q E s := by
  have hlt : l ≠ s.heap.objs.size := by obtain ⟨o, ho, _⟩ := hl; exact Nat.ne_of_lt (Heap.lt_size ho)
  unfold unpackItems
  refine wpAny_bind ?_
  unfold notIterableAtAll
  refine wpAny_bind (wpAny_specialOf hl.typeIs slot_list_iter.lookup ?_)
  refine wpAny_pure ?_
  simp only [Bool.false_eq_true, if_false]
  refine wpAny_bind (wpAny_holding (wpAny_pyIter_list hl ?_))
  refine wpAny_bind (wpAny_holding (PySem.W.kun_draw hlt 0 0 _ _ ⟨_, Heap.get?_push_size _ rfl, rfl, rfl⟩ (hl.push _) (by omega) fun h₁ hit₁ hs₁ => ?_))
  have hl₁ : h₁.IsList l items := (hl.push _).extBut hs₁.extBut hlt
  have hit₁' := hit₁
  obtain ⟨oi, hoi, _⟩ := hit₁'
  have hl₁' := hl₁
  obtain ⟨ol, hol, _⟩ := hl₁'
  rw [List.drop_zero, List.take_zero]
  rw [if_neg (show ¬ (([] : List Value).length < 0) by simp)]
  refine wpAny_bind (wpAny_holding (PySem.W.kun_collect (s := { s with heap := h₁ }) (T := "list_iterator") (.inr (.inr (.inl rfl))) (Walks.list (A := A.in1) hh s.heap.objs.size l hlt items) (fun j u st => st.1.typeIs) (k := 0) (by omega) ⟨hit₁, hl₁⟩ (Heap.lt_size hoi) (Heap.lt_size hol) (fun h₂ tk hk => ?_) (by rw [sizeLine_eq]; omega)))
  have hrl : (items.toList.drop 0).length = items.size := by rw [List.drop_zero, Array.length_toList]
  show wpAny _ _ (if (items.toList.drop 0).length < 2 - 1 - 0 then _ else _) _ _ _
  rw [if_neg (by rw [hrl]; omega)]
  show wpAny _ _ (newList ((items.toList.drop 0).take ((items.toList.drop 0).length - (2 - 1 - 0))) >>= fun d => pure ([] ++ [d] ++ (items.toList.drop 0).drop ((items.toList.drop 0).length - (2 - 1 - 0)))) _ _ _
  rw [hrl, List.drop_zero]
  have he : ∀ b o, s.heap.get? b = some o → h₂.get? b = some o := fun b o e => hk b o (Nat.ne_of_lt (Heap.lt_size e)) (hs₁.extBut b o (Nat.ne_of_lt (Heap.lt_size e)) (Heap.get?_push_of_some _ e))
  refine wpAny_bind ?_
  unfold newList
  refine wpAny_newObj_type (wpAny_pure ?_) (by show (items.toList.take (items.size - 1)).toArray.size ≤ sizeLine; rw [List.size_toArray, List.length_take, sizeLine_eq, Array.length_toList]; omega)
  exact h h₂ tk he
theorem pg_star1 {es : List Expr} {k : Nat} {pos : Pos} {t : TGs} (hc : X.calm = true) (h : PGs X es t)
    (hn : (assignEach es X.env).length = 2 := by rfl) (hst : (assignEach es X.env).findIdx? (·.1) = some 0 := by rfl) : PG X (.Tuple es k pos) (gStar1 X.K t) := by
  refine ⟨fun pins s σ H v u Q I r hw => ?_⟩
  obtain ⟨a, xs, y, e1, hq, hz, hw⟩ := hw
  subst e1
  cases r
  obtain ⟨its, rv, pl, hzz⟩ := I.list hq
  have hlen := rv.length
  rw [List.length_append, List.length_singleton] at hlen
  rw [PyProof.Rows.assign_Tuple]
  refine wpAny_bind (wpAny_standAt ?_)
  unfold unpack
  rw [hn, hst]
  refine wpAny_bind (wpAny_holding (unpack_star1 pl.isList (I.ok.hd hc) (by rw [List.size_toArray]; omega) (by rw [List.size_toArray]; omega) fun h' tk hx => ?_))
  have e3 : its.toArray.size - 1 = xs.length := by rw [List.size_toArray]; omega
  rw [e3]
  have rt := rv.take xs.length
  have rd := rv.drop xs.length
  rw [List.take_left' rfl] at rt
  rw [List.drop_left' rfl] at rd
  have I0 : Inv X pins σ H { s with heap := h', toks := tk } := I.kept (t' := tk) hx
  have I1 : Inv X pins σ (upd H h'.objs.size (.lst xs)) { s with heap := h'.push { cls := .type "list", data := .seq (its.take xs.length).toArray 0 }, toks := tk } := I0.laid (t' := tk) (o := .lst xs) (fun b u e => Heap.get?_push_of_some _ e) (Nat.le_refl _) ⟨by show xs.length ≤ sizeLine; rw [sizeLine_eq]; omega, _, 0, rt, Heap.get?_push_size _ rfl⟩
  exact h.run pins _ σ _ _ _ Q I1 (.cons (show RelV (.ref h'.objs.size) (.ref h'.objs.size) from rfl) rd) (hw _ (I0.hok.fresh (Nat.le_refl _)))
theorem pgs_star {e : Expr} {sp : Pos} {es : List Expr} {t : TG} {u : TGs} (h1 : PG X e t) (h2 : PGs X es u) : PGs X (.Starred e sp :: es) (gCons t u) := by
  refine ⟨fun pins s σ H vs us Q I r h => ?_⟩
  obtain ⟨v, vr, e1, h⟩ := h
  subst e1
  cases r with
  | cons r rr =>
    show wpAny _ _ (assignInOrder (assign e X.env :: (assignEach es X.env).map (·.2)) _) _ _ _
    refine assignInOrder_cons (thn (h1.run pins s σ H _ _ _ I r h) fun _ s1 ⟨σ1, H1, I1, q1⟩ => ?_)
    exact h2.run pins s1 σ1 H1 _ _ Q I1 rr q1
end
/-! ### list(zip(xs, ys)) of two lists -/
structure ZG (xs ys : List Value) (lo : Addr) (h : Heap) (as : List Addr) : Prop where
  rise : as.Pairwise (· < ·)
  above : ∀ a ∈ as, lo < a
  pairs : ∀ (j : Nat) (a : Addr), as[j]? = some a → ∃ x y, xs[j]? = some x ∧ ys[j]? = some y ∧ h.get? a = some { cls := .type "tuple", data := .seq #[x, y] }
theorem ZG.there {xs ys : List Value} {lo : Addr} {h : Heap} {as : List Addr} (g : ZG xs ys lo h as) {a : Addr} (ha : a ∈ as) : a < h.objs.size := by
  obtain ⟨j, hj⟩ := List.mem_iff_getElem?.mp ha
  obtain ⟨_, _, _, _, e⟩ := g.pairs j a hj
  exact Heap.lt_size e
structure ZAp (z TI TO i1 i2 l1 l2 S : Addr) : Prop where
  D : ZipApart z TI TO i1 i2 l1 l2
  Sz : z < S
  STI : TI < S
  STO : TO < S
  Si1 : i1 < S
  Si2 : i2 < S
  Sl1 : l1 < S
  Sl2 : l2 < S
def ZSt (z TI TO i1 i2 l1 l2 S : Addr) (xs ys : List Value) (i : Nat) (h : Heap) : Prop :=
  IsPair h TI (.ref i1) (.ref i2) ∧ h.IsListIter i1 l1 i ∧ h.IsListIter i2 l2 i ∧ h.IsList l1 xs.toArray ∧ h.IsList l2 ys.toArray ∧
   ((IsZip h z TI TO .none ∧ ∃ a b, IsPair h TO a b) ∨ ∃ T f oT, IsZipHeld h z TI TO T f ∧ h.get? T = some oT ∧ T ≠ z ∧ T ≠ i1 ∧ T ≠ i2 ∧ T ≠ S)
section
variable {prog : Program} {w : World} {A : Around} {s : Shared} {z TI TO i1 i2 l1 l2 S : Addr} {xs ys : List Value}
theorem ZSt.keep (G : ZAp z TI TO i1 i2 l1 l2 S) {i : Nat} {h h' : Heap} (st : ZSt z TI TO i1 i2 l1 l2 S xs ys i h) (hk : ∀ b o, b ≠ S → h.get? b = some o → h'.get? b = some o) : ZSt z TI TO i1 i2 l1 l2 S xs ys i h' := by
  obtain ⟨hTI, h1, h2, hl1, hl2, hz⟩ := st
  refine ⟨hk _ _ (Nat.ne_of_lt G.STI) hTI, h1.at fun o e => hk _ o (Nat.ne_of_lt G.Si1) e, h2.at fun o e => hk _ o (Nat.ne_of_lt G.Si2) e, hl1.at fun o e => hk _ o (Nat.ne_of_lt G.Sl1) e, hl2.at fun o e => hk _ o (Nat.ne_of_lt G.Sl2) e, ?_⟩
  rcases hz with ⟨hz, a, b, hTO⟩ | ⟨T, f, oT, hz, hT, r1, r2, r3, r4⟩
  · exact .inl ⟨hk _ _ (Nat.ne_of_lt G.Sz) hz, a, b, hk _ _ (Nat.ne_of_lt G.STO) hTO⟩
  · exact .inr ⟨T, f, oT, hk _ _ (Nat.ne_of_lt G.Sz) hz, hk _ _ r4 hT, r1, r2, r3, r4⟩
end
section
variable {P : Program} {w : World} {K : PySem.W.Frag} {mg : Str → Option Value} {base : Heap}
variable {C : Addr} {za : Nat → Addr} {zl : Nat → FuncData} {E_TooMuch I_TooMuch : Addr}
/-! ### a net's gates -/
theorem flat_rep (m : Nat) (v : V) : (List.replicate m [v]).flatten = List.replicate m v := by
  induction m with
  | zero => rfl
  | succ k ih =>
    rw [List.replicate_succ, List.flatten_cons, ih, List.replicate_succ]
    rfl
def spNetI (C : Addr) : Sp := fun vs H Q _ => ∃ (x dx : Addr) (m : Nat), vs = [.ref x, .int (m : Int)] ∧ H x = some (.ins C dx []) ∧ m ≤ 100000 ∧
  ∀ (p : NetP) (H' : Hp), p.x = x → (∀ y o, H y = some o → y ≠ x → H' y = some o) → (H p.lm = none ∧ H p.ld = none ∧ H p.dn = none) → (∀ Z : List Addr, (∀ z ∈ Z, z ≠ x ∧ H z ≠ none) → NetAt C Z H' p m [] []) → Q .non H'
theorem ok_Net___init__ (B : Bl mg) (L : LL K mg C za zl E_TooMuch I_TooMuch) : FnOk P w K mg base CX0 1 (za 44) (zl 44) ["self", "many"] (spNetI C) := by
  refine L.F_Net___init__.ok sc_Net___init__ (fun vs H Q E h => ?_) (fun cdv A outer s H vs Q E hr h => ?_)
  · obtain ⟨x, dx, m, rfl, _⟩ := h
    rfl
  obtain ⟨x, dx, m, rfl, hx, hm, q⟩ := h
  refine ⟨_, (pss_cons (ps_fld (pv 0) (pv 1) rfl)
    (pss_cons (ps_fld (pv 0) (pe_lst pa_nil) rfl)
    (pss_cons (ps_fld (pv 0) (pe_op op_rep (pe_lst (pa_cons pe_int pa_nil)) (pv 1)) rfl)
    (pss_one (ps_fld (pv 0) pe_dnewK rfl))))), ?_⟩
  refine ⟨_, rfl, _, rfl, x, C, dx, _, rfl, hx, L.T.cl, L.T.n_input_count, (by show 0 < 1000; decide), ?_⟩
  have a1 : (upd H x (.ins C dx (putF "input_count" (.int (m : Int)) []))) x = some (.ins C dx [("input_count", .int (m : Int))]) := upd_same
  have f1 : ∀ y o, H y = some o → y ≠ x → (upd H x (.ins C dx (putF "input_count" (.int (m : Int)) []))) y = some o := fun y o e n => by rw [upd_ne n]; exact e
  generalize upd H x (.ins C dx (putF "input_count" (.int (m : Int)) [])) = H1 at *
  refine ⟨Nat.zero_le _, fun lm nlm => ?_⟩
  have n1 : x ≠ lm := ne_of_none a1 nlm
  refine ⟨_, rfl, x, C, dx, _, rfl, by rw [upd_ne n1]; exact a1, L.T.cl, L.T.n_made, (by show 1 < 1000; decide), ?_⟩
  have a2 : (upd (upd H1 lm (.lst [])) x (.ins C dx (putF "made" (.ref lm) [("input_count", .int (m : Int))]))) x = some (.ins C dx [("input_count", .int (m : Int)), ("made", .ref lm)]) := upd_same
  have b2 : (upd (upd H1 lm (.lst [])) x (.ins C dx (putF "made" (.ref lm) [("input_count", .int (m : Int))]))) lm = some (.lst []) := by rw [upd_ne n1.symm, upd_same]
  have f2 : ∀ y o, H1 y = some o → y ≠ x → (upd (upd H1 lm (.lst [])) x (.ins C dx (putF "made" (.ref lm) [("input_count", .int (m : Int))]))) y = some o := fun y o e n => by rw [upd_ne n, upd_ne (ne_of_none e nlm)]; exact e
  generalize upd (upd H1 lm (.lst [])) x (.ins C dx (putF "made" (.ref lm) [("input_count", .int (m : Int))])) = H2 at *
  refine ⟨(by show 1 ≤ sizeLine; decide), fun z nz => ?_⟩
  refine ⟨_, rfl, z, (m : Int), _, rfl, rfl, upd_same, by omega, by omega, (by show 1 * ((m : Int)).toNat ≤ _; rw [Int.toNat_natCast, Nat.one_mul]; exact Nat.le_trans hm (by decide)), fun ld nld => ?_⟩
  have e0 : (List.replicate ((m : Int)).toNat [V.int 0]).flatten = (dps m []).map V.int := by
    rw [Int.toNat_natCast]
    show _ = (List.replicate m 0).map V.int
    rw [List.map_replicate]
    exact flat_rep m _
  rw [e0]
  have z1 := ne_of_none a2 nz
  have z2 := ne_of_none b2 nz
  have sz := same_upd (o := .lst [V.int 0]) nz
  have sd := same_upd (o := .lst ((dps m []).map V.int)) nld
  have l1 := ne_of_none (sz _ _ a2) nld
  have l2 := ne_of_none (sz _ _ b2) nld
  refine ⟨_, rfl, x, C, dx, _, rfl, sd _ _ (sz _ _ a2), L.T.cl, L.T.n_depths, (by show 2 < 1000; decide), ?_⟩
  have sA := sz.trans sd
  have b3 := sd _ _ (sz _ _ b2)
  have d3 : (upd (upd H2 z (.lst [V.int 0])) ld (.lst ((dps m []).map V.int))) ld = some (.lst ((dps m []).map V.int)) := upd_same
  generalize upd (upd H2 z (.lst [V.int 0])) ld (.lst ((dps m []).map V.int)) = H3 at *
  have a4 : (upd H3 x (.ins C dx (putF "depths" (.ref ld) [("input_count", .int (m : Int)), ("made", .ref lm)]))) x = some (.ins C dx [("input_count", .int (m : Int)), ("made", .ref lm), ("depths", .ref ld)]) := upd_same
  have f4 : ∀ y o, H3 y = some o → y ≠ x → (upd H3 x (.ins C dx (putF "depths" (.ref ld) [("input_count", .int (m : Int)), ("made", .ref lm)]))) y = some o := fun y o e n => by rw [upd_ne n]; exact e
  have b4 := f4 _ _ b3 n1.symm
  have d4 := f4 _ _ d3 l1.symm
  generalize upd H3 x (.ins C dx (putF "depths" (.ref ld) [("input_count", .int (m : Int)), ("made", .ref lm)])) = H4 at *
  refine fun dn ndn => ?_
  have a5 := ne_of_none a4 ndn
  have b5 := ne_of_none b4 ndn
  have d5 := ne_of_none d4 ndn
  have s5 := same_upd (o := .dK []) ndn
  refine ⟨_, rfl, x, C, dx, _, rfl, s5 _ _ a4, L.T.cl, L.T.n_by_name, (by show 3 < 1000; decide), ?_⟩
  have nn : ∀ (y : Addr), (∀ o, H y = some o → y ≠ x → False) → y ≠ x → H y = none := fun y h n => by
    cases e : H y with
    | none => rfl
    | some o => exact (h o e n).elim
  refine q ⟨x, lm, ld, dn⟩ _ rfl (fun y o e n => ?_) ⟨nn lm (fun o e n => by have := f1 _ _ e n; rw [nlm] at this; cases this) n1.symm, nn ld (fun o e n => by have := sz _ _ (f2 _ _ (f1 _ _ e n) n); rw [nld] at this; cases this) l1.symm, nn dn (fun o e n => by have := f4 _ _ (sA _ _ (f2 _ _ (f1 _ _ e n) n)) n; rw [ndn] at this; cases this) a5.symm⟩ (fun Z hZ => ?_)
  · rw [upd_ne n]
    exact s5 _ _ (f4 _ _ (sA _ _ (f2 _ _ (f1 _ _ e n) n)) n)
  have zz : ∀ a ∈ Z, a ≠ x ∧ a ≠ lm ∧ a ≠ ld ∧ a ≠ dn ∧ H4 a ≠ none := fun a ha => by
    obtain ⟨nx, h0⟩ := hZ a ha
    cases e : H a with
    | none => exact absurd e h0
    | some o =>
      have e1 := f1 _ _ e nx
      have e2 := f2 _ _ e1 nx
      have e4 := f4 _ _ (sA _ _ e2) nx
      exact ⟨nx, ne_of_none e1 nlm, ne_of_none (sz _ _ e2) nld, ne_of_none e4 ndn, some_ne e4⟩
  refine ⟨fun a ha => ?_, l2, ⟨fun h => (zz _ h).1 rfl, fun h => (zz _ h).2.1 rfl, fun h => (zz _ h).2.2.1 rfl, fun h => (zz _ h).2.2.2.1 rfl⟩, dx, [], [], upd_same, ?_, ?_, ?_, ⟨rfl, fun i q g h => by simp at h⟩, rfl, List.nodup_nil, fun i k v n ws h => by simp at h⟩
  · rw [upd_ne (zz a ha).1, upd_ne (zz a ha).2.2.2.1]
    exact (zz a ha).2.2.2.2
  · show (upd (upd H4 dn (.dK [])) x _) lm = _
    rw [upd_ne n1.symm]
    exact s5 _ _ b4
  · show (upd (upd H4 dn (.dK [])) x _) ld = _
    rw [upd_ne l1.symm]
    exact s5 _ _ d4
  · show (upd (upd H4 dn (.dK [])) x _) dn = _
    rw [upd_ne a5.symm, upd_same]
/-! ### gates laid -/
def spNeed (K : PySem.W.Frag) (C : Addr) : Sp := fun vs H Q _ => ∃ (Z : List Addr) (p : NetP) (m : Nat) (gs : List Gt) (nm : List (Str × List Nat)) (t : Addr) (ws : List Nat), vs = [.ref p.x, .ref t] ∧ NetAt C Z H p m gs nm ∧ (SqL K H t (nts ws) ∨ SqT K H t (nts ws)) ∧ (∀ a ∈ ws, a < m + gs.length) ∧
  ∀ H', Same H H' → Q .non H'
theorem ok_Net_need (B : Bl mg) (L : LL K mg C za zl E_TooMuch I_TooMuch) : FnOk P w K mg base CX0 1 (za 52) (zl 52) ["self", "wires"] (spNeed K C) := by
  refine L.F_Net_need.ok sc_Net_need (fun vs H Q E h => ?_) (fun cdv A outer s H vs Q E hr h => ?_)
  · obtain ⟨Z, p, m, gs, nm, t, ws, rfl, _⟩ := h
    rfl
  obtain ⟨Z, p, m, gs, nm, t, ws, rfl, hN, hT, hw, q⟩ := h
  refine ⟨_, (pss_one (ps_for PassesOwn.never rfl (pi_or (pi_list (pv 1)) (pi_tup (pv 1))) (pg_name (i := 2) sc_Net_need.nd rfl (.inl rfl)) (pss_one (ps_if (pt_not (pt_chain op_le op_lt pe_int (pv 2) (pe_callB call_len_seq (by rfl) B.len PySem.boot_len (pa_cons (pe_fld (pv 0) rfl) pa_nil)))) (pss_one ps_never) pss_nil)))), ?_⟩
  have turn : ∀ (a : Nat), a ∈ ws → ∀ (H9 : Hp) (y : Option V) (T : TS) (D : Ends), Same H H9 → D.nx [some (.ref p.x), some (.ref t), some (.int (a : Int))] H9 → True := fun _ _ _ _ _ _ _ _ => trivial
  rcases hT with hT | hT
  · refine .inl ⟨_, rfl, t, rfl, ⟨_, hT⟩, ?_⟩
    refine for_it (walk_list (K := K) (a := t) (xs := nts ws)) (fun j σ H9 => ∃ y : Option V, σ = [some (.ref p.x), some (.ref t), y] ∧ Same H H9) ⟨_, rfl, Same.refl _⟩ (fun j σ H9 _ ⟨_, _, s9⟩ => s9.seq hT) ?_ ?_
    · rintro j v σ H9 H10 hj ⟨y, rfl, s9⟩ ⟨rfl, hz⟩
      obtain ⟨a, ha, rfl⟩ := nts_at hz
      have la := hw a (List.mem_of_getElem? ha)
      obtain ⟨_, _, _, dx, ps, kvs, e1, e2, e3, _⟩ := hN.same s9
      dsimp only [gName]
      try simp only [L2.start, List.map_cons, List.map_nil, List.length_cons, List.length_nil, List.replicate_succ, List.replicate_zero, List.cons_append, List.nil_append, List.set_cons_succ, List.set_cons_zero, Nat.reduceAdd, Nat.reduceSub, Nat.zero_add]
      refine ⟨_, rfl, _, _, rfl, rfl, _, rfl, ?_⟩
      rw [if_pos (decide_eq_true (by omega))]
      refine ⟨_, rfl, p.x, C, dx, _, _, rfl, e1, L.T.cl, L.T.n_depths, rfl, ?_⟩
      refine ⟨p.ld, _, rfl, .inl (SqL.of e3), _, _, rfl, rfl, _, rfl, ?_⟩
      have lt : decide ((a : Int) < ((((dps m gs).map V.int).length : Nat) : Int)) = true := decide_eq_true (by rw [List.length_map, dps_len]; omega)
      rw [lt]
      refine iteF ?_
      exact ⟨_, rfl, s9⟩
    · rintro σ H9 ⟨y, rfl, s9⟩
      exact q _ s9
  · refine .inr ⟨_, rfl, t, rfl, ⟨_, hT⟩, ?_⟩
    refine for_it (walk_tup (K := K) (a := t) (xs := nts ws)) (fun j σ H9 => ∃ y : Option V, σ = [some (.ref p.x), some (.ref t), y] ∧ Same H H9) ⟨_, rfl, Same.refl _⟩ (fun j σ H9 _ ⟨_, _, s9⟩ => Same.seqT s9 hT) ?_ ?_
    · rintro j v σ H9 H10 hj ⟨y, rfl, s9⟩ ⟨rfl, hz⟩
      obtain ⟨a, ha, rfl⟩ := nts_at hz
      have la := hw a (List.mem_of_getElem? ha)
      obtain ⟨_, _, _, dx, ps, kvs, e1, e2, e3, _⟩ := hN.same s9
      dsimp only [gName]
      try simp only [L2.start, List.map_cons, List.map_nil, List.length_cons, List.length_nil, List.replicate_succ, List.replicate_zero, List.cons_append, List.nil_append, List.set_cons_succ, List.set_cons_zero, Nat.reduceAdd, Nat.reduceSub, Nat.zero_add]
      refine ⟨_, rfl, _, _, rfl, rfl, _, rfl, ?_⟩
      rw [if_pos (decide_eq_true (by omega))]
      refine ⟨_, rfl, p.x, C, dx, _, _, rfl, e1, L.T.cl, L.T.n_depths, rfl, ?_⟩
      refine ⟨p.ld, _, rfl, .inl (SqL.of e3), _, _, rfl, rfl, _, rfl, ?_⟩
      have lt : decide ((a : Int) < ((((dps m gs).map V.int).length : Nat) : Int)) = true := decide_eq_true (by rw [List.length_map, dps_len]; omega)
      rw [lt]
      refine iteF ?_
      exact ⟨_, rfl, s9⟩
    · rintro σ H9 ⟨y, rfl, s9⟩
      exact q _ s9
theorem refs_inj : ∀ {as bs : List Addr}, as.map V.ref = bs.map V.ref → as = bs
  | [], [], _ => rfl
  | [], b :: bs, h => by simp at h
  | a :: as, [], h => by simp at h
  | a :: as, b :: bs, h => by
    rw [List.map_cons, List.map_cons] at h
    injection h with h1 h2
    rw [V.ref.inj h1, refs_inj h2]
theorem NetAt.laid {C : Addr} {Z : List Addr} {H : Hp} {p : NetP} {m : Nat} {gs : List Gt} {nm : List (Str × List Nat)} {q : Addr} {g : Gt} {ps : List Addr}
    (h : NetAt C Z H p m gs nm) (eq : H q = some (.tup g.row)) (nq : q ∉ Z) (em : H p.lm = some (.lst (ps.map V.ref))) :
    NetAt C Z (upd (upd H p.lm (.lst (ps.map V.ref ++ [.ref q]))) p.ld (.lst ((dps m gs).map V.int ++ [.int (dep (dps m gs) g)]))) p m (gs ++ [g]) nm := by
  obtain ⟨a, b, ⟨c1, c2, c3, c4⟩, dx, ps', kvs, e1, e2, e3, e4, ⟨g1, g2⟩, n1, n2, n3⟩ := h
  have hps : ps' = ps := by
    rw [e2] at em
    have := HO.lst.inj (Option.some.inj em)
    exact refs_inj this
  subst hps
  have f : ∀ {y : Addr} {o : HO}, H y = some o → y ≠ p.lm → y ≠ p.ld → (upd (upd H p.lm (.lst (ps'.map V.ref ++ [.ref q]))) p.ld (.lst ((dps m gs).map V.int ++ [.int (dep (dps m gs) g)]))) y = some o := fun e x1 x2 => by
    rw [upd_ne x2, upd_ne x1]
    exact e
  have tn : ∀ {y : Addr} {xs : List V}, H y = some (.tup xs) → y ≠ p.lm ∧ y ≠ p.ld := fun e => ⟨(fun z => by rw [z, e2] at e; cases e), (fun z => by rw [z, e3] at e; cases e)⟩
  refine ⟨fun z hz => ?_, b, ⟨c1, c2, c3, c4⟩, dx, ps' ++ [q], kvs, f e1 (fun z => by rw [z, e2] at e1; cases e1) (fun z => by rw [z, e3] at e1; cases e1), ?_, ?_, f e4 (fun z => by rw [z, e2] at e4; cases e4) (fun z => by rw [z, e3] at e4; cases e4), ⟨?_, fun i r g' hi hg => ?_⟩, n1, n2, fun i k v n ws hi hn => ?_⟩
  · have z1 : z ≠ p.lm := fun y => c2 (y ▸ hz)
    have z2 : z ≠ p.ld := fun y => c3 (y ▸ hz)
    rw [upd_ne z2, upd_ne z1]
    exact a z hz
  · rw [upd_ne b, upd_same, List.map_append]
    rfl
  · rw [upd_same, dps_snoc, List.map_append]
    rfl
  · rw [List.length_append, List.length_append, g1]
    rfl
  · by_cases c : i < ps'.length
    · rw [List.getElem?_append_left c] at hi
      rw [List.getElem?_append_left (by omega)] at hg
      have := g2 i r g' hi hg
      exact ⟨this.1, f this.2 (tn this.2).1 (tn this.2).2⟩
    · have i0 : i = ps'.length := by
        have := (List.getElem?_eq_some_iff.mp hi).1
        rw [List.length_append, List.length_cons, List.length_nil] at this
        omega
      rw [List.getElem?_append_right (by omega), i0, Nat.sub_self] at hi
      rw [List.getElem?_append_right (by omega), i0, g1, Nat.sub_self] at hg
      cases hi
      cases hg
      exact ⟨nq, f eq (tn eq).1 (tn eq).2⟩
  · obtain ⟨ek, l, ev, l1, l2, l3, l4⟩ := n3 i k v n ws hi hn
    exact ⟨ek, l, ev, l1, l2, l3, f l4 l2 l3⟩
def spPutG (C : Addr) : Sp := fun vs H Q _ => ∃ (Z : List Addr) (p : NetP) (m : Nat) (gs : List Gt) (nm : List (Str × List Nat)) (q : Addr) (g : Gt), vs = [.ref p.x, .ref q, .int (dep (dps m gs) g)] ∧ NetAt C Z H p m gs nm ∧ H q = some (.tup g.row) ∧ q ∉ Z ∧ m + gs.length ≤ 500000 ∧
  ∀ H', KeepS [p.lm, p.ld] H H' → NetAt C Z H' p m (gs ++ [g]) nm → Q (.int ((m + gs.length : Nat) : Int)) H'
theorem ok_Net_put_gate (B : Bl mg) (L : LL K mg C za zl E_TooMuch I_TooMuch) : FnOk P w K mg base CX0 1 (za 51) (zl 51) ["self", "gate", "depth"] (spPutG C) := by
  refine L.F_Net_put_gate.ok sc_Net_put_gate (fun vs H Q E h => ?_) (fun cdv A outer s H vs Q E hr h => ?_)
  · obtain ⟨Z, p, m, gs, nm, q, g, rfl, _⟩ := h
    rfl
  obtain ⟨Z, p, m, gs, nm, a, g, rfl, hN, ea, na, hl, q⟩ := h
  refine ⟨_, (pss_cons (ps_expr (pe_bm PySem.F.plainAttrs_list PySem.F.slot_list_append PySem.F.type_list_append mt_append (pe_fld (pv 0) rfl) (pa_cons (pv 1) pa_nil)))
    (pss_cons (ps_expr (pe_bm PySem.F.plainAttrs_list PySem.F.slot_list_append PySem.F.type_list_append mt_append (pe_fld (pv 0) rfl) (pa_cons (pv 2) pa_nil)))
    (pss_one (ps_ret (pe_op op_sub (pe_callB call_len_seq (by rfl) B.len PySem.boot_len (pa_cons (pe_fld (pv 0) rfl) pa_nil)) pe_int))))), ?_⟩
  obtain ⟨hz, b, _, dx, ps, kvs, e1, e2, e3, e4, g0⟩ := id hN
  have lps : ps.length = gs.length := g0.1.1
  have nx : p.x ≠ p.lm := fun z => by rw [z, e2] at e1; cases e1
  have nx' : p.x ≠ p.ld := fun z => by rw [z, e3] at e1; cases e1
  refine ⟨_, rfl, p.x, C, dx, _, _, rfl, e1, L.T.cl, L.T.n_made, rfl, .inl ⟨rfl, _, SqL.of e2⟩, _, rfl, p.lm, _, _, rfl, rfl, e2, by rw [List.length_map]; exact Nat.lt_of_le_of_lt (by omega) (show 500000 < sizeLine by decide), ?_⟩
  have f1 : (upd H p.lm (.lst (ps.map V.ref ++ [.ref a]))) p.x = _ := (upd_ne nx).trans e1
  have f3 : (upd H p.lm (.lst (ps.map V.ref ++ [.ref a]))) p.ld = _ := (upd_ne b.symm).trans e3
  refine ⟨_, rfl, p.x, C, dx, _, _, rfl, f1, L.T.cl, L.T.n_depths, rfl, .inl ⟨rfl, _, SqL.of f3⟩, _, rfl, p.ld, _, _, rfl, rfl, f3, by rw [List.length_map, dps_len]; exact Nat.lt_of_le_of_lt (by omega) (show 500000 < sizeLine by decide), ?_⟩
  have f1' : (upd (upd H p.lm (.lst (ps.map V.ref ++ [.ref a]))) p.ld (.lst ((dps m gs).map V.int ++ [.int (dep (dps m gs) g)]))) p.x = _ := (upd_ne nx').trans f1
  refine ⟨_, rfl, p.x, C, dx, _, _, rfl, f1', L.T.cl, L.T.n_depths, rfl, ?_⟩
  refine ⟨p.ld, _, rfl, .inl (SqL.of upd_same), _, _, rfl, rfl, ?_⟩
  have w := q _ ⟨fun y o e n => ?_, fun y e => ?_⟩ (hN.laid ea na e2)
  · have ev : (((((dps m gs).map V.int ++ [V.int (dep (dps m gs) g)]).length : Nat) : Int) - 1) = ((m + gs.length : Nat) : Int) := by
      rw [List.length_append, List.length_map, dps_len, List.length_cons, List.length_nil]
      omega
    rw [← ev] at w
    exact w
  · simp only [List.mem_cons, List.not_mem_nil, or_false, not_or] at n
    rw [upd_ne n.2, upd_ne n.1]
    exact e
  · exact ((KeepS.upd (S := [p.lm]) (by simp)).2 y e) |> fun h => (KeepS.upd (S := [p.ld]) (by simp)).2 y h
def spFixed (C : Addr) : Sp := fun vs H Q _ => ∃ (Z : List Addr) (p : NetP) (m : Nat) (gs : List Gt) (nm : List (Str × List Nat)) (b : Nat), vs = [.ref p.x, .int (b : Int)] ∧ NetAt C Z H p m gs nm ∧ m + gs.length ≤ 500000 ∧
  ∀ H', KeepS [p.lm, p.ld] H H' → NetAt C Z H' p m (gs ++ [.fi b]) nm → Q (.int ((m + gs.length : Nat) : Int)) H'
theorem ok_Net_fixed (B : Bl mg) (L : LL K mg C za zl E_TooMuch I_TooMuch) : FnOk P w K mg base CX0 2 (za 49) (zl 49) ["self", "bit"] (spFixed C) := by
  have G_Net_put_gate : FnOk P w K mg base CX0 1 (za 51) (zl 51) ["self", "gate", "depth"] (spPutG C) := (ok_Net_put_gate B L).mono (by decide)
  refine L.F_Net_fixed.ok sc_Net_fixed (fun vs H Q E h => ?_) (fun cdv A outer s H vs Q E hr h => ?_)
  · obtain ⟨Z, p, m, gs, nm, b, rfl, _⟩ := h
    rfl
  obtain ⟨Z, p, m, gs, nm, b, rfl, hN, hl, q⟩ := h
  refine ⟨_, (pss_one (ps_ret (pe_meth (pv 0) L.T.cl L.M_Net_put_gate G_Net_put_gate hr L.b_Net_put_gate .nil pass0 (pa_cons (pe_tup (pa_cons pe_str (pa_cons (pv 1) pa_nil))) (pa_cons pe_int pa_nil))))), ?_⟩
  obtain ⟨hz, _, _, dx, _, _, e1, _⟩ := id hN
  refine ⟨_, rfl, p.x, dx, _, rfl, e1, rfl, _, rfl, (by show 2 ≤ sizeLine; decide), fun a na => ?_⟩
  have sa := same_upd (o := .tup (Gt.fi b).row) na
  refine ⟨Z, p, m, gs, nm, a, .fi b, rfl, hN.same sa, upd_same, fun z => hz a z na, hl, fun H' k N' => q H' (.trans (.ofSame sa) k) N'⟩
def spPut (K : PySem.W.Frag) (C : Addr) : Sp := fun vs H Q _ => ∃ (Z : List Addr) (p : NetP) (m : Nat) (gs : List Gt) (nm : List (Str × List Nat)) (k : Str) (t : Addr) (ws : List Nat), vs = [.ref p.x, .str k, .ref t] ∧ NetAt C Z H p m gs nm ∧ SqT K H t (nts ws) ∧ ws ≠ [] ∧ ws.length ≤ 2 ∧ (∀ a ∈ ws, a < m + gs.length) ∧ m + gs.length ≤ 500000 ∧
  ∀ H', KeepS [p.lm, p.ld] H H' → NetAt C Z H' p m (gs ++ [.w k ws]) nm → Q (.int ((m + gs.length : Nat) : Int)) H'
theorem ok_Net_put (B : Bl mg) (L : LL K mg C za zl E_TooMuch I_TooMuch) : FnOk P w K mg base CX0 3 (za 50) (zl 50) ["self", "kind", "wires"] (spPut K C) := by
  have G_Net_put_gate : FnOk P w K mg base CX0 2 (za 51) (zl 51) ["self", "gate", "depth"] (spPutG C) := (ok_Net_put_gate B L).mono (by decide)
  have G_Net_need : FnOk P w K mg base CX0 2 (za 52) (zl 52) ["self", "wires"] (spNeed K C) := (ok_Net_need B L).mono (by decide)
  refine L.F_Net_put.ok sc_Net_put (fun vs H Q E h => ?_) (fun cdv A outer s H vs Q E hr h => ?_)
  · obtain ⟨Z, p, m, gs, nm, k, t, ws, rfl, _⟩ := h
    rfl
  obtain ⟨Z, p, m, gs, nm, k, t, ws, rfl, hN, hT, w0, w2, hw, hl, q⟩ := h
  refine ⟨_, (pss_cons (ps_expr (pe_meth (pv 0) L.T.cl L.M_Net_need G_Net_need hr L.b_Net_need .nil pass0 (pa_cons (pv 2) pa_nil)))
    (pss_cons (ps_set (i := 3) sc_Net_put.nd rfl (.inl rfl) (pe_op op_add pe_int (pe_callB (cr_max rfl) (by rfl) B.max boot_max (pa_cons (pe_lc (own := [("wire", 4)]) (by rfl) sc_Net_put.nd (pi_tup (pv 2)) (blkOk_by (own := [("wire", 4)]) (N := ["self", "kind", "wires", "depth", "wire"]) (sc := defScope s_Net_put) (by decide +kernel)) (fun _ _ _ _ _ => pg_name (i := 4) sc_Net_put.nd rfl (Or.inl rfl)) (fun _ _ _ _ _ => pts_nil) (fun _ _ _ _ _ => (pe_ix (ix_listK (K := K)) (pe_fldK (K := K) (pv 0) rfl) (pv 4) (fun _ _ => rfl)))) pa_nil))))
    (pss_one (ps_ret (pe_meth (pv 0) L.T.cl L.M_Net_put_gate G_Net_put_gate hr L.b_Net_put_gate .nil pass0 (pa_cons (pe_tup (pa_cons (pv 1) (StX.pa_star (pv 2) pa_nil))) (pa_cons (pv 3) pa_nil))))))), ?_⟩
  obtain ⟨hz, _, _, dx, _, _, e1, _⟩ := id hN
  refine ⟨_, rfl, p.x, dx, _, rfl, e1, rfl, _, rfl, Z, p, m, gs, nm, t, ws, rfl, hN, .inr hT, hw, fun H1 s1 => ?_⟩
  have N1 := hN.same s1
  obtain ⟨_, _, _, _, ps, kvs, f1, f2, f3, _⟩ := id N1
  have hT1 := Same.seqT s1 hT
  refine ⟨_, rfl, t, rfl, ⟨_, hT1⟩, fun D nD => ?_⟩
  refine lc_it (walk_tup (K := K) (a := t) (xs := nts ws)) (fun i H9 => Same H1 H9 ∧ H9 D = some (.lst ((ws.take i).map fun a => V.int ((dps m gs).getD a 0)))) ⟨same_upd nD, upd_same⟩ (fun i H9 _ ⟨s9, _⟩ => Same.seqT s9 hT1) ?_ ?_
  · rintro j z H9 H10 hj ⟨s9, eD⟩ ⟨rfl, hz⟩
    obtain ⟨a, ha, rfl⟩ := nts_at hz
    have la := hw a (List.mem_of_getElem? ha)
    refine ⟨rfl, yesT ?_⟩
    have e1' := s9 _ _ f1
    have e3' := s9 _ _ f3
    have hat : atI ((dps m gs).map V.int) (a : Int) = some (.int ((dps m gs).getD a 0)) := atI_nat (by
      rw [List.getElem?_map, List.getElem?_eq_getElem (by rw [dps_len]; exact la)]
      simp [List.getD, List.getElem?_eq_getElem (show a < (dps m gs).length by rw [dps_len]; exact la)])
    refine ⟨_, rfl, p.x, C, _, _, _, rfl, e1', L.T.cl, L.T.n_depths, rfl, _, rfl, p.ld, _, _, _, rfl, rfl, SqL.of e3', hat, ?_⟩
    refine ⟨_, eD, ?_, fun y u e => ?_, ?_⟩
    · rw [List.length_map, List.length_take]
      exact Nat.lt_of_le_of_lt (Nat.min_le_right _ _) (small1000 (by omega))
    · rw [upd_ne (ne_of_none e nD)]
      exact s9 _ _ e
    · rw [upd_same, List.take_add_one, ha, List.map_append]
      rfl
  rintro H2 ⟨s2, eD⟩
  rw [nts_len, List.take_length] at eD
  have mx1 : ∀ y ∈ ws.map (fun a => (dps m gs).getD a 0), 0 ≤ y := fun y hy => by
    obtain ⟨a, ha, rfl⟩ := List.mem_map.mp hy
    have la := hw a ha
    have := dps_nn m gs ((dps m gs)[a]'(by rw [dps_len]; exact la)) (List.getElem_mem _)
    simp only [List.getD, List.getElem?_eq_getElem (show a < (dps m gs).length by rw [dps_len]; exact la), Option.getD_some]
    exact this
  refine ⟨D, ws.map (fun a => (dps m gs).getD a 0), rfl, SqL.of (by rw [List.map_map]; exact eD), by rw [List.length_map]; exact List.length_pos_iff.mpr w0, fun M hM hL => ?_⟩
  have eM := mx_is hM hL mx1
  refine ⟨_, _, rfl, rfl, ?_⟩
  try simp only [L2.start, List.map_cons, List.map_nil, List.length_cons, List.length_nil, List.replicate_succ, List.replicate_zero, List.cons_append, List.nil_append, List.set_cons_succ, List.set_cons_zero, Nat.reduceAdd, Nat.reduceSub, Nat.zero_add]
  have e1' := s2 _ _ f1
  have hT2 := Same.seqT s2 hT1
  refine ⟨_, rfl, p.x, _, _, rfl, e1', rfl, ?_⟩
  try simp only [L2.start, List.map_cons, List.map_nil, List.length_cons, List.length_nil, List.replicate_succ, List.replicate_zero, List.cons_append, List.nil_append, List.set_cons_succ, List.set_cons_zero, Nat.reduceAdd, Nat.reduceSub, Nat.zero_add]
  refine ⟨_, rfl, _, rfl, t, _, rfl, .inl hT2, ?_⟩
  dsimp only [tNil]
  rw [List.append_nil]
  refine ⟨by rw [List.length_cons, nts_len]; exact Nat.le_trans (show ws.length + 1 ≤ 3 by omega) (by decide), fun g ng => ?_⟩
  have sg := same_upd (o := .tup (Gt.w k ws).row) ng
  have ed : (1 + M : Int) = dep (dps m gs) (.w k ws) := by
    show _ = 1 + mx _
    rw [eM]
  have N2 := (N1.same s2).same sg
  refine ⟨_, rfl, Z, p, m, gs, nm, g, .w k ws, by rw [ed]; rfl, N2, upd_same, fun z => N1.1 g z (by
    cases e : H1 g with
    | none => rfl
    | some o =>
      rw [s2 _ _ e] at ng
      cases ng), hl, fun H' k' N' => q H' (.trans (.ofSame ((s1.trans s2).trans sg)) k') N'⟩
def spG2 (C : Addr) (k : Str) : Sp := fun vs H Q _ => ∃ (Z : List Addr) (p : NetP) (m : Nat) (gs : List Gt) (nm : List (Str × List Nat)) (a b : Nat), vs = [.ref p.x, .int (a : Int), .int (b : Int)] ∧ NetAt C Z H p m gs nm ∧ a < m + gs.length ∧ b < m + gs.length ∧ m + gs.length ≤ 500000 ∧
  ∀ H', KeepS [p.lm, p.ld] H H' → NetAt C Z H' p m (gs ++ [.w k [a, b]]) nm → Q (.int ((m + gs.length : Nat) : Int)) H'
theorem ok_Net_both (B : Bl mg) (L : LL K mg C za zl E_TooMuch I_TooMuch) : FnOk P w K mg base CX0 4 (za 45) (zl 45) ["self", "a", "b"] (spG2 C "both") := by
  have G_Net_put : FnOk P w K mg base CX0 3 (za 50) (zl 50) ["self", "kind", "wires"] (spPut K C) := (ok_Net_put B L).mono (by decide)
  refine L.F_Net_both.ok sc_Net_both (fun vs H Q E h => ?_) (fun cdv A outer s H vs Q E hr h => ?_)
  · obtain ⟨Z, p, m, gs, nm, a, b, rfl, _⟩ := h
    rfl
  obtain ⟨Z, p, m, gs, nm, a, b, rfl, hN, ha, hb, hl, q⟩ := h
  refine ⟨_, (pss_one (ps_ret (pe_meth (pv 0) L.T.cl L.M_Net_put G_Net_put hr L.b_Net_put .nil pass0 (pa_cons pe_str (pa_cons (pe_tup (pa_cons (pv 1) (pa_cons (pv 2) pa_nil))) pa_nil))))), ?_⟩
  obtain ⟨hz, _, _, dx, _, _, e1, _⟩ := id hN
  refine ⟨_, rfl, p.x, dx, _, rfl, e1, rfl, _, rfl, _, rfl, (by show 2 ≤ sizeLine; decide), fun t nt => ?_⟩
  have st := same_upd (o := .tup [.int (a : Int), .int (b : Int)]) nt
  refine ⟨Z, p, m, gs, nm, "both", t, [a, b], rfl, hN.same st, .inl (.inl upd_same), (fun z => nomatch z), (Nat.le_of_ble_eq_true rfl), fun x hx => ?_, hl, fun H' k N' => q H' (.trans (.ofSame st) k) N'⟩
  simp only [List.mem_cons, List.not_mem_nil, or_false] at hx
  rcases hx with z | z <;> rw [z] <;> assumption
theorem ok_Net_either (B : Bl mg) (L : LL K mg C za zl E_TooMuch I_TooMuch) : FnOk P w K mg base CX0 4 (za 46) (zl 46) ["self", "a", "b"] (spG2 C "either") := by
  have G_Net_put : FnOk P w K mg base CX0 3 (za 50) (zl 50) ["self", "kind", "wires"] (spPut K C) := (ok_Net_put B L).mono (by decide)
  refine L.F_Net_either.ok sc_Net_either (fun vs H Q E h => ?_) (fun cdv A outer s H vs Q E hr h => ?_)
  · obtain ⟨Z, p, m, gs, nm, a, b, rfl, _⟩ := h
    rfl
  obtain ⟨Z, p, m, gs, nm, a, b, rfl, hN, ha, hb, hl, q⟩ := h
  refine ⟨_, (pss_one (ps_ret (pe_meth (pv 0) L.T.cl L.M_Net_put G_Net_put hr L.b_Net_put .nil pass0 (pa_cons pe_str (pa_cons (pe_tup (pa_cons (pv 1) (pa_cons (pv 2) pa_nil))) pa_nil))))), ?_⟩
  obtain ⟨hz, _, _, dx, _, _, e1, _⟩ := id hN
  refine ⟨_, rfl, p.x, dx, _, rfl, e1, rfl, _, rfl, _, rfl, (by show 2 ≤ sizeLine; decide), fun t nt => ?_⟩
  have st := same_upd (o := .tup [.int (a : Int), .int (b : Int)]) nt
  refine ⟨Z, p, m, gs, nm, "either", t, [a, b], rfl, hN.same st, .inl (.inl upd_same), (fun z => nomatch z), (Nat.le_of_ble_eq_true rfl), fun x hx => ?_, hl, fun H' k N' => q H' (.trans (.ofSame st) k) N'⟩
  simp only [List.mem_cons, List.not_mem_nil, or_false] at hx
  rcases hx with z | z <;> rw [z] <;> assumption
theorem ok_Net_unlike (B : Bl mg) (L : LL K mg C za zl E_TooMuch I_TooMuch) : FnOk P w K mg base CX0 4 (za 47) (zl 47) ["self", "a", "b"] (spG2 C "unlike") := by
  have G_Net_put : FnOk P w K mg base CX0 3 (za 50) (zl 50) ["self", "kind", "wires"] (spPut K C) := (ok_Net_put B L).mono (by decide)
  refine L.F_Net_unlike.ok sc_Net_unlike (fun vs H Q E h => ?_) (fun cdv A outer s H vs Q E hr h => ?_)
  · obtain ⟨Z, p, m, gs, nm, a, b, rfl, _⟩ := h
    rfl
  obtain ⟨Z, p, m, gs, nm, a, b, rfl, hN, ha, hb, hl, q⟩ := h
  refine ⟨_, (pss_one (ps_ret (pe_meth (pv 0) L.T.cl L.M_Net_put G_Net_put hr L.b_Net_put .nil pass0 (pa_cons pe_str (pa_cons (pe_tup (pa_cons (pv 1) (pa_cons (pv 2) pa_nil))) pa_nil))))), ?_⟩
  obtain ⟨hz, _, _, dx, _, _, e1, _⟩ := id hN
  refine ⟨_, rfl, p.x, dx, _, rfl, e1, rfl, _, rfl, _, rfl, (by show 2 ≤ sizeLine; decide), fun t nt => ?_⟩
  have st := same_upd (o := .tup [.int (a : Int), .int (b : Int)]) nt
  refine ⟨Z, p, m, gs, nm, "unlike", t, [a, b], rfl, hN.same st, .inl (.inl upd_same), (fun z => nomatch z), (Nat.le_of_ble_eq_true rfl), fun x hx => ?_, hl, fun H' k N' => q H' (.trans (.ofSame st) k) N'⟩
  simp only [List.mem_cons, List.not_mem_nil, or_false] at hx
  rcases hx with z | z <;> rw [z] <;> assumption
def spG1 (C : Addr) : Sp := fun vs H Q _ => ∃ (Z : List Addr) (p : NetP) (m : Nat) (gs : List Gt) (nm : List (Str × List Nat)) (a : Nat), vs = [.ref p.x, .int (a : Int)] ∧ NetAt C Z H p m gs nm ∧ a < m + gs.length ∧ m + gs.length ≤ 500000 ∧
  ∀ H', KeepS [p.lm, p.ld] H H' → NetAt C Z H' p m (gs ++ [.w "other" [a]]) nm → Q (.int ((m + gs.length : Nat) : Int)) H'
theorem ok_Net_other (B : Bl mg) (L : LL K mg C za zl E_TooMuch I_TooMuch) : FnOk P w K mg base CX0 4 (za 48) (zl 48) ["self", "a"] (spG1 C) := by
  have G_Net_put : FnOk P w K mg base CX0 3 (za 50) (zl 50) ["self", "kind", "wires"] (spPut K C) := (ok_Net_put B L).mono (by decide)
  refine L.F_Net_other.ok sc_Net_other (fun vs H Q E h => ?_) (fun cdv A outer s H vs Q E hr h => ?_)
  · obtain ⟨Z, p, m, gs, nm, a, rfl, _⟩ := h
    rfl
  obtain ⟨Z, p, m, gs, nm, a, rfl, hN, ha, hl, q⟩ := h
  refine ⟨_, (pss_one (ps_ret (pe_meth (pv 0) L.T.cl L.M_Net_put G_Net_put hr L.b_Net_put .nil pass0 (pa_cons pe_str (pa_cons (pe_tup (pa_cons (pv 1) pa_nil)) pa_nil))))), ?_⟩
  obtain ⟨hz, _, _, dx, _, _, e1, _⟩ := id hN
  refine ⟨_, rfl, p.x, dx, _, rfl, e1, rfl, _, rfl, (by show 1 ≤ sizeLine; decide), fun t nt => ?_⟩
  have st := same_upd (o := .tup [.int (a : Int)]) nt
  refine ⟨Z, p, m, gs, nm, "other", t, [a], rfl, hN.same st, .inl (.inl upd_same), (fun z => nomatch z), (Nat.le_of_ble_eq_true rfl), fun x hx => ?_, hl, fun H' k N' => q H' (.trans (.ofSame st) k) N'⟩
  rw [List.mem_singleton.mp hx]
  exact ha
end
section
variable {P : Program} {w : World} {K : PySem.W.Frag} {mg : Str → Option Value} {base : Heap}
variable {C : Addr} {za : Nat → Addr} {zl : Nat → FuncData} {E_TooMuch I_TooMuch : Addr}
/-! ### names of a net -/
theorem NmAt.keys {Z : List Addr} {H : Hp} {p : NetP} {kvs : List (Key × V)} {nm : List (Str × List Nat)} (h : NmAt Z H p kvs nm) : kvs.map (·.1) = nm.map fun x => (Sum.inr x.1 : Key) := by
  obtain ⟨h1, h2, h3⟩ := h
  refine List.ext_getElem? fun i => ?_
  rw [List.getElem?_map, List.getElem?_map]
  by_cases c : i < kvs.length
  · have c' : i < nm.length := by omega
    rw [List.getElem?_eq_getElem c, List.getElem?_eq_getElem c']
    have := (h3 i kvs[i].1 kvs[i].2 nm[i].1 nm[i].2 (List.getElem?_eq_getElem c) (List.getElem?_eq_getElem c')).1
    show some kvs[i].1 = some _
    rw [this]
  · rw [List.getElem?_eq_none (by omega), List.getElem?_eq_none (by omega)]
    rfl
theorem valV_out {kvs : List (Key × V)} {k : Key} (h : k ∉ kvs.map (·.1)) : valV kvs k = none := by
  have e := valV_any k kvs
  cases q : valV kvs k with
  | none => rfl
  | some v =>
    rw [q] at e
    obtain ⟨x, hx, hd⟩ := List.any_eq_true.mp e
    exact absurd (List.mem_map.mpr ⟨x, hx, of_decide_eq_true hd⟩) h
theorem valV_at : ∀ {kvs : List (Key × V)} {i : Nat} {k : Key} {v : V}, (kvs.map (·.1)).Nodup → kvs[i]? = some (k, v) → valV kvs k = some v
  | [], i, k, v, _, h => by simp at h
  | q :: kvs, 0, k, v, _, h => by
    cases Option.some.inj h
    exact valV_pos rfl
  | q :: kvs, i + 1, k, v, hn, h => by
    rw [List.map_cons, List.nodup_cons] at hn
    have h' : kvs[i]? = some (k, v) := h
    have : k ∈ kvs.map (·.1) := List.mem_map.mpr ⟨_, List.mem_of_getElem? h', rfl⟩
    rw [valV_neg (fun z => hn.1 (z ▸ this))]
    exact valV_at hn.2 h'
theorem NmAt.nodup {Z : List Addr} {H : Hp} {p : NetP} {kvs : List (Key × V)} {nm : List (Str × List Nat)} (h : NmAt Z H p kvs nm) : (kvs.map (·.1)).Nodup := by
  rw [h.keys]
  have := h.2.1
  rw [show (nm.map fun x => (Sum.inr x.1 : Key)) = (nm.map (·.1)).map Sum.inr from by rw [List.map_map]; rfl]
  exact List.Pairwise.map _ (fun a b n z => n (Sum.inr.inj z)) this
theorem NmAt.out {Z : List Addr} {H : Hp} {p : NetP} {kvs : List (Key × V)} {nm : List (Str × List Nat)} {n : Str} (h : NmAt Z H p kvs nm) (hn : n ∉ nm.map (·.1)) : valV kvs (.inr n) = none := by
  refine valV_out ?_
  rw [h.keys]
  intro z
  obtain ⟨x, hx, e⟩ := List.mem_map.mp z
  exact hn (List.mem_map.mpr ⟨x, hx, Sum.inr.inj e⟩)
theorem NmAt.in_ {Z : List Addr} {H : Hp} {p : NetP} {kvs : List (Key × V)} {nm : List (Str × List Nat)} {i : Nat} {n : Str} {ws : List Nat} (h : NmAt Z H p kvs nm) (hn : nm[i]? = some (n, ws)) : ∃ l, valV kvs (.inr n) = some (.ref l) ∧ H l = some (.lst (nts ws)) := by
  have c : i < kvs.length := by
    have := (List.getElem?_eq_some_iff.mp hn).1
    rw [h.1]
    exact this
  obtain ⟨ek, l, ev, _, _, _, el⟩ := h.2.2 i kvs[i].1 kvs[i].2 n ws (List.getElem?_eq_getElem c) hn
  refine ⟨l, ?_, el⟩
  rw [← ev, ← ek]
  exact valV_at h.nodup (List.getElem?_eq_getElem c)
def spGive (K : PySem.W.Frag) (C : Addr) : Sp := fun vs H Q _ => ∃ (Z : List Addr) (p : NetP) (m : Nat) (gs : List Gt) (nm : List (Str × List Nat)) (n : Str) (t : Addr) (ws : List Nat), vs = [.ref p.x, .str n, .ref t] ∧ NetAt C Z H p m gs nm ∧ n ∉ nm.map (·.1) ∧ (SqL K H t (nts ws) ∨ SqT K H t (nts ws)) ∧ (∀ a ∈ ws, a < m + gs.length) ∧ nm.length ≤ 900 ∧
  ∀ H', KeepS [p.dn] H H' → NetAt C Z H' p m gs (nm ++ [(n, ws)]) → Q .non H'
theorem ok_Net_give (B : Bl mg) (L : LL K mg C za zl E_TooMuch I_TooMuch) : FnOk P w K mg base CX0 2 (za 53) (zl 53) ["self", "name", "wires"] (spGive K C) := by
  have G_Net_need : FnOk P w K mg base CX0 1 (za 52) (zl 52) ["self", "wires"] (spNeed K C) := (ok_Net_need B L).mono (by decide)
  refine L.F_Net_give.ok sc_Net_give (fun vs H Q E h => ?_) (fun cdv A outer s H vs Q E hr h => ?_)
  · obtain ⟨Z, p, m, gs, nm, n, t, ws, rfl, _⟩ := h
    rfl
  obtain ⟨Z, p, m, gs, nm, n, t, ws, rfl, hN, hn, hT, hw, hl, q⟩ := h
  refine ⟨_, (pss_cons (ps_if (pt_cmp (pc_din (units1 hr) (pv 1) (pe_fld (pv 0) rfl)) (by rfl)) (pss_one ps_never) pss_nil)
    (pss_cons (ps_expr (pe_meth (pv 0) L.T.cl L.M_Net_need G_Net_need hr L.b_Net_need .nil pass0 (pa_cons (pv 2) pa_nil)))
    (pss_one (ps_dput (units1 hr) (pe_fld (pv 0) rfl) (pv 1) (pe_callTy call_list_of (by rfl) B.list PyProof.Rows.boot_list (pa_cons (pv 2) pa_nil)) rfl)))), ?_⟩
  obtain ⟨hz, hb, _, dx, ps, kvs, e1, e2, e3, e4, g0, n0⟩ := id hN
  refine ⟨_, rfl, _, rfl, p.x, C, dx, _, _, rfl, e1, L.T.cl, L.T.n_by_name, rfl, p.dn, _, rfl, DGet.k (k := .inr n) e4, ?_⟩
  rw [n0.out hn]
  refine ⟨_, rfl, iteF ?_⟩
  dsimp only [tNext]
  refine ⟨_, rfl, p.x, dx, _, rfl, e1, rfl, _, rfl, Z, p, m, gs, nm, t, ws, rfl, hN, hT, hw, fun H1 s1 => ?_⟩
  have N1 := hN.same s1
  obtain ⟨_, _, ⟨c1, c2, c3, c4⟩, dx1, ps1, kvs1, f1, f2, f3, f4, g1, n1⟩ := id N1
  have hT1 : SqL K H1 t (nts ws) ∨ SqT K H1 t (nts ws) := hT.elim (fun y => .inl (s1.seq y)) (fun y => .inr (Same.seqT s1 y))
  refine ⟨_, rfl, t, _, rfl, hT1, fun l nl => ?_⟩
  have sl := same_upd (o := .lst (nts ws)) nl
  refine ⟨_, rfl, p.x, C, dx1, _, _, rfl, sl _ _ f1, L.T.cl, L.T.n_by_name, rfl, _, rfl, p.dn, _, rfl, DPut.k (k := .inr n) (sl _ _ f4) (by rw [n1.1]; exact Nat.lt_of_le_of_lt hl (by decide)), ?_⟩
  rw [putK_new _ (n1.out hn)]
  have nlZ : l ∉ Z := fun z => N1.1 l z nl
  have nlm : l ≠ p.lm := (ne_of_none f2 nl).symm
  have nld : l ≠ p.ld := (ne_of_none f3 nl).symm
  have nln : l ≠ p.dn := (ne_of_none f4 nl).symm
  have N2 := N1.same sl
  have k2 : KeepS [p.dn] (upd H1 l (.lst (nts ws))) (upd (upd H1 l (.lst (nts ws))) p.dn (.dK (kvs1 ++ [(.inr n, .ref l)]))) := .upd (by simp)
  refine q _ ((KeepS.ofSame (s1.trans sl)).trans k2) ?_
  have fr : ∀ {y : Addr} {o : HO}, (upd H1 l (.lst (nts ws))) y = some o → y ≠ p.dn → (upd (upd H1 l (.lst (nts ws))) p.dn (.dK (kvs1 ++ [(.inr n, .ref l)]))) y = some o := fun e z => by
    rw [upd_ne z]
    exact e
  have g4 := sl _ _ f4
  refine ⟨fun z hz' => k2.2 z (N2.1 z hz'), hb, ⟨c1, c2, c3, c4⟩, dx1, ps1, kvs1 ++ [(.inr n, .ref l)], fr (sl _ _ f1) (fun z => by rw [z, f4] at f1; cases f1), fr (sl _ _ f2) (fun z => by rw [z, f4] at f2; cases f2), fr (sl _ _ f3) (fun z => by rw [z, f4] at f3; cases f3), upd_same, ⟨g1.1, fun i r g' hi hg => ?_⟩, ?_⟩
  · have := g1.2 i r g' hi hg
    exact ⟨this.1, fr (sl _ _ this.2) (fun z => by
      have := this.2
      rw [z, f4] at this
      cases this)⟩
  · refine ⟨by rw [List.length_append, List.length_append, n1.1]; rfl, ?_, fun i k v n' ws' hi hn' => ?_⟩
    · rw [List.map_append, List.nodup_append]
      refine ⟨n1.2.1, by simp, fun a ha b hb' => ?_⟩
      have hb' : b = n := by simpa using hb'
      rw [hb']
      exact fun z => hn (z ▸ ha)
    · by_cases c : i < kvs1.length
      · rw [List.getElem?_append_left c] at hi
        rw [List.getElem?_append_left (by rw [← n1.1]; exact c)] at hn'
        obtain ⟨ek, l', ev, l1, l2, l3, l4⟩ := n1.2.2 i k v n' ws' hi hn'
        exact ⟨ek, l', ev, l1, l2, l3, fr (sl _ _ l4) (fun z => by rw [z, f4] at l4; cases l4)⟩
      · have i0 : i = kvs1.length := by
          have := (List.getElem?_eq_some_iff.mp hi).1
          rw [List.length_append, List.length_cons, List.length_nil] at this
          omega
        rw [List.getElem?_append_right (by omega), i0, Nat.sub_self] at hi
        rw [List.getElem?_append_right (by rw [i0, n1.1]; exact Nat.le_refl _), i0, n1.1, Nat.sub_self] at hn'
        cases hi
        cases hn'
        exact ⟨rfl, l, rfl, nlZ, nlm, nld, fr upd_same nln⟩
def spGiven (C : Addr) : Sp := fun vs H Q _ => ∃ (Z : List Addr) (p : NetP) (m : Nat) (gs : List Gt) (nm : List (Str × List Nat)) (i : Nat) (n : Str) (ws : List Nat), vs = [.ref p.x, .str n] ∧ NetAt C Z H p m gs nm ∧ nm[i]? = some (n, ws) ∧
  ∀ t, H t = none → Q (.ref t) (upd H t (.lst (nts ws)))
theorem ok_Net_given (B : Bl mg) (L : LL K mg C za zl E_TooMuch I_TooMuch) : FnOk P w K mg base CX0 1 (za 54) (zl 54) ["self", "name"] (spGiven C) := by
  refine L.F_Net_given.ok sc_Net_given (fun vs H Q E h => ?_) (fun cdv A outer s H vs Q E hr h => ?_)
  · obtain ⟨Z, p, m, gs, nm, i, n, ws, rfl, _⟩ := h
    rfl
  obtain ⟨Z, p, m, gs, nm, i, n, ws, rfl, hN, hn, q⟩ := h
  refine ⟨_, (pss_cons (ps_if (pt_cmp (pc_dnotin (units1 hr) (pv 1) (pe_fld (pv 0) rfl)) (by rfl)) (pss_one ps_never) pss_nil)
    (pss_one (ps_ret (pe_callTy call_list_of (by rfl) B.list PyProof.Rows.boot_list (pa_cons (pe_dget (units1 hr) (pe_fld (pv 0) rfl) (pv 1) (fun _ _ => rfl)) pa_nil))))), ?_⟩
  obtain ⟨hz, hb, _, dx, ps, kvs, e1, e2, e3, e4, g0, n0⟩ := id hN
  obtain ⟨l, ev, el⟩ := n0.in_ hn
  refine ⟨_, rfl, _, rfl, p.x, C, dx, _, _, rfl, e1, L.T.cl, L.T.n_by_name, rfl, p.dn, _, rfl, DGet.k (k := .inr n) e4, ?_⟩
  rw [ev]
  refine ⟨_, rfl, iteF ?_⟩
  dsimp only [tNext]
  refine ⟨_, rfl, p.x, C, dx, _, _, rfl, e1, L.T.cl, L.T.n_by_name, rfl, _, rfl, p.dn, .ref l, rfl, ?_, ?_⟩
  · rw [← ev]
    exact DGet.k (k := .inr n) e4
  exact ⟨l, _, rfl, .inl (SqL.of el), fun t nt => q t nt⟩
def spNames (C : Addr) : Sp := fun vs H Q _ => ∃ (Z : List Addr) (p : NetP) (m : Nat) (gs : List Gt) (nm : List (Str × List Nat)), vs = [.ref p.x] ∧ NetAt C Z H p m gs nm ∧ nm.length < 64 ∧
  ∀ (ys : List Str) (t : Addr) (H' : Hp), ys.Perm (nm.map (·.1)) → sortedS ys = true → Same H H' → H t = none → H' t = some (.lst (ys.map V.str)) → Q (.ref t) H'
theorem ok_Net_names (B : Bl mg) (L : LL K mg C za zl E_TooMuch I_TooMuch) : FnOk P w K mg base CX0 1 (za 55) (zl 55) ["self"] (spNames C) := by
  refine L.F_Net_names.ok sc_Net_names (fun vs H Q E h => ?_) (fun cdv A outer s H vs Q E hr h => ?_)
  · obtain ⟨Z, p, m, gs, nm, rfl, _⟩ := h
    rfl
  obtain ⟨Z, p, m, gs, nm, rfl, hN, hl, q⟩ := h
  refine ⟨_, (pss_one (ps_ret (pe_callB cr_sortedS (by rfl) L.z_sorted boot_sorted (pa_cons (pe_callTy (call_listD rfl) (by rfl) B.list PyProof.Rows.boot_list (pa_cons (pe_fld (pv 0) rfl) pa_nil)) pa_nil)))), ?_⟩
  obtain ⟨hz, hb, _, dx, ps, kvs, e1, e2, e3, e4, g0, n0⟩ := id hN
  refine ⟨_, rfl, p.x, C, dx, _, _, rfl, e1, L.T.cl, L.T.n_by_name, rfl, p.dn, kvs, rfl, .inl e4, fun l nl => ?_⟩
  have ek : (kvs.map fun kv => kV kv.1) = (nm.map (·.1)).map V.str := by
    rw [show (kvs.map fun kv => kV kv.1) = (kvs.map (·.1)).map kV from by rw [List.map_map]; rfl, n0.keys, List.map_map, List.map_map]
    rfl
  rw [ek]
  have sl := same_upd (o := .lst ((nm.map (·.1)).map V.str)) nl
  refine ⟨l, _, rfl, SqL.of upd_same, by rw [List.length_map]; exact hl, fun ys t hp hs nt => ?_⟩
  refine q ys t _ hp hs (sl.trans (same_upd nt)) ?_ upd_same
  cases e : H t with
  | none => rfl
  | some o =>
    rw [sl _ _ e] at nt
    cases nt
def spInputs (C : Addr) : Sp := fun vs H Q _ => ∃ (Z : List Addr) (p : NetP) (m : Nat) (gs : List Gt) (nm : List (Str × List Nat)), vs = [.ref p.x] ∧ NetAt C Z H p m gs nm ∧ Q (.int (m : Int)) H
theorem ok_Net_inputs (B : Bl mg) (L : LL K mg C za zl E_TooMuch I_TooMuch) : FnOk P w K mg base CX0 1 (za 56) (zl 56) ["self"] (spInputs C) := by
  refine L.F_Net_inputs.ok sc_Net_inputs (fun vs H Q E h => ?_) (fun cdv A outer s H vs Q E hr h => ?_)
  · obtain ⟨Z, p, m, gs, nm, rfl, _⟩ := h
    rfl
  obtain ⟨Z, p, m, gs, nm, rfl, hN, q⟩ := h
  refine ⟨_, (pss_one (ps_ret (pe_fld (pv 0) rfl))), ?_⟩
  obtain ⟨hz, hb, _, dx, ps, kvs, e1, _⟩ := id hN
  exact ⟨_, rfl, p.x, C, dx, _, _, rfl, e1, L.T.cl, L.T.n_input_count, rfl, q⟩
def spGates (C : Addr) : Sp := fun vs H Q _ => ∃ (Z : List Addr) (p : NetP) (m : Nat) (gs : List Gt) (nm : List (Str × List Nat)), vs = [.ref p.x] ∧ NetAt C Z H p m gs nm ∧
  ∀ (t : Addr) (ps : List Addr) , H t = none → ps.length = gs.length → (∀ (i : Nat) (r : Addr) (g : Gt), ps[i]? = some r → gs[i]? = some g → H r = some (.tup g.row)) → Q (.ref t) (upd H t (.lst (ps.map V.ref)))
theorem ok_Net_gates (B : Bl mg) (L : LL K mg C za zl E_TooMuch I_TooMuch) : FnOk P w K mg base CX0 1 (za 57) (zl 57) ["self"] (spGates C) := by
  refine L.F_Net_gates.ok sc_Net_gates (fun vs H Q E h => ?_) (fun cdv A outer s H vs Q E hr h => ?_)
  · obtain ⟨Z, p, m, gs, nm, rfl, _⟩ := h
    rfl
  obtain ⟨Z, p, m, gs, nm, rfl, hN, q⟩ := h
  refine ⟨_, (pss_one (ps_ret (pe_callTy call_list_of (by rfl) B.list PyProof.Rows.boot_list (pa_cons (pe_fld (pv 0) rfl) pa_nil)))), ?_⟩
  obtain ⟨hz, hb, _, dx, ps, kvs, e1, e2, e3, e4, g0, n0⟩ := id hN
  exact ⟨_, rfl, p.x, C, dx, _, _, rfl, e1, L.T.cl, L.T.n_made, rfl, p.lm, _, rfl, .inl (SqL.of e2), fun t nt => q t ps nt g0.1 (fun i r g hi hg => (g0.2 i r g hi hg).2)⟩
end
section
variable {P : Program} {w : World} {K : PySem.W.Frag} {mg : Str → Option Value} {base : Heap}
variable {C : Addr} {za : Nat → Addr} {zl : Nat → FuncData} {E_TooMuch I_TooMuch : Addr}
theorem big_lt0 {n : Nat} (h : n ≤ 500000) : n < sizeLine := Nat.lt_of_le_of_lt h (by decide)
/-! ### bits -/
def tb (x : Int) (k : Nat) : Int := x / 2 ^ k % 2
theorem tb_01 (x : Int) (k : Nat) : tb x k = 0 ∨ tb x k = 1 := by
  unfold tb
  omega
theorem tb_succ (x : Int) (k : Nat) : tb x (k + 1) = tb (x / 2) k := by
  unfold tb
  rw [Int.ediv_ediv_of_nonneg (by decide)]
  rw [show (2 : Int) * 2 ^ k = 2 ^ (k + 1) from by rw [GM.pow_s, Int.mul_comm]]
theorem tb_zero (x : Int) : tb x 0 = x % 2 := by
  unfold tb
  rw [Int.pow_zero, Int.ediv_one]
theorem and_bit {a b : Int} (ha : a = 0 ∨ a = 1) (hb : b = 0 ∨ b = 1) : Builtin.bitAnd a b = if a = 1 ∧ b = 1 then 1 else 0 := by
  rcases ha with rfl | rfl <;> rcases hb with rfl | rfl <;> decide
theorem tb_and : ∀ (k : Nat) (x y : Int), tb (Builtin.bitAnd x y) k = Builtin.bitAnd (tb x k) (tb y k)
  | 0, x, y => by
    rw [tb_zero, tb_zero, tb_zero, PySem.W.kbt_halves, and_bit (a := x % 2) (b := y % 2) (by omega) (by omega)]
    split <;> omega
  | k + 1, x, y => by
    rw [tb_succ, tb_succ, tb_succ, ← tb_and k]
    congr 1
    rw [PySem.W.kbt_halves]
    split <;> omega
theorem or_halves (x y : Int) : Builtin.bitOr x y = 2 * Builtin.bitOr (x / 2) (y / 2) + (if x % 2 = 1 ∨ y % 2 = 1 then 1 else 0) := by
  rw [PyProof.Rows.bitOr_and, PyProof.Rows.bitOr_and, PySem.W.kbt_halves]
  split <;> split <;> omega
theorem or_bit {a b : Int} (ha : a = 0 ∨ a = 1) (hb : b = 0 ∨ b = 1) : Builtin.bitOr a b = if a = 1 ∨ b = 1 then 1 else 0 := by
  rcases ha with rfl | rfl <;> rcases hb with rfl | rfl <;> decide
theorem tb_or : ∀ (k : Nat) (x y : Int), tb (Builtin.bitOr x y) k = Builtin.bitOr (tb x k) (tb y k)
  | 0, x, y => by
    rw [tb_zero, tb_zero, tb_zero, or_halves, or_bit (a := x % 2) (b := y % 2) (by omega) (by omega)]
    split <;> omega
  | k + 1, x, y => by
    rw [tb_succ, tb_succ, tb_succ, ← tb_or k]
    congr 1
    rw [or_halves]
    split <;> omega
theorem xor_halves (x y : Int) : Builtin.bitXor x y = 2 * Builtin.bitXor (x / 2) (y / 2) + (if x % 2 = y % 2 then 0 else 1) := by
  rw [bitXor_and, bitXor_and, PySem.W.kbt_halves]
  split <;> split <;> omega
theorem xor_bit {a b : Int} (ha : a = 0 ∨ a = 1) (hb : b = 0 ∨ b = 1) : Builtin.bitXor a b = if a = b then 0 else 1 := by
  rcases ha with rfl | rfl <;> rcases hb with rfl | rfl <;> decide
theorem tb_xor : ∀ (k : Nat) (x y : Int), tb (Builtin.bitXor x y) k = Builtin.bitXor (tb x k) (tb y k)
  | 0, x, y => by
    rw [tb_zero, tb_zero, tb_zero, xor_halves, xor_bit (a := x % 2) (b := y % 2) (by omega) (by omega)]
    split <;> omega
  | k + 1, x, y => by
    rw [tb_succ, tb_succ, tb_succ, ← tb_xor k]
    congr 1
    rw [xor_halves]
    split <;> omega
theorem tb_full : ∀ {n k : Nat}, k < n → tb (2 ^ n - 1) k = 1
  | n + 1, 0, _ => by
    rw [tb_zero, GM.pow_s]
    omega
  | n + 1, k + 1, h => by
    rw [tb_succ, show ((2 : Int) ^ (n + 1) - 1) / 2 = 2 ^ n - 1 from by rw [GM.pow_s]; omega]
    exact tb_full (by omega)
theorem tb_nul (k : Nat) : tb 0 k = 0 := by
  unfold tb
  rw [Int.zero_ediv]
  rfl
theorem tb_mod {n k : Nat} (x : Int) (h : k < n) : tb (x % 2 ^ n) k = tb x k := by
  rw [← PySem.W.kbt_mask, tb_and, tb_full h]
  rcases tb_01 x k with z | z <;> rw [z] <;> decide
/-! ### wires run -/
def gvw (full x y : Int) (k : Str) : Int := if k = "other" then Builtin.bitXor x full else if k = "both" then Builtin.bitAnd x y else if k = "either" then Builtin.bitOr x y else Builtin.bitXor x y
def gv (full : Int) (ws : List Int) : Gt → Int
  | .fi b => if b = 1 then full else 0
  | .w k l => gvw full (ws.getD (l.getD 0 0) 0) (ws.getD (l.getD 1 0) 0) k
def rv (full : Int) (vals : List Int) (gs : List Gt) : List Int := gs.foldl (fun ws g => ws ++ [gv full ws g]) vals
theorem rv_snoc (full : Int) (vals : List Int) (gs : List Gt) (g : Gt) : rv full vals (gs ++ [g]) = rv full vals gs ++ [gv full (rv full vals gs) g] := by
  unfold rv
  rw [List.foldl_append]
  rfl
theorem rv_len : ∀ (gs : List Gt) (full : Int) (vals : List Int), (rv full vals gs).length = vals.length + gs.length
  | [], _, _ => rfl
  | g :: gs, full, vals => by
    have := rv_len gs full (vals ++ [gv full vals g])
    unfold rv at this ⊢
    rw [List.foldl_cons, this, List.length_append, List.length_cons, List.length_cons, List.length_nil]
    omega
theorem getD_map (ws : List Int) (i k : Nat) : (ws.map (tb · k)).getD i 0 = tb (ws.getD i 0) k := by
  simp only [List.getD, List.getElem?_map]
  cases ws[i]? with
  | none => exact (tb_nul k).symm
  | some v => rfl
theorem gv_bit {n k : Nat} (h : k < n) (ws : List Int) (g : Gt) : tb (gv (2 ^ n - 1) ws g) k = gv 1 (ws.map (tb · k)) g := by
  cases g with
  | fi b =>
    show tb (if b = 1 then _ else _) k = if b = 1 then 1 else 0
    split
    · exact tb_full h
    · exact tb_nul k
  | w nm l =>
    show tb (gvw (2 ^ n - 1) _ _ nm) k = gvw 1 _ _ nm
    rw [getD_map, getD_map]
    unfold gvw
    split
    · rw [tb_xor, tb_full h]
    split
    · rw [tb_and]
    split
    · rw [tb_or]
    · rw [tb_xor]
theorem rv_bit {n k : Nat} (h : k < n) : ∀ (gs : List Gt) (vals : List Int), (rv (2 ^ n - 1) vals gs).map (tb · k) = rv 1 (vals.map (tb · k)) gs
  | [], _ => rfl
  | g :: gs, vals => by
    have := rv_bit h gs (vals ++ [gv (2 ^ n - 1) vals g])
    unfold rv at this ⊢
    rw [List.foldl_cons, List.foldl_cons, this, List.map_append, List.map_cons, List.map_nil, gv_bit h]
/-! ### nets run -/
def wf (ds : List Int) : Int := ds.foldl (fun w d => 2 * w + d) 0
theorem wf_snoc (ds : List Int) (d : Int) : wf (ds ++ [d]) = 2 * wf ds + d := by
  unfold wf
  rw [List.foldl_append]
  rfl
theorem at_int46 {xs : List Int} {i : Nat} {x : V} (h : (xs.map V.int)[i]? = some x) : ∃ v, xs[i]? = some v ∧ x = .int v := by
  rw [List.getElem?_map] at h
  cases q : xs[i]? with
  | none => rw [q] at h; cases h
  | some v => rw [q] at h; exact ⟨v, rfl, (Option.some.inj h).symm⟩
def spWorthOf (K : PySem.W.Frag) : Sp := fun vs H Q _ => ∃ (t : Addr) (ds : List Int), vs = [.ref t] ∧ SqL K H t (ds.map V.int) ∧ Q (.int (wf ds)) H
theorem ok_worth_of (B : Bl mg) (L : LL K mg C za zl E_TooMuch I_TooMuch) : FnOk P w K mg base CX0 1 (za 1) (zl 1) ["digits"] (spWorthOf K) := by
  refine L.F_worth_of.ok sc_worth_of (fun vs H Q E h => ?_) (fun cdv A outer s H vs Q E hr h => ?_)
  · obtain ⟨t, ds, rfl, _⟩ := h
    rfl
  obtain ⟨t, ds, rfl, hT, q⟩ := h
  refine ⟨_, (pss_cons (ps_set (i := 1) sc_worth_of.nd rfl (.inl rfl) pe_int)
    (pss_cons (ps_for PassesOwn.never rfl (pi_list (pv 0)) (pg_name (i := 2) sc_worth_of.nd rfl (.inl rfl)) (pss_one (ps_set (i := 1) sc_worth_of.nd rfl (.inl rfl) (pe_op op_add (pe_op op_mul pe_int (pv 1)) (pv 2)))))
    (pss_one (ps_ret (pv 1))))), ?_⟩
  refine ⟨_, rfl, t, rfl, ⟨_, hT⟩, ?_⟩
  refine for_it (walk_list (K := K) (a := t) (xs := ds.map V.int)) (fun j σ H9 => ∃ y : Option V, σ = [some (.ref t), some (.int (wf (ds.take j))), y] ∧ H9 = H) ⟨_, rfl, rfl⟩ (fun j σ H9 _ ⟨_, _, e⟩ => by rw [e]; exact hT) ?_ ?_
  · rintro j v σ H9 H10 hj ⟨y, rfl, rfl⟩ ⟨rfl, hz⟩
    obtain ⟨d, hd, rfl⟩ := at_int46 hz
    refine ⟨_, rfl, _, _, rfl, rfl, .inl ⟨by decide, by decide⟩, _, rfl, _, _, rfl, rfl, ?_⟩
    refine ⟨some (.int d), ?_, rfl⟩
    rw [List.take_add_one, hd]
    show _ = [some (V.ref t), some (.int (wf (ds.take j ++ [d]))), _]
    rw [wf_snoc]
    rfl
  · rintro σ H9 ⟨y, rfl, rfl⟩
    rw [List.length_map, List.take_length]
    exact ⟨_, rfl, q⟩
def spGateB : Sp := fun vs H Q _ => ∃ (g wl : Addr) (full : Int) (gt : Gt) (ws : List Int), vs = [.ref g, .ref wl, .int full] ∧ H g = some (.tup gt.row) ∧ H wl = some (.lst (ws.map V.int)) ∧ gt.ok ws.length ∧ Q (.int (gv full ws gt)) H
theorem at_getD {ws : List Int} {a : Nat} (h : a < ws.length) : atI (ws.map V.int) (a : Int) = some (.int (ws.getD a 0)) := atI_nat (by
  rw [List.getElem?_map, List.getElem?_eq_getElem h]
  simp [List.getD, List.getElem?_eq_getElem h])
theorem ok_gate_bits (B : Bl mg) (L : LL K mg C za zl E_TooMuch I_TooMuch) : FnOk P w K mg base CX0 1 (za 3) (zl 3) ["gate", "wires", "full"] spGateB := by
  refine L.F_gate_bits.ok sc_gate_bits (fun vs H Q E h => ?_) (fun cdv A outer s H vs Q E hr h => ?_)
  · obtain ⟨g, wl, full, gt, ws, rfl, _⟩ := h
    rfl
  obtain ⟨g, wl, full, gt, ws, rfl, eg, ew, ok, q⟩ := h
  refine ⟨_, (pss_cons (ps_set (i := 3) sc_gate_bits.nd rfl (.inl rfl) (pe_ix ix_tup (pv 0) pe_int (fun _ _ => rfl)))
    (pss_cons (ps_if (pt_cmpR op_eq (pv 3) pe_str (nomark _)) (pss_one (ps_ret (pe_ifExp (pt_cmpR op_eq (pe_ix ix_tup (pv 0) pe_int (fun _ _ => rfl)) pe_int (nomark _)) (pv 2) pe_int))) pss_nil)
    (pss_cons (ps_set (i := 4) sc_gate_bits.nd rfl (.inl rfl) (pe_ix ix_list (pv 1) (pe_ix ix_tup (pv 0) pe_int (fun _ _ => rfl)) (fun _ _ => rfl)))
    (pss_cons (ps_if (pt_cmpR op_eq (pv 3) pe_str (nomark _)) (pss_one (ps_ret (pe_op op_xor (pv 4) (pv 2)))) pss_nil)
    (pss_cons (ps_set (i := 5) sc_gate_bits.nd rfl (.inl rfl) (pe_ix ix_list (pv 1) (pe_ix ix_tup (pv 0) pe_int (fun _ _ => rfl)) (fun _ _ => rfl)))
    (pss_cons (ps_if (pt_cmpR op_eq (pv 3) pe_str (nomark _)) (pss_one (ps_ret (pe_op op_and (pv 4) (pv 5)))) pss_nil)
    (pss_cons (ps_if (pt_cmpR op_eq (pv 3) pe_str (nomark _)) (pss_one (ps_ret (pe_op op_or (pv 4) (pv 5)))) pss_nil)
    (pss_one (ps_ret (pe_op op_xor (pv 4) (pv 5))))))))))), ?_⟩
  have nS : ∀ {x y : Str}, ¬ x = y → ¬ decide (V.str x = V.str y) = true := fun h z => h (V.str.inj (of_decide_eq_true z))
  cases gt with
  | fi b =>
    refine ⟨_, rfl, g, _, _, _, rfl, rfl, .inl (.inl eg), rfl, ?_⟩
    try simp only [L2.start, List.map_cons, List.map_nil, List.length_cons, List.length_nil, List.replicate_succ, List.replicate_zero, List.cons_append, List.nil_append, List.set_cons_succ, List.set_cons_zero, Nat.reduceAdd, Nat.reduceSub, Nat.zero_add]
    dsimp only [gName]
    try simp only [L2.start, List.map_cons, List.map_nil, List.length_cons, List.length_nil, List.replicate_succ, List.replicate_zero, List.cons_append, List.nil_append, List.set_cons_succ, List.set_cons_zero, Nat.reduceAdd, Nat.reduceSub, Nat.zero_add]
    refine ⟨_, rfl, rfl, _, rfl, ite2 (fun _ => ?_) (fun z => absurd (decide_eq_true rfl) z)⟩
    refine ⟨_, rfl, g, _, _, _, rfl, rfl, .inl (.inl eg), rfl, rfl, _, rfl, ite2 (fun z => ?_) (fun z => ?_)⟩
    · have e : (b : Int) = 1 := V.int.inj (of_decide_eq_true z)
      have q : Q (.int (if b = 1 then full else 0)) H := q
      rw [if_pos (by omega)] at q
      exact ⟨_, rfl, q⟩
    · have e : ¬ (b : Int) = 1 := fun y => z (decide_eq_true (congrArg V.int y))
      have q : Q (.int (if b = 1 then full else 0)) H := q
      rw [if_neg (by omega)] at q
      exact q
  | w k l =>
    have q : Q (.int (gvw full (ws.getD (l.getD 0 0) 0) (ws.getD (l.getD 1 0) 0) k)) H := q
    have nf : ¬ k = "fixed" := by
      rcases ok.1 with ⟨z | z | z, _⟩ | ⟨z, _⟩ <;> rw [z] <;> decide +kernel
    have l0 : 0 < l.length := by
      rcases ok.1 with ⟨_, z⟩ | ⟨_, z⟩ <;> omega
    have ea : (Gt.w k l).row[1]? = some (.int ((l.getD 0 0 : Nat) : Int)) := by
      match l, l0 with
      | a :: l, _ => rfl
    have la : l.getD 0 0 < ws.length := by
      match l, l0, ok with
      | a :: l, _, ok => exact ok.2 a (by simp)
    refine ⟨_, rfl, g, _, _, _, rfl, rfl, .inl (.inl eg), (show atI (Gt.w k l).row 0 = some (.str k) from atI_nat (j := 0) rfl), ?_⟩
    try simp only [L2.start, List.map_cons, List.map_nil, List.length_cons, List.length_nil, List.replicate_succ, List.replicate_zero, List.cons_append, List.nil_append, List.set_cons_succ, List.set_cons_zero, Nat.reduceAdd, Nat.reduceSub, Nat.zero_add]
    dsimp only [gName]
    try simp only [L2.start, List.map_cons, List.map_nil, List.length_cons, List.length_nil, List.replicate_succ, List.replicate_zero, List.cons_append, List.nil_append, List.set_cons_succ, List.set_cons_zero, Nat.reduceAdd, Nat.reduceSub, Nat.zero_add]
    refine ⟨_, rfl, rfl, _, rfl, ite2 (fun z => absurd z (nS nf)) (fun _ => ?_)⟩
    dsimp only [tNext]
    refine ⟨_, rfl, _, rfl, g, _, _, _, rfl, rfl, .inl (.inl eg), (atI_nat (j := 1) ea), wl, _, _, _, rfl, rfl, SqL.of ew, at_getD la, ?_⟩
    try simp only [L2.start, List.map_cons, List.map_nil, List.length_cons, List.length_nil, List.replicate_succ, List.replicate_zero, List.cons_append, List.nil_append, List.set_cons_succ, List.set_cons_zero, Nat.reduceAdd, Nat.reduceSub, Nat.zero_add]
    dsimp only [gName]
    try simp only [L2.start, List.map_cons, List.map_nil, List.length_cons, List.length_nil, List.replicate_succ, List.replicate_zero, List.cons_append, List.nil_append, List.set_cons_succ, List.set_cons_zero, Nat.reduceAdd, Nat.reduceSub, Nat.zero_add]
    unfold gvw at q
    refine ⟨_, rfl, rfl, _, rfl, ite2 (fun z => ?_) (fun z => ?_)⟩
    · rw [if_pos (V.str.inj (of_decide_eq_true z))] at q
      exact ⟨_, rfl, _, rfl, _, _, rfl, rfl, q⟩
    have no : ¬ k = "other" := fun y => z (decide_eq_true (congrArg V.str y))
    rw [if_neg no] at q
    dsimp only [tNext]
    have l2 : l.length = 2 := by
      rcases ok.1 with ⟨_, z⟩ | ⟨z, _⟩
      · exact z
      · exact absurd z no
    have eb : (Gt.w k l).row[2]? = some (.int ((l.getD 1 0 : Nat) : Int)) := by
      match l, l2 with
      | [a, b], _ => rfl
    have lb : l.getD 1 0 < ws.length := by
      match l, l2, ok with
      | [a, b], _, ok => exact ok.2 b (by simp)
    refine ⟨_, rfl, _, rfl, g, _, _, _, rfl, rfl, .inl (.inl eg), (atI_nat (j := 2) eb), wl, _, _, _, rfl, rfl, SqL.of ew, at_getD lb, ?_⟩
    try simp only [L2.start, List.map_cons, List.map_nil, List.length_cons, List.length_nil, List.replicate_succ, List.replicate_zero, List.cons_append, List.nil_append, List.set_cons_succ, List.set_cons_zero, Nat.reduceAdd, Nat.reduceSub, Nat.zero_add]
    dsimp only [gName]
    try simp only [L2.start, List.map_cons, List.map_nil, List.length_cons, List.length_nil, List.replicate_succ, List.replicate_zero, List.cons_append, List.nil_append, List.set_cons_succ, List.set_cons_zero, Nat.reduceAdd, Nat.reduceSub, Nat.zero_add]
    refine ⟨_, rfl, rfl, _, rfl, ite2 (fun z => ?_) (fun z => ?_)⟩
    · rw [if_pos (V.str.inj (of_decide_eq_true z))] at q
      exact ⟨_, rfl, _, rfl, _, _, rfl, rfl, q⟩
    rw [if_neg (fun y => z (decide_eq_true (congrArg V.str y)))] at q
    dsimp only [tNext]
    refine ⟨_, rfl, rfl, _, rfl, ite2 (fun z => ?_) (fun z => ?_)⟩
    · rw [if_pos (V.str.inj (of_decide_eq_true z))] at q
      exact ⟨_, rfl, _, rfl, _, _, rfl, rfl, q⟩
    rw [if_neg (fun y => z (decide_eq_true (congrArg V.str y)))] at q
    dsimp only [tNext]
    exact ⟨_, rfl, _, rfl, _, _, rfl, rfl, q⟩
/-- the rows that a run tells: by name, the wires' values -/
def RunAt (H0 H : Hp) (t : Addr) (ys : List Str) (nm : List (Str × List Nat)) (rs : List Int) : Prop := ∃ ts : List Addr, ts.length = ys.length ∧ H t = some (.lst (ts.map V.ref)) ∧
  ∀ (i : Nat) (u : Addr) (n : Str), ts[i]? = some u → ys[i]? = some n → ∃ (ws : List Nat) (l : Addr), (n, ws) ∈ nm ∧ H0 l = none ∧ H u = some (.tup [.str n, .ref l]) ∧ H l = some (.lst ((ws.map fun a => rs.getD a 0).map V.int))
def spRan (C : Addr) : Sp := fun vs H Q _ => ∃ (Z : List Addr) (p : NetP) (m : Nat) (gs : List Gt) (nm : List (Str × List Nat)) (vl : Addr) (vals : List Int) (n : Nat), vs = [.ref p.x, .ref vl, .int (n : Int)] ∧ NetAt C Z H p m gs nm ∧ H vl = some (.lst (vals.map V.int)) ∧ vals.length = m ∧ n ≤ 5000 ∧ m + gs.length ≤ 400000 ∧ nm.length < 64 ∧
  (∀ (i : Nat) (g : Gt), gs[i]? = some g → g.ok (m + i)) ∧ (∀ x ∈ nm, x.2.length ≤ 900 ∧ ∀ a ∈ x.2, a < m + gs.length) ∧
  ∀ (ys : List Str) (t : Addr) (H' : Hp), ys.Perm (nm.map (·.1)) → sortedS ys = true → Same H H' → RunAt H H' t ys nm (rv (2 ^ n - 1) (vals.map (· % 2 ^ n)) gs) → Q (.ref t) H'
theorem ok_ran (B : Bl mg) (L : LL K mg C za zl E_TooMuch I_TooMuch) : FnOk P w K mg base CX0 2 (za 2) (zl 2) ["net", "values", "many"] (spRan C) := by
  have G_gate_bits : FnOk P w K mg base CX0 1 (za 3) (zl 3) ["gate", "wires", "full"] spGateB := (ok_gate_bits B L).mono (by decide)
  have G_Net_gates : FnOk P w K mg base CX0 1 (za 57) (zl 57) ["self"] (spGates C) := (ok_Net_gates B L).mono (by decide)
  have G_Net_given : FnOk P w K mg base CX0 1 (za 54) (zl 54) ["self", "name"] (spGiven C) := (ok_Net_given B L).mono (by decide)
  have G_Net_names : FnOk P w K mg base CX0 1 (za 55) (zl 55) ["self"] (spNames C) := (ok_Net_names B L).mono (by decide)
  refine L.F_ran.ok sc_ran (fun vs H Q E h => ?_) (fun cdv A outer s H vs Q E hr h => ?_)
  · obtain ⟨Z, p, m, gs, nm, vl, vals, n, rfl, _⟩ := h
    rfl
  obtain ⟨Z, p, m, gs, nm, vl, vals, n, rfl, hN, ev, lv, hn, hl, hm, hok, hnm, q⟩ := h
  refine ⟨_, (pss_cons (ps_set (i := 3) sc_ran.nd rfl (.inr rfl) (pe_op op_sub (pe_op op_oneShl pe_int (pv 2)) pe_int))
    (pss_cons (ps_set (i := 4) sc_ran.nd rfl (.inr rfl) (pe_lc (own := [("value", 6)]) (by rfl) sc_ran.nd (pi_list (pv 1)) (blkOk_by (own := [("value", 6)]) (N := ["net", "values", "many", "full", "wires", "gate", "value", "name", "wire"]) (sc := defScope s_ran) (by decide +kernel)) (fun _ _ _ _ _ => pg_name (i := 6) sc_ran.nd rfl (Or.inl rfl)) (fun _ _ _ _ _ => pts_nil) (fun _ _ _ _ _ => (pe_op op_andM (pv 6) (pv 3)))))
    (pss_cons (ps_for PassesOwn.never rfl (pi_list (pe_meth0 (pv 0) L.T.cl L.M_Net_gates G_Net_gates hr L.b_Net_gates .nil pass0)) (pg_name (i := 5) sc_ran.nd rfl (.inl rfl)) (pss_one (ps_expr (pe_bm PySem.F.plainAttrs_list PySem.F.slot_list_append PySem.F.type_list_append mt_append (pv 4) (pa_cons (pe_call G_gate_bits hr (by rfl) L.m_gate_bits L.F_gate_bits.kp L.b_gate_bits .nil pass0 (pa_cons (pv 5) (pa_cons (pv 4) (pa_cons (pv 3) pa_nil)))) pa_nil)))))
    (pss_one (ps_ret (pe_lc (own := [("name", 7)]) (by rfl) sc_ran.nd (pi_list (pe_meth0 (pv 0) L.T.cl L.M_Net_names G_Net_names hr L.b_Net_names .nil pass0)) (blkOk_by (own := [("name", 7)]) (N := ["net", "values", "many", "full", "wires", "gate", "value", "name", "wire"]) (sc := defScope s_ran) (by decide +kernel)) (fun _ _ _ _ _ => pg_name (i := 7) sc_ran.nd rfl (Or.inl rfl)) (fun _ _ _ _ _ => pts_nil) (fun _ _ _ _ _ => (pe_tup (pa_cons (pv 7) (pa_cons (pe_lc (own := [("wire", 8)]) (by rfl) sc_ran.nd (pi_listK (K := K) (pe_meth (pv 0) L.T.cl L.M_Net_given G_Net_given hr L.b_Net_given .nil pass0 (pa_cons (pv 7) pa_nil))) (blkOk_by (own := [("wire", 8)]) (N := ["net", "values", "many", "full", "wires", "gate", "value", "name", "wire"]) (sc := ({ kind := ScopeKind.function, names := [(".0", NameKind.local), ("name", NameKind.local), ("net", NameKind.cell), ("wires", NameKind.cell)], isGenerator := false, isCoroutine := false } : Scope)) (by decide +kernel)) (fun _ _ _ _ _ => pg_name (i := 8) sc_ran.nd rfl (Or.inl rfl)) (fun _ _ _ _ _ => pts_nil) (fun _ _ _ _ _ => (pe_ix (ix_listK (K := K)) (pv 4) (pv 8) (fun _ _ => rfl)))) pa_nil)))))))))), ?_⟩
  refine ⟨_, rfl, n, rfl, rfl, by omega, _, _, rfl, rfl, ?_⟩
  try simp only [L2.start, List.map_cons, List.map_nil, List.length_cons, List.length_nil, List.replicate_succ, List.replicate_zero, List.cons_append, List.nil_append, List.set_cons_succ, List.set_cons_zero, Nat.reduceAdd, Nat.reduceSub, Nat.zero_add]
  refine ⟨_, rfl, vl, rfl, ⟨_, SqL.of ev⟩, fun W nW => ?_⟩
  refine lc_it (walk_list (K := K) (a := vl) (xs := vals.map V.int)) (fun i H9 => Same H H9 ∧ H9 W = some (.lst (((vals.map (· % 2 ^ n)).take i).map V.int))) ⟨same_upd nW, upd_same⟩ (fun i H9 _ ⟨s9, _⟩ => SqL.of (s9 _ _ ev)) ?_ ?_
  · rintro j z H9 H10 hj ⟨s9, eW⟩ ⟨rfl, hz⟩
    obtain ⟨v, hv, rfl⟩ := at_int46 hz
    refine ⟨rfl, yesT ?_⟩
    refine ⟨_, rfl, _, rfl, _, n, rfl, rfl, ?_⟩
    refine ⟨_, eW, ?_, fun y u e => ?_, ?_⟩
    · rw [List.length_map, List.length_take, List.length_map]
      exact Nat.lt_of_le_of_lt (Nat.min_le_right _ _) (big_lt0 (by omega))
    · rw [upd_ne (ne_of_none e nW)]
      exact s9 _ _ e
    · rw [upd_same, List.take_add_one, List.getElem?_map, hv, List.map_append]
      rfl
  rintro H1 ⟨s1, eW⟩
  rw [List.length_map, List.take_of_length_le (by rw [List.length_map]; exact Nat.le_refl _)] at eW
  try simp only [L2.start, List.map_cons, List.map_nil, List.length_cons, List.length_nil, List.replicate_succ, List.replicate_zero, List.cons_append, List.nil_append, List.set_cons_succ, List.set_cons_zero, Nat.reduceAdd, Nat.reduceSub, Nat.zero_add]
  obtain ⟨_, _, _, dx, _, _, e1, _⟩ := id hN
  have nWx : ∀ y o, H y = some o → y ≠ W := fun y o e => ne_of_none e nW
  refine ⟨_, rfl, p.x, dx, _, rfl, s1 _ _ e1, rfl, Z, p, m, gs, nm, rfl, hN.same s1, fun G ps nG lps hps => ?_⟩
  have sG := same_upd (o := .lst (ps.map V.ref)) nG
  have eWG := sG _ _ eW
  have nGW : G ≠ W := (ne_of_none eW nG).symm
  have eG0 : (upd H1 G (.lst (ps.map V.ref))) G = some (.lst (ps.map V.ref)) := upd_same
  have w1 := s1.trans sG
  have hps1 : ∀ (i : Nat) (r : Addr) (g : Gt), ps[i]? = some r → gs[i]? = some g → (upd H1 G (.lst (ps.map V.ref))) r = some (.tup g.row) := fun i r g hi hg => sG _ _ (hps i r g hi hg)
  generalize upd H1 G (.lst (ps.map V.ref)) = H2 at *
  refine ⟨G, rfl, ⟨_, SqL.of eG0⟩, ?_⟩
  refine for_it (walk_list (K := K) (a := G) (xs := ps.map V.ref)) (fun j σ H9 => ∃ y : Option V, σ = [some (.ref p.x), some (.ref vl), some (.int (n : Int)), some (.int (2 ^ n - 1)), some (.ref W), y, none, none, none] ∧ Keep W H2 H9 ∧ H9 W = some (.lst ((rv (2 ^ n - 1) (vals.map (· % 2 ^ n)) (gs.take j)).map V.int))) ⟨_, rfl, Keep.refl _ _, eWG⟩ (fun j σ H9 _ ⟨_, _, k9, _⟩ => SqL.of (k9 _ _ eG0 nGW)) ?_ ?_
  · rintro j z σ H9 H10 hj ⟨y, rfl, k9, eW9⟩ ⟨rfl, hz⟩
    rw [List.getElem?_map] at hz
    have hj' : j < ps.length := by
      rw [List.length_map] at hj
      exact hj
    rw [List.getElem?_eq_getElem hj'] at hz
    cases hz
    have hg : gs[j]? = some gs[j] := List.getElem?_eq_getElem (by omega)
    have er : H10 ps[j] = some (.tup (gs[j]'(by omega)).row) := k9 _ _ (hps1 j _ _ (List.getElem?_eq_getElem hj') hg) (fun z => by
      have := hps1 j _ _ (List.getElem?_eq_getElem hj') hg
      rw [z, eWG] at this
      cases this)
    try simp only [L2.start, List.map_cons, List.map_nil, List.length_cons, List.length_nil, List.replicate_succ, List.replicate_zero, List.cons_append, List.nil_append, List.set_cons_succ, List.set_cons_zero, Nat.reduceAdd, Nat.reduceSub, Nat.zero_add]
    refine ⟨_, rfl, .inl ⟨rfl, _, SqL.of eW9⟩, _, rfl, _, rfl, _, rfl, ps[j], W, _, _, _, rfl, er, eW9, ?_, ?_⟩
    · rw [rv_len, List.length_map, List.length_take, lv, Nat.min_eq_left (by omega)]
      exact hok j _ hg
    refine ⟨W, _, _, rfl, rfl, eW9, ?_, ?_⟩
    · rw [List.length_map, rv_len, List.length_map, List.length_take]
      exact big_lt0 (by omega)
    refine ⟨_, rfl, fun y' u e ny => ?_, ?_⟩
    · rw [upd_ne ny]
      exact k9 _ _ e ny
    · rw [upd_same, List.take_add_one, hg]
      show _ = some (HO.lst ((rv (2 ^ n - 1) (vals.map (· % 2 ^ n)) (gs.take j ++ [gs[j]])).map V.int))
      rw [rv_snoc, List.map_append]
      rfl
  rintro σ H9 ⟨y, rfl, k9, eW9⟩
  rw [List.length_map, List.take_of_length_le (by omega)] at eW9
  have s9 : Same H H9 := fun y u e => k9 _ _ (w1 _ _ e) (nWx _ _ e)
  have N9 := hN.same s9
  obtain ⟨_, _, _, dx9, _, _, f1, _⟩ := id N9
  refine ⟨_, rfl, p.x, dx9, _, rfl, f1, rfl, Z, p, m, gs, nm, rfl, N9, hm, fun ys Y HY hp hs sY nY eY => ?_⟩
  have eWY := sY _ _ eW9
  have NY := N9.same sY
  have lys : ys.length < 64 := by
    have := hp.length_eq
    rw [List.length_map] at this
    omega
  have lrv : (rv (2 ^ n - 1) (vals.map (· % 2 ^ n)) gs).length = m + gs.length := by rw [rv_len, List.length_map, lv]
  refine ⟨Y, rfl, ⟨_, SqL.of eY⟩, fun T nT => ?_⟩
  refine lc_it (walk_list (K := K) (a := Y) (xs := ys.map V.str)) (fun i H5 => Same HY H5 ∧ ∃ ts : List Addr, ts.length = i ∧ H5 T = some (.lst (ts.map V.ref)) ∧ ∀ (k : Nat) (u : Addr) (x : Str), ts[k]? = some u → ys[k]? = some x → ∃ (ws : List Nat) (l : Addr), (x, ws) ∈ nm ∧ H l = none ∧ l ≠ T ∧ H5 u = some (.tup [.str x, .ref l]) ∧ H5 l = some (.lst ((ws.map fun a => (rv (2 ^ n - 1) (vals.map (· % 2 ^ n)) gs).getD a 0).map V.int))) ⟨same_upd nT, [], rfl, upd_same, fun k u x h => by simp at h⟩ (fun i H5 _ ⟨s5, _⟩ => SqL.of (s5 _ _ eY)) ?_ ?_
  · rintro j z H5 H6 hj ⟨s5, ts, lt, eT, hts⟩ ⟨rfl, hz⟩
    rw [List.getElem?_map] at hz
    have hj' : j < ys.length := by
      rw [List.length_map] at hj
      exact hj
    have hy : ys[j]? = some ys[j] := List.getElem?_eq_getElem hj'
    rw [hy] at hz
    cases hz
    have N5 := NY.same s5
    obtain ⟨_, _, _, dx5, _, _, g1, _⟩ := id N5
    obtain ⟨⟨x, ws⟩, hx, ex⟩ := List.mem_map.mp (hp.mem_iff.mp (List.mem_of_getElem? hy))
    obtain ⟨i0, hi0, ei0⟩ := List.getElem_of_mem hx
    have hn0 : nm[i0]? = some (ys[j], ws) := by
      rw [List.getElem?_eq_getElem hi0, ei0, ← ex]
    have hws := hnm _ hx
    have hw1 : ws.length ≤ 900 := hws.1
    refine ⟨rfl, yesT ?_⟩
    refine ⟨_, rfl, _, rfl, p.x, dx5, _, rfl, g1, rfl, _, rfl, Z, p, m, gs, nm, i0, ys[j], ws, rfl, N5, hn0, fun g ng => ?_⟩
    have sg := same_upd (o := .lst (nts ws)) ng
    have eWg := sg _ _ (s5 _ _ eWY)
    have egg : (upd H6 g (.lst (nts ws))) g = some (.lst (nts ws)) := upd_same
    have eTg := sg _ _ eT
    generalize upd H6 g (.lst (nts ws)) = H7 at *
    refine ⟨g, rfl, ⟨_, SqL.of egg⟩, fun D nD => ?_⟩
    refine lc_it (walk_list (K := K) (a := g) (xs := nts ws)) (fun i H8 => Same H7 H8 ∧ H8 D = some (.lst (((ws.map fun a => (rv (2 ^ n - 1) (vals.map (· % 2 ^ n)) gs).getD a 0).take i).map V.int))) ⟨same_upd nD, upd_same⟩ (fun i H8 _ ⟨s8, _⟩ => SqL.of (s8 _ _ egg)) ?_ ?_
    · rintro k z H8 H8' hk ⟨s8, eD⟩ ⟨rfl, hz⟩
      obtain ⟨a, ha, rfl⟩ := nts_at hz
      have la := hws.2 a (List.mem_of_getElem? ha)
      refine ⟨rfl, yesT ?_⟩
      refine ⟨_, rfl, _, rfl, W, _, _, _, rfl, rfl, SqL.of (s8 _ _ eWg), at_getD (by rw [lrv]; exact la), ?_⟩
      refine ⟨_, eD, ?_, fun y u e => ?_, ?_⟩
      · rw [List.length_map, List.length_take, List.length_map]
        exact Nat.lt_of_le_of_lt (Nat.min_le_right _ _) (big_lt0 (by omega))
      · rw [upd_ne (ne_of_none e nD)]
        exact s8 _ _ e
      · rw [upd_same, List.take_add_one, List.getElem?_map, ha, List.map_append]
        rfl
    rintro H8 ⟨s8, eD⟩
    rw [nts_len, List.take_of_length_le (by rw [List.length_map]; exact Nat.le_refl _)] at eD
    have eT8 := s8 _ _ eTg
    have nD0 : H D = none := by
      cases e : H D with
      | none => rfl
      | some o =>
        have := sg _ _ (s5 _ _ (sY _ _ (s9 _ _ e)))
        rw [nD] at this
        cases this
    have nDT : D ≠ T := fun z => by
      rw [z, eTg] at nD
      cases nD
    refine ⟨(by show 2 ≤ sizeLine; decide), fun u nu => ?_⟩
    have su := same_upd (o := .tup [.str ys[j], .ref D]) nu
    have nuT : u ≠ T := fun z => by
      rw [z, eT8] at nu
      cases nu
    have sA : Same H6 (upd H8 u (.tup [.str ys[j], .ref D])) := fun y o e => su _ _ (s8 _ _ (sg _ _ e))
    refine ⟨_, su _ _ eT8, ?_, fun y o e => ?_, ts ++ [u], by rw [List.length_append, lt]; rfl, ?_, fun k u' x' hu hx' => ?_⟩
    · rw [List.length_map, lt]
      exact big_lt0 (by omega)
    · rw [upd_ne (ne_of_none e nT)]
      exact sA _ _ (s5 _ _ e)
    · rw [upd_same, List.map_append]
      rfl
    · by_cases c : k < ts.length
      · rw [List.getElem?_append_left c] at hu
        obtain ⟨ws', l', q1, q0, q2, q3, q4⟩ := hts k u' x' hu hx'
        refine ⟨ws', l', q1, q0, q2, ?_, ?_⟩
        · rw [upd_ne (fun z => by rw [z, eT] at q3; cases q3)]
          exact sA _ _ q3
        · rw [upd_ne q2]
          exact sA _ _ q4
      · have k0 : k = ts.length := by
          have := (List.getElem?_eq_some_iff.mp hu).1
          rw [List.length_append, List.length_cons, List.length_nil] at this
          omega
        rw [List.getElem?_append_right (by omega), k0, Nat.sub_self] at hu
        rw [k0, lt, hy] at hx'
        cases hu
        cases hx'
        refine ⟨ws, D, ?_, nD0, nDT, ?_, ?_⟩
        · rw [← ex]
          exact hx
        · rw [upd_ne nuT]
          exact upd_same
        · rw [upd_ne nDT]
          exact su _ _ eD
  · rintro H5 ⟨s5, ts, lt, eT, hts⟩
    refine q ys T H5 hp hs ((s9.trans sY).trans s5) ⟨ts, by rw [lt, List.length_map], eT, fun k u x hu hx => ?_⟩
    obtain ⟨ws, l, q1, q0, _, q3, q4⟩ := hts k u x hu hx
    exact ⟨ws, l, q1, q0, q3, q4⟩
end
/-! ### one case of a run, in truths -/
def bi (b : Bool) : Int := if b = true then 1 else 0
def gbw (x y : Bool) (k : Str) : Bool := if k = "other" then !x else if k = "both" then x && y else if k = "either" then x || y else xor x y
def gb (ws : List Bool) : Gt → Bool
  | .fi b => decide (b = 1)
  | .w k l => gbw (ws.getD (l.getD 0 0) false) (ws.getD (l.getD 1 0) false) k
def rb (vals : List Bool) (gs : List Gt) : List Bool := gs.foldl (fun ws g => ws ++ [gb ws g]) vals
theorem rb_app (vals : List Bool) (gs es : List Gt) : rb vals (gs ++ es) = rb (rb vals gs) es := by
  unfold rb
  rw [List.foldl_append]
theorem rb_pre : ∀ (gs : List Gt) (vals : List Bool), ∃ r, rb vals gs = vals ++ r ∧ r.length = gs.length
  | [], vals => ⟨[], (List.append_nil _).symm, rfl⟩
  | g :: gs, vals => by
    obtain ⟨r, e, l⟩ := rb_pre gs (vals ++ [gb vals g])
    refine ⟨gb vals g :: r, ?_, by rw [List.length_cons, List.length_cons, l]⟩
    unfold rb at e ⊢
    rw [List.foldl_cons, e, List.append_assoc]
    rfl
theorem rb_len (gs : List Gt) (vals : List Bool) : (rb vals gs).length = vals.length + gs.length := by
  obtain ⟨r, e, l⟩ := rb_pre gs vals
  rw [e, List.length_append, l]
def wb (vals : List Bool) (gs : List Gt) (a : Nat) : Bool := (rb vals gs).getD a false
theorem getD_app {α : Type} {xs ys : List α} {a : Nat} {d : α} (h : a < xs.length) : (xs ++ ys).getD a d = xs.getD a d := by
  simp only [List.getD, List.getElem?_append_left h]
theorem wb_app {vals : List Bool} {gs es : List Gt} {a : Nat} (h : a < vals.length + gs.length) : wb vals (gs ++ es) a = wb vals gs a := by
  unfold wb
  rw [rb_app]
  obtain ⟨r, e, _⟩ := rb_pre es (rb vals gs)
  rw [e]
  exact getD_app (by rw [rb_len]; exact h)
theorem wb_new {vals : List Bool} {gs : List Gt} {g : Gt} {n : Nat} (h : n = vals.length + gs.length) : wb vals (gs ++ [g]) n = gb (rb vals gs) g := by
  unfold wb
  rw [rb_app]
  show (rb vals gs ++ [gb (rb vals gs) g]).getD n false = _
  have : n = (rb vals gs).length := by rw [rb_len]; exact h
  subst this
  simp [List.getD]
theorem wb_both {vals : List Bool} {gs : List Gt} {a b n : Nat} (h : n = vals.length + gs.length) : wb vals (gs ++ [.w "both" [a, b]]) n = (wb vals gs a && wb vals gs b) := by
  rw [wb_new h]
  show gbw _ _ "both" = _
  unfold gbw
  rw [if_neg (by decide), if_pos rfl]
  rfl
theorem wb_either {vals : List Bool} {gs : List Gt} {a b n : Nat} (h : n = vals.length + gs.length) : wb vals (gs ++ [.w "either" [a, b]]) n = (wb vals gs a || wb vals gs b) := by
  rw [wb_new h]
  show gbw _ _ "either" = _
  unfold gbw
  rw [if_neg (by decide), if_neg (by decide), if_pos rfl]
  rfl
theorem wb_unlike {vals : List Bool} {gs : List Gt} {a b n : Nat} (h : n = vals.length + gs.length) : wb vals (gs ++ [.w "unlike" [a, b]]) n = (xor (wb vals gs a) (wb vals gs b)) := by
  rw [wb_new h]
  show gbw _ _ "unlike" = _
  unfold gbw
  rw [if_neg (by decide), if_neg (by decide), if_neg (by decide)]
  rfl
theorem wb_other {vals : List Bool} {gs : List Gt} {a n : Nat} (h : n = vals.length + gs.length) : wb vals (gs ++ [.w "other" [a]]) n = !(wb vals gs a) := by
  rw [wb_new h]
  show gbw _ _ "other" = _
  unfold gbw
  rw [if_pos rfl]
  rfl
theorem wb_fixed {vals : List Bool} {gs : List Gt} {b n : Nat} (h : n = vals.length + gs.length) : wb vals (gs ++ [.fi b]) n = decide (b = 1) := wb_new h
/-! ### nets that grow -/
def GsOk (m : Nat) (gs : List Gt) : Prop := ∀ (i : Nat) (g : Gt), gs[i]? = some g → g.ok (m + i)
def Ext (m : Nat) (gs gs' : List Gt) (n : Nat) : Prop := (∃ e, gs' = gs ++ e ∧ e.length ≤ n) ∧ (GsOk m gs → GsOk m gs')
theorem Ext.refl {m : Nat} {gs : List Gt} : Ext m gs gs 0 := ⟨⟨[], (List.append_nil _).symm, Nat.le_refl _⟩, id⟩
theorem Ext.trans {m : Nat} {gs g1 g2 : List Gt} {a b : Nat} (h : Ext m gs g1 a) (k : Ext m g1 g2 b) : Ext m gs g2 (a + b) := by
  obtain ⟨⟨e1, rfl, l1⟩, o1⟩ := h
  obtain ⟨⟨e2, rfl, l2⟩, o2⟩ := k
  exact ⟨⟨e1 ++ e2, List.append_assoc .., by rw [List.length_append]; omega⟩, fun o => o2 (o1 o)⟩
theorem Ext.mono {m : Nat} {gs g1 : List Gt} {a b : Nat} (h : Ext m gs g1 a) (k : a ≤ b) : Ext m gs g1 b := ⟨h.1.imp fun _ x => ⟨x.1, Nat.le_trans x.2 k⟩, h.2⟩
theorem Ext.one {m : Nat} {gs : List Gt} {g : Gt} (h : g.ok (m + gs.length)) : Ext m gs (gs ++ [g]) 1 := by
  refine ⟨⟨[g], rfl, Nat.le_refl _⟩, fun o i g' hi => ?_⟩
  by_cases c : i < gs.length
  · rw [List.getElem?_append_left c] at hi
    exact o i g' hi
  · rw [List.getElem?_append_right (by omega)] at hi
    have : i - gs.length = 0 := by
      have := (List.getElem?_eq_some_iff.mp hi).1
      rw [List.length_singleton] at this
      omega
    rw [this] at hi
    cases hi
    rw [show i = gs.length by omega]
    exact h
theorem Ext.len {m : Nat} {gs g1 : List Gt} {a : Nat} (h : Ext m gs g1 a) : gs.length ≤ g1.length ∧ g1.length ≤ gs.length + a := by
  obtain ⟨⟨e1, rfl, l1⟩, o1⟩ := h
  rw [List.length_append]
  omega
theorem Ext.wb {m : Nat} {gs g1 : List Gt} {a : Nat} (h : Ext m gs g1 a) {vals : List Bool} (hv : vals.length = m) {w : Nat} (hw : w < m + gs.length) : GZ.wb vals g1 w = GZ.wb vals gs w := by
  obtain ⟨⟨e1, rfl, l1⟩, o1⟩ := h
  exact wb_app (by rw [hv]; exact hw)
theorem Ext.wbs {m : Nat} {gs g1 : List Gt} {a : Nat} (h : Ext m gs g1 a) {vals : List Bool} (hv : vals.length = m) {ws : List Nat} (hw : ∀ w ∈ ws, w < m + gs.length) : ws.map (GZ.wb vals g1) = ws.map (GZ.wb vals gs) := List.map_congr_left fun w m' => h.wb hv (hw w m')
theorem Ext.both {m : Nat} {gs : List Gt} {a b : Nat} (ha : a < m + gs.length) (hb : b < m + gs.length) : Ext m gs (gs ++ [.w "both" [a, b]]) 1 := .one ⟨.inl ⟨.inl rfl, rfl⟩, by simp only [List.mem_cons, List.not_mem_nil, or_false]; rintro x (rfl | rfl) <;> assumption⟩
theorem Ext.either {m : Nat} {gs : List Gt} {a b : Nat} (ha : a < m + gs.length) (hb : b < m + gs.length) : Ext m gs (gs ++ [.w "either" [a, b]]) 1 := .one ⟨.inl ⟨.inr (.inl rfl), rfl⟩, by simp only [List.mem_cons, List.not_mem_nil, or_false]; rintro x (rfl | rfl) <;> assumption⟩
theorem Ext.unlike {m : Nat} {gs : List Gt} {a b : Nat} (ha : a < m + gs.length) (hb : b < m + gs.length) : Ext m gs (gs ++ [.w "unlike" [a, b]]) 1 := .one ⟨.inl ⟨.inr (.inr rfl), rfl⟩, by simp only [List.mem_cons, List.not_mem_nil, or_false]; rintro x (rfl | rfl) <;> assumption⟩
theorem Ext.other {m : Nat} {gs : List Gt} {a : Nat} (ha : a < m + gs.length) : Ext m gs (gs ++ [.w "other" [a]]) 1 := .one ⟨.inr ⟨rfl, rfl⟩, by simp only [List.mem_cons, List.not_mem_nil, or_false]; rintro x rfl; assumption⟩
theorem Ext.fixed {m : Nat} {gs : List Gt} {b : Nat} (hb : b ≤ 1) : Ext m gs (gs ++ [.fi b]) 1 := .one hb
theorem fold_inv {α β : Type} (P : Nat → β → Prop) (step : β → α → β) : ∀ (l : List α) (b : β), P 0 b → (∀ (i : Nat) (x : α) (b : β), l[i]? = some x → P i b → P (i + 1) (step b x)) → P l.length (l.foldl step b)
  | [], b, h, _ => h
  | x :: l, b, h, hs => fold_inv (fun i => P (i + 1)) step l (step b x) (hs 0 x b rfl h) fun i y b hi => hs (i + 1) y b hi
theorem fold_take {α β : Type} (step : β → α → β) {l : List α} {i : Nat} {x : α} (h : l[i]? = some x) (b : β) : (l.take (i + 1)).foldl step b = step ((l.take i).foldl step b) x := by
  rw [List.take_add_one, h, List.foldl_append]
  rfl
/-! ### numbers of bits, the greatest ahead -/
def numB (bs : List Bool) : Nat := bs.foldl (fun n b => 2 * n + b.toNat) 0
theorem numB_fold : ∀ (bs : List Bool) (k : Nat), bs.foldl (fun n b => 2 * n + b.toNat) k = k * 2 ^ bs.length + numB bs
  | [], k => by simp [numB]
  | b :: bs, k => by
    unfold numB
    rw [List.foldl_cons, List.foldl_cons, numB_fold bs, numB_fold bs (2 * 0 + b.toNat), List.length_cons, Nat.pow_succ, Nat.mul_comm (2 ^ bs.length) 2, ← Nat.mul_assoc, Nat.add_mul, Nat.add_mul, Nat.mul_comm k 2]
    omega
theorem numB_app (xs ys : List Bool) : numB (xs ++ ys) = numB xs * 2 ^ ys.length + numB ys := by
  unfold numB
  rw [List.foldl_append, numB_fold]
  rfl
theorem numB_cons (b : Bool) (bs : List Bool) : numB (b :: bs) = b.toNat * 2 ^ bs.length + numB bs := numB_app [b] bs |>.trans (by cases b <;> simp [numB])
theorem numB_snoc (bs : List Bool) (b : Bool) : numB (bs ++ [b]) = 2 * numB bs + b.toNat := by
  rw [numB_app]
  cases b <;> simp [numB] <;> omega
theorem numB_lt : ∀ bs : List Bool, numB bs < 2 ^ bs.length
  | [] => by decide
  | b :: bs => by
    have := numB_lt bs
    rw [numB_cons, List.length_cons, Nat.pow_succ]
    cases b <;> simp <;> omega
theorem numB_rep (n : Nat) : numB (List.replicate n false) = 0 := by
  induction n with
  | zero => rfl
  | succ k ih => rw [List.replicate_succ, numB_cons, ih]; simp
theorem wf_num (bs : List Bool) : wf (bs.map bi) = (numB bs : Int) := by
  have key : ∀ (bs : List Bool) (n : Nat), (bs.map bi).foldl (fun w d => 2 * w + d) (n : Int) = ((bs.foldl (fun n b => 2 * n + b.toNat) n : Nat) : Int) := by
    intro bs
    induction bs with
    | nil => intro n; rfl
    | cons b bs ih =>
      intro n
      rw [List.map_cons, List.foldl_cons, List.foldl_cons, ← ih]
      congr 1
      cases b <;> simp [bi]
  exact key bs 0
/-! ### many cases at once -/
theorem tb_bi (x : Int) (k : Nat) : tb x k = bi (decide (tb x k = 1)) := by
  rcases tb_01 x k with h | h <;> rw [h] <;> decide
theorem gv_gb (ws : List Bool) (g : Gt) : gv 1 (ws.map bi) g = bi (gb ws g) := by
  have hg : ∀ i, (ws.map bi).getD i 0 = bi (ws.getD i false) := fun i => by
    simp only [List.getD, List.getElem?_map]
    cases ws[i]? <;> rfl
  cases g with
  | fi b =>
    show (if b = 1 then (1 : Int) else 0) = bi (decide (b = 1))
    by_cases c : b = 1 <;> simp [c, bi]
  | w k l =>
    show gvw 1 _ _ k = bi (gbw _ _ k)
    rw [hg, hg]
    generalize ws.getD (l.getD 0 0) false = x
    generalize ws.getD (l.getD 1 0) false = y
    unfold gvw gbw
    by_cases c1 : k = "other"
    · rw [if_pos c1, if_pos c1]; cases x <;> decide
    rw [if_neg c1, if_neg c1]
    by_cases c2 : k = "both"
    · rw [if_pos c2, if_pos c2]; cases x <;> cases y <;> decide
    rw [if_neg c2, if_neg c2]
    by_cases c3 : k = "either"
    · rw [if_pos c3, if_pos c3]; cases x <;> cases y <;> decide
    rw [if_neg c3, if_neg c3]
    cases x <;> cases y <;> decide
theorem rv_rb : ∀ (gs : List Gt) (vals : List Bool), rv 1 (vals.map bi) gs = (rb vals gs).map bi
  | [], _ => rfl
  | g :: gs, vals => by
    have := rv_rb gs (vals ++ [gb vals g])
    unfold rv rb at this ⊢
    rw [List.foldl_cons, List.foldl_cons, ← this, List.map_append, List.map_cons, List.map_nil, gv_gb]
def bitsOf (vals : List Int) (k : Nat) : List Bool := vals.map fun v => decide (tb v k = 1)
theorem bitsOf_len (vals : List Int) (k : Nat) : (bitsOf vals k).length = vals.length := by
  unfold bitsOf
  rw [List.length_map]
theorem rv_case {n k : Nat} (h : k < n) (gs : List Gt) (vals : List Int) (a : Nat) : tb ((rv (2 ^ n - 1) (vals.map (· % 2 ^ n)) gs).getD a 0) k = bi (wb (bitsOf vals k) gs a) := by
  rw [← getD_map, rv_bit h, List.map_map, show (vals.map ((tb · k) ∘ (· % 2 ^ n))) = (bitsOf vals k).map bi from by
    unfold bitsOf
    rw [List.map_map]
    exact List.map_congr_left fun v _ => (tb_mod v h).trans (tb_bi v k), rv_rb]
  unfold wb
  simp only [List.getD, List.getElem?_map]
  cases (rb (bitsOf vals k) gs)[a]? <;> rfl
/-! ### wires of parts, what they come to -/
structure W1 (m : Nat) (gs : List Gt) (n : Nat) (s : List Gt × Nat) (f : (Nat → Bool) → Bool) : Prop where
  ext : Ext m gs s.1 n
  lt : s.2 < m + s.1.length
  val : ∀ vals : List Bool, vals.length = m → wb vals s.1 s.2 = f (wb vals gs)
structure WL (m : Nat) (gs : List Gt) (n : Nat) (s : List Gt × List Nat) (f : (Nat → Bool) → List Bool) : Prop where
  ext : Ext m gs s.1 n
  lt : ∀ w ∈ s.2, w < m + s.1.length
  val : ∀ vals : List Bool, vals.length = m → s.2.map (wb vals s.1) = f (wb vals gs)
theorem len1 {m : Nat} {gs : List Gt} {g : Gt} : m + gs.length < m + (gs ++ [g]).length := by
  rw [List.length_append, List.length_singleton]
  omega
theorem lt1 {m a : Nat} {gs : List Gt} {g : Gt} (h : a < m + gs.length) : a < m + (gs ++ [g]).length := Nat.lt_trans h len1
def chS (m w st : Nat) (s : List Gt × List Nat) (p : Nat × Nat) : List Gt × List Nat := (s.1 ++ [.w "both" [w, p.1]] ++ [.w "both" [st, p.2]] ++ [.w "either" [m + s.1.length, m + (s.1 ++ [Gt.w "both" [w, p.1]]).length]], s.2 ++ [m + (s.1 ++ [Gt.w "both" [w, p.1]] ++ [Gt.w "both" [st, p.2]]).length])
def chosenW (m : Nat) (gs : List Gt) (w : Nat) (ps : List (Nat × Nat)) : List Gt × List Nat := ps.foldl (chS m w (m + gs.length)) (gs ++ [.w "other" [w]], [])
theorem chosenW_ok {m w : Nat} {gs : List Gt} {ps : List (Nat × Nat)} (h0 : w < m + gs.length) (hw : ∀ p ∈ ps, p.1 < m + gs.length ∧ p.2 < m + gs.length) : WL m gs (3 * ps.length + 1) (chosenW m gs w ps) (fun e => ps.map fun p => if e w = true then e p.1 else e p.2) := by
  have h := fold_inv (fun i (s : List Gt × List Nat) => Ext m gs s.1 (3 * i + 1) ∧ (∀ w ∈ s.2, w < m + s.1.length) ∧ (∀ vals : List Bool, vals.length = m → wb vals s.1 (m + gs.length) = !(wb vals gs w)) ∧ m + gs.length < m + s.1.length ∧ ∀ vals : List Bool, vals.length = m → s.2.map (wb vals s.1) = (ps.take i).map fun p => if wb vals gs w = true then wb vals gs p.1 else wb vals gs p.2) (chS m w (m + gs.length)) ps (gs ++ [.w "other" [w]], []) ⟨(Ext.other h0).mono (by omega), (fun _ z => nomatch z), fun vals hv => wb_other (hv ▸ rfl), len1, fun _ _ => rfl⟩ (fun i p s hp ⟨h1, h2, h4, h5, h3⟩ => by
    obtain ⟨q1, q2⟩ := hw p (List.mem_of_getElem? hp)
    have l := h1.len
    have e1 : Ext m s.1 (s.1 ++ [.w "both" [w, p.1]]) 1 := .both (by omega) (by omega)
    have e2 : Ext m (s.1 ++ [.w "both" [w, p.1]]) (s.1 ++ [.w "both" [w, p.1]] ++ [.w "both" [m + gs.length, p.2]]) 1 := .both (lt1 h5) (lt1 (by omega))
    have e3 : Ext m (s.1 ++ [.w "both" [w, p.1]] ++ [.w "both" [m + gs.length, p.2]]) (s.1 ++ [.w "both" [w, p.1]] ++ [.w "both" [m + gs.length, p.2]] ++ [.w "either" [m + s.1.length, m + (s.1 ++ [Gt.w "both" [w, p.1]]).length]]) 1 := .either (lt1 len1) len1
    have e := (e1.trans e2).trans e3
    have l' := e.len
    refine ⟨(h1.trans e).mono (by omega), fun a ha => ?_, fun vals hv => ?_, Nat.lt_of_lt_of_le h5 (by show _ ≤ m + List.length (s.1 ++ _ ++ _ ++ _); omega), fun vals hv => ?_⟩
    · rcases List.mem_append.mp ha with z | z
      · exact lt1 (lt1 (lt1 (h2 a z)))
      · rw [List.mem_singleton.mp z]
        exact len1
    · exact (e.wb hv h5).trans (h4 vals hv)
    · show (s.2 ++ [_]).map _ = _
      rw [List.map_append, List.take_add_one, hp, List.map_append]
      congr 1
      · exact (e.wbs hv h2).trans (h3 vals hv)
      · show [_] = [_]
        congr 1
        show wb vals (s.1 ++ [.w "both" [w, p.1]] ++ [.w "both" [m + gs.length, p.2]] ++ [.w "either" [m + s.1.length, m + (s.1 ++ [Gt.w "both" [w, p.1]]).length]]) _ = _
        rw [wb_either (hv ▸ rfl), e2.wb hv len1, wb_both (hv ▸ rfl), wb_both (hv ▸ rfl), e1.wb hv h5, e1.wb hv (by omega), h4 vals hv, h1.wb hv h0, h1.wb hv q1, h1.wb hv q2]
        cases wb vals gs w <;> simp)
  obtain ⟨h1, h2, _, _, h3⟩ := h
  refine ⟨h1, h2, fun vals hv => ?_⟩
  rw [show chosenW m gs w ps = ps.foldl (chS m w (m + gs.length)) (gs ++ [.w "other" [w]], []) from rfl]
  rw [h3 vals hv, List.take_of_length_le (Nat.le_refl _)]
theorem chW_len (m w st : Nat) : ∀ (ps : List (Nat × Nat)) (s : List Gt × List Nat), s.1.length ≤ (ps.foldl (chS m w st) s).1.length
  | [], _ => Nat.le_refl _
  | p :: ps, s => Nat.le_trans (by unfold chS; simp only [List.length_append]; omega) (chW_len m w st ps (chS m w st s p))
/-! ### sums, products, orders of wires -/
theorem mem_zipR {os ts : List Nat} {p : Nat × Nat} (h : p ∈ os.reverse.zip ts.reverse) : p.1 ∈ os ∧ p.2 ∈ ts := ⟨List.mem_reverse.mp (List.of_mem_zip h).1, List.mem_reverse.mp (List.of_mem_zip h).2⟩
theorem zipR_len {os ts : List Nat} (h : os.length = ts.length) : (os.reverse.zip ts.reverse).length = os.length := by
  rw [List.length_zip, List.length_reverse, List.length_reverse]
  omega
theorem zipR_map (e : Nat → Bool) (os ts : List Nat) : (os.reverse.zip ts.reverse).map (fun p => (e p.1, e p.2)) = (os.map e).reverse.zip (ts.map e).reverse := by
  rw [← List.map_reverse, ← List.map_reverse, List.zip_map]
  rfl
theorem numB_rev_snoc (xs : List Bool) (b : Bool) : numB (xs ++ [b]).reverse = b.toNat * 2 ^ xs.length + numB xs.reverse := by
  rw [List.reverse_append, List.reverse_singleton, List.singleton_append, numB_cons, List.length_reverse]
theorem fst_zip' {α β : Type} : ∀ {l : List α} {r : List β}, l.length = r.length → (l.zip r).map (·.1) = l
  | [], [], _ => rfl
  | a :: l, b :: r, h => congrArg (a :: ·) (fst_zip' (Nat.succ.inj h))
theorem snd_zip' {α β : Type} : ∀ {l : List α} {r : List β}, l.length = r.length → (l.zip r).map (·.2) = r
  | [], [], _ => rfl
  | a :: l, b :: r, h => congrArg (b :: ·) (snd_zip' (Nat.succ.inj h))
def adF (s : List Bool × Bool) (p : Bool × Bool) : List Bool × Bool := (s.1 ++ [xor (xor p.1 p.2) s.2], (p.1 && p.2) || (xor p.1 p.2 && s.2))
def sumB (os ts : List Bool) (c : Bool) : List Bool := ((os.reverse.zip ts.reverse).foldl adF ([], c)).2 :: ((os.reverse.zip ts.reverse).foldl adF ([], c)).1.reverse
theorem adF_num (c : Bool) (ps : List (Bool × Bool)) : (ps.foldl adF ([], c)).1.length = ps.length ∧ numB (ps.foldl adF ([], c)).1.reverse + 2 ^ ps.length * (ps.foldl adF ([], c)).2.toNat = numB (ps.map (·.1)).reverse + numB (ps.map (·.2)).reverse + c.toNat := by
  have h := fold_inv (fun i (s : List Bool × Bool) => s.1.length = i ∧ numB s.1.reverse + 2 ^ i * s.2.toNat = numB ((ps.take i).map (·.1)).reverse + numB ((ps.take i).map (·.2)).reverse + c.toNat) adF ps ([], c) ⟨rfl, by simp [numB]⟩ (fun i p s hp ⟨h1, h2⟩ => by
    obtain ⟨hi, e⟩ := List.getElem?_eq_some_iff.mp hp
    have lt : (ps.take i).length = i := by rw [List.length_take]; omega
    refine ⟨by show (s.1 ++ [_]).length = _; rw [List.length_append, h1]; rfl, ?_⟩
    rw [List.take_add_one, hp]
    show numB (s.1 ++ [_]).reverse + 2 ^ (i + 1) * ((p.1 && p.2) || (xor p.1 p.2 && s.2)).toNat = numB ((ps.take i ++ [p]).map (·.1)).reverse + numB ((ps.take i ++ [p]).map (·.2)).reverse + c.toNat
    rw [List.map_append, List.map_append]
    show numB (s.1 ++ [_]).reverse + _ = numB ((ps.take i).map (·.1) ++ [p.1]).reverse + numB ((ps.take i).map (·.2) ++ [p.2]).reverse + _
    rw [numB_rev_snoc, numB_rev_snoc, numB_rev_snoc, h1, List.length_map, List.length_map, lt, Nat.pow_succ]
    generalize numB ((ps.take i).map (·.1)).reverse = A at *
    generalize numB ((ps.take i).map (·.2)).reverse = B at *
    generalize numB s.1.reverse = D at *
    generalize 2 ^ i = K at *
    generalize s.2 = d at *
    generalize p.1 = a
    generalize p.2 = b
    cases a <;> cases b <;> cases d <;> simp at h2 ⊢ <;> omega)
  rw [List.take_of_length_le (Nat.le_refl _)] at h
  exact h
theorem sumB_num {os ts : List Bool} {c : Bool} (h : os.length = ts.length) : numB (sumB os ts c) = numB os + numB ts + c.toNat := by
  have hz : (os.reverse.zip ts.reverse).length = os.length := by rw [List.length_zip, List.length_reverse, List.length_reverse]; omega
  obtain ⟨h1, h2⟩ := adF_num c (os.reverse.zip ts.reverse)
  rw [fst_zip' (by simpa using h), snd_zip' (by simpa using h), List.reverse_reverse, List.reverse_reverse] at h2
  unfold sumB
  rw [numB_cons, List.length_reverse, h1]
  rw [Nat.mul_comm] at h2
  omega
theorem sumB_len {os ts : List Bool} {c : Bool} (h : os.length = ts.length) : (sumB os ts c).length = os.length + 1 := by
  have hz : (os.reverse.zip ts.reverse).length = os.length := by rw [List.length_zip, List.length_reverse, List.length_reverse]; omega
  obtain ⟨h1, _⟩ := adF_num c (os.reverse.zip ts.reverse)
  unfold sumB
  rw [List.length_cons, List.length_reverse, h1, hz]
def suS (m : Nat) (s : List Gt × List Nat × Nat) (p : Nat × Nat) : List Gt × List Nat × Nat :=
  let g1 := s.1 ++ [.w "unlike" [p.1, p.2]]
  let g2 := g1 ++ [.w "unlike" [m + s.1.length, s.2.2]]
  let g3 := g2 ++ [.w "both" [p.1, p.2]]
  let g4 := g3 ++ [.w "both" [m + s.1.length, s.2.2]]
  let g5 := g4 ++ [.w "either" [m + g2.length, m + g3.length]]
  (g5, s.2.1 ++ [m + g1.length], m + g4.length)
def sumF (m : Nat) (gs : List Gt) (ps : List (Nat × Nat)) (c : Nat) : List Gt × List Nat × Nat := ps.foldl (suS m) (gs, [], c)
def sumW (m : Nat) (gs : List Gt) (os ts : List Nat) (c : Nat) : List Gt × List Nat := ((sumF m gs (os.reverse.zip ts.reverse) c).1, (sumF m gs (os.reverse.zip ts.reverse) c).2.2 :: (sumF m gs (os.reverse.zip ts.reverse) c).2.1.reverse)
theorem sumF_ok {m : Nat} {gs : List Gt} {ps : List (Nat × Nat)} {c : Nat} (hw : ∀ p ∈ ps, p.1 < m + gs.length ∧ p.2 < m + gs.length) (hc : c < m + gs.length) : ∀ i, i ≤ ps.length → ∀ s, s = sumF m gs (ps.take i) c → Ext m gs s.1 (5 * i) ∧ s.1.length = gs.length + 5 * i ∧ s.2.1.length = i ∧ (∀ w ∈ s.2.1, w < m + s.1.length) ∧ s.2.2 < m + s.1.length ∧ ∀ vals : List Bool, vals.length = m → (s.2.1.map (wb vals s.1), wb vals s.1 s.2.2) = ((ps.take i).map fun p => (wb vals gs p.1, wb vals gs p.2)).foldl adF ([], wb vals gs c) := by
  intro i
  induction i with
  | zero => exact fun _ s e => by subst e; exact ⟨.refl, rfl, rfl, (fun _ z => nomatch z), hc, fun vals _ => rfl⟩
  | succ i ih =>
    intro hi s e
    obtain ⟨p, hp⟩ : ∃ p, ps[i]? = some p := ⟨ps[i], List.getElem?_eq_getElem (by omega)⟩
    have es : sumF m gs (ps.take (i + 1)) c = suS m (sumF m gs (ps.take i) c) p := fold_take _ hp _
    obtain ⟨h1, hl, ht, h2, h4, h3⟩ := ih (by omega) _ rfl
    rw [e, es]
    clear e es
    generalize sumF m gs (ps.take i) c = s at *
    obtain ⟨q1, q2⟩ := hw p (List.mem_of_getElem? hp)
    have l := h1.len
    obtain ⟨g1, eg1⟩ : ∃ g, g = s.1 ++ [.w "unlike" [p.1, p.2]] := ⟨_, rfl⟩
    obtain ⟨g2, eg2⟩ : ∃ g, g = g1 ++ [.w "unlike" [m + s.1.length, s.2.2]] := ⟨_, rfl⟩
    obtain ⟨g3, eg3⟩ : ∃ g, g = g2 ++ [.w "both" [p.1, p.2]] := ⟨_, rfl⟩
    obtain ⟨g4, eg4⟩ : ∃ g, g = g3 ++ [.w "both" [m + s.1.length, s.2.2]] := ⟨_, rfl⟩
    obtain ⟨g5, eg5⟩ : ∃ g, g = g4 ++ [.w "either" [m + g2.length, m + g3.length]] := ⟨_, rfl⟩
    have hs : suS m s p = (g5, s.2.1 ++ [m + g1.length], m + g4.length) := by rw [eg5, eg4, eg3, eg2, eg1]; rfl
    have l1 : g1.length = s.1.length + 1 := by rw [eg1]; simp
    have l2 : g2.length = s.1.length + 2 := by rw [eg2]; simp [l1]
    have l3 : g3.length = s.1.length + 3 := by rw [eg3]; simp [l2]
    have l4 : g4.length = s.1.length + 4 := by rw [eg4]; simp [l3]
    have l5 : g5.length = s.1.length + 5 := by rw [eg5]; simp [l4]
    have e1 : Ext m s.1 g1 1 := eg1 ▸ .unlike (by omega) (by omega)
    have e2 : Ext m g1 g2 1 := eg2 ▸ .unlike (by omega) (by omega)
    have e3 : Ext m g2 g3 1 := eg3 ▸ .both (by omega) (by omega)
    have e4 : Ext m g3 g4 1 := eg4 ▸ .both (by omega) (by omega)
    have e5 : Ext m g4 g5 1 := eg5 ▸ .either (by omega) (by omega)
    have e35 := (e3.trans e4).trans e5
    have e25 := e2.trans e35
    have e := e1.trans e25
    rw [hs]
    refine ⟨(h1.trans e).mono (by omega), by show g5.length = _; omega, by show (s.2.1 ++ [_]).length = _; rw [List.length_append, ht]; rfl, fun a ha => ?_, by show m + g4.length < m + g5.length; omega, fun vals hv => ?_⟩
    · rcases List.mem_append.mp ha with z | z
      · have := h2 a z
        show a < m + g5.length
        omega
      · rw [List.mem_singleton.mp z]
        show m + g1.length < m + g5.length
        omega
    · have ef : ((ps.take (i + 1)).map (fun p => (wb vals gs p.1, wb vals gs p.2))).foldl adF ([], wb vals gs c) = adF (((ps.take i).map (fun p => (wb vals gs p.1, wb vals gs p.2))).foldl adF ([], wb vals gs c)) (wb vals gs p.1, wb vals gs p.2) := by
        rw [List.take_add_one, hp, List.map_append, List.foldl_append]
        rfl
      rw [ef, ← h3 vals hv]
      have v1 : wb vals g1 (m + s.1.length) = xor (wb vals gs p.1) (wb vals gs p.2) := by
        rw [eg1, wb_unlike (hv ▸ rfl), h1.wb hv q1, h1.wb hv q2]
      have v2 : wb vals g2 (m + g1.length) = xor (xor (wb vals gs p.1) (wb vals gs p.2)) (wb vals s.1 s.2.2) := by
        rw [eg2, wb_unlike (hv ▸ rfl), v1, e1.wb hv h4]
      have v3 : wb vals g3 (m + g2.length) = (wb vals gs p.1 && wb vals gs p.2) := by
        rw [eg3, wb_both (hv ▸ rfl), (e1.trans e2).wb hv (by omega), (e1.trans e2).wb hv (by omega), h1.wb hv q1, h1.wb hv q2]
      have v4 : wb vals g4 (m + g3.length) = (xor (wb vals gs p.1) (wb vals gs p.2) && wb vals s.1 s.2.2) := by
        rw [eg4, wb_both (hv ▸ rfl), (e2.trans e3).wb hv (by omega), ((e1.trans e2).trans e3).wb hv h4, v1]
      have v5 : wb vals g5 (m + g4.length) = ((wb vals gs p.1 && wb vals gs p.2) || (xor (wb vals gs p.1) (wb vals gs p.2) && wb vals s.1 s.2.2)) := by
        rw [eg5, wb_either (hv ▸ rfl), e4.wb hv (by omega), v3, v4]
      show ((s.2.1 ++ [m + g1.length]).map (wb vals g5), wb vals g5 (m + g4.length)) = (s.2.1.map (wb vals s.1) ++ [_], _)
      rw [List.map_append, e.wbs hv h2, v5]
      congr 1
      congr 1
      show [_] = [_]
      congr 1
      rw [e35.wb hv (by omega), v2]
theorem sumW_ok {m : Nat} {gs : List Gt} {os ts : List Nat} {c : Nat} (hl : os.length = ts.length) (ho : ∀ w ∈ os, w < m + gs.length) (ht : ∀ w ∈ ts, w < m + gs.length) (hc : c < m + gs.length) : WL m gs (5 * os.length) (sumW m gs os ts c) (fun e => sumB (os.map e) (ts.map e) (e c)) := by
  obtain ⟨h1, _, _, h2, h4, h3⟩ := sumF_ok (ps := os.reverse.zip ts.reverse) (fun p hp => ⟨ho _ (mem_zipR hp).1, ht _ (mem_zipR hp).2⟩) hc _ (Nat.le_refl _) _ rfl
  rw [List.take_length] at h1 h2 h4 h3
  rw [zipR_len hl] at h1
  unfold sumW
  generalize sumF m gs (os.reverse.zip ts.reverse) c = s at *
  refine ⟨h1, fun w hw => ?_, fun vals hv => ?_⟩
  · rcases List.mem_cons.mp hw with z | z
    · exact z ▸ h4
    · exact h2 w (List.mem_reverse.mp z)
  · show (s.2.2 :: s.2.1.reverse).map (wb vals s.1) = _
    have h := h3 vals hv
    unfold sumB
    rw [← zipR_map, ← h, List.map_cons, List.map_reverse]
theorem sumW_len {m : Nat} {gs : List Gt} {os ts : List Nat} {c : Nat} (hl : os.length = ts.length) (ho : ∀ w ∈ os, w < m + gs.length) (ht : ∀ w ∈ ts, w < m + gs.length) (hc : c < m + gs.length) : (sumW m gs os ts c).2.length = os.length + 1 := by
  have := congrArg List.length ((sumW_ok hl ho ht hc).val (List.replicate m false) (by simp))
  rw [List.length_map, sumB_len (by rw [List.length_map, List.length_map, hl]), List.length_map] at this
  exact this
/-! ### less -/
def leF (l : Bool) (p : Bool × Bool) : Bool := (!p.1 && p.2) || ((!p.1 || p.2) && l)
def lessB (os ts : List Bool) : Bool := (os.reverse.zip ts.reverse).foldl leF false
def leS (m : Nat) (s : List Gt × Nat) (p : Nat × Nat) : List Gt × Nat :=
  let g1 := s.1 ++ [.w "other" [p.1]]
  let g2 := g1 ++ [.w "both" [m + s.1.length, p.2]]
  let g3 := g2 ++ [.w "either" [m + s.1.length, p.2]]
  let g4 := g3 ++ [.w "both" [m + g2.length, s.2]]
  let g5 := g4 ++ [.w "either" [m + g1.length, m + g3.length]]
  (g5, m + g4.length)
def lessF (m : Nat) (gs : List Gt) (ps : List (Nat × Nat)) : List Gt × Nat := ps.foldl (leS m) (gs ++ [.fi 0], m + gs.length)
def lessW (m : Nat) (gs : List Gt) (os ts : List Nat) : List Gt × Nat := lessF m gs (os.reverse.zip ts.reverse)
theorem lessF_ok {m : Nat} {gs : List Gt} {ps : List (Nat × Nat)} (hw : ∀ p ∈ ps, p.1 < m + gs.length ∧ p.2 < m + gs.length) : ∀ i, i ≤ ps.length → ∀ s, s = lessF m gs (ps.take i) → Ext m gs s.1 (5 * i + 1) ∧ s.1.length = gs.length + 5 * i + 1 ∧ s.2 < m + s.1.length ∧ ∀ vals : List Bool, vals.length = m → wb vals s.1 s.2 = ((ps.take i).map fun p => (wb vals gs p.1, wb vals gs p.2)).foldl leF false := by
  intro i
  induction i with
  | zero =>
    intro _ s e
    subst e
    refine ⟨(Ext.fixed (Nat.zero_le _)).mono (Nat.le_refl _), by show (gs ++ [_]).length = _; simp, len1, fun vals hv => ?_⟩
    show wb vals (gs ++ [.fi 0]) (m + gs.length) = false
    rw [wb_fixed (hv ▸ rfl)]
    rfl
  | succ i ih =>
    intro hi s e
    obtain ⟨p, hp⟩ : ∃ p, ps[i]? = some p := ⟨ps[i], List.getElem?_eq_getElem (by omega)⟩
    have es : lessF m gs (ps.take (i + 1)) = leS m (lessF m gs (ps.take i)) p := fold_take _ hp _
    obtain ⟨h1, hl, h4, h3⟩ := ih (by omega) _ rfl
    rw [e, es]
    clear e es
    generalize lessF m gs (ps.take i) = s at *
    obtain ⟨q1, q2⟩ := hw p (List.mem_of_getElem? hp)
    have l := h1.len
    obtain ⟨g1, eg1⟩ : ∃ g, g = s.1 ++ [.w "other" [p.1]] := ⟨_, rfl⟩
    obtain ⟨g2, eg2⟩ : ∃ g, g = g1 ++ [.w "both" [m + s.1.length, p.2]] := ⟨_, rfl⟩
    obtain ⟨g3, eg3⟩ : ∃ g, g = g2 ++ [.w "either" [m + s.1.length, p.2]] := ⟨_, rfl⟩
    obtain ⟨g4, eg4⟩ : ∃ g, g = g3 ++ [.w "both" [m + g2.length, s.2]] := ⟨_, rfl⟩
    obtain ⟨g5, eg5⟩ : ∃ g, g = g4 ++ [.w "either" [m + g1.length, m + g3.length]] := ⟨_, rfl⟩
    have hs : leS m s p = (g5, m + g4.length) := by rw [eg5, eg4, eg3, eg2, eg1]; rfl
    have l1 : g1.length = s.1.length + 1 := by rw [eg1]; simp
    have l2 : g2.length = s.1.length + 2 := by rw [eg2]; simp [l1]
    have l3 : g3.length = s.1.length + 3 := by rw [eg3]; simp [l2]
    have l4 : g4.length = s.1.length + 4 := by rw [eg4]; simp [l3]
    have l5 : g5.length = s.1.length + 5 := by rw [eg5]; simp [l4]
    have e1 : Ext m s.1 g1 1 := eg1 ▸ .other (by omega)
    have e2 : Ext m g1 g2 1 := eg2 ▸ .both (by omega) (by omega)
    have e3 : Ext m g2 g3 1 := eg3 ▸ .either (by omega) (by omega)
    have e4 : Ext m g3 g4 1 := eg4 ▸ .both (by omega) (by omega)
    have e5 : Ext m g4 g5 1 := eg5 ▸ .either (by omega) (by omega)
    have e12 := e1.trans e2
    have e13 := e12.trans e3
    have e := (e13.trans e4).trans e5
    rw [hs]
    refine ⟨(h1.trans e).mono (by omega), by show g5.length = _; omega, by show m + g4.length < m + g5.length; omega, fun vals hv => ?_⟩
    · have ef : ((ps.take (i + 1)).map (fun p => (wb vals gs p.1, wb vals gs p.2))).foldl leF false = leF (((ps.take i).map (fun p => (wb vals gs p.1, wb vals gs p.2))).foldl leF false) (wb vals gs p.1, wb vals gs p.2) := by
        rw [List.take_add_one, hp, List.map_append, List.foldl_append]
        rfl
      rw [ef, ← h3 vals hv]
      have v1 : wb vals g1 (m + s.1.length) = !(wb vals gs p.1) := by
        rw [eg1, wb_other (hv ▸ rfl), h1.wb hv q1]
      have v2 : wb vals g2 (m + g1.length) = (!(wb vals gs p.1) && wb vals gs p.2) := by
        rw [eg2, wb_both (hv ▸ rfl), v1, e1.wb hv (by omega), h1.wb hv q2]
      have v3 : wb vals g3 (m + g2.length) = (!(wb vals gs p.1) || wb vals gs p.2) := by
        rw [eg3, wb_either (hv ▸ rfl), e2.wb hv (by omega), v1, e12.wb hv (by omega), h1.wb hv q2]
      have v4 : wb vals g4 (m + g3.length) = ((!(wb vals gs p.1) || wb vals gs p.2) && wb vals s.1 s.2) := by
        rw [eg4, wb_both (hv ▸ rfl), v3, e13.wb hv h4]
      show wb vals g5 (m + g4.length) = leF (wb vals s.1 s.2) (wb vals gs p.1, wb vals gs p.2)
      rw [eg5, wb_either (hv ▸ rfl), (e3.trans e4).wb hv (by omega), v2, v4]
      rfl
theorem lessW_ok {m : Nat} {gs : List Gt} {os ts : List Nat} (hl : os.length = ts.length) (ho : ∀ w ∈ os, w < m + gs.length) (ht : ∀ w ∈ ts, w < m + gs.length) : W1 m gs (5 * os.length + 1) (lessW m gs os ts) (fun e => lessB (os.map e) (ts.map e)) := by
  obtain ⟨h1, _, h4, h3⟩ := lessF_ok (ps := os.reverse.zip ts.reverse) (fun p hp => ⟨ho _ (mem_zipR hp).1, ht _ (mem_zipR hp).2⟩) _ (Nat.le_refl _) _ rfl
  rw [List.take_length] at h1 h4 h3
  rw [zipR_len hl] at h1
  unfold lessW
  refine ⟨h1, h4, fun vals hv => ?_⟩
  have h := h3 vals hv
  unfold lessB
  rw [← zipR_map, ← h]
/-! ### one more by a bit -/
def raS (m : Nat) (s : List Gt × List Nat × Nat) (a : Nat) : List Gt × List Nat × Nat :=
  let g1 := s.1 ++ [.w "unlike" [a, s.2.2]]
  let g2 := g1 ++ [.w "both" [a, s.2.2]]
  (g2, s.2.1 ++ [m + s.1.length], m + g1.length)
def raiF (m : Nat) (gs : List Gt) (os : List Nat) (w : Nat) : List Gt × List Nat × Nat := os.foldl (raS m) (gs, [], w)
def raiW (m : Nat) (gs : List Gt) (os : List Nat) (w : Nat) : List Gt × List Nat := ((raiF m gs os.reverse w).1, (raiF m gs os.reverse w).2.2 :: (raiF m gs os.reverse w).2.1.reverse)
def raF (s : List Bool × Bool) (a : Bool) : List Bool × Bool := (s.1 ++ [xor a s.2], a && s.2)
def raiB (os : List Bool) (w : Bool) : List Bool := (os.reverse.foldl raF ([], w)).2 :: (os.reverse.foldl raF ([], w)).1.reverse
theorem raF_num (c : Bool) (ps : List Bool) : (ps.foldl raF ([], c)).1.length = ps.length ∧ numB (ps.foldl raF ([], c)).1.reverse + 2 ^ ps.length * (ps.foldl raF ([], c)).2.toNat = numB ps.reverse + c.toNat := by
  have h := fold_inv (fun i (s : List Bool × Bool) => s.1.length = i ∧ numB s.1.reverse + 2 ^ i * s.2.toNat = numB (ps.take i).reverse + c.toNat) raF ps ([], c) ⟨rfl, by simp [numB]⟩ (fun i p s hp ⟨h1, h2⟩ => by
    obtain ⟨hi, e⟩ := List.getElem?_eq_some_iff.mp hp
    have lt : (ps.take i).length = i := by rw [List.length_take]; omega
    refine ⟨by show (s.1 ++ [_]).length = _; rw [List.length_append, h1]; rfl, ?_⟩
    rw [List.take_add_one, hp]
    show numB (s.1 ++ [_]).reverse + 2 ^ (i + 1) * (p && s.2).toNat = numB (ps.take i ++ [p]).reverse + c.toNat
    rw [numB_rev_snoc, numB_rev_snoc, h1, lt, Nat.pow_succ]
    generalize numB (ps.take i).reverse = A at *
    generalize numB s.1.reverse = D at *
    generalize 2 ^ i = K at *
    generalize s.2 = d at *
    cases p <;> cases d <;> simp at h2 ⊢ <;> omega)
  rw [List.take_of_length_le (Nat.le_refl _)] at h
  exact h
theorem raiB_len {os : List Bool} {c : Bool} : (raiB os c).length = os.length + 1 := by
  obtain ⟨h1, _⟩ := raF_num c os.reverse
  unfold raiB
  rw [List.length_cons, List.length_reverse, h1, List.length_reverse]
theorem raiF_ok {m : Nat} {gs : List Gt} {ps : List Nat} {c : Nat} (hw : ∀ p ∈ ps, p < m + gs.length) (hc : c < m + gs.length) : ∀ i, i ≤ ps.length → ∀ s, s = raiF m gs (ps.take i) c → Ext m gs s.1 (2 * i) ∧ s.1.length = gs.length + 2 * i ∧ s.2.1.length = i ∧ (∀ w ∈ s.2.1, w < m + s.1.length) ∧ s.2.2 < m + s.1.length ∧ ∀ vals : List Bool, vals.length = m → (s.2.1.map (wb vals s.1), wb vals s.1 s.2.2) = ((ps.take i).map (wb vals gs)).foldl raF ([], wb vals gs c) := by
  intro i
  induction i with
  | zero => exact fun _ s e => by subst e; exact ⟨.refl, rfl, rfl, (fun _ z => nomatch z), hc, fun vals _ => rfl⟩
  | succ i ih =>
    intro hi s e
    obtain ⟨p, hp⟩ : ∃ p, ps[i]? = some p := ⟨ps[i], List.getElem?_eq_getElem (by omega)⟩
    have es : raiF m gs (ps.take (i + 1)) c = raS m (raiF m gs (ps.take i) c) p := fold_take _ hp _
    obtain ⟨h1, hl, ht, h2, h4, h3⟩ := ih (by omega) _ rfl
    rw [e, es]
    clear e es
    generalize raiF m gs (ps.take i) c = s at *
    have q1 := hw p (List.mem_of_getElem? hp)
    have l := h1.len
    obtain ⟨g1, eg1⟩ : ∃ g, g = s.1 ++ [.w "unlike" [p, s.2.2]] := ⟨_, rfl⟩
    obtain ⟨g2, eg2⟩ : ∃ g, g = g1 ++ [.w "both" [p, s.2.2]] := ⟨_, rfl⟩
    have hs : raS m s p = (g2, s.2.1 ++ [m + s.1.length], m + g1.length) := by rw [eg2, eg1]; rfl
    have l1 : g1.length = s.1.length + 1 := by rw [eg1]; simp
    have l2 : g2.length = s.1.length + 2 := by rw [eg2]; simp [l1]
    have e1 : Ext m s.1 g1 1 := eg1 ▸ .unlike (by omega) (by omega)
    have e2 : Ext m g1 g2 1 := eg2 ▸ .both (by omega) (by omega)
    have e := e1.trans e2
    rw [hs]
    refine ⟨(h1.trans e).mono (by omega), by show g2.length = _; omega, by show (s.2.1 ++ [_]).length = _; rw [List.length_append, ht]; rfl, fun a ha => ?_, by show m + g1.length < m + g2.length; omega, fun vals hv => ?_⟩
    · rcases List.mem_append.mp ha with z | z
      · have := h2 a z
        show a < m + g2.length
        omega
      · rw [List.mem_singleton.mp z]
        show m + s.1.length < m + g2.length
        omega
    · have ef : ((ps.take (i + 1)).map (wb vals gs)).foldl raF ([], wb vals gs c) = raF (((ps.take i).map (wb vals gs)).foldl raF ([], wb vals gs c)) (wb vals gs p) := by
        rw [List.take_add_one, hp, List.map_append, List.foldl_append]
        rfl
      rw [ef, ← h3 vals hv]
      have v1 : wb vals g1 (m + s.1.length) = xor (wb vals gs p) (wb vals s.1 s.2.2) := by
        rw [eg1, wb_unlike (hv ▸ rfl), h1.wb hv q1]
      have v2 : wb vals g2 (m + g1.length) = (wb vals gs p && wb vals s.1 s.2.2) := by
        rw [eg2, wb_both (hv ▸ rfl), e1.wb hv (by omega), e1.wb hv h4, h1.wb hv q1]
      show ((s.2.1 ++ [m + s.1.length]).map (wb vals g2), wb vals g2 (m + g1.length)) = (s.2.1.map (wb vals s.1) ++ [_], _)
      rw [List.map_append, e.wbs hv h2, v2]
      congr 1
      congr 1
      show [_] = [_]
      congr 1
      rw [e2.wb hv (by omega), v1]
theorem raiW_ok {m : Nat} {gs : List Gt} {os : List Nat} {c : Nat} (ho : ∀ w ∈ os, w < m + gs.length) (hc : c < m + gs.length) : WL m gs (2 * os.length) (raiW m gs os c) (fun e => raiB (os.map e) (e c)) := by
  obtain ⟨h1, _, _, h2, h4, h3⟩ := raiF_ok (ps := os.reverse) (fun p hp => ho _ (List.mem_reverse.mp hp)) hc _ (Nat.le_refl _) _ rfl
  rw [List.take_length] at h1 h2 h4 h3
  rw [List.length_reverse] at h1
  unfold raiW
  generalize raiF m gs os.reverse c = s at *
  refine ⟨h1, fun w hw => ?_, fun vals hv => ?_⟩
  · rcases List.mem_cons.mp hw with z | z
    · exact z ▸ h4
    · exact h2 w (List.mem_reverse.mp z)
  · show (s.2.2 :: s.2.1.reverse).map (wb vals s.1) = _
    have h := h3 vals hv
    unfold raiB
    rw [← List.map_reverse, ← h, List.map_cons, List.map_reverse]
theorem raiW_len {m : Nat} {gs : List Gt} {os : List Nat} {c : Nat} (ho : ∀ w ∈ os, w < m + gs.length) (hc : c < m + gs.length) : (raiW m gs os c).2.length = os.length + 1 := by
  have := congrArg List.length ((raiW_ok ho hc).val (List.replicate m false) (by simp))
  rw [List.length_map, raiB_len, List.length_map] at this
  exact this
/-! ### products -/
def rwS (m o : Nat) (s : List Gt × List Nat) (a : Nat) : List Gt × List Nat := (s.1 ++ [.w "both" [a, o]], s.2 ++ [m + s.1.length])
def rowW (m : Nat) (gs : List Gt) (os : List Nat) (o : Nat) : List Gt × List Nat := os.foldl (rwS m o) (gs, [])
theorem rowW_at {m o : Nat} {gs : List Gt} : ∀ (os : List Nat) (s : List Gt × List Nat), (os.foldl (rwS m o) s).1.length = s.1.length + os.length ∧ (os.foldl (rwS m o) s).2.length = s.2.length + os.length
  | [], s => ⟨rfl, rfl⟩
  | a :: l, s => by
    obtain ⟨h1, h2⟩ := rowW_at (gs := gs) l (rwS m o s a)
    rw [List.foldl_cons, h1, h2]
    unfold rwS
    simp only [List.length_append, List.length_cons, List.length_nil]
    omega
theorem rowW_ok {m o : Nat} {gs : List Gt} {os : List Nat} (hw : ∀ p ∈ os, p < m + gs.length) (hO : o < m + gs.length) : WL m gs os.length (rowW m gs os o) (fun e => os.map fun p => (e p && e o)) := by
  have h := fold_inv (fun i (s : List Gt × List Nat) => Ext m gs s.1 i ∧ (∀ w ∈ s.2, w < m + s.1.length) ∧ ∀ vals : List Bool, vals.length = m → s.2.map (wb vals s.1) = (os.take i).map fun p => (wb vals gs p && wb vals gs o)) (rwS m o) os (gs, []) ⟨.refl, (fun _ z => nomatch z), fun _ _ => rfl⟩ (fun i p s hp ⟨h1, h2, h3⟩ => by
    have q1 := hw p (List.mem_of_getElem? hp)
    have l := h1.len
    have e : Ext m s.1 (s.1 ++ [.w "both" [p, o]]) 1 := .both (by omega) (by omega)
    refine ⟨h1.trans e, fun a ha => ?_, fun vals hv => ?_⟩
    · rcases List.mem_append.mp ha with z | z
      · exact lt1 (h2 a z)
      · rw [List.mem_singleton.mp z]
        exact len1
    · show (s.2 ++ [_]).map (wb vals (s.1 ++ [Gt.w "both" [p, o]])) = _
      rw [List.map_append, e.wbs hv h2, h3 vals hv, List.take_add_one, hp, List.map_append]
      congr 1
      show [_] = [_]
      congr 1
      rw [wb_both (hv ▸ rfl), h1.wb hv q1, h1.wb hv hO])
  obtain ⟨h1, h2, h3⟩ := h
  exact ⟨h1, h2, fun vals hv => by
    rw [List.take_of_length_le (Nat.le_refl _)] at h3
    exact h3 vals hv⟩
theorem rowB_num (b : Bool) : ∀ os : List Bool, numB (os.map (· && b)) = numB os * b.toNat
  | [] => by simp [numB]
  | a :: os => by
    rw [List.map_cons, numB_cons, numB_cons, List.length_map, rowB_num b os]
    cases a <;> cases b <;> simp
def tiS (m : Nat) (os : List Nat) (z : Nat) (s : List Gt × List Nat × List Nat) (o : Nat) : List Gt × List Nat × List Nat :=
  let R := rowW m s.1 os o
  let S := sumW m R.1 s.2.1 R.2 z
  (S.1, S.2.dropLast, s.2.2 ++ [S.2.getLastD 0])
def timF (m : Nat) (gs : List Gt) (os ts : List Nat) : List Gt × List Nat × List Nat := ts.foldl (tiS m os (m + gs.length)) (gs ++ [.fi 0], List.replicate os.length (m + gs.length), [])
def timW (m : Nat) (gs : List Gt) (os ts : List Nat) : List Gt × List Nat := ((timF m gs os ts.reverse).1, (timF m gs os ts.reverse).2.1 ++ (timF m gs os ts.reverse).2.2.reverse)
theorem dl_last {α : Type} {l : List α} {d : α} (h : l ≠ []) : l = l.dropLast ++ [l.getLastD d] := by
  have := (List.dropLast_concat_getLast h).symm
  rw [List.getLastD_eq_getLast?, List.getLast?_eq_some_getLast h]
  exact this
theorem timF_ok {m : Nat} {gs : List Gt} {os ts : List Nat} (ho : ∀ p ∈ os, p < m + gs.length) (ht : ∀ p ∈ ts, p < m + gs.length) (h0 : 0 < os.length) : ∀ i, i ≤ ts.length → ∀ s, s = timF m gs os (ts.take i) → Ext m gs s.1 (6 * os.length * i + 1) ∧ gs.length < s.1.length ∧ s.2.1.length = os.length ∧ s.2.2.length = i ∧ (∀ w ∈ s.2.1, w < m + s.1.length) ∧ (∀ w ∈ s.2.2, w < m + s.1.length) ∧ (∀ vals : List Bool, vals.length = m → wb vals s.1 (m + gs.length) = false) ∧ ∀ vals : List Bool, vals.length = m → numB (s.2.1.map (wb vals s.1)) * 2 ^ i + numB (s.2.2.map (wb vals s.1)).reverse = numB (os.map (wb vals gs)) * numB ((ts.take i).map (wb vals gs)).reverse := by
  intro i
  induction i with
  | zero =>
    intro _ s e
    subst e
    have e0 : Ext m gs (gs ++ [.fi 0]) 1 := .fixed (Nat.zero_le _)
    have v0 : ∀ vals : List Bool, vals.length = m → wb vals (gs ++ [.fi 0]) (m + gs.length) = false := fun vals hv => by
      rw [wb_fixed (hv ▸ rfl)]
      rfl
    refine ⟨e0.mono (Nat.le_add_left _ _), by show _ < (gs ++ [_]).length; simp, by show (List.replicate _ _).length = _; simp, rfl, fun w hw => ?_, (fun _ z => nomatch z), v0, fun vals hv => ?_⟩
    · have : w = m + gs.length := (List.mem_replicate.mp hw).2
      rw [this]
      exact len1
    · show numB ((List.replicate os.length (m + gs.length)).map (wb vals (gs ++ [.fi 0]))) * 2 ^ 0 + 0 = numB _ * 0
      rw [List.map_replicate, v0 vals hv, numB_rep]
      simp
  | succ i ih =>
    intro hi s e
    obtain ⟨p, hp⟩ : ∃ p, ts[i]? = some p := ⟨ts[i], List.getElem?_eq_getElem (by omega)⟩
    have es : timF m gs os (ts.take (i + 1)) = tiS m os (m + gs.length) (timF m gs os (ts.take i)) p := fold_take _ hp _
    obtain ⟨h1, hl, ht1, ht2, h2, h2', h4, h3⟩ := ih (by omega) _ rfl
    rw [e, es]
    clear e es
    generalize timF m gs os (ts.take i) = s at *
    have q1 := ht p (List.mem_of_getElem? hp)
    have l := h1.len
    have R := rowW_ok (m := m) (o := p) (gs := s.1) (os := os) (fun a ha => by have := ho a ha; omega) (by omega)
    have hs : tiS m os (m + gs.length) s p = ((sumW m (rowW m s.1 os p).1 s.2.1 (rowW m s.1 os p).2 (m + gs.length)).1, (sumW m (rowW m s.1 os p).1 s.2.1 (rowW m s.1 os p).2 (m + gs.length)).2.dropLast, s.2.2 ++ [(sumW m (rowW m s.1 os p).1 s.2.1 (rowW m s.1 os p).2 (m + gs.length)).2.getLastD 0]) := rfl
    rw [hs]
    clear hs
    have lR : (rowW m s.1 os p).2.length = os.length := by
      have := (rowW_at (m := m) (o := p) (gs := gs) os (s.1, [])).2
      rw [List.length_nil, Nat.zero_add] at this
      exact this
    have lRe := R.ext.len
    generalize rowW m s.1 os p = R0 at *
    have hl2 : s.2.1.length = R0.2.length := by omega
    have S := sumW_ok (m := m) (gs := R0.1) (os := s.2.1) (ts := R0.2) (c := m + gs.length) hl2 (fun a ha => by have := h2 a ha; omega) R.lt (by omega)
    have lS := sumW_len (m := m) (gs := R0.1) (os := s.2.1) (ts := R0.2) (c := m + gs.length) hl2 (fun a ha => by have := h2 a ha; omega) R.lt (by omega)
    generalize sumW m R0.1 s.2.1 R0.2 (m + gs.length) = S0 at *
    have lSe := S.ext.len
    have hne : S0.2 ≠ [] := fun z => by rw [z] at lS; cases lS
    have dl := dl_last (d := 0) hne
    have lD : S0.2.dropLast.length = os.length := by rw [List.length_dropLast]; omega
    have eRS := R.ext.trans S.ext
    refine ⟨((h1.trans R.ext).trans S.ext).mono ?_, by show _ < S0.1.length; omega, lD, by show (s.2.2 ++ [_]).length = _; rw [List.length_append, ht2]; rfl, fun w hw => S.lt w (List.dropLast_subset _ hw), fun w hw => ?_, fun vals hv => ?_, fun vals hv => ?_⟩
    · rw [ht1, Nat.mul_succ, show 6 * os.length = 5 * os.length + os.length by omega]
      omega
    · show w < m + S0.1.length
      rcases List.mem_append.mp hw with z | z
      · have := h2' w z
        omega
      · rw [List.mem_singleton.mp z]
        refine S.lt _ ?_
        have t : S0.2.getLastD 0 ∈ S0.2.dropLast ++ [S0.2.getLastD 0] := List.mem_append.mpr (.inr (List.mem_singleton.mpr rfl))
        rw [← dl] at t
        exact t
    · exact (eRS.wb hv (by omega)).trans (h4 vals hv)
    · have v := S.val vals hv
      rw [dl, List.map_append] at v
      have vn := congrArg numB v
      rw [sumB_num (by simpa using hl2)] at vn
      rw [R.ext.wbs hv h2, R.val vals hv] at vn
      have z0 : wb vals R0.1 (m + gs.length) = false := (R.ext.wb hv (by omega)).trans (h4 vals hv)
      rw [z0] at vn
      have er : (os.map fun q => (wb vals s.1 q && wb vals s.1 p)) = (os.map (wb vals gs)).map (· && wb vals gs p) := by
        rw [List.map_map]
        refine List.map_congr_left fun q hq => ?_
        show _ = (wb vals gs q && wb vals gs p)
        rw [h1.wb hv (ho q hq), h1.wb hv q1]
      rw [er, rowB_num] at vn
      have e1 : numB (List.map (wb vals S0.1) S0.2.dropLast ++ List.map (wb vals S0.1) [S0.2.getLastD 0]) = 2 * numB (S0.2.dropLast.map (wb vals S0.1)) + (wb vals S0.1 (S0.2.getLastD 0)).toNat := numB_snoc _ _
      rw [e1] at vn
      have h := h3 vals hv
      show numB (S0.2.dropLast.map (wb vals S0.1)) * 2 ^ (i + 1) + numB ((s.2.2 ++ [S0.2.getLastD 0]).map (wb vals S0.1)).reverse = _
      rw [List.map_append, eRS.wbs hv h2']
      show _ + numB (List.map (wb vals s.1) s.2.2 ++ [_]).reverse = _
      rw [numB_rev_snoc, List.length_map, ht2, List.take_add_one, hp, List.map_append]
      show _ = numB _ * numB ((ts.take i).map (wb vals gs) ++ [_]).reverse
      rw [numB_rev_snoc, List.length_map, show (ts.take i).length = i by rw [List.length_take]; omega, Nat.mul_add, ← h]
      generalize numB (S0.2.dropLast.map (wb vals S0.1)) = D at *
      generalize (wb vals S0.1 (S0.2.getLastD 0)).toNat = L at *
      generalize numB (s.2.1.map (wb vals s.1)) = T at *
      generalize numB (os.map (wb vals gs)) = O at *
      generalize (wb vals gs p).toNat = B at *
      generalize numB (s.2.2.map (wb vals s.1)).reverse = F at *
      have vn' : (2 * D + L) * 2 ^ i = (T + O * B) * 2 ^ i := by
        rw [vn]
        simp
      rw [Nat.add_mul, Nat.add_mul, Nat.mul_assoc O, Nat.mul_comm 2 D, Nat.mul_assoc D 2] at vn'
      rw [Nat.pow_succ, Nat.mul_comm (2 ^ i) 2]
      omega
theorem timW_ok {m : Nat} {gs : List Gt} {os ts : List Nat} (ho : ∀ p ∈ os, p < m + gs.length) (ht : ∀ p ∈ ts, p < m + gs.length) (h0 : 0 < os.length) : Ext m gs (timW m gs os ts).1 (6 * os.length * ts.length + 1) ∧ (timW m gs os ts).2.length = os.length + ts.length ∧ (∀ w ∈ (timW m gs os ts).2, w < m + (timW m gs os ts).1.length) ∧ ∀ vals : List Bool, vals.length = m → numB ((timW m gs os ts).2.map (wb vals (timW m gs os ts).1)) = numB (os.map (wb vals gs)) * numB (ts.map (wb vals gs)) := by
  obtain ⟨h1, _, ht1, ht2, h2, h2', _, h3⟩ := timF_ok (ts := ts.reverse) ho (fun p hp => ht p (List.mem_reverse.mp hp)) h0 _ (Nat.le_refl _) _ rfl
  rw [List.take_length] at h1 ht1 ht2 h2 h2' h3
  rw [List.length_reverse] at h1 ht2 h3
  unfold timW
  generalize timF m gs os ts.reverse = s at *
  refine ⟨h1, by rw [List.length_append, List.length_reverse, ht1, ht2], fun w hw => ?_, fun vals hv => ?_⟩
  · rcases List.mem_append.mp hw with z | z
    · exact h2 w z
    · exact h2' w (List.mem_reverse.mp z)
  · have h := h3 vals hv
    show numB ((s.2.1 ++ s.2.2.reverse).map (wb vals s.1)) = _
    rw [List.map_append, numB_app, List.length_map, List.length_reverse, ht2, List.map_reverse, h, List.map_reverse, List.reverse_reverse]
section
variable {P : Program} {w : World} {K : PySem.W.Frag} {mg : Str → Option Value} {base : Heap}
variable {C : Addr} {za : Nat → Addr} {zl : Nat → FuncData} {E_TooMuch I_TooMuch : Addr}
/-! ### wires of parts: the program's own -/
theorem at_nts {ws : List Nat} {a : Nat} (h : a < ws.length) : atI (nts ws) (a : Int) = some (.int ((ws.getD a 0 : Nat) : Int)) := atI_nat (by
  unfold nts
  rw [List.getElem?_map, List.getElem?_eq_getElem h]
  simp [List.getD, List.getElem?_eq_getElem h])
theorem cutN_to (ws : List Nat) (p : Nat) (h : p ≤ ws.length) : cutV (nts ws) none (some (p : Int)) = nts (ws.take p) := by
  unfold cutV nts
  rw [HT.sIx_none, HT.sIx_nat, List.drop_zero, List.length_map, Nat.sub_zero, Nat.min_eq_left h, List.map_take]
theorem cutN_from (ws : List Nat) (p : Nat) (h : p ≤ ws.length) : cutV (nts ws) (some (p : Int)) none = nts (ws.drop p) := by
  unfold cutV nts
  rw [HT.sIx_none, HT.sIx_nat, List.length_map, Nat.min_eq_left h, ← List.map_drop, List.take_of_length_le (by rw [List.length_map, List.length_drop]; exact Nat.le_refl _)]
theorem nts_app (a b : List Nat) : nts (a ++ b) = nts a ++ nts b := List.map_append
theorem big_lt {n : Nat} (h : n ≤ 500000) : n < sizeLine := Nat.lt_of_le_of_lt h (by decide)
theorem ks_none {S : List Addr} {H H' : Hp} (k : KeepS S H H') {a : Addr} (h : H' a = none) : H a = none := by
  cases e : H a with
  | none => rfl
  | some o => exact absurd h (k.2 a (some_ne e))
theorem ks_updN {S : List Addr} {H H' : Hp} (k : KeepS S H H') {D : Addr} {o : HO} (n : H D = none) : KeepS S H (upd H' D o) := ⟨fun y u e z => by
  rw [upd_ne (ne_of_none e n)]
  exact k.1 y u e z, fun y e => by
  rw [upd_ne (show y ≠ D from fun z => e (by rw [z]; exact n))]
  exact k.2 y e⟩
theorem NetAt.nin {C : Addr} {Z : List Addr} {H : Hp} {p : NetP} {m : Nat} {gs : List Gt} {nm : List (Str × List Nat)} (h : NetAt C Z H p m gs nm) {a : Addr} (n : H a = none) : a ∉ [p.lm, p.ld] := by
  obtain ⟨_, _, _, dx, ps, kvs, e1, e2, e3, _⟩ := h
  intro z
  rcases List.mem_cons.mp z with rfl | z
  · rw [e2] at n; cases n
  · rw [List.mem_singleton.mp z, e3] at n; cases n
theorem NetAt.add {C : Addr} {Z : List Addr} {H : Hp} {p : NetP} {m : Nat} {gs : List Gt} {nm : List (Str × List Nat)} {D : Addr} {o : HO} (h : NetAt C Z H p m gs nm) (n : H D = none) : NetAt C (D :: Z) (upd H D o) p m gs nm := by
  have k := same_upd (o := o) n
  obtain ⟨a, b, ⟨c1, c2, c3, c4⟩, dx, ps, kvs, e1, e2, e3, e4, ⟨g1, g2⟩, n1, n2, n3⟩ := h
  have ne : ∀ {y : Addr} {u : HO}, H y = some u → y ≠ D := fun e z => by rw [z, n] at e; cases e
  have ni : ∀ {y : Addr} {u : HO}, H y = some u → y ∉ Z → y ∉ D :: Z := fun e z y => by
    rcases List.mem_cons.mp y with w | w
    · exact ne e w
    · exact z w
  refine ⟨fun z hz => ?_, b, ⟨ni e1 c1, ni e2 c2, ni e3 c3, ni e4 c4⟩, dx, ps, kvs, k _ _ e1, k _ _ e2, k _ _ e3, k _ _ e4, ⟨g1, fun i q g hi hg => ?_⟩, n1, n2, fun i k' v n' ws hi hn => ?_⟩
  · rcases List.mem_cons.mp hz with w | w
    · rw [w, upd_same]
      exact fun z => nomatch z
    · exact (KeepS.ofSame (S := []) k).2 z (a z w)
  · have := g2 i q g hi hg
    exact ⟨ni this.2 this.1, k _ _ this.2⟩
  · obtain ⟨ek, l, ev, l1, l2, l3, l4⟩ := n3 i k' v n' ws hi hn
    exact ⟨ek, l, ev, ni l4 l1, l2, l3, k _ _ l4⟩
theorem NetAt.less {C : Addr} {Z : List Addr} {H : Hp} {p : NetP} {m : Nat} {gs : List Gt} {nm : List (Str × List Nat)} {D : Addr} (h : NetAt C (D :: Z) H p m gs nm) : NetAt C Z H p m gs nm := by
  obtain ⟨a, b, ⟨c1, c2, c3, c4⟩, dx, ps, kvs, e1, e2, e3, e4, ⟨g1, g2⟩, n1, n2, n3⟩ := h
  have ni : ∀ {y : Addr}, y ∉ D :: Z → y ∉ Z := fun z y => z (List.mem_cons_of_mem _ y)
  refine ⟨fun z hz => a z (List.mem_cons_of_mem _ hz), b, ⟨ni c1, ni c2, ni c3, ni c4⟩, dx, ps, kvs, e1, e2, e3, e4, ⟨g1, fun i q g hi hg => ?_⟩, n1, n2, fun i k' v n' ws hi hn => ?_⟩
  · have := g2 i q g hi hg
    exact ⟨ni this.1, this.2⟩
  · obtain ⟨ek, l, ev, l1, l2, l3, l4⟩ := n3 i k' v n' ws hi hn
    exact ⟨ek, l, ev, ni l1, l2, l3, l4⟩
theorem NetAt.put {C : Addr} {Z : List Addr} {H : Hp} {p : NetP} {m : Nat} {gs : List Gt} {nm : List (Str × List Nat)} {D : Addr} {o : HO} (h : NetAt C Z H p m gs nm) (hD : D ∈ Z) : NetAt C Z (upd H D o) p m gs nm := h.keep (S := [D]) (.upd (List.mem_singleton.mpr rfl)) (fun y hy => by rw [List.mem_singleton.mp hy]; exact hD)
theorem Sq2.keepS {t : Bool} {K : PySem.W.Frag} {S : List Addr} {a : Addr} {H H' : Hp} {xs : List V} (h : Sq2 t K H a xs) (e : KeepS S H H') (n : a ∉ S) : Sq2 t K H' a xs := by
  cases t
  · exact e.seq n h
  · exact e.seqT n h
theorem nts_zip {os ts : List Nat} {i : Nat} {x y : V} (hx : (nts os)[i]? = some x) (hy : (nts ts)[i]? = some y) : ∃ a b, (os.zip ts)[i]? = some (a, b) ∧ x = .int ((a : Nat) : Int) ∧ y = .int ((b : Nat) : Int) := by
  obtain ⟨a, ha, rfl⟩ := nts_at hx
  obtain ⟨b, hb, rfl⟩ := nts_at hy
  exact ⟨a, b, List.getElem?_zip_eq_some.mpr ⟨ha, hb⟩, rfl, rfl⟩
theorem Sq2.at {t : Bool} {K : PySem.W.Frag} {H : Hp} {a : Addr} {xs : List V} {i : Int} {v : V} {y : Str → Prop} {Q : VK} (h : Sq2 t K H a xs) (e : atI xs i = some v) (q : Q v H) : rIx K (.ref a) (.int i) H Q := by
  cases t
  · exact .inl ⟨a, xs, i, v, rfl, rfl, h, e, q⟩
  · exact .inr (.inl ⟨a, xs, i, v, rfl, rfl, h, e, q⟩)
/-! ### sums of wires, walked -/
theorem ks_drop {S : List Addr} {H H2 H9 : Hp} {R : Addr} (a : KeepS S H H2) (b : KeepS (R :: S) H2 H9) (n : H R = none) : KeepS S H H9 := ⟨fun y o e ny => b.1 y o (a.1 y o e ny) (fun z => by
  rcases List.mem_cons.mp z with z | z
  · rw [z, n] at e
    cases e
  · exact ny z), fun y e => b.2 y (a.2 y e)⟩
theorem nts_rev (ws : List Nat) : (nts ws).reverse = nts ws.reverse := List.map_reverse.symm
theorem ninR {R a : Addr} {S : List Addr} (h : a ∉ S) (n : a ≠ R) : a ∉ R :: S := fun z => by
  rcases List.mem_cons.mp z with z | z
  · exact n z
  · exact h z
def spSum (K : PySem.W.Frag) (C : Addr) : Sp := fun vs H Q _ => ∃ (Z : List Addr) (p : NetP) (m : Nat) (gs : List Gt) (nm : List (Str × List Nat)) (t u : Addr) (b1 b2 : Bool) (os ts : List Nat) (c : Nat), vs = [.ref p.x, .ref t, .ref u, .int (c : Int)] ∧ NetAt C Z H p m gs nm ∧ Sq2 b1 K H t (nts os) ∧ Sq2 b2 K H u (nts ts) ∧ os.length = ts.length ∧ (∀ w ∈ os, w < m + gs.length) ∧ (∀ w ∈ ts, w < m + gs.length) ∧ c < m + gs.length ∧ os.length ≤ 2000 ∧ m + gs.length ≤ 300000 ∧
  ∀ D H', KeepS [p.lm, p.ld] H H' → NetAt C Z H' p m (sumW m gs os ts c).1 nm → H D = none → H' D = some (.lst (nts (sumW m gs os ts c).2)) → Q (.ref D) H'
theorem ok_sum_wires (B : Bl mg) (L : LL K mg C za zl E_TooMuch I_TooMuch) : FnOk P w K mg base CX0 5 (za 25) (zl 25) ["net", "ones", "others", "carry"] (spSum K C) := by
  have G_Net_unlike : FnOk P w K mg base CX0 4 (za 47) (zl 47) ["self", "a", "b"] (spG2 C "unlike") := (ok_Net_unlike B L).mono (by decide)
  have G_Net_both : FnOk P w K mg base CX0 4 (za 45) (zl 45) ["self", "a", "b"] (spG2 C "both") := (ok_Net_both B L).mono (by decide)
  have G_Net_either : FnOk P w K mg base CX0 4 (za 46) (zl 46) ["self", "a", "b"] (spG2 C "either") := (ok_Net_either B L).mono (by decide)
  refine L.F_sum_wires.ok sc_sum_wires (fun vs H Q E h => ?_) (fun cdv A outer s H vs Q E hr h => ?_)
  · obtain ⟨Z, p, m, gs, nm, t, u, b1, b2, os, ts, c, rfl, _⟩ := h
    rfl
  obtain ⟨Z, p, m, gs, nm, t, u, b1, b2, os, ts, c, rfl, hN, hT, hU, hlen, ho, hs, hc, hl, hl2, q⟩ := h
  refine ⟨_, (pss_cons (ps_set (i := 4) sc_sum_wires.nd rfl (.inl rfl) (pe_lst pa_nil))
    (pss_cons (ps_for PassesOwn.never rfl (pi_zb (by rfl) B.zip (pa_cons (pe_revS (pv 1)) (pa_cons (pe_revS (pv 2)) pa_nil))) (pg_tup (by rfl) (pgs_cons (pg_name (i := 5) sc_sum_wires.nd rfl (.inl rfl)) (pgs_cons (pg_name (i := 6) sc_sum_wires.nd rfl (.inl rfl)) pgs_nil))) (pss_cons (ps_set (i := 7) sc_sum_wires.nd rfl (.inl rfl) (pe_meth (pv 0) L.T.cl L.M_Net_unlike G_Net_unlike hr L.b_Net_unlike .nil pass0 (pa_cons (pv 5) (pa_cons (pv 6) pa_nil))))
    (pss_cons (ps_expr (pe_bm PySem.F.plainAttrs_list PySem.F.slot_list_append PySem.F.type_list_append mt_append (pv 4) (pa_cons (pe_meth (pv 0) L.T.cl L.M_Net_unlike G_Net_unlike hr L.b_Net_unlike .nil pass0 (pa_cons (pv 7) (pa_cons (pv 3) pa_nil))) pa_nil)))
    (pss_one (ps_set (i := 3) sc_sum_wires.nd rfl (.inl rfl) (pe_meth (pv 0) L.T.cl L.M_Net_either G_Net_either hr L.b_Net_either .nil pass0 (pa_cons (pe_meth (pv 0) L.T.cl L.M_Net_both G_Net_both hr L.b_Net_both .nil pass0 (pa_cons (pv 5) (pa_cons (pv 6) pa_nil))) (pa_cons (pe_meth (pv 0) L.T.cl L.M_Net_both G_Net_both hr L.b_Net_both .nil pass0 (pa_cons (pv 7) (pa_cons (pv 3) pa_nil))) pa_nil))))))))
    (pss_one (ps_ret (pe_lst (pa_cons (pv 3) (StX.pa_star (pe_revL (pv 4)) pa_nil))))))), ?_⟩
  refine ⟨Nat.zero_le _, fun R nR => ?_⟩
  have nR2 := hN.nin nR
  have N0 := hN.add (o := .lst []) nR
  have k0 : KeepS [p.lm, p.ld] H (upd H R (.lst [])) := KeepS.new nR
  have eR0 : (upd H R (.lst [])) R = some (.lst []) := upd_same
  have hT0 := hT.keepS (S := []) (KeepS.new (o := .lst []) nR) (fun z => nomatch z)
  have hU0 := hU.keepS (S := []) (KeepS.new (o := .lst []) nR) (fun z => nomatch z)
  generalize upd H R (.lst []) = H0 at *
  try simp only [L2.start, List.map_cons, List.map_nil, List.length_cons, List.length_nil, List.replicate_succ, List.replicate_zero, List.cons_append, List.nil_append, List.set_cons_succ, List.set_cons_zero, Nat.reduceAdd, Nat.reduceSub, Nat.zero_add]
  dsimp only [gName]
  try simp only [L2.start, List.map_cons, List.map_nil, List.length_cons, List.length_nil, List.replicate_succ, List.replicate_zero, List.cons_append, List.nil_append, List.set_cons_succ, List.set_cons_zero, Nat.reduceAdd, Nat.reduceSub, Nat.zero_add]
  refine ⟨_, rfl, b1, t, _, rfl, hT0, fun A1 nA1 => ?_⟩
  rw [nts_rev]
  have sA1 := same_upd (o := sqO b1 (nts os.reverse)) nA1
  have eA1 : Sq2 b1 K (upd H0 A1 (sqO b1 (nts os.reverse))) A1 (nts os.reverse) := Sq2.new
  have nA12 := N0.nin nA1
  have nA1R : A1 ≠ R := fun z => by rw [z, eR0] at nA1; cases nA1
  have N1 := N0.same sA1
  have hU1 := hU0.keepS (S := []) (.ofSame sA1) (fun z => nomatch z)
  have eR1 := sA1 _ _ eR0
  have k1 := k0.trans (.ofSame sA1)
  generalize upd H0 A1 (sqO b1 (nts os.reverse)) = H1 at *
  refine ⟨_, rfl, b2, u, _, rfl, hU1, fun A2 nA2 => ?_⟩
  rw [nts_rev]
  have sA2 := same_upd (o := sqO b2 (nts ts.reverse)) nA2
  have eA2 : Sq2 b2 K (upd H1 A2 (sqO b2 (nts ts.reverse))) A2 (nts ts.reverse) := Sq2.new
  have nA22 := N1.nin nA2
  have nA2R : A2 ≠ R := fun z => by rw [z, eR1] at nA2; cases nA2
  have N2 := N1.same sA2
  have eA1' := eA1.keepS (S := []) (.ofSame sA2) (fun z => nomatch z)
  have eR2 := sA2 _ _ eR1
  have k2 := k1.trans (.ofSame sA2)
  generalize upd H1 A2 (sqO b2 (nts ts.reverse)) = H2 at *
  refine ⟨b1, b2, A1, A2, _, _, rfl, eA1', eA2, ?_⟩
  have hF := fun i hi => sumF_ok (m := m) (gs := gs) (ps := os.reverse.zip ts.reverse) (c := c) (fun p hp => ⟨ho _ (mem_zipR hp).1, hs _ (mem_zipR hp).2⟩) hc i hi _ rfl
  have lz := zipR_len hlen
  rw [lz] at hF
  refine for_it (walk_zb (K := K) (t1 := b1) (t2 := b2) (a := A1) (b := A2) (xs := nts os.reverse) (ys := nts ts.reverse) (n := os.length) (by rw [nts_len, List.length_reverse]) (by rw [nts_len, List.length_reverse, hlen])) (fun j σ H9 => ∃ y5 y6 y7 : Option V, σ = [some (.ref p.x), some (.ref t), some (.ref u), some (.int ((sumF m gs ((os.reverse.zip ts.reverse).take j) c).2.2 : Nat)), some (.ref R), y5, y6, y7] ∧ KeepS [R, p.lm, p.ld] H2 H9 ∧ NetAt C (R :: Z) H9 p m (sumF m gs ((os.reverse.zip ts.reverse).take j) c).1 nm ∧ H9 R = some (.lst (nts (sumF m gs ((os.reverse.zip ts.reverse).take j) c).2.1))) ⟨_, _, _, rfl, KeepS.refl _ _, N2, eR2⟩ (fun j σ H9 _ ⟨_, _, _, _, k9, _⟩ => ⟨eA1'.keepS k9 (ninR nA12 nA1R), eA2.keepS k9 (ninR nA22 nA2R)⟩) ?_ ?_
  · rintro j v σ H9 H10 hj ⟨y5, y6, y7, rfl, k9, N9, eR⟩ ⟨T, x, y, rfl, nT, rfl, hx, hy⟩
    obtain ⟨a, b, hab, rfl, rfl⟩ := nts_zip hx hy
    have hp := List.mem_of_getElem? hab
    have la := ho _ (mem_zipR hp).1
    have lb := hs _ (mem_zipR hp).2
    have estep : sumF m gs ((os.reverse.zip ts.reverse).take (j + 1)) c = suS m (sumF m gs ((os.reverse.zip ts.reverse).take j) c) (a, b) := fold_take _ hab _
    rw [estep]
    obtain ⟨_, lg, lt', _, l4, _⟩ := hF j (by omega)
    generalize sumF m gs ((os.reverse.zip ts.reverse).take j) c = S at *
    have sT := same_upd (o := .tup [.int (a : Int), .int (b : Int)]) nT
    have N10 := N9.same sT
    have eT : (upd H9 T (.tup [.int (a : Int), .int (b : Int)])) T = some (.tup [.int (a : Int), .int (b : Int)]) := upd_same
    have eR10 := sT _ _ eR
    have k10 := k9.trans (.ofSame sT)
    generalize upd H9 T (.tup [.int (a : Int), .int (b : Int)]) = H10 at *
    refine ⟨T, _, rfl, .inl (.inl eT), rfl, _, _, rfl, _, _, rfl, rfl, ?_⟩
    try simp only [L2.start, List.map_cons, List.map_nil, List.length_cons, List.length_nil, List.replicate_succ, List.replicate_zero, List.cons_append, List.nil_append, List.set_cons_succ, List.set_cons_zero, Nat.reduceAdd, Nat.reduceSub, Nat.zero_add]
    obtain ⟨_, _, _, dx2, _, _, f1, _⟩ := id N10
    refine ⟨_, rfl, p.x, dx2, _, rfl, f1, rfl, _, rfl, _, rfl, R :: Z, p, m, S.1, nm, a, b, rfl, N10, by omega, by omega, by omega, fun H3 k3 N3 => ?_⟩
    have l1 : (S.1 ++ [Gt.w "unlike" [a, b]]).length = S.1.length + 1 := by simp
    have eR3 := k3.1 _ _ eR10 nR2
    dsimp only [gName]
    try simp only [L2.start, List.map_cons, List.map_nil, List.length_cons, List.length_nil, List.replicate_succ, List.replicate_zero, List.cons_append, List.nil_append, List.set_cons_succ, List.set_cons_zero, Nat.reduceAdd, Nat.reduceSub, Nat.zero_add]
    obtain ⟨_, _, _, dx3, _, _, f3, _⟩ := id N3
    refine ⟨_, rfl, .inl ⟨rfl, _, SqL.of eR3⟩, _, rfl, p.x, dx3, _, rfl, f3, rfl, _, rfl, _, rfl, R :: Z, p, m, _, nm, m + S.1.length, S.2.2, rfl, N3, by omega, by omega, by omega, fun H4 k4 N4 => ?_⟩
    have l2 : (S.1 ++ [Gt.w "unlike" [a, b]] ++ [Gt.w "unlike" [m + S.1.length, S.2.2]]).length = S.1.length + 2 := by simp
    have eR4 := k4.1 _ _ eR3 nR2
    have k34 := k3.trans k4
    refine ⟨R, _, _, rfl, rfl, eR4, by rw [nts_len]; exact big_lt (by omega), ?_⟩
    have N5 := N4.put (D := R) (o := .lst (nts S.2.1 ++ [.int ((m + (S.1 ++ [Gt.w "unlike" [a, b]]).length : Nat) : Int)])) (by simp)
    have k5 : KeepS [R, p.lm, p.ld] H2 (upd H4 R (.lst (nts S.2.1 ++ [.int ((m + (S.1 ++ [Gt.w "unlike" [a, b]]).length : Nat) : Int)]))) := (k10.trans (k34.mono fun y hy => List.mem_cons_of_mem _ hy)).trans (KeepS.upd (by simp))
    have eR5 : (upd H4 R (.lst (nts S.2.1 ++ [.int ((m + (S.1 ++ [Gt.w "unlike" [a, b]]).length : Nat) : Int)]))) R = some (.lst (nts (S.2.1 ++ [m + (S.1 ++ [Gt.w "unlike" [a, b]]).length]))) := by
      rw [upd_same, nts_app]
      rfl
    generalize upd H4 R (.lst (nts S.2.1 ++ [.int ((m + (S.1 ++ [Gt.w "unlike" [a, b]]).length : Nat) : Int)])) = H5 at *
    obtain ⟨_, _, _, dx5, _, _, f5, _⟩ := id N5
    refine ⟨_, rfl, p.x, dx5, _, rfl, f5, rfl, ?_⟩
    refine ⟨_, rfl, p.x, dx5, _, rfl, f5, rfl, _, rfl, _, rfl, R :: Z, p, m, _, nm, a, b, rfl, N5, by omega, by omega, by omega, fun H6 k6 N6 => ?_⟩
    have l3 : (S.1 ++ [Gt.w "unlike" [a, b]] ++ [Gt.w "unlike" [m + S.1.length, S.2.2]] ++ [Gt.w "both" [a, b]]).length = S.1.length + 3 := by simp
    obtain ⟨_, _, _, dx6, _, _, f6, _⟩ := id N6
    refine ⟨_, rfl, p.x, dx6, _, rfl, f6, rfl, _, rfl, _, rfl, R :: Z, p, m, _, nm, m + S.1.length, S.2.2, rfl, N6, by omega, by omega, by omega, fun H7 k7 N7 => ?_⟩
    have l4' : (S.1 ++ [Gt.w "unlike" [a, b]] ++ [Gt.w "unlike" [m + S.1.length, S.2.2]] ++ [Gt.w "both" [a, b]] ++ [Gt.w "both" [m + S.1.length, S.2.2]]).length = S.1.length + 4 := by simp
    refine ⟨R :: Z, p, m, _, nm, _, _, rfl, N7, by omega, by omega, by omega, fun H8 k8 N8 => ?_⟩
    have k68 := (k6.trans k7).trans k8
    exact ⟨_, _, _, rfl, k5.trans (k68.mono fun y hy => List.mem_cons_of_mem _ hy), N8, k68.1 _ _ eR5 nR2⟩
  · rintro σ H9 ⟨y5, y6, y7, rfl, k9, N9, eR⟩
    rw [← lz, List.take_length] at N9 eR
    have eW : sumW m gs os ts c = ((sumF m gs (os.reverse.zip ts.reverse) c).1, (sumF m gs (os.reverse.zip ts.reverse) c).2.2 :: (sumF m gs (os.reverse.zip ts.reverse) c).2.1.reverse) := rfl
    have hF' := hF _ (Nat.le_refl _)
    rw [← lz, List.take_length] at hF' ⊢
    rw [eW] at q
    obtain ⟨_, _, lt', _, _, _⟩ := hF'
    generalize sumF m gs (os.reverse.zip ts.reverse) c = S at *
    dsimp only at q
    try simp only [L2.start, List.map_cons, List.map_nil, List.length_cons, List.length_nil, List.replicate_succ, List.replicate_zero, List.cons_append, List.nil_append, List.set_cons_succ, List.set_cons_zero, Nat.reduceAdd, Nat.reduceSub, Nat.zero_add]
    refine ⟨_, rfl, _, rfl, R, _, rfl, SqL.of eR, fun B nB => ?_⟩
    rw [nts_rev]
    have sB := same_upd (o := .lst (nts S.2.1.reverse)) nB
    have eB : (upd H9 B (.lst (nts S.2.1.reverse))) B = some (.lst (nts S.2.1.reverse)) := upd_same
    generalize upd H9 B (.lst (nts S.2.1.reverse)) = H10 at *
    refine ⟨B, _, rfl, .inr (SqL.of eB), ?_⟩
    have k9' := ks_drop k2 k9 nR
    refine ⟨by
      rw [List.append_nil, List.length_cons, nts_len, List.length_reverse]
      exact Nat.le_of_lt (big_lt (by omega)), fun D nD => ?_⟩
    rw [List.append_nil]
    have sD := same_upd (o := .lst (.int (S.2.2 : Int) :: nts S.2.1.reverse)) nD
    exact q D _ (k9'.trans (.ofSame (sB.trans sD))) (N9.less.same (sB.trans sD)) (ks_none (k9'.trans (.ofSame sB)) nD) upd_same
def spLen (K : PySem.W.Frag) : Sp := fun vs H Q _ => ∃ (n t : Addr) (b : Bool) (ws : List Nat), vs = [.ref n, .ref t, .int (ws.length : Int)] ∧ Sq2 b K H t (nts ws) ∧ ∀ D, H D = none → Q (.ref D) (upd H D (.lst (nts ws)))
theorem ok_lengthened (B : Bl mg) (L : LL K mg C za zl E_TooMuch I_TooMuch) : FnOk P w K mg base CX0 1 (za 28) (zl 28) ["net", "wires", "many"] (spLen K) := by
  refine L.F_lengthened.ok sc_lengthened (fun vs H Q E h => ?_) (fun cdv A outer s H vs Q E hr h => ?_)
  · obtain ⟨n, t, b, ws, rfl, _⟩ := h
    rfl
  obtain ⟨n, t, b, ws, rfl, hT, q⟩ := h
  refine ⟨_, (pss_cons (ps_if (pt_cmpR op_ge (pe_callB call_len_seq (by rfl) B.len PySem.boot_len (pa_cons (pv 1) pa_nil)) (pv 2) (nomark _)) (pss_one (ps_ret (pe_callTy call_list_of (by rfl) B.list PyProof.Rows.boot_list (pa_cons (pv 1) pa_nil)))) pss_nil)
    (pss_one ps_never)), ?_⟩
  refine ⟨_, rfl, t, _, rfl, hT.to, _, rfl, ?_⟩
  rw [nts_len]
  refine ⟨_, _, rfl, rfl, _, rfl, ite2 (fun _ => ?_) (fun z => absurd (decide_eq_true (Int.le_refl _)) z)⟩
  exact ⟨_, rfl, t, _, rfl, hT.to, q⟩
def spLess (K : PySem.W.Frag) (C : Addr) : Sp := fun vs H Q _ => ∃ (Z : List Addr) (p : NetP) (m : Nat) (gs : List Gt) (nm : List (Str × List Nat)) (t u : Addr) (b1 b2 : Bool) (os ts : List Nat), vs = [.ref p.x, .ref t, .ref u] ∧ NetAt C Z H p m gs nm ∧ Sq2 b1 K H t (nts os) ∧ Sq2 b2 K H u (nts ts) ∧ os.length = ts.length ∧ (∀ w ∈ os, w < m + gs.length) ∧ (∀ w ∈ ts, w < m + gs.length) ∧ os.length ≤ 2000 ∧ m + gs.length ≤ 300000 ∧
  ∀ H', KeepS [p.lm, p.ld] H H' → NetAt C Z H' p m (lessW m gs os ts).1 nm → Q (.int ((lessW m gs os ts).2 : Nat)) H'
theorem ok_is_less_wire (B : Bl mg) (L : LL K mg C za zl E_TooMuch I_TooMuch) : FnOk P w K mg base CX0 5 (za 27) (zl 27) ["net", "ones", "others"] (spLess K C) := by
  have G_lengthened : FnOk P w K mg base CX0 4 (za 28) (zl 28) ["net", "wires", "many"] (spLen K) := (ok_lengthened B L).mono (by decide)
  have G_Net_other : FnOk P w K mg base CX0 4 (za 48) (zl 48) ["self", "a"] (spG1 C) := (ok_Net_other B L).mono (by decide)
  have G_Net_both : FnOk P w K mg base CX0 4 (za 45) (zl 45) ["self", "a", "b"] (spG2 C "both") := (ok_Net_both B L).mono (by decide)
  have G_Net_either : FnOk P w K mg base CX0 4 (za 46) (zl 46) ["self", "a", "b"] (spG2 C "either") := (ok_Net_either B L).mono (by decide)
  have G_Net_fixed : FnOk P w K mg base CX0 4 (za 49) (zl 49) ["self", "bit"] (spFixed C) := (ok_Net_fixed B L).mono (by decide)
  refine L.F_is_less_wire.ok sc_is_less_wire (fun vs H Q E h => ?_) (fun cdv A outer s H vs Q E hr h => ?_)
  · obtain ⟨Z, p, m, gs, nm, t, u, b1, b2, os, ts, rfl, _⟩ := h
    rfl
  obtain ⟨Z, p, m, gs, nm, t, u, b1, b2, os, ts, rfl, hN, hT, hU, hlen, ho, hs, hl, hl2, q⟩ := h
  refine ⟨_, (pss_cons (ps_set (i := 3) sc_is_less_wire.nd rfl (.inl rfl) (pe_callB (call_max2 rfl) (by rfl) B.max boot_max (pa_cons (pe_callB call_len_seq (by rfl) B.len PySem.boot_len (pa_cons (pv 1) pa_nil)) (pa_cons (pe_callB call_len_seq (by rfl) B.len PySem.boot_len (pa_cons (pv 2) pa_nil)) pa_nil))))
    (pss_cons (ps_set (i := 1) sc_is_less_wire.nd rfl (.inl rfl) (pe_call G_lengthened hr (by rfl) L.m_lengthened L.F_lengthened.kp L.b_lengthened .nil pass0 (pa_cons (pv 0) (pa_cons (pv 1) (pa_cons (pv 3) pa_nil)))))
    (pss_cons (ps_set (i := 2) sc_is_less_wire.nd rfl (.inl rfl) (pe_call G_lengthened hr (by rfl) L.m_lengthened L.F_lengthened.kp L.b_lengthened .nil pass0 (pa_cons (pv 0) (pa_cons (pv 2) (pa_cons (pv 3) pa_nil)))))
    (pss_cons (ps_set (i := 4) sc_is_less_wire.nd rfl (.inl rfl) (pe_meth (pv 0) L.T.cl L.M_Net_fixed G_Net_fixed hr L.b_Net_fixed .nil pass0 (pa_cons pe_int pa_nil)))
    (pss_cons (ps_for PassesOwn.never rfl (pi_zb (by rfl) B.zip (pa_cons (pe_revS (pv 1)) (pa_cons (pe_revS (pv 2)) pa_nil))) (pg_tup (by rfl) (pgs_cons (pg_name (i := 5) sc_is_less_wire.nd rfl (.inl rfl)) (pgs_cons (pg_name (i := 6) sc_is_less_wire.nd rfl (.inl rfl)) pgs_nil))) (pss_cons (ps_set (i := 7) sc_is_less_wire.nd rfl (.inl rfl) (pe_meth (pv 0) L.T.cl L.M_Net_other G_Net_other hr L.b_Net_other .nil pass0 (pa_cons (pv 5) pa_nil)))
    (pss_one (ps_set (i := 4) sc_is_less_wire.nd rfl (.inl rfl) (pe_meth (pv 0) L.T.cl L.M_Net_either G_Net_either hr L.b_Net_either .nil pass0 (pa_cons (pe_meth (pv 0) L.T.cl L.M_Net_both G_Net_both hr L.b_Net_both .nil pass0 (pa_cons (pv 7) (pa_cons (pv 6) pa_nil))) (pa_cons (pe_meth (pv 0) L.T.cl L.M_Net_both G_Net_both hr L.b_Net_both .nil pass0 (pa_cons (pe_meth (pv 0) L.T.cl L.M_Net_either G_Net_either hr L.b_Net_either .nil pass0 (pa_cons (pv 7) (pa_cons (pv 6) pa_nil))) (pa_cons (pv 4) pa_nil))) pa_nil)))))))
    (pss_one (ps_ret (pv 4)))))))), ?_⟩
  refine ⟨_, rfl, t, _, rfl, hT.to, _, rfl, u, _, rfl, hU.to, _, _, rfl, ?_⟩
  rw [nts_len, nts_len, ← hlen, if_neg (Nat.lt_irrefl _ ∘ Int.ofNat_lt.mp)]
  try simp only [L2.start, List.map_cons, List.map_nil, List.length_cons, List.length_nil, List.replicate_succ, List.replicate_zero, List.cons_append, List.nil_append, List.set_cons_succ, List.set_cons_zero, Nat.reduceAdd, Nat.reduceSub, Nat.zero_add]
  dsimp only [gName]
  try simp only [L2.start, List.map_cons, List.map_nil, List.length_cons, List.length_nil, List.replicate_succ, List.replicate_zero, List.cons_append, List.nil_append, List.set_cons_succ, List.set_cons_zero, Nat.reduceAdd, Nat.reduceSub, Nat.zero_add]
  refine ⟨_, rfl, _, rfl, _, rfl, p.x, t, b1, os, rfl, hT, fun D1 nD1 => ?_⟩
  have s1 := same_upd (o := .lst (nts os)) nD1
  have e1 : (upd H D1 (.lst (nts os))) D1 = some (.lst (nts os)) := upd_same
  have N1 := hN.same s1
  have nD12 := hN.nin nD1
  have hU1 := hU.keepS (S := []) (.ofSame s1) (fun z => nomatch z)
  generalize upd H D1 (.lst (nts os)) = H1 at *
  dsimp only [gName]
  try simp only [L2.start, List.map_cons, List.map_nil, List.length_cons, List.length_nil, List.replicate_succ, List.replicate_zero, List.cons_append, List.nil_append, List.set_cons_succ, List.set_cons_zero, Nat.reduceAdd, Nat.reduceSub, Nat.zero_add]
  refine ⟨_, rfl, _, rfl, _, rfl, p.x, u, b2, ts, by rw [hlen]; rfl, hU1, fun D2 nD2 => ?_⟩
  have s2 := same_upd (o := .lst (nts ts)) nD2
  have e2 : (upd H1 D2 (.lst (nts ts))) D2 = some (.lst (nts ts)) := upd_same
  have N2 := N1.same s2
  have nD22 := N1.nin nD2
  have e12 := s2 _ _ e1
  have k2 : KeepS [p.lm, p.ld] H (upd H1 D2 (.lst (nts ts))) := (KeepS.ofSame s1).trans (.ofSame s2)
  generalize upd H1 D2 (.lst (nts ts)) = H2 at *
  dsimp only [gName]
  try simp only [L2.start, List.map_cons, List.map_nil, List.length_cons, List.length_nil, List.replicate_succ, List.replicate_zero, List.cons_append, List.nil_append, List.set_cons_succ, List.set_cons_zero, Nat.reduceAdd, Nat.reduceSub, Nat.zero_add]
  obtain ⟨_, _, _, dx, _, _, f1, _⟩ := id N2
  refine ⟨_, rfl, p.x, dx, _, rfl, f1, rfl, Z, p, m, gs, nm, 0, rfl, N2, by omega, fun H3 k3 N3 => ?_⟩
  have e13 := k3.1 _ _ e12 nD12
  have e23 := k3.1 _ _ e2 nD22
  dsimp only [gName]
  try simp only [L2.start, List.map_cons, List.map_nil, List.length_cons, List.length_nil, List.replicate_succ, List.replicate_zero, List.cons_append, List.nil_append, List.set_cons_succ, List.set_cons_zero, Nat.reduceAdd, Nat.reduceSub, Nat.zero_add]
  refine ⟨_, rfl, false, D1, _, rfl, SqL.of e13, fun A1 nA1 => ?_⟩
  rw [nts_rev]
  have sA1 := same_upd (o := sqO false (nts os.reverse)) nA1
  have eA1 : Sq2 false K (upd H3 A1 (sqO false (nts os.reverse))) A1 (nts os.reverse) := Sq2.new
  have nA12 := N3.nin nA1
  have N4 := N3.same sA1
  have e24 := sA1 _ _ e23
  generalize upd H3 A1 (sqO false (nts os.reverse)) = H4 at *
  refine ⟨_, rfl, false, D2, _, rfl, SqL.of e24, fun A2 nA2 => ?_⟩
  rw [nts_rev]
  have sA2 := same_upd (o := sqO false (nts ts.reverse)) nA2
  have eA2 : Sq2 false K (upd H4 A2 (sqO false (nts ts.reverse))) A2 (nts ts.reverse) := Sq2.new
  have nA22 := N4.nin nA2
  have N5 := N4.same sA2
  have eA1' := eA1.keepS (S := []) (.ofSame sA2) (fun z => nomatch z)
  have k5 := (k2.trans k3).trans (.ofSame (sA1.trans sA2))
  generalize upd H4 A2 (sqO false (nts ts.reverse)) = H5 at *
  refine ⟨false, false, A1, A2, _, _, rfl, eA1', eA2, ?_⟩
  have hF := fun i hi => lessF_ok (m := m) (gs := gs) (ps := os.reverse.zip ts.reverse) (fun p hp => ⟨ho _ (mem_zipR hp).1, hs _ (mem_zipR hp).2⟩) i hi _ rfl
  have lz := zipR_len hlen
  rw [lz] at hF
  refine for_it (walk_zb (K := K) (t1 := false) (t2 := false) (a := A1) (b := A2) (xs := nts os.reverse) (ys := nts ts.reverse) (n := os.length) (by rw [nts_len, List.length_reverse]) (by rw [nts_len, List.length_reverse, hlen])) (fun j σ H9 => ∃ y5 y6 y7 : Option V, σ = [some (.ref p.x), some (.ref D1), some (.ref D2), some (.int (os.length : Int)), some (.int ((lessF m gs ((os.reverse.zip ts.reverse).take j)).2 : Nat)), y5, y6, y7] ∧ KeepS [p.lm, p.ld] H5 H9 ∧ NetAt C Z H9 p m (lessF m gs ((os.reverse.zip ts.reverse).take j)).1 nm) ⟨_, _, _, rfl, KeepS.refl _ _, N5⟩ (fun j σ H9 _ ⟨_, _, _, _, k9, _⟩ => ⟨eA1'.keepS k9 nA12, eA2.keepS k9 nA22⟩) ?_ ?_
  · rintro j v σ H9 H10 hj ⟨y5, y6, y7, rfl, k9, N9⟩ ⟨T, x, y, rfl, nT, rfl, hx, hy⟩
    obtain ⟨a, b, hab, rfl, rfl⟩ := nts_zip hx hy
    have hp := List.mem_of_getElem? hab
    have la := ho _ (mem_zipR hp).1
    have lb := hs _ (mem_zipR hp).2
    have estep : lessF m gs ((os.reverse.zip ts.reverse).take (j + 1)) = leS m (lessF m gs ((os.reverse.zip ts.reverse).take j)) (a, b) := fold_take _ hab _
    rw [estep]
    obtain ⟨_, lg, l4, _⟩ := hF j (by omega)
    generalize lessF m gs ((os.reverse.zip ts.reverse).take j) = S at *
    have sT := same_upd (o := .tup [.int (a : Int), .int (b : Int)]) nT
    have N10 := N9.same sT
    have eT : (upd H9 T (.tup [.int (a : Int), .int (b : Int)])) T = some (.tup [.int (a : Int), .int (b : Int)]) := upd_same
    have k10 := k9.trans (.ofSame sT)
    generalize upd H9 T (.tup [.int (a : Int), .int (b : Int)]) = H10 at *
    refine ⟨T, _, rfl, .inl (.inl eT), rfl, _, _, rfl, _, _, rfl, rfl, ?_⟩
    try simp only [L2.start, List.map_cons, List.map_nil, List.length_cons, List.length_nil, List.replicate_succ, List.replicate_zero, List.cons_append, List.nil_append, List.set_cons_succ, List.set_cons_zero, Nat.reduceAdd, Nat.reduceSub, Nat.zero_add]
    obtain ⟨_, _, _, dx2, _, _, f1, _⟩ := id N10
    refine ⟨_, rfl, p.x, dx2, _, rfl, f1, rfl, _, rfl, Z, p, m, S.1, nm, a, rfl, N10, by omega, by omega, fun H3 k3 N3 => ?_⟩
    have l1 : (S.1 ++ [Gt.w "other" [a]]).length = S.1.length + 1 := by simp
    dsimp only [gName]
    try simp only [L2.start, List.map_cons, List.map_nil, List.length_cons, List.length_nil, List.replicate_succ, List.replicate_zero, List.cons_append, List.nil_append, List.set_cons_succ, List.set_cons_zero, Nat.reduceAdd, Nat.reduceSub, Nat.zero_add]
    obtain ⟨_, _, _, dx3, _, _, f3, _⟩ := id N3
    refine ⟨_, rfl, p.x, dx3, _, rfl, f3, rfl, ?_⟩
    refine ⟨_, rfl, p.x, dx3, _, rfl, f3, rfl, _, rfl, _, rfl, Z, p, m, _, nm, m + S.1.length, b, rfl, N3, by omega, by omega, by omega, fun H4 k4 N4 => ?_⟩
    have l2 : (S.1 ++ [Gt.w "other" [a]] ++ [Gt.w "both" [m + S.1.length, b]]).length = S.1.length + 2 := by simp
    obtain ⟨_, _, _, dx4, _, _, f4, _⟩ := id N4
    refine ⟨_, rfl, p.x, dx4, _, rfl, f4, rfl, ?_⟩
    refine ⟨_, rfl, p.x, dx4, _, rfl, f4, rfl, _, rfl, _, rfl, Z, p, m, _, nm, m + S.1.length, b, rfl, N4, by omega, by omega, by omega, fun H6 k6 N6 => ?_⟩
    have l3 : (S.1 ++ [Gt.w "other" [a]] ++ [Gt.w "both" [m + S.1.length, b]] ++ [Gt.w "either" [m + S.1.length, b]]).length = S.1.length + 3 := by simp
    refine ⟨_, rfl, Z, p, m, _, nm, _, S.2, rfl, N6, by omega, by omega, by omega, fun H7 k7 N7 => ?_⟩
    have l4' : (S.1 ++ [Gt.w "other" [a]] ++ [Gt.w "both" [m + S.1.length, b]] ++ [Gt.w "either" [m + S.1.length, b]] ++ [Gt.w "both" [m + (S.1 ++ [Gt.w "other" [a]] ++ [Gt.w "both" [m + S.1.length, b]]).length, S.2]]).length = S.1.length + 4 := by simp
    refine ⟨Z, p, m, _, nm, _, _, rfl, N7, by omega, by omega, by omega, fun H8 k8 N8 => ?_⟩
    exact ⟨_, _, _, rfl, k10.trans ((((k3.trans k4).trans k6).trans k7).trans k8), N8⟩
  · rintro σ H9 ⟨y5, y6, y7, rfl, k9, N9⟩
    rw [← lz, List.take_length] at N9 ⊢
    exact ⟨_, rfl, q H9 (k5.trans k9) N9⟩
def spRai (K : PySem.W.Frag) (C : Addr) : Sp := fun vs H Q _ => ∃ (Z : List Addr) (p : NetP) (m : Nat) (gs : List Gt) (nm : List (Str × List Nat)) (t : Addr) (b1 : Bool) (os : List Nat) (c : Nat), vs = [.ref p.x, .ref t, .int (c : Int)] ∧ NetAt C Z H p m gs nm ∧ Sq2 b1 K H t (nts os) ∧ (∀ w ∈ os, w < m + gs.length) ∧ c < m + gs.length ∧ os.length ≤ 2000 ∧ m + gs.length ≤ 300000 ∧
  ∀ D H', KeepS [p.lm, p.ld] H H' → NetAt C Z H' p m (raiW m gs os c).1 nm → H D = none → H' D = some (.lst (nts (raiW m gs os c).2)) → Q (.ref D) H'
theorem ok_raise_wires (B : Bl mg) (L : LL K mg C za zl E_TooMuch I_TooMuch) : FnOk P w K mg base CX0 5 (za 29) (zl 29) ["net", "ones", "wire"] (spRai K C) := by
  have G_Net_unlike : FnOk P w K mg base CX0 4 (za 47) (zl 47) ["self", "a", "b"] (spG2 C "unlike") := (ok_Net_unlike B L).mono (by decide)
  have G_Net_both : FnOk P w K mg base CX0 4 (za 45) (zl 45) ["self", "a", "b"] (spG2 C "both") := (ok_Net_both B L).mono (by decide)
  refine L.F_raise_wires.ok sc_raise_wires (fun vs H Q E h => ?_) (fun cdv A outer s H vs Q E hr h => ?_)
  · obtain ⟨Z, p, m, gs, nm, t, b1, os, c, rfl, _⟩ := h
    rfl
  obtain ⟨Z, p, m, gs, nm, t, b1, os, c, rfl, hN, hT, ho, hc, hl, hl2, q⟩ := h
  refine ⟨_, (pss_cons (ps_set (i := 3) sc_raise_wires.nd rfl (.inl rfl) (pe_lst pa_nil))
    (pss_cons (ps_for PassesOwn.never rfl (pi_sq (pe_revS (pv 1))) (pg_name (i := 4) sc_raise_wires.nd rfl (.inl rfl)) (pss_cons (ps_expr (pe_bm PySem.F.plainAttrs_list PySem.F.slot_list_append PySem.F.type_list_append mt_append (pv 3) (pa_cons (pe_meth (pv 0) L.T.cl L.M_Net_unlike G_Net_unlike hr L.b_Net_unlike .nil pass0 (pa_cons (pv 4) (pa_cons (pv 2) pa_nil))) pa_nil)))
    (pss_one (ps_set (i := 2) sc_raise_wires.nd rfl (.inl rfl) (pe_meth (pv 0) L.T.cl L.M_Net_both G_Net_both hr L.b_Net_both .nil pass0 (pa_cons (pv 4) (pa_cons (pv 2) pa_nil)))))))
    (pss_one (ps_ret (pe_lst (pa_cons (pv 2) (StX.pa_star (pe_revL (pv 3)) pa_nil))))))), ?_⟩
  refine ⟨Nat.zero_le _, fun R nR => ?_⟩
  have nR2 := hN.nin nR
  have N0 := hN.add (o := .lst []) nR
  have k0 : KeepS [p.lm, p.ld] H (upd H R (.lst [])) := KeepS.new nR
  have eR0 : (upd H R (.lst [])) R = some (.lst []) := upd_same
  have hT0 := hT.keepS (S := []) (KeepS.new (o := .lst []) nR) (fun z => nomatch z)
  generalize upd H R (.lst []) = H0 at *
  try simp only [L2.start, List.map_cons, List.map_nil, List.length_cons, List.length_nil, List.replicate_succ, List.replicate_zero, List.cons_append, List.nil_append, List.set_cons_succ, List.set_cons_zero, Nat.reduceAdd, Nat.reduceSub, Nat.zero_add]
  dsimp only [gName]
  try simp only [L2.start, List.map_cons, List.map_nil, List.length_cons, List.length_nil, List.replicate_succ, List.replicate_zero, List.cons_append, List.nil_append, List.set_cons_succ, List.set_cons_zero, Nat.reduceAdd, Nat.reduceSub, Nat.zero_add]
  refine ⟨_, rfl, b1, t, _, rfl, hT0, fun A1 nA1 => ?_⟩
  rw [nts_rev]
  have sA1 := same_upd (o := sqO b1 (nts os.reverse)) nA1
  have eA1 : Sq2 b1 K (upd H0 A1 (sqO b1 (nts os.reverse))) A1 (nts os.reverse) := Sq2.new
  have nA12 := N0.nin nA1
  have nA1R : A1 ≠ R := fun z => by rw [z, eR0] at nA1; cases nA1
  have N1 := N0.same sA1
  have eR1 := sA1 _ _ eR0
  have k1 := k0.trans (.ofSame sA1)
  generalize upd H0 A1 (sqO b1 (nts os.reverse)) = H1 at *
  refine ⟨b1, A1, _, rfl, eA1, ?_⟩
  have hF := fun i hi => raiF_ok (m := m) (gs := gs) (ps := os.reverse) (c := c) (fun p hp => ho _ (List.mem_reverse.mp hp)) hc i hi _ rfl
  refine for_it (walk_q (K := K) (t := b1) (a := A1) (xs := nts os.reverse)) (fun j σ H9 => ∃ y5 : Option V, σ = [some (.ref p.x), some (.ref t), some (.int ((raiF m gs (os.reverse.take j) c).2.2 : Nat)), some (.ref R), y5] ∧ KeepS [R, p.lm, p.ld] H1 H9 ∧ NetAt C (R :: Z) H9 p m (raiF m gs (os.reverse.take j) c).1 nm ∧ H9 R = some (.lst (nts (raiF m gs (os.reverse.take j) c).2.1))) ⟨_, rfl, KeepS.refl _ _, N1, eR1⟩ (fun j σ H9 _ ⟨_, _, k9, _⟩ => eA1.keepS k9 (ninR nA12 nA1R)) ?_ ?_
  · rintro j v σ H9 H10 hj ⟨y5, rfl, k9, N9, eR⟩ ⟨rfl, hx⟩
    obtain ⟨a, hab, rfl⟩ := nts_at hx
    rw [nts_len] at hj
    have la := ho _ (List.mem_reverse.mp (List.mem_of_getElem? hab))
    have estep : raiF m gs (os.reverse.take (j + 1)) c = raS m (raiF m gs (os.reverse.take j) c) a := fold_take _ hab _
    rw [estep]
    obtain ⟨_, lg, lt', _, l4, _⟩ := hF j (by omega)
    rw [List.length_reverse] at hj
    generalize raiF m gs (os.reverse.take j) c = S at *
    try simp only [L2.start, List.map_cons, List.map_nil, List.length_cons, List.length_nil, List.replicate_succ, List.replicate_zero, List.cons_append, List.nil_append, List.set_cons_succ, List.set_cons_zero, Nat.reduceAdd, Nat.reduceSub, Nat.zero_add]
    dsimp only [gName]
    try simp only [L2.start, List.map_cons, List.map_nil, List.length_cons, List.length_nil, List.replicate_succ, List.replicate_zero, List.cons_append, List.nil_append, List.set_cons_succ, List.set_cons_zero, Nat.reduceAdd, Nat.reduceSub, Nat.zero_add]
    obtain ⟨_, _, _, dx3, _, _, f3, _⟩ := id N9
    refine ⟨_, rfl, .inl ⟨rfl, _, SqL.of eR⟩, _, rfl, p.x, dx3, _, rfl, f3, rfl, _, rfl, _, rfl, R :: Z, p, m, S.1, nm, a, S.2.2, rfl, N9, by omega, by omega, by omega, fun H4 k4 N4 => ?_⟩
    have l2 : (S.1 ++ [Gt.w "unlike" [a, S.2.2]]).length = S.1.length + 1 := by simp
    have eR4 := k4.1 _ _ eR nR2
    refine ⟨R, _, _, rfl, rfl, eR4, by rw [nts_len]; exact big_lt (by omega), ?_⟩
    have N5 := N4.put (D := R) (o := .lst (nts S.2.1 ++ [.int ((m + S.1.length : Nat) : Int)])) (by simp)
    have k5 : KeepS [R, p.lm, p.ld] H1 (upd H4 R (.lst (nts S.2.1 ++ [.int ((m + S.1.length : Nat) : Int)]))) := (k9.trans (k4.mono fun y hy => List.mem_cons_of_mem _ hy)).trans (KeepS.upd (by simp))
    have eR5 : (upd H4 R (.lst (nts S.2.1 ++ [.int ((m + S.1.length : Nat) : Int)]))) R = some (.lst (nts (S.2.1 ++ [m + S.1.length]))) := by
      rw [upd_same, nts_app]
      rfl
    generalize upd H4 R (.lst (nts S.2.1 ++ [.int ((m + S.1.length : Nat) : Int)])) = H5 at *
    obtain ⟨_, _, _, dx5, _, _, f5, _⟩ := id N5
    refine ⟨_, rfl, p.x, dx5, _, rfl, f5, rfl, _, rfl, _, rfl, R :: Z, p, m, _, nm, a, S.2.2, rfl, N5, by omega, by omega, by omega, fun H6 k6 N6 => ?_⟩
    exact ⟨_, rfl, k5.trans (k6.mono fun y hy => List.mem_cons_of_mem _ hy), N6, k6.1 _ _ eR5 nR2⟩
  · rintro σ H9 ⟨y5, rfl, k9, N9, eR⟩
    rw [nts_len, List.take_length] at N9 eR
    have eW : raiW m gs os c = ((raiF m gs os.reverse c).1, (raiF m gs os.reverse c).2.2 :: (raiF m gs os.reverse c).2.1.reverse) := rfl
    have hF' := hF _ (Nat.le_refl _)
    rw [List.take_length] at hF'
    rw [nts_len, List.take_length]
    rw [eW] at q
    obtain ⟨_, _, lt', _, _, _⟩ := hF'
    rw [List.length_reverse] at lt'
    generalize raiF m gs os.reverse c = S at *
    dsimp only at q
    try simp only [L2.start, List.map_cons, List.map_nil, List.length_cons, List.length_nil, List.replicate_succ, List.replicate_zero, List.cons_append, List.nil_append, List.set_cons_succ, List.set_cons_zero, Nat.reduceAdd, Nat.reduceSub, Nat.zero_add]
    refine ⟨_, rfl, _, rfl, R, _, rfl, SqL.of eR, fun B nB => ?_⟩
    rw [nts_rev]
    have sB := same_upd (o := .lst (nts S.2.1.reverse)) nB
    have eB : (upd H9 B (.lst (nts S.2.1.reverse))) B = some (.lst (nts S.2.1.reverse)) := upd_same
    generalize upd H9 B (.lst (nts S.2.1.reverse)) = H10 at *
    refine ⟨B, _, rfl, .inr (SqL.of eB), ?_⟩
    have k9' := ks_drop k1 k9 nR
    refine ⟨by
      rw [List.append_nil, List.length_cons, nts_len, List.length_reverse]
      exact Nat.le_of_lt (big_lt (by omega)), fun D nD => ?_⟩
    rw [List.append_nil]
    have sD := same_upd (o := .lst (.int (S.2.2 : Int) :: nts S.2.1.reverse)) nD
    exact q D _ (k9'.trans (.ofSame (sB.trans sD))) (N9.less.same (sB.trans sD)) (ks_none (k9'.trans (.ofSame sB)) nD) upd_same
/-! ### products, walked -/
theorem rep_flat (x : V) : ∀ n : Nat, (List.replicate n [x]).flatten = List.replicate n x
  | 0 => rfl
  | n + 1 => by rw [List.replicate_succ, List.flatten_cons, rep_flat x n]; rfl
theorem nts_repl (n w : Nat) : List.replicate n (V.int (w : Int)) = nts (List.replicate n w) := by
  unfold nts
  rw [List.map_replicate]
def spTim (K : PySem.W.Frag) (C : Addr) : Sp := fun vs H Q _ => ∃ (Z : List Addr) (p : NetP) (m : Nat) (gs : List Gt) (nm : List (Str × List Nat)) (t u : Addr) (b1 b2 : Bool) (os ts : List Nat), vs = [.ref p.x, .ref t, .ref u] ∧ NetAt C Z H p m gs nm ∧ Sq2 b1 K H t (nts os) ∧ Sq2 b2 K H u (nts ts) ∧ t ∉ [p.lm, p.ld] ∧ u ∉ [p.lm, p.ld] ∧ 0 < os.length ∧ (∀ w ∈ os, w < m + gs.length) ∧ (∀ w ∈ ts, w < m + gs.length) ∧ os.length ≤ 40 ∧ ts.length ≤ 40 ∧ m + gs.length ≤ 200000 ∧
  ∀ D H', KeepS [p.lm, p.ld] H H' → NetAt C Z H' p m (timW m gs os ts).1 nm → H D = none → H' D = some (.lst (nts (timW m gs os ts).2)) → Q (.ref D) H'
theorem ok_times_wires (B : Bl mg) (L : LL K mg C za zl E_TooMuch I_TooMuch) : FnOk P w K mg base CX0 7 (za 30) (zl 30) ["net", "ones", "others"] (spTim K C) := by
  have G_Net_both : FnOk P w K mg base CX0 6 (za 45) (zl 45) ["self", "a", "b"] (spG2 C "both") := (ok_Net_both B L).mono (by decide)
  have G_Net_fixed : FnOk P w K mg base CX0 6 (za 49) (zl 49) ["self", "bit"] (spFixed C) := (ok_Net_fixed B L).mono (by decide)
  have G_sum_wires : FnOk P w K mg base CX0 6 (za 25) (zl 25) ["net", "ones", "others", "carry"] (spSum K C) := (ok_sum_wires B L).mono (by decide)
  refine L.F_times_wires.ok sc_times_wires (fun vs H Q E h => ?_) (fun cdv A outer s H vs Q E hr h => ?_)
  · obtain ⟨Z, p, m, gs, nm, t, u, b1, b2, os, ts, rfl, _⟩ := h
    rfl
  obtain ⟨Z, p, m, gs, nm, t, u, b1, b2, os, ts, rfl, hN, hT, hU, nt, nu, h0, ho, hs, hl, hl2, hm, q⟩ := h
  refine ⟨_, (pss_cons (ps_set (i := 3) sc_times_wires.nd rfl (.inl rfl) (pe_meth (pv 0) L.T.cl L.M_Net_fixed G_Net_fixed hr L.b_Net_fixed .nil pass0 (pa_cons pe_int pa_nil)))
    (pss_cons (ps_set (i := 4) sc_times_wires.nd rfl (.inl rfl) (pe_op op_rep (pe_lst (pa_cons (pv 3) pa_nil)) (pe_callB call_len_seq (by rfl) B.len PySem.boot_len (pa_cons (pv 1) pa_nil))))
    (pss_cons (ps_set (i := 5) sc_times_wires.nd rfl (.inl rfl) (pe_lst pa_nil))
    (pss_cons (ps_for PassesOwn.never rfl (pi_sq (pe_revS (pv 2))) (pg_name (i := 6) sc_times_wires.nd rfl (.inr rfl)) (pss_cons (ps_setLc (i := 7) (own := [("one", 9)]) (by rfl) sc_times_wires.nd rfl rfl (sw_true rfl rfl rfl (by decide +kernel)) (pi_sq (pv 1)) (blkOk_by (own := [("one", 9)]) (N := ["net", "ones", "others", "nought", "total", "ended", "other", "row", "last", "one"]) (sc := defScope s_times_wires) (by decide +kernel)) (fun _ _ _ _ _ => pg_name (i := 9) sc_times_wires.nd rfl (Or.inl rfl)) (fun _ _ _ _ _ => pts_nil) (fun _ _ _ _ _ => (pe_meth (pv 0) L.T.cl L.M_Net_both G_Net_both hr L.b_Net_both .nil pass0 (pa_cons (pv 9) (pa_cons (pv 6) pa_nil)))))
    (pss_cons (ps_asg (pe_call G_sum_wires hr (by rfl) L.m_sum_wires L.F_sum_wires.kp L.b_sum_wires .nil pass0 (pa_cons (pv 0) (pa_cons (pv 4) (pa_cons (pv 7) (pa_cons (pv 3) pa_nil))))) (pg_star1 rfl (pgs_star (pg_name (i := 4) sc_times_wires.nd rfl (.inl rfl)) (pgs_cons (pg_name (i := 8) sc_times_wires.nd rfl (.inl rfl)) pgs_nil))))
    (pss_one (ps_expr (pe_bm PySem.F.plainAttrs_list PySem.F.slot_list_append PySem.F.type_list_append mt_append (pv 5) (pa_cons (pv 8) pa_nil)))))))
    (pss_one (ps_ret (pe_op op_cat (pv 4) (pe_revL (pv 5))))))))), ?_⟩
  obtain ⟨_, _, _, dx, _, _, f0, _⟩ := id hN
  refine ⟨_, rfl, p.x, dx, _, rfl, f0, rfl, Z, p, m, gs, nm, 0, rfl, hN, by omega, fun H1 k1 N1 => ?_⟩
  have hT1 := hT.keepS k1 nt
  have hU1 := hU.keepS k1 nu
  dsimp only [gName]
  try simp only [L2.start, List.map_cons, List.map_nil, List.length_cons, List.length_nil, List.replicate_succ, List.replicate_zero, List.cons_append, List.nil_append, List.set_cons_succ, List.set_cons_zero, Nat.reduceAdd, Nat.reduceSub, Nat.zero_add]
  refine ⟨_, rfl, (by show 1 ≤ sizeLine; decide), fun L1 nL1 => ?_⟩
  have s1 := same_upd (o := .lst [.int ((m + gs.length : Nat) : Int)]) nL1
  have e1 : (upd H1 L1 (.lst [.int ((m + gs.length : Nat) : Int)])) L1 = some (.lst [.int ((m + gs.length : Nat) : Int)]) := upd_same
  have hT2 := hT1.keepS (S := []) (.ofSame s1) (fun z => nomatch z)
  have k2 := k1.trans (.ofSame s1)
  have N2 := N1.same s1
  have hU2 := hU1.keepS (S := []) (.ofSame s1) (fun z => nomatch z)
  generalize upd H1 L1 (.lst [.int ((m + gs.length : Nat) : Int)]) = H2 at *
  refine ⟨_, rfl, t, _, rfl, hT2.to, ?_⟩
  rw [nts_len]
  refine ⟨L1, _, _, rfl, rfl, e1, by omega, by omega, by rw [Int.toNat_natCast, List.length_singleton]; exact Nat.le_of_lt (big_lt (by omega)), fun TL nTL => ?_⟩
  rw [Int.toNat_natCast, rep_flat, nts_repl]
  have s2 := same_upd (o := .lst (nts (List.replicate os.length (m + gs.length)))) nTL
  have eTL : (upd H2 TL (.lst (nts (List.replicate os.length (m + gs.length))))) TL = some (.lst (nts (List.replicate os.length (m + gs.length)))) := upd_same
  have hU3 := hU2.keepS (S := []) (.ofSame s2) (fun z => nomatch z)
  have hT3 := hT2.keepS (S := []) (.ofSame s2) (fun z => nomatch z)
  have k3 := k2.trans (.ofSame s2)
  have N3 := N2.same s2
  have nTL2 := N2.nin nTL
  generalize upd H2 TL (.lst (nts (List.replicate os.length (m + gs.length)))) = H3 at *
  dsimp only [gName]
  try simp only [L2.start, List.map_cons, List.map_nil, List.length_cons, List.length_nil, List.replicate_succ, List.replicate_zero, List.cons_append, List.nil_append, List.set_cons_succ, List.set_cons_zero, Nat.reduceAdd, Nat.reduceSub, Nat.zero_add]
  refine ⟨Nat.zero_le _, fun R nR => ?_⟩
  have nR2 := N3.nin nR
  have N4 := N3.add (o := .lst []) nR
  have k4 := k3.trans (KeepS.new (o := .lst []) nR)
  have eR4 : (upd H3 R (.lst [])) R = some (.lst []) := upd_same
  have sR := same_upd (o := .lst []) nR
  have eTL4 := sR _ _ eTL
  have hU4 := hU3.keepS (S := []) (.ofSame sR) (fun z => nomatch z)
  have hT4 := hT3.keepS (S := []) (.ofSame sR) (fun z => nomatch z)
  have nTLR : TL ≠ R := fun z => by rw [z, nR] at eTL; cases eTL
  have nRH : H R = none := ks_none k3 nR
  generalize upd H3 R (.lst []) = H4 at *
  dsimp only [gName]
  try simp only [L2.start, List.map_cons, List.map_nil, List.length_cons, List.length_nil, List.replicate_succ, List.replicate_zero, List.cons_append, List.nil_append, List.set_cons_succ, List.set_cons_zero, Nat.reduceAdd, Nat.reduceSub, Nat.zero_add]
  refine ⟨_, rfl, b2, u, _, rfl, hU4, fun A2 nA2 => ?_⟩
  rw [nts_rev]
  have sA2 := same_upd (o := sqO b2 (nts ts.reverse)) nA2
  have eA2 : Sq2 b2 K (upd H4 A2 (sqO b2 (nts ts.reverse))) A2 (nts ts.reverse) := Sq2.new
  have nA22 := N4.nin nA2
  have nA2R : A2 ≠ R := fun z => by rw [z, eR4] at nA2; cases nA2
  have N5 := N4.same sA2
  have eR5 := sA2 _ _ eR4
  have eTL5 := sA2 _ _ eTL4
  have k5 := k4.trans (.ofSame sA2)
  generalize upd H4 A2 (sqO b2 (nts ts.reverse)) = H5 at *
  refine ⟨b2, A2, _, rfl, eA2, ?_⟩
  have hF := fun i hi => timF_ok (m := m) (gs := gs) (os := os) (ts := ts.reverse) ho (fun p hp => hs _ (List.mem_reverse.mp hp)) h0 i hi _ rfl
  refine for_it (walk_q (K := K) (t := b2) (a := A2) (xs := nts ts.reverse)) (fun j σ H9 => ∃ (TL : Addr) (y6 y7 y8 : Option V), σ = [some (.ref p.x), some (.ref t), some (.ref u), some (.int ((m + gs.length : Nat) : Int)), some (.ref TL), some (.ref R), y6, y7, y8, none] ∧ KeepS [R, p.lm, p.ld] H5 H9 ∧ NetAt C (R :: Z) H9 p m (timF m gs os (ts.reverse.take j)).1 nm ∧ H9 R = some (.lst (nts (timF m gs os (ts.reverse.take j)).2.2)) ∧ H9 TL = some (.lst (nts (timF m gs os (ts.reverse.take j)).2.1)) ∧ TL ∉ [R, p.lm, p.ld]) ⟨TL, _, _, _, rfl, KeepS.refl _ _, N5, eR5, eTL5, ninR nTL2 nTLR⟩ (fun j σ H9 _ ⟨_, _, _, _, _, k9, _⟩ => eA2.keepS k9 (ninR nA22 nA2R)) ?_ ?_
  · rintro j v σ H10 H9 hj ⟨TL, y6, y7, y8, rfl, k9, N9, eR, eT9, nT9⟩ ⟨rfl, hx⟩
    obtain ⟨a, hab, rfl⟩ := nts_at hx
    rw [nts_len, List.length_reverse] at hj
    have la := hs _ (List.mem_reverse.mp (List.mem_of_getElem? hab))
    have estep : timF m gs os (ts.reverse.take (j + 1)) = tiS m os (m + gs.length) (timF m gs os (ts.reverse.take j)) a := fold_take _ hab _
    rw [estep]
    obtain ⟨x1, lg, lt1', lt2, hb1, hb2, _⟩ := hF j (by rw [List.length_reverse]; omega)
    have hm1 : 6 * os.length * j ≤ 6 * 40 * 40 := Nat.mul_le_mul (by omega) (by omega)
    have xl := x1.len
    clear estep x1
    generalize 6 * os.length * j = big at *
    generalize timF m gs os (ts.reverse.take j) = S at *
    have kH9 := ks_drop k5 k9 nRH
    have hT9 := hT.keepS kH9 nt
    try simp only [L2.start, List.map_cons, List.map_nil, List.length_cons, List.length_nil, List.replicate_succ, List.replicate_zero, List.cons_append, List.nil_append, List.set_cons_succ, List.set_cons_zero, Nat.reduceAdd, Nat.reduceSub, Nat.zero_add]
    dsimp only [gName]
    try simp only [L2.start, List.map_cons, List.map_nil, List.length_cons, List.length_nil, List.replicate_succ, List.replicate_zero, List.cons_append, List.nil_append, List.set_cons_succ, List.set_cons_zero, Nat.reduceAdd, Nat.reduceSub, Nat.zero_add]
    refine ⟨_, rfl, b1, t, _, rfl, hT9, fun W nW => ?_⟩
    have nW2 := N9.nin nW
    have nWH := ks_none kH9 nW
    have nWR : W ≠ R := fun z => by rw [z, eR] at nW; cases nW
    have nWT : TL ≠ W := fun z => by rw [← z, eT9] at nW; cases nW
    have NW := N9.add (o := .lst []) nW
    refine lc_it (walk_q (K := K) (t := b1) (a := t) (xs := nts os)) (fun i H7 => KeepS [p.lm, p.ld] H9 H7 ∧ NetAt C (W :: R :: Z) H7 p m ((os.take i).foldl (rwS m a) (S.1, [])).1 nm ∧ H7 W = some (.lst (nts ((os.take i).foldl (rwS m a) (S.1, [])).2))) ⟨KeepS.new nW, NW, upd_same⟩ (fun i H7 _ ⟨k7, _⟩ => hT9.keepS k7 nt) ?_ ?_
    · rintro i v H8 H7 hi ⟨k7, N7, eW⟩ ⟨rfl, hz⟩
      obtain ⟨o, ho', rfl⟩ := nts_at hz
      rw [nts_len] at hi
      have lo := ho _ (List.mem_of_getElem? ho')
      have estep : (os.take (i + 1)).foldl (rwS m a) (S.1, []) = rwS m a ((os.take i).foldl (rwS m a) (S.1, [])) o := fold_take _ ho' _
      rw [estep]
      obtain ⟨r1, r2⟩ := rowW_at (m := m) (o := a) (gs := gs) (os.take i) (S.1, [])
      rw [List.length_take] at r1 r2
      dsimp only [List.length_nil] at r1 r2
      generalize (os.take i).foldl (rwS m a) (S.1, []) = U at *
      refine ⟨rfl, yesT ?_⟩
      try simp only [L2.start, List.map_cons, List.map_nil, List.length_cons, List.length_nil, List.replicate_succ, List.replicate_zero, List.cons_append, List.nil_append, List.set_cons_succ, List.set_cons_zero, Nat.reduceAdd, Nat.reduceSub, Nat.zero_add]
      obtain ⟨_, _, _, dx2, _, _, f1, _⟩ := id N7
      refine ⟨_, rfl, p.x, dx2, _, rfl, f1, rfl, _, rfl, _, rfl, W :: R :: Z, p, m, U.1, nm, o, a, rfl, N7, by omega, by omega, by omega, fun H3 k3 N3 => ?_⟩
      refine ⟨_, k3.1 _ _ eW nW2, by rw [nts_len]; exact big_lt (by omega), ks_updN (k7.trans k3) nW, N3.put (by simp), ?_⟩
      rw [upd_same]
      show _ = some (HO.lst (nts (U.2 ++ [_])))
      rw [nts_app]
      rfl
    rintro H7 ⟨k7, N7, eW⟩
    have er : (os.take (nts os).length).foldl (rwS m a) (S.1, []) = rowW m S.1 os a := by
      rw [nts_len, List.take_length]
      rfl
    rw [er] at N7 eW
    have Ro := rowW_ok (m := m) (o := a) (gs := S.1) (os := os) (fun x hx => by have := ho x hx; omega) (by omega)
    have hrw : tiS m os (m + gs.length) S a = ((sumW m (rowW m S.1 os a).1 S.2.1 (rowW m S.1 os a).2 (m + gs.length)).1, (sumW m (rowW m S.1 os a).1 S.2.1 (rowW m S.1 os a).2 (m + gs.length)).2.dropLast, S.2.2 ++ [(sumW m (rowW m S.1 os a).1 S.2.1 (rowW m S.1 os a).2 (m + gs.length)).2.getLastD 0]) := rfl
    rw [hrw]
    clear hrw er
    have lR := (rowW_at (m := m) (o := a) (gs := gs) os (S.1, [])).2
    rw [show (os.foldl (rwS m a) (S.1, [])) = rowW m S.1 os a from rfl] at lR
    dsimp only [List.length_nil] at lR
    generalize rowW m S.1 os a = U at *
    have lU := Ro.ext.len
    have eR7 := k7.1 _ _ eR nR2
    have nT92 : TL ∉ [p.lm, p.ld] := fun z => nT9 (List.mem_cons_of_mem _ z)
    have eT7 := k7.1 _ _ eT9 nT92
    dsimp only [gName]
    try simp only [L2.start, List.map_cons, List.map_nil, List.length_cons, List.length_nil, List.replicate_succ, List.replicate_zero, List.cons_append, List.nil_append, List.set_cons_succ, List.set_cons_zero, Nat.reduceAdd, Nat.reduceSub, Nat.zero_add]
    refine ⟨_, rfl, _, rfl, _, rfl, _, rfl, R :: Z, p, m, U.1, nm, TL, W, false, false, S.2.1, U.2, m + gs.length, rfl, N7.less, SqL.of eT7, SqL.of eW, by omega, (fun x hx => by have := hb1 x hx; omega), Ro.lt, by omega, by omega, by omega, fun D H8 k8 N8 nD eD => ?_⟩
    have Sm := sumW_len (m := m) (gs := U.1) (os := S.2.1) (ts := U.2) (c := m + gs.length) (by omega) (fun x hx => by have := hb1 x hx; omega) Ro.lt (by omega)
    generalize sumW m U.1 S.2.1 U.2 (m + gs.length) = X at *
    have hne : X.2 ≠ [] := fun z => by rw [z] at Sm; cases Sm
    have dl := dl_last (d := 0) hne
    have eD' : H8 D = some (.lst (nts X.2.dropLast ++ [.int (X.2.getLastD 0 : Nat)])) := by
      rw [eD]
      conv => lhs; rw [dl, nts_app]
      rfl
    refine ⟨D, _, _, rfl, SqL.of eD', by rw [nts_len, List.length_dropLast]; omega, fun TM nTM => ?_⟩
    have sM := same_upd (o := .lst (nts X.2.dropLast)) nTM
    have eM : (upd H8 TM (.lst (nts X.2.dropLast))) TM = some (.lst (nts X.2.dropLast)) := upd_same
    have eR8 := k8.1 _ _ eR7 nR2
    have nTM2 := N8.nin nTM
    have nTMR : TM ≠ R := fun z => by rw [z, eR8] at nTM; cases nTM
    have N9' := N8.same sM
    have eR9 := sM _ _ eR8
    have k79 := (k7.trans k8).trans (.ofSame sM)
    generalize upd H8 TM (.lst (nts X.2.dropLast)) = HA at *
    refine ⟨_, _, rfl, _, _, rfl, rfl, ?_⟩
    dsimp only [gName]
    try simp only [L2.start, List.map_cons, List.map_nil, List.length_cons, List.length_nil, List.replicate_succ, List.replicate_zero, List.cons_append, List.nil_append, List.set_cons_succ, List.set_cons_zero, Nat.reduceAdd, Nat.reduceSub, Nat.zero_add]
    refine ⟨_, rfl, .inl ⟨rfl, _, SqL.of eR9⟩, _, rfl, R, _, _, rfl, rfl, eR9, by rw [nts_len]; exact big_lt (by omega), ?_⟩
    refine ⟨TM, _, _, _, rfl, (k9.trans (k79.mono fun y hy => List.mem_cons_of_mem _ hy)).trans (KeepS.upd (by simp)), N9'.put (by simp), ?_, ?_, ninR nTM2 nTMR⟩
    · rw [upd_same, nts_app]
      rfl
    · rw [upd_ne nTMR]
      exact eM
  · rintro σ H9 ⟨TL, y6, y7, y8, rfl, k9, N9, eR, eT9, nT9⟩
    rw [nts_len, List.take_length] at N9 eR eT9
    have eW : timW m gs os ts = ((timF m gs os ts.reverse).1, (timF m gs os ts.reverse).2.1 ++ (timF m gs os ts.reverse).2.2.reverse) := rfl
    have hF' := hF _ (Nat.le_refl _)
    rw [List.take_length, List.length_reverse] at hF'
    rw [eW] at q
    obtain ⟨_, _, lt1', lt2, _⟩ := hF'
    generalize timF m gs os ts.reverse = S at *
    dsimp only at q
    try simp only [L2.start, List.map_cons, List.map_nil, List.length_cons, List.length_nil, List.replicate_succ, List.replicate_zero, List.cons_append, List.nil_append, List.set_cons_succ, List.set_cons_zero, Nat.reduceAdd, Nat.reduceSub, Nat.zero_add]
    refine ⟨_, rfl, _, rfl, R, _, rfl, SqL.of eR, fun B nB => ?_⟩
    rw [nts_rev]
    have sB := same_upd (o := .lst (nts S.2.2.reverse)) nB
    have eB : (upd H9 B (.lst (nts S.2.2.reverse))) B = some (.lst (nts S.2.2.reverse)) := upd_same
    have eT10 := sB _ _ eT9
    generalize upd H9 B (.lst (nts S.2.2.reverse)) = H10 at *
    have k9' := ks_drop k5 k9 nRH
    refine ⟨TL, B, _, _, rfl, rfl, eT10, eB, by
      rw [nts_len, nts_len, List.length_reverse]
      exact Nat.le_of_lt (big_lt (by omega)), fun D nD => ?_⟩
    rw [← nts_app]
    have sD := same_upd (o := .lst (nts (S.2.1 ++ S.2.2.reverse))) nD
    exact q D _ (k9'.trans (.ofSame (sB.trans sD))) (N9.less.same (sB.trans sD)) (ks_none (k9'.trans (.ofSame sB)) nD) upd_same
def spChosen (K : PySem.W.Frag) (C : Addr) : Sp := fun vs H Q _ => ∃ (Z : List Addr) (p : NetP) (m : Nat) (gs : List Gt) (nm : List (Str × List Nat)) (t u : Addr) (w : Nat) (os ts : List Nat) (b1 b2 : Bool), vs = [.ref p.x, .int (w : Int), .ref t, .ref u] ∧ NetAt C Z H p m gs nm ∧ Sq2 b1 K H t (nts os) ∧ Sq2 b2 K H u (nts ts) ∧ t ∉ [p.lm, p.ld] ∧ u ∉ [p.lm, p.ld] ∧ os.length = ts.length ∧ w < m + gs.length ∧ (∀ w ∈ os, w < m + gs.length) ∧ (∀ w ∈ ts, w < m + gs.length) ∧ m + gs.length + 3 * os.length ≤ 400000 ∧
  ∀ D H', KeepS [p.lm, p.ld] H H' → NetAt C Z H' p m (chosenW m gs w (os.zip ts)).1 nm → H D = none → H' D = some (.lst (nts (chosenW m gs w (os.zip ts)).2)) → Q (.ref D) H'
theorem ok_chosen_wires (B : Bl mg) (L : LL K mg C za zl E_TooMuch I_TooMuch) : FnOk P w K mg base CX0 5 (za 26) (zl 26) ["net", "wire", "ones", "others"] (spChosen K C) := by
  have G_Net_other : FnOk P w K mg base CX0 4 (za 48) (zl 48) ["self", "a"] (spG1 C) := (ok_Net_other B L).mono (by decide)
  have G_Net_either : FnOk P w K mg base CX0 4 (za 46) (zl 46) ["self", "a", "b"] (spG2 C "either") := (ok_Net_either B L).mono (by decide)
  have G_Net_both : FnOk P w K mg base CX0 4 (za 45) (zl 45) ["self", "a", "b"] (spG2 C "both") := (ok_Net_both B L).mono (by decide)
  refine L.F_chosen_wires.ok sc_chosen_wires (fun vs H Q E h => ?_) (fun cdv A outer s H vs Q E hr h => ?_)
  · obtain ⟨Z, p, m, gs, nm, t, u, w, os, ts, b1, b2, rfl, _⟩ := h
    rfl
  obtain ⟨Z, p, m, gs, nm, t, u, w, os, ts, b1, b2, rfl, hN, hT, hU, nt, nu, hlen, hw, ho, hs, hl, q⟩ := h
  refine ⟨_, (pss_cons (ps_set (i := 4) sc_chosen_wires.nd rfl (.inr rfl) (pe_meth (pv 0) L.T.cl L.M_Net_other G_Net_other hr L.b_Net_other .nil pass0 (pa_cons (pv 1) pa_nil)))
    (pss_one (ps_ret (pe_lc (own := [("one", 5), ("other", 6)]) (g := gTup K 2 (gCons (gName 5) (gCons (gName 6) gNil))) (by rfl) sc_chosen_wires.nd (pi_zb (by rfl) B.zip (pa_cons (pv 2) (pa_cons (pv 3) pa_nil))) (blkOk_by (own := [("one", 5), ("other", 6)]) (N := ["net", "wire", "ones", "others", "stays", "one", "other"]) (sc := defScope s_chosen_wires) (by decide +kernel)) (fun _ _ _ _ _ => pg_tup rfl (pgs_cons (pg_name (i := 5) sc_chosen_wires.nd rfl (Or.inl rfl) (.inr rfl)) (pgs_cons (pg_name (i := 6) sc_chosen_wires.nd rfl (Or.inl rfl) (.inr rfl)) pgs_nil))) (fun _ _ _ _ _ => pts_nil) (fun _ _ _ _ _ => (pe_meth (pv 0) L.T.cl L.M_Net_either G_Net_either hr L.b_Net_either .nil pass0 (pa_cons (pe_meth (pv 0) L.T.cl L.M_Net_both G_Net_both hr L.b_Net_both .nil pass0 (pa_cons (pv 1) (pa_cons (pv 5) pa_nil))) (pa_cons (pe_meth (pv 0) L.T.cl L.M_Net_both G_Net_both hr L.b_Net_both .nil pass0 (pa_cons (pv 4) (pa_cons (pv 6) pa_nil))) pa_nil)))))))), ?_⟩
  obtain ⟨_, _, _, dx, _, _, e1, _⟩ := id hN
  refine ⟨_, rfl, p.x, dx, _, rfl, e1, rfl, _, rfl, Z, p, m, gs, nm, w, rfl, hN, hw, by omega, fun H1 k1 N1 => ?_⟩
  try simp only [L2.start, List.map_cons, List.map_nil, List.length_cons, List.length_nil, List.replicate_succ, List.replicate_zero, List.cons_append, List.nil_append, List.set_cons_succ, List.set_cons_zero, Nat.reduceAdd, Nat.reduceSub, Nat.zero_add]
  dsimp only [gName]
  try simp only [L2.start, List.map_cons, List.map_nil, List.length_cons, List.length_nil, List.replicate_succ, List.replicate_zero, List.cons_append, List.nil_append, List.set_cons_succ, List.set_cons_zero, Nat.reduceAdd, Nat.reduceSub, Nat.zero_add]
  refine ⟨_, rfl, _, rfl, b1, b2, t, u, _, _, rfl, hT.keepS k1 nt, hU.keepS k1 nu, fun D nD => ?_⟩
  have nD1 := N1.nin nD
  have N2 := N1.add (o := .lst []) nD
  refine lc_it (walk_zb (K := K) (t1 := b1) (t2 := b2) (a := t) (b := u) (xs := nts os) (ys := nts ts) (n := os.length) (nts_len os) (by rw [nts_len, hlen])) (fun j H9 => KeepS [p.lm, p.ld] H1 H9 ∧ NetAt C (D :: Z) H9 p m (((os.zip ts).take j).foldl (chS m w (m + gs.length)) (gs ++ [Gt.w "other" [w]], [])).1 nm ∧ H9 D = some (.lst (nts (((os.zip ts).take j).foldl (chS m w (m + gs.length)) (gs ++ [Gt.w "other" [w]], [])).2))) ⟨KeepS.new nD, N2, upd_same⟩ (fun j H9 _ ⟨k9, _⟩ => ⟨(hT.keepS k1 nt).keepS k9 nt, (hU.keepS k1 nu).keepS k9 nu⟩) ?_ ?_
  · rintro j v H9 H10 hj ⟨k9, N9, eD⟩ ⟨T, x, y, rfl, nT, rfl, hx, hy⟩
    obtain ⟨a, b, hab, rfl, rfl⟩ := nts_zip hx hy
    have sT := same_upd (o := .tup [.int (a : Int), .int (b : Int)]) nT
    have N10 := N9.same sT
    have hp := List.mem_of_getElem? hab
    have la := ho _ (List.of_mem_zip hp).1
    have lb := hs _ (List.of_mem_zip hp).2
    have W := chosenW_ok (m := m) (w := w) (gs := gs) (ps := (os.zip ts).take j) hw (fun p hp => ⟨ho _ (List.of_mem_zip (List.mem_of_mem_take hp)).1, hs _ (List.of_mem_zip (List.mem_of_mem_take hp)).2⟩)
    have lW := W.ext.len
    have lz : ((os.zip ts).take j).length ≤ os.length := by
      rw [List.length_take, List.length_zip]
      omega
    have st : m + gs.length < m + (chosenW m gs w ((os.zip ts).take j)).1.length := by
      have := chW_len m w (m + gs.length) ((os.zip ts).take j) (gs ++ [Gt.w "other" [w]], [])
      simp only [List.length_append, List.length_singleton] at this
      unfold chosenW
      omega
    have wlt : w < m + (chosenW m gs w ((os.zip ts).take j)).1.length := by omega
    have estep : ((os.zip ts).take (j + 1)).foldl (chS m w (m + gs.length)) (gs ++ [Gt.w "other" [w]], []) = chS m w (m + gs.length) (chosenW m gs w ((os.zip ts).take j)) (a, b) := fold_take _ hab _
    have eS : ((os.zip ts).take j).foldl (chS m w (m + gs.length)) (gs ++ [Gt.w "other" [w]], []) = chosenW m gs w ((os.zip ts).take j) := rfl
    rw [eS] at N10 eD
    rw [estep]
    have nw := W.lt
    generalize chosenW m gs w ((os.zip ts).take j) = S at *
    have eD10 := sT _ _ eD
    refine ⟨T, _, rfl, .inl (.inl upd_same), rfl, _, _, rfl, _, _, rfl, rfl, rfl, ?_⟩
    refine yesT ?_
    try simp only [L2.start, List.map_cons, List.map_nil, List.length_cons, List.length_nil, List.replicate_succ, List.replicate_zero, List.cons_append, List.nil_append, List.set_cons_succ, List.set_cons_zero, Nat.reduceAdd, Nat.reduceSub, Nat.zero_add]
    obtain ⟨_, _, _, dx2, _, _, f1, _⟩ := id N10
    refine ⟨_, rfl, p.x, dx2, _, rfl, f1, rfl, ?_⟩
    refine ⟨_, rfl, p.x, dx2, _, rfl, f1, rfl, _, rfl, _, rfl, D :: Z, p, m, S.1, nm, w, a, rfl, N10, wlt, by omega, by omega, fun H3 k3 N3 => ?_⟩
    have l0 := len1 (m := m) (gs := S.1) (g := Gt.w "both" [w, a])
    obtain ⟨_, _, _, dx3, _, _, f3, _⟩ := id N3
    have lS1 : (S.1 ++ [Gt.w "both" [w, a]]).length = S.1.length + 1 := by simp
    refine ⟨_, rfl, p.x, dx3, _, rfl, f3, rfl, _, rfl, _, rfl, D :: Z, p, m, _, nm, m + gs.length, b, rfl, N3, by omega, by omega, by omega, fun H4 k4 N4 => ?_⟩
    have lS2 : (S.1 ++ [Gt.w "both" [w, a]] ++ [Gt.w "both" [m + gs.length, b]]).length = S.1.length + 2 := by simp
    refine ⟨D :: Z, p, m, _, nm, _, _, rfl, N4, by omega, by omega, by omega, fun H5 k5 N5 => ?_⟩
    have kk : KeepS [p.lm, p.ld] H9 H5 := (((KeepS.ofSame sT).trans k3).trans k4).trans k5
    have eD5 := kk.1 _ _ eD nD1
    have lS : S.2.length ≤ 3 * os.length + 1 := by
      have := congrArg List.length (W.val (List.replicate m false) (by simp))
      rw [List.length_map, List.length_map] at this
      omega
    refine ⟨_, eD5, by rw [nts_len]; exact big_lt (by omega), ks_updN (k9.trans kk) nD, N5.put (by simp), ?_⟩
    rw [upd_same]
    show _ = some (HO.lst (nts (S.2 ++ [_])))
    rw [nts_app]
    rfl
  · rintro H9 ⟨k9, N9, eD⟩
    rw [List.take_of_length_le (by rw [List.length_zip]; omega)] at N9 eD
    exact q D H9 (k1.trans k9) N9.less (ks_none k1 nD) eD
end
section
variable {P : Program} {w : World} {K : PySem.W.Frag} {mg : Str → Option Value} {base : Heap}
variable {C : Addr} {za : Nat → Addr} {zl : Nat → FuncData} {E_TooMuch I_TooMuch : Addr}
/-! ### cubes as lists of signs -/
theorem walk_zx {x y : Str} {n : Nat} (hn : n = min x.cps.size y.cps.size) : Walk (Itzx x y) n (fun _ => True) (YPair (fun i => (x.cps[i]?).map fun c => .str ⟨#[c]⟩) (fun i => (y.cps[i]?).map fun c => .str ⟨#[c]⟩)) := by
  subst hn
  refine ⟨fun i _ hi _ => hi, fun _ _ => rfl, fun i H v H' _ _ z => ?_⟩
  obtain ⟨T, c, d, h1, h2, h3, h4, h5⟩ := z
  exact ⟨T, _, _, h1, h2, h3, by simp only [h4]; rfl, by simp only [h5]; rfl⟩
theorem walk_zS {x y : List Nat} {n : Nat} (hx : x.length = n) (hy : y.length = n) : Walk (Itzx (SX.S x) (SX.S y)) n (fun _ => True) (YPair (fun i => (x[i]?).map fun c => .str (SX.S [c])) (fun i => (y[i]?).map fun c => .str (SX.S [c]))) := by
  have w := walk_zx (x := SX.S x) (y := SX.S y) (n := n) (by show n = min x.toArray.size y.toArray.size; rw [List.size_toArray, List.size_toArray, hx, hy]; omega)
  refine ⟨w.goes, w.stops, fun i H v H' hi g z => ?_⟩
  obtain ⟨T, u, v', e1, e2, e3, e4, e5⟩ := w.yields i H v H' hi g z
  refine ⟨T, u, v', e1, e2, e3, ?_, ?_⟩
  · rw [← e4]
    show _ = (x.toArray[i]?).map _
    rw [List.getElem?_toArray]
  · rw [← e5]
    show _ = (y.toArray[i]?).map _
    rw [List.getElem?_toArray]
/-- the signs meet nowhere -/
def bad (a b : Nat) : Bool := decide (a ≠ 45 ∧ b ≠ 45 ∧ b ≠ a)
def mgs (a b : Nat) : Nat := if a = 45 then b else a
def clash (x y : List Nat) : Bool := (List.zipWith bad x y).any id
def meet (x y : List Nat) : List Nat := List.zipWith mgs x y
def csv (a b : Nat) : V := if bad a b = true then .non else .str (SX.S [mgs a b])
def cmV (x y : List Nat) : V := if clash x y = true then .non else .str (SX.S (meet x y))
theorem zw_take {α β γ : Type} (f : α → β → γ) {x : List α} {y : List β} {i : Nat} {a : α} {b : β} (ha : x[i]? = some a) (hb : y[i]? = some b) : (List.zipWith f x y).take (i + 1) = (List.zipWith f x y).take i ++ [f a b] := by
  rw [List.take_add_one, List.getElem?_zipWith, ha, hb]
  rfl
theorem zw_len {α β γ : Type} (f : α → β → γ) {x : List α} {y : List β} {n : Nat} (hx : x.length = n) (hy : y.length = n) : (List.zipWith f x y).length = n := by
  rw [List.length_zipWith, hx, hy, Nat.min_self]
theorem in_non (x y : List Nat) : inV .non (List.zipWith csv x y) = clash x y := by
  unfold inV clash
  induction x generalizing y with
  | nil => rfl
  | cons a x ih =>
    cases y with
    | nil => rfl
    | cons b y =>
      rw [List.zipWith_cons_cons, List.zipWith_cons_cons, List.any_cons, List.any_cons, ih]
      congr 1
      unfold csv
      cases bad a b <;> rfl
theorem flat_cs (x y : List Nat) : (List.zipWith csv x y).all flatV = true := by
  induction x generalizing y with
  | nil => rfl
  | cons a x ih =>
    cases y with
    | nil => rfl
    | cons b y =>
      rw [List.zipWith_cons_cons, List.all_cons, ih, Bool.and_true]
      unfold csv
      cases bad a b <;> rfl
theorem cs_meet (x y : List Nat) (h : clash x y = false) : List.zipWith csv x y = ((meet x y).map fun c => SX.S [c]).map V.str := by
  induction x generalizing y with
  | nil => rfl
  | cons a x ih =>
    cases y with
    | nil => rfl
    | cons b y =>
      unfold clash at h
      rw [List.zipWith_cons_cons, List.any_cons, Bool.or_eq_false_iff] at h
      rw [List.zipWith_cons_cons, ih y h.2]
      unfold csv
      rw [if_neg (by rw [show bad a b = false from h.1]; decide)]
      rfl
theorem csv_m (b : Nat) : csv 45 b = .str (SX.S [b]) := by
  unfold csv bad mgs
  rw [if_neg (by simp), if_pos rfl]
theorem csv_y {a b : Nat} (h : ¬ a = 45) (h2 : b = 45 ∨ b = a) : csv a b = .str (SX.S [a]) := by
  unfold csv bad mgs
  rw [if_neg (fun z => by have z := of_decide_eq_true z; omega), if_neg h]
theorem csv_n {a b : Nat} (h : ¬ a = 45) (h2 : ¬ (b = 45 ∨ b = a)) : csv a b = .non := by
  unfold csv bad mgs
  rw [if_pos (decide_eq_true ⟨h, fun z => h2 (.inl z), fun z => h2 (.inr z)⟩)]
theorem inM (a b : Nat) : inV (.str (SX.S [b])) [.str (Str.ofString "-"), .str (SX.S [a])] = decide (b = 45 ∨ b = a) := by
  apply Bool.eq_iff_iff.mpr
  rw [mns, show ([.str (SX.S [45]), .str (SX.S [a])] : List V) = ([SX.S [45], SX.S [a]] : List Str).map V.str from rfl, in_strs, decide_eq_true_iff, List.mem_cons, List.mem_singleton]
  exact ⟨fun z => z.imp S1_inj S1_inj, fun z => z.imp (fun e => by rw [e]) (fun e => by rw [e])⟩
def spCs : Sp := fun vs H Q _ => ∃ a b : Nat, vs = [.str (SX.S [a]), .str (SX.S [b])] ∧ ∀ H', Same H H' → Q (csv a b) H'
theorem ok_common_sign (B : Bl mg) (L : LL K mg C za zl E_TooMuch I_TooMuch) : FnOk P w K mg base CX0 1 (za 10) (zl 10) ["sign", "other_sign"] spCs := by
  refine L.F_common_sign.ok sc_common_sign (fun vs H Q E h => ?_) (fun cdv A outer s H vs Q E hr h => ?_)
  · obtain ⟨a, b, rfl, _⟩ := h
    rfl
  obtain ⟨a, b, rfl, q⟩ := h
  refine ⟨_, (pss_cons (ps_if (pt_cmpR op_eq (pv 0) pe_str (nomark _)) (pss_one (ps_ret (pv 1))) pss_nil)
    (pss_one (ps_ret (pe_ifExp (pt_cmpR op_in_seq (pv 1) (pe_tup (pa_cons pe_str (pa_cons (pv 0) pa_nil))) (by rfl)) (pv 0) pe_non)))), ?_⟩
  refine ⟨_, rfl, rfl, _, rfl, ite2 (fun c => ?_) (fun c => ?_)⟩
  · have e : a = 45 := of_decide_eq_true ((dM a).symm.trans c)
    subst e
    have q1 := q H (Same.refl _)
    rw [csv_m] at q1
    exact ⟨_, rfl, q1⟩
  have e : ¬ a = 45 := of_decide_eq_false ((dM a).symm.trans (Bool.eq_false_iff.mpr c))
  refine ⟨_, rfl, _, rfl, (by show 2 ≤ sizeLine; decide), fun U nU => ?_⟩
  have sU := same_upd (o := .tup [.str (Str.ofString "-"), .str (SX.S [a])]) nU
  refine ⟨U, _, rfl, .inr (.inl (.inl upd_same)), rfl, rfl, ?_⟩
  refine ⟨_, rfl, ite2 (fun c2 => ?_) (fun c2 => ?_)⟩
  · have e2 : b = 45 ∨ b = a := of_decide_eq_true ((inM a b).symm.trans c2)
    have q1 := q _ sU
    rw [csv_y e e2] at q1
    exact ⟨_, rfl, q1⟩
  · have e2 : ¬ (b = 45 ∨ b = a) := of_decide_eq_false ((inM a b).symm.trans (Bool.eq_false_iff.mpr c2))
    have q1 := q _ sU
    rw [csv_n e e2] at q1
    exact q1
def spCm : Sp := fun vs H Q _ => ∃ (x y : List Nat), vs = [.str (SX.S x), .str (SX.S y)] ∧ x.length = y.length ∧ y.length ≤ 900 ∧ ∀ H', Same H H' → Q (cmV x y) H'
theorem ok_common (B : Bl mg) (L : LL K mg C za zl E_TooMuch I_TooMuch) : FnOk P w K mg base CX0 2 (za 9) (zl 9) ["one", "other"] spCm := by
  have G_common_sign : FnOk P w K mg base CX0 1 (za 10) (zl 10) ["sign", "other_sign"] spCs := (ok_common_sign B L).mono (by decide)
  refine L.F_common.ok sc_common (fun vs H Q E h => ?_) (fun cdv A outer s H vs Q E hr h => ?_)
  · obtain ⟨x, y, rfl, _⟩ := h
    rfl
  obtain ⟨x, y, rfl, hl, hz, q⟩ := h
  refine ⟨_, (pss_cons (ps_if (pt_cmpR op_ne (pe_callB call_len_str (by rfl) B.len PySem.boot_len (pa_cons (pv 0) pa_nil)) (pe_callB call_len_str (by rfl) B.len PySem.boot_len (pa_cons (pv 1) pa_nil)) (nomark _)) (pss_one (ps_ret pe_non)) pss_nil)
    (pss_cons (ps_setLc (i := 2) (own := [("sign", 3), ("other_sign", 4)]) (g := gTup K 2 (gCons (gName 3) (gCons (gName 4) gNil))) (by rfl) sc_common.nd rfl rfl (sw_true rfl rfl rfl (by decide +kernel)) (pi_zx (by rfl) B.zip (pa_cons (pv 0) (pa_cons (pv 1) pa_nil))) (blkOk_by (own := [("sign", 3), ("other_sign", 4)]) (N := ["one", "other", "signs", "sign", "other_sign"]) (sc := defScope s_common) (by decide +kernel)) (fun _ _ _ _ _ => pg_tup rfl (pgs_cons (pg_name (i := 3) sc_common.nd rfl (Or.inl rfl) (.inr rfl)) (pgs_cons (pg_name (i := 4) sc_common.nd rfl (Or.inl rfl) (.inr rfl)) pgs_nil))) (fun _ _ _ _ _ => pts_nil) (fun _ _ _ _ _ => (pe_call G_common_sign hr (by rfl) L.m_common_sign L.F_common_sign.kp L.b_common_sign .nil pass0 (pa_cons (pv 3) (pa_cons (pv 4) pa_nil)))))
    (pss_one (ps_ret (pe_ifExp (pt_cmpR op_in_seq pe_non (pv 2) (by rfl)) pe_non (pe_bm PySem.F.plainAttrs_str PySem.F.slot_str_join PySem.F.type_str_join mt_join pe_str (pa_cons (pv 2) pa_nil))))))), ?_⟩
  have zx : (SX.S x).length ≤ sizeLine := by
    rw [SX.S_len]
    exact Nat.le_of_lt (small1000 (by omega))
  have zy : (SX.S y).length ≤ sizeLine := by
    rw [SX.S_len]
    exact Nat.le_of_lt (small1000 (by omega))
  refine ⟨_, rfl, _, rfl, zx, _, rfl, _, rfl, zy, rfl, _, rfl, iteNS (congrArg V.int ?_) ?_⟩
  · rw [SX.S_len, SX.S_len, hl]
  refine ⟨_, rfl, _, rfl, SX.S x, SX.S y, rfl, fun D nD => ?_⟩
  refine lc_it (walk_zS (x := x) (y := y) hl rfl) (fun i H3 => Same H H3 ∧ H3 D = some (.lst ((List.zipWith csv x y).take i))) ⟨same_upd nD, upd_same⟩ (fun _ _ _ _ => trivial) ?_ ?_
  · rintro i v H3 H4 hi ⟨s3, eD⟩ ⟨T, u1, u2, rfl, nT, rfl, e1, e2⟩
    obtain ⟨c1, f1, rfl⟩ := Option.map_eq_some_iff.mp e1
    obtain ⟨c2, f2, rfl⟩ := Option.map_eq_some_iff.mp e2
    have sT := same_upd (o := .tup [.str (SX.S [c1]), .str (SX.S [c2])]) nT
    refine ⟨T, _, rfl, .inl (.inl upd_same), rfl, _, _, rfl, _, _, rfl, rfl, rfl, ?_⟩
    refine yesT ?_
    refine ⟨_, rfl, _, rfl, c1, c2, rfl, fun H5 s5 => ?_⟩
    have s45 := sT.trans s5
    refine ⟨_, s45 _ _ eD, ?_, fun b u e => ?_, ?_⟩
    · rw [List.length_take]
      exact Nat.lt_of_le_of_lt (Nat.min_le_left _ _) (small1000 (by omega))
    · rw [upd_ne (ne_of_none e nD)]
      exact s45 _ _ (s3 _ _ e)
    · rw [upd_same, zw_take csv f1 f2]
  rintro H3 ⟨s3, eD⟩
  rw [List.take_of_length_le (by rw [zw_len csv hl rfl]; exact Nat.le_refl _)] at eD
  refine ⟨_, rfl, D, _, rfl, .inl (SqL.of eD), rfl, flat_cs x y, ?_⟩
  have q1 := q _ s3
  unfold cmV at q1
  refine ⟨_, rfl, ite2 (fun c => ?_) (fun c => ?_)⟩
  · rw [if_pos ((in_non x y).symm.trans c)] at q1
    exact q1
  · have e : clash x y = false := (in_non x y).symm.trans (Bool.eq_false_iff.mpr c)
    rw [if_neg (by rw [e]; decide)] at q1
    have lm : (meet x y).length ≤ 900 := by
      unfold meet
      rw [zw_len mgs hl rfl]
      exact hz
    rw [cs_meet x y e] at eD
    refine ⟨rfl, _, rfl, _, D, _, rfl, rfl, .inl (SqL.of eD), join_z _ (by omega), ?_⟩
    rw [join_1]
    exact q1
def BtL (l : List Nat) : Prop := ∀ c ∈ l, c = 48 ∨ c = 49
def SgL (l : List Nat) : Prop := ∀ c ∈ l, c = 45 ∨ c = 48 ∨ c = 49
theorem meet_bits : ∀ (x y : List Nat), x.length = y.length → BtL x → meet x y = x
  | [], _, _, _ => rfl
  | a :: x, [], h, _ => by cases h
  | a :: x, b :: y, h, hb => by
    show mgs a b :: meet x y = _
    rw [meet_bits x y (Nat.succ.inj h) (fun c hc => hb c (List.mem_cons_of_mem _ hc))]
    unfold mgs
    rw [if_neg (by have := hb a List.mem_cons_self; omega)]
def spIn : Sp := fun vs H Q _ => ∃ (x y : List Nat), vs = [.str (SX.S x), .str (SX.S y)] ∧ x.length = y.length ∧ y.length ≤ 900 ∧ BtL x ∧ ∀ H', Same H H' → Q (.bl (!clash x y)) H'
theorem ok_lies_in (B : Bl mg) (L : LL K mg C za zl E_TooMuch I_TooMuch) : FnOk P w K mg base CX0 3 (za 8) (zl 8) ["bits", "cube"] spIn := by
  have G_common : FnOk P w K mg base CX0 2 (za 9) (zl 9) ["one", "other"] spCm := (ok_common B L).mono (by decide)
  refine L.F_lies_in.ok sc_lies_in (fun vs H Q E h => ?_) (fun cdv A outer s H vs Q E hr h => ?_)
  · obtain ⟨x, y, rfl, _⟩ := h
    rfl
  obtain ⟨x, y, rfl, hl, hz, hb, q⟩ := h
  refine ⟨_, (pss_one (ps_ret (pe_cmpR op_eq (pe_call G_common hr (by rfl) L.m_common L.F_common.kp L.b_common .nil pass0 (pa_cons (pv 0) (pa_cons (pv 1) pa_nil))) (pv 0) (nomark _)))), ?_⟩
  refine ⟨_, rfl, _, rfl, x, y, rfl, hl, hz, fun H1 s1 => ⟨_, rfl, ?_⟩⟩
  have q1 := q _ s1
  unfold cmV
  by_cases c : clash x y = true
  · rw [if_pos c]
    rw [c] at q1
    exact ⟨rfl, q1⟩
  · rw [if_neg c, meet_bits x y hl hb]
    rw [Bool.eq_false_iff.mpr c] at q1
    refine ⟨rfl, ?_⟩
    rw [decide_eq_true rfl]
    exact q1
end
section
variable {P : Program} {w : World} {K : PySem.W.Frag} {mg : Str → Option Value} {base : Heap}
variable {C : Addr} {za : Nat → Addr} {zl : Nat → FuncData} {E_TooMuch I_TooMuch : Addr}
/-! ### cases -/
theorem tb_shl (x : Int) (s c : Nat) : tb (x * 2 ^ s) c = if c < s then 0 else tb x (c - s) := by
  have ps := GM.pow_pos' s
  have pc := GM.pow_pos' c
  split
  · rename_i h
    unfold tb
    obtain ⟨d, rfl⟩ : ∃ d, s = c + (d + 1) := ⟨s - c - 1, by omega⟩
    rw [GM.pow_add', ← Int.mul_assoc, Int.mul_comm x, Int.mul_assoc, Int.mul_ediv_cancel_left _ (by omega), GM.pow_s, ← Int.mul_assoc, Int.mul_emod_left]
  · rename_i h
    unfold tb
    obtain ⟨d, rfl⟩ : ∃ d, c = s + d := ⟨c - s, by omega⟩
    rw [GM.pow_add', Nat.add_sub_cancel_left, ← Int.ediv_ediv_of_nonneg (Int.le_of_lt ps), Int.mul_ediv_cancel _ (by omega)]
theorem tb_small {x : Int} {n c : Nat} (h0 : 0 ≤ x) (h : x < 2 ^ n) (hc : n ≤ c) : tb x c = 0 := by
  unfold tb
  have : (2 : Int) ^ n ≤ 2 ^ c := GM.pow_le' hc
  rw [Int.ediv_eq_zero_of_lt h0 (by omega)]
  rfl
theorem or_range {x y : Int} (hx : 0 ≤ x) (hy : 0 ≤ y) : x ≤ Builtin.bitOr x y ∧ Builtin.bitOr x y ≤ x + y := by
  have := bitAnd_range x hy
  rw [PyProof.Rows.bitOr_and]
  omega
def pcs (place : Nat) : Nat → Int
  | 0 => (2 ^ 2 ^ place - 1) * 2 ^ 2 ^ place
  | k + 1 => Builtin.bitOr (pcs place k) (pcs place k * 2 ^ 2 ^ (place + 1 + k))
theorem pcs_in (place : Nat) : ∀ k, 0 ≤ pcs place k ∧ pcs place k < 2 ^ 2 ^ (place + 1 + k)
  | 0 => by
    have ps := GM.pow_pos' (2 ^ place)
    have e : (2 : Int) ^ 2 ^ (place + 1 + 0) = 2 ^ 2 ^ place * 2 ^ 2 ^ place := by
      rw [← GM.pow_add']
      congr 1
      rw [Nat.add_zero, Nat.pow_succ]
      omega
    unfold pcs
    rw [e]
    exact ⟨Int.mul_nonneg (by omega) (by omega), Int.mul_lt_mul_of_pos_right (by omega) ps⟩
  | k + 1 => by
    obtain ⟨h0, h1⟩ := pcs_in place k
    have ps := GM.pow_pos' (2 ^ (place + 1 + k))
    have e : (2 : Int) ^ 2 ^ (place + 1 + (k + 1)) = 2 ^ 2 ^ (place + 1 + k) * 2 ^ 2 ^ (place + 1 + k) := by
      rw [← GM.pow_add']
      congr 1
      rw [← Nat.add_assoc, Nat.pow_succ]
      omega
    have y0 : 0 ≤ pcs place k * 2 ^ 2 ^ (place + 1 + k) := Int.mul_nonneg h0 (by omega)
    have r := or_range h0 y0
    have y1 : pcs place k * 2 ^ 2 ^ (place + 1 + k) ≤ (2 ^ 2 ^ (place + 1 + k) - 1) * 2 ^ 2 ^ (place + 1 + k) := Int.mul_le_mul_of_nonneg_right (by omega) (by omega)
    rw [Int.sub_mul, Int.one_mul] at y1
    show 0 ≤ Builtin.bitOr _ _ ∧ Builtin.bitOr _ _ < _
    rw [e]
    omega
theorem pcs_bit (place : Nat) : ∀ (k c : Nat), c < 2 ^ (place + 1 + k) → tb (pcs place k) c = ((c / 2 ^ place % 2 : Nat) : Int)
  | 0, c, h => by
    have h : c < 2 ^ place * 2 := by
      rw [Nat.add_zero, Nat.pow_succ] at h
      exact h
    have pp : 0 < 2 ^ place := Nat.pow_pos (by decide)
    unfold pcs
    rw [tb_shl]
    split
    · rename_i d
      rw [Nat.div_eq_of_lt d]
      rfl
    · rename_i d
      rw [tb_full (by omega)]
      have : c / 2 ^ place = 1 := by
        refine Nat.div_eq_of_lt_le (by omega) (by omega)
      rw [this]
      rfl
  | k + 1, c, h => by
    have h : c < 2 ^ (place + 1 + k) * 2 := by
      rw [← Nat.add_assoc, Nat.pow_succ] at h
      exact h
    obtain ⟨h0, h1⟩ := pcs_in place k
    have pp : 0 < 2 ^ place := Nat.pow_pos (by decide)
    unfold pcs
    rw [tb_or, tb_shl]
    by_cases d : c < 2 ^ (place + 1 + k)
    · rw [if_pos d, pcs_bit place k c d]
      rcases Nat.mod_two_eq_zero_or_one (c / 2 ^ place) with z | z <;> rw [z] <;> decide
    · rw [if_neg d, tb_small h0 h1 (by omega), pcs_bit place k _ (by omega)]
      have e : (c - 2 ^ (place + 1 + k)) / 2 ^ place % 2 = c / 2 ^ place % 2 := by
        have e1 : 2 ^ (place + 1 + k) = 2 ^ place * (2 * 2 ^ k) := by
          rw [← Nat.pow_add_one', ← Nat.pow_add]
          congr 1
          omega
        have e2 : c = (c - 2 ^ (place + 1 + k)) + 2 ^ place * (2 * 2 ^ k) := by omega
        have e3 : c / 2 ^ place = (c - 2 ^ (place + 1 + k)) / 2 ^ place + 2 * 2 ^ k := by
          conv => lhs; rw [e2]
          rw [Nat.add_mul_div_left _ _ pp]
        omega
      rw [e]
      rcases Nat.mod_two_eq_zero_or_one (c / 2 ^ place) with z | z <;> rw [z] <;> decide
def spPic : Sp := fun vs H Q _ => ∃ (place many : Nat), vs = [.int (place : Int), .int (many : Int)] ∧ place < many ∧ many ≤ 12 ∧ Q (.int (pcs place (many - 1 - place))) H
theorem ok_place_in_cases (B : Bl mg) (L : LL K mg C za zl E_TooMuch I_TooMuch) : FnOk P w K mg base CX0 1 (za 5) (zl 5) ["place", "many"] spPic := by
  refine L.F_place_in_cases.ok sc_place_in_cases (fun vs H Q E h => ?_) (fun cdv A outer s H vs Q E hr h => ?_)
  · obtain ⟨place, many, rfl, _⟩ := h
    rfl
  obtain ⟨place, many, rfl, hp, hm, q⟩ := h
  refine ⟨_, (pss_cons (ps_set (i := 2) sc_place_in_cases.nd rfl (.inl rfl) (pe_op op_oneShl pe_int (pv 0)))
    (pss_cons (ps_set (i := 3) sc_place_in_cases.nd rfl (.inl rfl) (pe_op op_shlN (pe_op op_sub (pe_op op_oneShl pe_int (pv 2)) pe_int) (pv 2)))
    (pss_cons (ps_for PassesOwn.never rfl (pi_range2 (by rfl) B.range (pa_cons (pe_op op_add (pv 0) pe_int) (pa_cons (pv 1) pa_nil))) (pg_name (i := 4) sc_place_in_cases.nd rfl (.inl rfl)) (pss_one (ps_aug (i := 3) sc_place_in_cases.nd rfl (.inl rfl) (pe_op op_shlN (pv 3) (pe_op op_oneShl pe_int (pv 4))) iop_or)))
    (pss_one (ps_ret (pv 3)))))), ?_⟩
  have b12 : ∀ {k : Nat}, k ≤ 12 → (2 : Nat) ^ k ≤ 4096 := fun h => Nat.le_trans (Nat.pow_le_pow_right (by decide) h) (by decide)
  have c12 : ∀ k : Nat, (2 : Int) ^ k = ((2 ^ k : Nat) : Int) := fun k => (PySem.W.kbt_cast k).symm
  refine ⟨_, rfl, place, rfl, rfl, by omega, ?_⟩
  try simp only [L2.start, List.map_cons, List.map_nil, List.length_cons, List.length_nil, List.replicate_succ, List.replicate_zero, List.cons_append, List.nil_append, List.set_cons_succ, List.set_cons_zero, Nat.reduceAdd, Nat.reduceSub, Nat.zero_add]
  have bp := b12 (k := place) (by omega)
  have shl : ∀ {x : Int} {d j : Nat}, 0 ≤ x → x < 2 ^ 2 ^ d → d ≤ 12 → j ≤ 4096 → CShl x (j : Int) := fun {x d j} h0 h1 hd hj => by
    have e1 : (2 : Int) ^ 2 ^ d ≤ 2 ^ 4096 := GM.pow_le' (b12 hd)
    have e2 : ((2 ^ 4096 : Nat) : Int) = (2 : Int) ^ 4096 := PySem.W.kbt_cast _
    exact shl_ok (n := 4096) (by omega) (by omega)
  have s0 := GM.pow_pos' (2 ^ place)
  refine ⟨_, rfl, 2 ^ place, rfl, congrArg V.int (c12 place), by omega, _, _, rfl, rfl, _, rfl, _, 2 ^ place, rfl, congrArg V.int (c12 place), shl (d := place) (by omega) (by omega) (by omega) bp, ?_⟩
  try simp only [L2.start, List.map_cons, List.map_nil, List.length_cons, List.length_nil, List.replicate_succ, List.replicate_zero, List.cons_append, List.nil_append, List.set_cons_succ, List.set_cons_zero, Nat.reduceAdd, Nat.reduceSub, Nat.zero_add]
  refine ⟨_, rfl, _, _, rfl, rfl, _, rfl, _, _, rfl, ⟨by omega, by omega, by omega, by omega⟩, ?_⟩
  rw [show ((many : Int) - ((place : Int) + 1)).toNat = many - 1 - place by omega]
  refine for_range (n := many - 1 - place) (fun j σ H9 => ∃ y : Option V, σ = [some (.int (place : Int)), some (.int (many : Int)), some (.int (2 ^ place)), some (.int (pcs place j)), y] ∧ H9 = H) ⟨_, rfl, rfl⟩ ?_ ?_
  · rintro j σ H9 hj ⟨y, rfl, rfl⟩
    obtain ⟨h0, h1⟩ := pcs_in place j
    have bj := b12 (k := place + 1 + j) (by omega)
    try simp only [L2.start, List.map_cons, List.map_nil, List.length_cons, List.length_nil, List.replicate_succ, List.replicate_zero, List.cons_append, List.nil_append, List.set_cons_succ, List.set_cons_zero, Nat.reduceAdd, Nat.reduceSub, Nat.zero_add]
    refine ⟨_, rfl, _, rfl, _, rfl, place + 1 + j, rfl, congrArg V.int (by omega), by omega, _, 2 ^ (place + 1 + j), rfl, congrArg V.int (c12 _), shl (d := place + 1 + j) h0 h1 (by omega) bj, _, _, rfl, rfl, ?_⟩
    exact ⟨some _, rfl, rfl⟩
  · rintro σ H9 ⟨y, rfl, rfl⟩
    exact ⟨_, rfl, q⟩
def acs (m : Nat) : List Int := (List.range m).map fun i => pcs (m - 1 - i) i
theorem place46 {m i : Nat} (h : i < m) : (m : Int) - 1 + (i : Nat) * (-1) = ((m - 1 - i : Nat) : Int) := by omega
def spAllC : Sp := fun vs H Q _ => ∃ (m : Nat), vs = [.int (m : Int)] ∧ m ≤ 12 ∧ ∀ (t : Addr) (H' : Hp), H t = none → Same H H' → H' t = some (.lst ((acs m).map V.int)) → Q (.ref t) H'
theorem take_rng {f : Nat → Int} {m i : Nat} (h : i < m) : (((List.range m).map f).take (i + 1)) = ((List.range m).map f).take i ++ [f i] := by
  rw [List.take_add_one, List.getElem?_map, List.getElem?_range h]
  rfl
theorem ok_all_cases (B : Bl mg) (L : LL K mg C za zl E_TooMuch I_TooMuch) : FnOk P w K mg base CX0 2 (za 4) (zl 4) ["many"] spAllC := by
  have G_place_in_cases : FnOk P w K mg base CX0 1 (za 5) (zl 5) ["place", "many"] spPic := (ok_place_in_cases B L).mono (by decide)
  refine L.F_all_cases.ok sc_all_cases (fun vs H Q E h => ?_) (fun cdv A outer s H vs Q E hr h => ?_)
  · obtain ⟨m, rfl, _⟩ := h
    rfl
  obtain ⟨m, rfl, hm, q⟩ := h
  refine ⟨_, (pss_one (ps_ret (pe_lc (own := [("place", 1)]) (by rfl) sc_all_cases.nd (pi_range3 (by rfl) B.range (pa_cons (pe_op op_sub (pv 0) pe_int) (pa_cons (pe_un un_neg pe_int) (pa_cons (pe_un un_neg pe_int) pa_nil)))) (blkOk_by (own := [("place", 1)]) (N := ["many", "place"]) (sc := defScope s_all_cases) (by decide +kernel)) (fun _ _ _ _ _ => pg_name (i := 1) sc_all_cases.nd rfl (Or.inl rfl)) (fun _ _ _ _ _ => pts_nil) (fun _ _ _ _ _ => (pe_call G_place_in_cases hr (by rfl) L.m_place_in_cases L.F_place_in_cases.kp L.b_place_in_cases .nil pass0 (pa_cons (pv 1) (pa_cons (pv 0) pa_nil))))))), ?_⟩
  refine ⟨_, rfl, _, _, rfl, rfl, _, rfl, _, rfl, _, _, _, ((m : Int) - 1 - -1).toNat, rfl, RgC.neg (by omega) (by omega) (by decide) (by decide), fun D nD => ?_⟩
  rw [show ((m : Int) - 1 - -1).toNat = m by omega]
  refine lc_it walk_rangeC (fun i H3 => Same H H3 ∧ H3 D = some (.lst (((acs m).take i).map V.int))) ⟨same_upd nD, upd_same⟩ (fun _ _ _ _ => trivial) ?_ ?_
  · rintro i x H3 H4 hi ⟨s3, eD⟩ ⟨rfl, rfl⟩
    show gName _ (V.int ((m : Int) - 1 + (i : Nat) * (-1))) _ _ _
    rw [place46 hi]
    refine ⟨rfl, yesT ?_⟩
    refine ⟨_, rfl, _, rfl, m - 1 - i, m, rfl, by omega, hm, ?_⟩
    refine ⟨_, eD, ?_, fun b o e => ?_, ?_⟩
    · rw [List.length_map, List.length_take]
      exact Nat.lt_of_le_of_lt (Nat.min_le_left _ _) (big_lt0 (by omega))
    · rw [upd_ne (ne_of_none e nD)]
      exact s3 _ _ e
    · unfold acs
      rw [upd_same, take_rng hi, List.map_append, show m - 1 - (m - 1 - i) = i by omega]
      rfl
  rintro H3 ⟨s3, eD⟩
  rw [List.take_of_length_le (by unfold acs; rw [List.length_map, List.length_range]; exact Nat.le_refl _)] at eD
  exact q D H3 nD s3 eD
/-- one case -/
def vals1 (w : Int) (m : Nat) : List Int := (List.range m).map fun i => tb w (m - 1 - i)
def OneAt (H : Hp) (t : Addr) (ys : List Str) (nm : List (Str × List Nat)) (rs : List Int) : Prop := ∃ ts : List Addr, ts.length = ys.length ∧ H t = some (.lst (ts.map V.ref)) ∧
  ∀ (i : Nat) (u : Addr) (n : Str), ts[i]? = some u → ys[i]? = some n → ∃ ws : List Nat, (n, ws) ∈ nm ∧ H u = some (.tup [.str n, .int (wf (ws.map fun a => rs.getD a 0))])
def spOneC (C : Addr) : Sp := fun vs H Q _ => ∃ (Z : List Addr) (p : NetP) (m : Nat) (gs : List Gt) (nm : List (Str × List Nat)) (w : Int), vs = [.ref p.x, .int w] ∧ NetAt C Z H p m gs nm ∧ m + gs.length ≤ 400000 ∧ nm.length < 64 ∧
  (∀ (i : Nat) (g : Gt), gs[i]? = some g → g.ok (m + i)) ∧ (∀ x ∈ nm, x.2.length ≤ 900 ∧ ∀ a ∈ x.2, a < m + gs.length) ∧
  ∀ (ys : List Str) (t : Addr) (H' : Hp), ys.Perm (nm.map (·.1)) → sortedS ys = true → Same H H' → OneAt H' t ys nm (rv 1 (vals1 w m) gs) → Q (.ref t) H'
theorem ok_one_case (B : Bl mg) (L : LL K mg C za zl E_TooMuch I_TooMuch) : FnOk P w K mg base CX0 3 (za 6) (zl 6) ["net", "word"] (spOneC C) := by
  have G_ran : FnOk P w K mg base CX0 2 (za 2) (zl 2) ["net", "values", "many"] (spRan C) := (ok_ran B L).mono (by decide)
  have G_Net_inputs : FnOk P w K mg base CX0 2 (za 56) (zl 56) ["self"] (spInputs C) := (ok_Net_inputs B L).mono (by decide)
  have G_worth_of : FnOk P w K mg base CX0 2 (za 1) (zl 1) ["digits"] (spWorthOf K) := (ok_worth_of B L).mono (by decide)
  refine L.F_one_case.ok sc_one_case (fun vs H Q E h => ?_) (fun cdv A outer s H vs Q E hr h => ?_)
  · obtain ⟨Z, p, m, gs, nm, w, rfl, _⟩ := h
    rfl
  obtain ⟨Z, p, m, gs, nm, wd, rfl, hN, hl, hm, hok, hnm, q⟩ := h
  refine ⟨_, (pss_cons (ps_setLc (i := 2) (own := [("place", 3)]) (by rfl) sc_one_case.nd rfl rfl (sw_true rfl rfl rfl (by decide +kernel)) (pi_range3 (by rfl) B.range (pa_cons (pe_op op_sub (pe_meth0 (pv 0) L.T.cl L.M_Net_inputs G_Net_inputs hr L.b_Net_inputs .nil pass0) pe_int) (pa_cons (pe_un un_neg pe_int) (pa_cons (pe_un un_neg pe_int) pa_nil)))) (blkOk_by (own := [("place", 3)]) (N := ["net", "word", "values", "place", "name", "bits"]) (sc := defScope s_one_case) (by decide +kernel)) (fun _ _ _ _ _ => pg_name (i := 3) sc_one_case.nd rfl (Or.inl rfl)) (fun _ _ _ _ _ => pts_nil) (fun _ _ _ _ _ => (pe_op op_andM (pe_op op_shrN (pv 1) (pv 3)) pe_int)))
    (pss_one (ps_ret (pe_lc (own := [("name", 4), ("bits", 5)]) (g := gTup K 2 (gCons (gName 4) (gCons (gName 5) gNil))) (by rfl) sc_one_case.nd (pi_list (pe_call G_ran hr (by rfl) L.m_ran L.F_ran.kp (L.kb_ran).choose_spec.2 (L.kb_ran).choose_spec.1 pass0 (pa_cons (pv 0) (pa_cons (pv 2) pa_nil)))) (blkOk_by (own := [("name", 4), ("bits", 5)]) (N := ["net", "word", "values", "place", "name", "bits"]) (sc := defScope s_one_case) (by decide +kernel)) (fun _ _ _ _ _ => pg_tup rfl (pgs_cons (pg_name (i := 4) sc_one_case.nd rfl (Or.inl rfl) (.inr rfl)) (pgs_cons (pg_name (i := 5) sc_one_case.nd rfl (Or.inl rfl) (.inr rfl)) pgs_nil))) (fun _ _ _ _ _ => pts_nil) (fun _ _ _ _ _ => (pe_tup (pa_cons (pv 4) (pa_cons (pe_call G_worth_of hr (by rfl) L.m_worth_of L.F_worth_of.kp L.b_worth_of .nil pass0 (pa_cons (pv 5) pa_nil)) pa_nil)))))))), ?_⟩
  obtain ⟨_, _, _, dx, _, _, e1, _⟩ := id hN
  refine ⟨_, rfl, p.x, dx, _, rfl, e1, rfl, Z, p, m, gs, nm, rfl, hN, ?_⟩
  refine ⟨_, _, rfl, rfl, _, rfl, _, rfl, _, _, _, ((m : Int) - 1 - -1).toNat, rfl, RgC.neg (by omega) (by omega) (by decide) (by decide), fun D nD => ?_⟩
  rw [show ((m : Int) - 1 - -1).toNat = m by omega]
  refine lc_it walk_rangeC (fun i H3 => Same H H3 ∧ H3 D = some (.lst (((vals1 wd m).take i).map V.int))) ⟨same_upd nD, upd_same⟩ (fun _ _ _ _ => trivial) ?_ ?_
  · rintro i x H3 H4 hi ⟨s3, eD⟩ ⟨rfl, rfl⟩
    show gName _ (V.int ((m : Int) - 1 + (i : Nat) * (-1))) _ _ _
    rw [place46 hi]
    refine ⟨rfl, yesT ?_⟩
    refine ⟨_, rfl, _, rfl, _, m - 1 - i, rfl, rfl, _, 1, rfl, rfl, ?_⟩
    refine ⟨_, eD, ?_, fun b o e => ?_, ?_⟩
    · rw [List.length_map, List.length_take]
      exact Nat.lt_of_le_of_lt (Nat.min_le_left _ _) (big_lt0 (by omega))
    · rw [upd_ne (ne_of_none e nD)]
      exact s3 _ _ e
    · unfold vals1
      rw [upd_same, take_rng hi, List.map_append]
      rfl
  rintro H3 ⟨s3, eD⟩
  have lv : (vals1 wd m).length = m := by
    unfold vals1
    rw [List.length_map, List.length_range]
  rw [List.take_of_length_le (by rw [lv]; exact Nat.le_refl _)] at eD
  try simp only [L2.start, List.map_cons, List.map_nil, List.length_cons, List.length_nil, List.replicate_succ, List.replicate_zero, List.cons_append, List.nil_append, List.set_cons_succ, List.set_cons_zero, Nat.reduceAdd, Nat.reduceSub, Nat.zero_add]
  refine ⟨_, rfl, _, rfl, Z, p, m, gs, nm, D, vals1 wd m, 1, rfl, hN.same s3, eD, lv, by decide, hl, hm, hok, hnm, fun ys t HT hp hs sT RT => ?_⟩
  rw [show ((2 : Int) ^ 1 - 1) = 1 from rfl, show (vals1 wd m).map (· % 2 ^ 1) = vals1 wd m from by
    unfold vals1
    rw [List.map_map]
    refine List.map_congr_left fun i _ => ?_
    show tb wd (m - 1 - i) % 2 ^ 1 = tb wd (m - 1 - i)
    have := tb_01 wd (m - 1 - i)
    have : (2 : Int) ^ 1 = 2 := rfl
    omega] at RT
  obtain ⟨ts, lt, eT, hts⟩ := RT
  have lys : ys.length < 64 := by
    have := hp.length_eq
    rw [List.length_map] at this
    omega
  refine ⟨t, rfl, ⟨_, SqL.of eT⟩, fun R nR => ?_⟩
  refine lc_it (walk_list (K := K) (a := t) (xs := ts.map V.ref)) (fun i H9 => Same HT H9 ∧ ∃ us : List Addr, us.length = i ∧ H9 R = some (.lst (us.map V.ref)) ∧ ∀ (k : Nat) (u : Addr) (x : Str), us[k]? = some u → ys[k]? = some x → ∃ ws : List Nat, (x, ws) ∈ nm ∧ H9 u = some (.tup [.str x, .int (wf (ws.map fun a => (rv 1 (vals1 wd m) gs).getD a 0))])) ⟨same_upd nR, [], rfl, upd_same, fun k u x h => by simp at h⟩ (fun i H9 _ ⟨s9, _⟩ => SqL.of (s9 _ _ eT)) ?_ ?_
  · rintro j z H9 H10 hj ⟨s9, us, lu, eR, hus⟩ ⟨rfl, hz⟩
    rw [List.getElem?_map] at hz
    have hj' : j < ts.length := by
      rw [List.length_map] at hj
      exact hj
    have hy : ys[j]? = some ys[j] := List.getElem?_eq_getElem (by omega)
    rw [List.getElem?_eq_getElem hj'] at hz
    cases hz
    obtain ⟨ws, l, hx, _, g1, g2⟩ := hts j _ _ (List.getElem?_eq_getElem hj') hy
    have f1 := s9 _ _ g1
    have f2 := s9 _ _ g2
    refine ⟨ts[j], _, rfl, .inl (.inl f1), rfl, _, _, rfl, _, _, rfl, rfl, rfl, yesT ?_⟩
    refine ⟨_, rfl, _, rfl, l, _, rfl, SqL.of f2, (by show 2 ≤ sizeLine; decide), fun u nu => ?_⟩
    have su := same_upd (o := .tup [.str (ys[j]'(by omega)), .int (wf (ws.map fun a => (rv 1 (vals1 wd m) gs).getD a 0))]) nu
    have nuR : u ≠ R := fun z => by
      rw [z, eR] at nu
      cases nu
    refine ⟨_, su _ _ eR, ?_, fun y o e => ?_, us ++ [u], by rw [List.length_append, lu]; rfl, ?_, fun k u' x' hu hx' => ?_⟩
    · rw [List.length_map, lu]
      exact big_lt0 (by omega)
    · rw [upd_ne (ne_of_none e nR)]
      exact su _ _ (s9 _ _ e)
    · rw [upd_same, List.map_append]
      rfl
    · by_cases c : k < us.length
      · rw [List.getElem?_append_left c] at hu
        obtain ⟨ws', q1, q3⟩ := hus k u' x' hu hx'
        refine ⟨ws', q1, ?_⟩
        rw [upd_ne (fun z => by rw [z, eR] at q3; cases q3)]
        exact su _ _ q3
      · have k0 : k = us.length := by
          have := (List.getElem?_eq_some_iff.mp hu).1
          rw [List.length_append, List.length_cons, List.length_nil] at this
          omega
        rw [List.getElem?_append_right (by omega), k0, Nat.sub_self] at hu
        rw [k0, lu, hy] at hx'
        cases hu
        cases hx'
        refine ⟨ws, hx, ?_⟩
        rw [upd_ne nuR]
        exact upd_same
  · rintro H9 ⟨s9, us, lu, eR, hus⟩
    refine q ys R H9 hp hs ((s3.trans sT).trans s9) ⟨us, by rw [lu, List.length_map, lt], eR, hus⟩
end
section
variable {P : Program} {w : World} {K : PySem.W.Frag} {mg : Str → Option Value} {base : Heap}
variable {C : Addr} {za : Nat → Addr} {zl : Nat → FuncData} {E_TooMuch I_TooMuch : Addr}
/-! ### signs of gates -/
def turnS (a : Nat) : Nat := if a = 45 then 45 else if a = 48 then 49 else 48
def ruS (a b r : Nat) : Nat := if a = r ∨ b = r then r else if a = 45 ∨ b = 45 then 45 else a
def unS (a b : Nat) : Nat := if a = 45 ∨ b = 45 then 45 else if a = b then 48 else 49
def gsw (a b : Nat) (k : Str) : Nat := if k = "other" then turnS a else if k = "both" then ruS a b 48 else if k = "either" then ruS a b 49 else unS a b
def gsg (ss : List Nat) : Gt → Nat
  | .w k ws => gsw (ss.getD (ws.getD 0 0) 0) (ss.getD (ws.getD 1 0) 0) k
  | .fi b => if b = 1 then 49 else 48
def ssV (ss : List Nat) : List V := ss.map fun c => V.str (SX.S [c])
theorem d48 (a : Nat) : decide (V.str (SX.S [a]) = V.str (Str.ofString "0")) = decide (a = 48) := by
  rw [show Str.ofString "0" = SX.S [48] by decide +kernel]
  exact dS1 a 48
theorem in2 (x a b : Nat) : inV (.str (SX.S [x])) [.str (SX.S [a]), .str (SX.S [b])] = decide (a = x ∨ b = x) := by
  apply Bool.eq_iff_iff.mpr
  rw [show ([.str (SX.S [a]), .str (SX.S [b])] : List V) = ([SX.S [a], SX.S [b]] : List Str).map V.str from rfl, in_strs, decide_eq_true_iff, List.mem_cons, List.mem_singleton]
  exact ⟨fun z => z.imp (fun e => (S1_inj e).symm) (fun e => (S1_inj e).symm), fun z => z.imp (fun e => by rw [e]) (fun e => by rw [e])⟩
def spTurnS : Sp := fun vs H Q _ => ∃ a : Nat, vs = [.str (SX.S [a])] ∧ Q (.str (SX.S [turnS a])) H
theorem ok_turned_sign (B : Bl mg) (L : LL K mg C za zl E_TooMuch I_TooMuch) : FnOk P w K mg base CX0 1 (za 17) (zl 17) ["sign"] spTurnS := by
  refine L.F_turned_sign.ok sc_turned_sign (fun vs H Q E h => ?_) (fun cdv A outer s H vs Q E hr h => ?_)
  · obtain ⟨a, rfl, _⟩ := h
    rfl
  obtain ⟨a, rfl, q⟩ := h
  refine ⟨_, (pss_cons (ps_if (pt_cmpR op_eq (pv 0) pe_str (nomark _)) (pss_one (ps_ret pe_str)) pss_nil)
    (pss_one (ps_ret (pe_ifExp (pt_cmpR op_eq (pv 0) pe_str (nomark _)) pe_str pe_str)))), ?_⟩
  unfold turnS at q
  refine ⟨_, rfl, rfl, _, rfl, ite2 (fun z => ?_) (fun z => ?_)⟩
  · rw [dM] at z
    rw [if_pos (of_decide_eq_true z)] at q
    rw [mns]
    exact q
  · rw [dM] at z
    rw [if_neg (fun y => z (decide_eq_true y))] at q
    dsimp only [tNext]
    refine ⟨_, rfl, rfl, _, rfl, ite2 (fun y => ?_) (fun y => ?_)⟩
    · rw [d48] at y
      rw [if_pos (of_decide_eq_true y)] at q
      exact q
    · rw [d48] at y
      rw [if_neg (fun x => y (decide_eq_true x))] at q
      exact q
def spRuled : Sp := fun vs H Q _ => ∃ a b r : Nat, vs = [.str (SX.S [a]), .str (SX.S [b]), .str (SX.S [r])] ∧ ∀ H', Same H H' → Q (.str (SX.S [ruS a b r])) H'
theorem ok_ruled_sign (B : Bl mg) (L : LL K mg C za zl E_TooMuch I_TooMuch) : FnOk P w K mg base CX0 1 (za 18) (zl 18) ["one", "other", "ruling"] spRuled := by
  refine L.F_ruled_sign.ok sc_ruled_sign (fun vs H Q E h => ?_) (fun cdv A outer s H vs Q E hr h => ?_)
  · obtain ⟨a, b, r, rfl, _⟩ := h
    rfl
  obtain ⟨a, b, r, rfl, q⟩ := h
  refine ⟨_, (pss_cons (ps_if (pt_cmpR op_in_seq (pv 2) (pe_tup (pa_cons (pv 0) (pa_cons (pv 1) pa_nil))) (by rfl)) (pss_one (ps_ret (pv 2))) pss_nil)
    (pss_one (ps_ret (pe_ifExp (pt_cmpR op_in_seq pe_str (pe_tup (pa_cons (pv 0) (pa_cons (pv 1) pa_nil))) (by rfl)) pe_str (pv 0))))), ?_⟩
  unfold ruS at q
  refine ⟨_, rfl, _, rfl, _, rfl, (by show 2 ≤ sizeLine; decide), fun T nT => ?_⟩
  have sT := same_upd (o := .tup [.str (SX.S [a]), .str (SX.S [b])]) nT
  refine ⟨T, _, rfl, .inr (.inl (.inl upd_same)), rfl, rfl, ?_⟩
  refine ⟨_, rfl, ite2 (fun z => ?_) (fun z => ?_)⟩
  · have z := of_decide_eq_true ((in2 r a b).symm.trans z)
    rw [if_pos z] at q
    exact ⟨_, rfl, q _ sT⟩
  have z := of_decide_eq_false ((in2 r a b).symm.trans (Bool.eq_false_iff.mpr z))
  rw [if_neg z] at q
  dsimp only [tNext]
  refine ⟨_, rfl, _, rfl, (by show 2 ≤ sizeLine; decide), fun T2 nT2 => ?_⟩
  have sT2 := same_upd (o := .tup [.str (SX.S [a]), .str (SX.S [b])]) nT2
  refine ⟨T2, _, rfl, .inr (.inl (.inl upd_same)), rfl, rfl, ?_⟩
  rw [mns]
  refine ⟨_, rfl, ite2 (fun y => ?_) (fun y => ?_)⟩
  · have y := of_decide_eq_true ((in2 45 a b).symm.trans y)
    rw [if_pos y] at q
    exact q _ (sT.trans sT2)
  · have y := of_decide_eq_false ((in2 45 a b).symm.trans (Bool.eq_false_iff.mpr y))
    rw [if_neg y] at q
    exact ⟨_, rfl, q _ (sT.trans sT2)⟩
def spGateS : Sp := fun vs H Q _ => ∃ (g sl : Addr) (gt : Gt) (ss : List Nat), vs = [.ref g, .ref sl] ∧ H g = some (.tup gt.row) ∧ H sl = some (.lst (ssV ss)) ∧ gt.ok ss.length ∧ ∀ H', Same H H' → Q (.str (SX.S [gsg ss gt])) H'
theorem at_getS {ss : List Nat} {a : Nat} (h : a < ss.length) : atI (ssV ss) (a : Int) = some (.str (SX.S [ss.getD a 0])) := atI_nat (by
  unfold ssV
  rw [List.getElem?_map, List.getElem?_eq_getElem h]
  simp [List.getD, List.getElem?_eq_getElem h])
theorem ok_gate_sign (B : Bl mg) (L : LL K mg C za zl E_TooMuch I_TooMuch) : FnOk P w K mg base CX0 2 (za 16) (zl 16) ["gate", "signs"] spGateS := by
  have G_turned_sign : FnOk P w K mg base CX0 1 (za 17) (zl 17) ["sign"] spTurnS := (ok_turned_sign B L).mono (by decide)
  have G_ruled_sign : FnOk P w K mg base CX0 1 (za 18) (zl 18) ["one", "other", "ruling"] spRuled := (ok_ruled_sign B L).mono (by decide)
  refine L.F_gate_sign.ok sc_gate_sign (fun vs H Q E h => ?_) (fun cdv A outer s H vs Q E hr h => ?_)
  · obtain ⟨g, sl, gt, ss, rfl, _⟩ := h
    rfl
  obtain ⟨g, sl, gt, ss, rfl, eg, es, ok, q⟩ := h
  refine ⟨_, (pss_cons (ps_set (i := 2) sc_gate_sign.nd rfl (.inl rfl) (pe_ix ix_tup (pv 0) pe_int (fun _ _ => rfl)))
    (pss_cons (ps_if (pt_cmpR op_eq (pv 2) pe_str (nomark _)) (pss_one (ps_ret (pe_ifExp (pt_cmpR op_eq (pe_ix ix_tup (pv 0) pe_int (fun _ _ => rfl)) pe_int (nomark _)) pe_str pe_str))) pss_nil)
    (pss_cons (ps_set (i := 3) sc_gate_sign.nd rfl (.inl rfl) (pe_ix ix_list (pv 1) (pe_ix ix_tup (pv 0) pe_int (fun _ _ => rfl)) (fun _ _ => rfl)))
    (pss_cons (ps_if (pt_cmpR op_eq (pv 2) pe_str (nomark _)) (pss_one (ps_ret (pe_call G_turned_sign hr (by rfl) L.m_turned_sign L.F_turned_sign.kp L.b_turned_sign .nil pass0 (pa_cons (pv 3) pa_nil)))) pss_nil)
    (pss_cons (ps_set (i := 4) sc_gate_sign.nd rfl (.inl rfl) (pe_ix ix_list (pv 1) (pe_ix ix_tup (pv 0) pe_int (fun _ _ => rfl)) (fun _ _ => rfl)))
    (pss_cons (ps_if (pt_cmpR op_eq (pv 2) pe_str (nomark _)) (pss_one (ps_ret (pe_call G_ruled_sign hr (by rfl) L.m_ruled_sign L.F_ruled_sign.kp L.b_ruled_sign .nil pass0 (pa_cons (pv 3) (pa_cons (pv 4) (pa_cons pe_str pa_nil)))))) pss_nil)
    (pss_cons (ps_if (pt_cmpR op_eq (pv 2) pe_str (nomark _)) (pss_one (ps_ret (pe_call G_ruled_sign hr (by rfl) L.m_ruled_sign L.F_ruled_sign.kp L.b_ruled_sign .nil pass0 (pa_cons (pv 3) (pa_cons (pv 4) (pa_cons pe_str pa_nil)))))) pss_nil)
    (pss_cons (ps_if (pt_cmpR op_in_seq pe_str (pe_tup (pa_cons (pv 3) (pa_cons (pv 4) pa_nil))) (by rfl)) (pss_one (ps_ret pe_str)) pss_nil)
    (pss_one (ps_ret (pe_ifExp (pt_cmpR op_eq (pv 3) (pv 4) (nomark _)) pe_str pe_str))))))))))), ?_⟩
  have nS : ∀ {x y : Str}, ¬ x = y → ¬ decide (V.str x = V.str y) = true := fun h z => h (V.str.inj (of_decide_eq_true z))
  cases gt with
  | fi b =>
    refine ⟨_, rfl, g, _, _, _, rfl, rfl, .inl (.inl eg), rfl, ?_⟩
    try simp only [L2.start, List.map_cons, List.map_nil, List.length_cons, List.length_nil, List.replicate_succ, List.replicate_zero, List.cons_append, List.nil_append, List.set_cons_succ, List.set_cons_zero, Nat.reduceAdd, Nat.reduceSub, Nat.zero_add]
    dsimp only [gName]
    try simp only [L2.start, List.map_cons, List.map_nil, List.length_cons, List.length_nil, List.replicate_succ, List.replicate_zero, List.cons_append, List.nil_append, List.set_cons_succ, List.set_cons_zero, Nat.reduceAdd, Nat.reduceSub, Nat.zero_add]
    refine ⟨_, rfl, rfl, _, rfl, ite2 (fun _ => ?_) (fun z => absurd (decide_eq_true rfl) z)⟩
    refine ⟨_, rfl, g, _, _, _, rfl, rfl, .inl (.inl eg), rfl, rfl, _, rfl, ite2 (fun z => ?_) (fun z => ?_)⟩
    · have e : (b : Int) = 1 := V.int.inj (of_decide_eq_true z)
      have q : Q (.str (SX.S [if b = 1 then 49 else 48])) H := q H (Same.refl _)
      rw [if_pos (by omega)] at q
      exact q
    · have e : ¬ (b : Int) = 1 := fun y => z (decide_eq_true (congrArg V.int y))
      have q : Q (.str (SX.S [if b = 1 then 49 else 48])) H := q H (Same.refl _)
      rw [if_neg (by omega)] at q
      exact q
  | w k l =>
    have q : ∀ H', Same H H' → Q (.str (SX.S [gsw (ss.getD (l.getD 0 0) 0) (ss.getD (l.getD 1 0) 0) k])) H' := q
    have nf : ¬ k = "fixed" := by
      rcases ok.1 with ⟨z | z | z, _⟩ | ⟨z, _⟩ <;> rw [z] <;> decide +kernel
    have l0 : 0 < l.length := by
      rcases ok.1 with ⟨_, z⟩ | ⟨_, z⟩ <;> omega
    have ea : (Gt.w k l).row[1]? = some (.int ((l.getD 0 0 : Nat) : Int)) := by
      match l, l0 with
      | a :: l, _ => rfl
    have la : l.getD 0 0 < ss.length := by
      match l, l0, ok with
      | a :: l, _, ok => exact ok.2 a (by simp)
    refine ⟨_, rfl, g, _, _, _, rfl, rfl, .inl (.inl eg), (show atI (Gt.w k l).row 0 = some (.str k) from atI_nat (j := 0) rfl), ?_⟩
    try simp only [L2.start, List.map_cons, List.map_nil, List.length_cons, List.length_nil, List.replicate_succ, List.replicate_zero, List.cons_append, List.nil_append, List.set_cons_succ, List.set_cons_zero, Nat.reduceAdd, Nat.reduceSub, Nat.zero_add]
    dsimp only [gName]
    try simp only [L2.start, List.map_cons, List.map_nil, List.length_cons, List.length_nil, List.replicate_succ, List.replicate_zero, List.cons_append, List.nil_append, List.set_cons_succ, List.set_cons_zero, Nat.reduceAdd, Nat.reduceSub, Nat.zero_add]
    refine ⟨_, rfl, rfl, _, rfl, ite2 (fun z => absurd z (nS nf)) (fun _ => ?_)⟩
    dsimp only [tNext]
    refine ⟨_, rfl, _, rfl, g, _, _, _, rfl, rfl, .inl (.inl eg), (atI_nat (j := 1) ea), sl, _, _, _, rfl, rfl, SqL.of es, at_getS la, ?_⟩
    try simp only [L2.start, List.map_cons, List.map_nil, List.length_cons, List.length_nil, List.replicate_succ, List.replicate_zero, List.cons_append, List.nil_append, List.set_cons_succ, List.set_cons_zero, Nat.reduceAdd, Nat.reduceSub, Nat.zero_add]
    dsimp only [gName]
    try simp only [L2.start, List.map_cons, List.map_nil, List.length_cons, List.length_nil, List.replicate_succ, List.replicate_zero, List.cons_append, List.nil_append, List.set_cons_succ, List.set_cons_zero, Nat.reduceAdd, Nat.reduceSub, Nat.zero_add]
    unfold gsw at q
    generalize ss.getD (l.getD 0 0) 0 = x at *
    refine ⟨_, rfl, rfl, _, rfl, ite2 (fun z => ?_) (fun z => ?_)⟩
    · rw [if_pos (V.str.inj (of_decide_eq_true z))] at q
      exact ⟨_, rfl, x, rfl, q H (Same.refl _)⟩
    have no : ¬ k = "other" := fun y => z (decide_eq_true (congrArg V.str y))
    rw [if_neg no] at q
    dsimp only [tNext]
    have l2 : l.length = 2 := by
      rcases ok.1 with ⟨_, z⟩ | ⟨z, _⟩
      · exact z
      · exact absurd z no
    have eb : (Gt.w k l).row[2]? = some (.int ((l.getD 1 0 : Nat) : Int)) := by
      match l, l2 with
      | [a, b], _ => rfl
    have lb : l.getD 1 0 < ss.length := by
      match l, l2, ok with
      | [a, b], _, ok => exact ok.2 b (by simp)
    refine ⟨_, rfl, _, rfl, g, _, _, _, rfl, rfl, .inl (.inl eg), (atI_nat (j := 2) eb), sl, _, _, _, rfl, rfl, SqL.of es, at_getS lb, ?_⟩
    try simp only [L2.start, List.map_cons, List.map_nil, List.length_cons, List.length_nil, List.replicate_succ, List.replicate_zero, List.cons_append, List.nil_append, List.set_cons_succ, List.set_cons_zero, Nat.reduceAdd, Nat.reduceSub, Nat.zero_add]
    dsimp only [gName]
    try simp only [L2.start, List.map_cons, List.map_nil, List.length_cons, List.length_nil, List.replicate_succ, List.replicate_zero, List.cons_append, List.nil_append, List.set_cons_succ, List.set_cons_zero, Nat.reduceAdd, Nat.reduceSub, Nat.zero_add]
    generalize ss.getD (l.getD 1 0) 0 = y at *
    refine ⟨_, rfl, rfl, _, rfl, ite2 (fun z => ?_) (fun z => ?_)⟩
    · rw [if_pos (V.str.inj (of_decide_eq_true z))] at q
      exact ⟨_, rfl, _, rfl, x, y, 48, rfl, q⟩
    rw [if_neg (fun y => z (decide_eq_true (congrArg V.str y)))] at q
    dsimp only [tNext]
    refine ⟨_, rfl, rfl, _, rfl, ite2 (fun z => ?_) (fun z => ?_)⟩
    · rw [if_pos (V.str.inj (of_decide_eq_true z))] at q
      exact ⟨_, rfl, _, rfl, x, y, 49, rfl, q⟩
    rw [if_neg (fun y => z (decide_eq_true (congrArg V.str y)))] at q
    dsimp only [tNext]
    unfold unS at q
    refine ⟨_, rfl, _, rfl, (by show 2 ≤ sizeLine; decide), fun T nT => ?_⟩
    have sT := same_upd (o := .tup [.str (SX.S [x]), .str (SX.S [y])]) nT
    refine ⟨T, _, rfl, .inr (.inl (.inl upd_same)), rfl, rfl, ?_⟩
    rw [mns]
    refine ⟨_, rfl, ite2 (fun z => ?_) (fun z => ?_)⟩
    · have z := of_decide_eq_true ((in2 45 x y).symm.trans z)
      rw [if_pos z] at q
      exact q _ sT
    have z := of_decide_eq_false ((in2 45 x y).symm.trans (Bool.eq_false_iff.mpr z))
    rw [if_neg z] at q
    dsimp only [tNext]
    refine ⟨_, rfl, _, rfl, rfl, _, rfl, ite2 (fun z => ?_) (fun z => ?_)⟩
    · rw [if_pos (of_decide_eq_true ((dS1 x y).symm.trans z))] at q
      exact q _ sT
    · rw [if_neg (of_decide_eq_false ((dS1 x y).symm.trans (Bool.eq_false_iff.mpr z)))] at q
      exact q _ sT
/-! ### settled -/
def sgs (ss : List Nat) (gs : List Gt) : List Nat := gs.foldl (fun ss g => ss ++ [gsg ss g]) ss
theorem sgs_snoc (ss : List Nat) (gs : List Gt) (g : Gt) : sgs ss (gs ++ [g]) = sgs ss gs ++ [gsg (sgs ss gs) g] := by
  unfold sgs
  rw [List.foldl_append]
  rfl
theorem sgs_len (ss : List Nat) : ∀ gs : List Gt, (sgs ss gs).length = ss.length + gs.length := by
  intro gs
  unfold sgs
  induction gs generalizing ss with
  | nil => rfl
  | cons g gs ih =>
    rw [List.foldl_cons, ih, List.length_append, List.length_cons, List.length_cons, List.length_nil]
    omega
/-- the rows that settled tells -/
def SetAt (H0 H : Hp) (t : Addr) (rs : List (Str × List Nat)) : Prop := ∃ ts : List Addr, ts.length = rs.length ∧ H t = some (.lst (ts.map V.ref)) ∧ H0 t = none ∧
  ∀ (i : Nat) (u : Addr) (n : Str) (tx : List Nat), ts[i]? = some u → rs[i]? = some (n, tx) → H0 u = none ∧ H u = some (.tup [.str n, .str (SX.S tx)])
def setR (ss : List Nat) (nm : List (Str × List Nat)) : List (Str × List Nat) := nm.map fun x => (x.1, x.2.map fun a => ss.getD a 0)
theorem perm_lift {α β : Type} {f : α → β} {ys zs : List β} (h : ys.Perm zs) : ∀ nm : List α, zs = nm.map f → ∃ nm' : List α, nm'.Perm nm ∧ nm'.map f = ys := by
  induction h with
  | nil => exact fun nm e => ⟨nm, .refl _, e.symm⟩
  | cons x _ ih =>
    intro nm e
    match nm, e with
    | a :: nm, e =>
      rw [List.map_cons] at e
      cases e
      obtain ⟨n2, h1, h2⟩ := ih nm rfl
      exact ⟨a :: n2, .cons _ h1, by rw [List.map_cons, h2]⟩
  | swap x y l =>
    intro nm e
    match nm, e with
    | a :: b :: nm, e =>
      rw [List.map_cons, List.map_cons] at e
      cases e
      exact ⟨b :: a :: nm, .swap .., rfl⟩
    | [_], e => cases e
  | trans _ _ i1 i2 =>
    intro nm e
    obtain ⟨n2, h1, h2⟩ := i2 nm e
    obtain ⟨n3, h3, h4⟩ := i1 n2 h2.symm
    exact ⟨n3, h3.trans h1, h4⟩
def spSettled (C : Addr) : Sp := fun vs H Q _ => ∃ (Z : List Addr) (p : NetP) (m : Nat) (gs : List Gt) (nm : List (Str × List Nat)) (cs : List Nat), vs = [.ref p.x, .str (SX.S cs)] ∧ NetAt C Z H p m gs nm ∧ cs.length = m ∧ m + gs.length ≤ 900 ∧ nm.length < 64 ∧
  (∀ (i : Nat) (g : Gt), gs[i]? = some g → g.ok (m + i)) ∧ (∀ x ∈ nm, x.2.length ≤ 900 ∧ ∀ a ∈ x.2, a < m + gs.length) ∧
  ∀ (nm' : List (Str × List Nat)) (t : Addr) (H' : Hp), nm'.Perm nm → sortedS (nm'.map (·.1)) = true → Same H H' → SetAt H H' t (setR (sgs cs gs) nm') → Q (.ref t) H'
theorem ok_settled (B : Bl mg) (L : LL K mg C za zl E_TooMuch I_TooMuch) : FnOk P w K mg base CX0 3 (za 15) (zl 15) ["net", "cube"] (spSettled C) := by
  have G_gate_sign : FnOk P w K mg base CX0 2 (za 16) (zl 16) ["gate", "signs"] spGateS := (ok_gate_sign B L).mono (by decide)
  have G_Net_gates : FnOk P w K mg base CX0 2 (za 57) (zl 57) ["self"] (spGates C) := (ok_Net_gates B L).mono (by decide)
  have G_Net_given : FnOk P w K mg base CX0 2 (za 54) (zl 54) ["self", "name"] (spGiven C) := (ok_Net_given B L).mono (by decide)
  have G_Net_names : FnOk P w K mg base CX0 2 (za 55) (zl 55) ["self"] (spNames C) := (ok_Net_names B L).mono (by decide)
  refine L.F_settled.ok sc_settled (fun vs H Q E h => ?_) (fun cdv A outer s H vs Q E hr h => ?_)
  · obtain ⟨Z, p, m, gs, nm, cs, rfl, _⟩ := h
    rfl
  obtain ⟨Z, p, m, gs, nm, cs, rfl, hN, lc, hm, hl, hok, hnm, q⟩ := h
  refine ⟨_, (pss_cons (ps_set (i := 2) sc_settled.nd rfl (.inr rfl) (pe_callTy (call_listTx rfl) (by rfl) B.list PyProof.Rows.boot_list (pa_cons (pv 1) pa_nil)))
    (pss_cons (ps_for PassesOwn.never rfl (pi_list (pe_meth0 (pv 0) L.T.cl L.M_Net_gates G_Net_gates hr L.b_Net_gates .nil pass0)) (pg_name (i := 3) sc_settled.nd rfl (.inl rfl)) (pss_one (ps_expr (pe_bm PySem.F.plainAttrs_list PySem.F.slot_list_append PySem.F.type_list_append mt_append (pv 2) (pa_cons (pe_call G_gate_sign hr (by rfl) L.m_gate_sign L.F_gate_sign.kp L.b_gate_sign .nil pass0 (pa_cons (pv 3) (pa_cons (pv 2) pa_nil))) pa_nil)))))
    (pss_one (ps_ret (pe_lc (own := [("name", 4)]) (by rfl) sc_settled.nd (pi_list (pe_meth0 (pv 0) L.T.cl L.M_Net_names G_Net_names hr L.b_Net_names .nil pass0)) (blkOk_by (own := [("name", 4)]) (N := ["net", "cube", "signs", "gate", "name", "wire"]) (sc := defScope s_settled) (by decide +kernel)) (fun _ _ _ _ _ => pg_name (i := 4) sc_settled.nd rfl (Or.inl rfl)) (fun _ _ _ _ _ => pts_nil) (fun _ _ _ _ _ => (pe_tup (pa_cons (pv 4) (pa_cons (pe_bmKX (K := K) PySem.F.plainAttrs_str PySem.F.slot_str_join PySem.F.type_str_join (mt_joinKX (K := K)) pe_str (pa_cons (pe_lc (own := [("wire", 5)]) (by rfl) sc_settled.nd (pi_listK (K := K) (pe_meth (pv 0) L.T.cl L.M_Net_given G_Net_given hr L.b_Net_given .nil pass0 (pa_cons (pv 4) pa_nil))) (blkOk_by (own := [("wire", 5)]) (N := ["net", "cube", "signs", "gate", "name", "wire"]) (sc := ({ kind := ScopeKind.function, names := [(".0", NameKind.local), ("name", NameKind.local), ("net", NameKind.cell), ("signs", NameKind.cell)], isGenerator := false, isCoroutine := false } : Scope)) (by decide +kernel)) (fun _ _ _ _ _ => pg_name (i := 5) sc_settled.nd rfl (Or.inl rfl)) (fun _ _ _ _ _ => pts_nil) (fun _ _ _ _ _ => (pe_ix (ix_listK (K := K)) (pv 2) (pv 5) (fun _ _ => rfl)))) pa_nil)) pa_nil))))))))), ?_⟩
  have elst : ((SX.S cs).cps.toList.map fun c => V.str ⟨#[c]⟩) = ssV cs := by
    show (cs.toArray.toList.map fun c => V.str ⟨#[c]⟩) = ssV cs
    rw [List.toList_toArray]
    rfl
  refine ⟨_, rfl, SX.S cs, rfl, by rw [SX.S_len]; exact Nat.le_of_lt (small1000 (by omega)), fun W nW => ?_⟩
  rw [elst]
  have sW := same_upd (o := .lst (ssV cs)) nW
  have eW : (upd H W (.lst (ssV cs))) W = some (.lst (ssV cs)) := upd_same
  generalize upd H W (.lst (ssV cs)) = H1 at *
  try simp only [L2.start, List.map_cons, List.map_nil, List.length_cons, List.length_nil, List.replicate_succ, List.replicate_zero, List.cons_append, List.nil_append, List.set_cons_succ, List.set_cons_zero, Nat.reduceAdd, Nat.reduceSub, Nat.zero_add]
  obtain ⟨_, _, _, dx, _, _, e1, _⟩ := id hN
  have nWx : ∀ y o, H y = some o → y ≠ W := fun y o e => ne_of_none e nW
  refine ⟨_, rfl, p.x, dx, _, rfl, sW _ _ e1, rfl, Z, p, m, gs, nm, rfl, hN.same sW, fun G ps nG lps hps => ?_⟩
  have sG := same_upd (o := .lst (ps.map V.ref)) nG
  have eWG := sG _ _ eW
  have nGW : G ≠ W := (ne_of_none eW nG).symm
  have eG0 : (upd H1 G (.lst (ps.map V.ref))) G = some (.lst (ps.map V.ref)) := upd_same
  have w1 := sW.trans sG
  have hps1 : ∀ (i : Nat) (r : Addr) (g : Gt), ps[i]? = some r → gs[i]? = some g → (upd H1 G (.lst (ps.map V.ref))) r = some (.tup g.row) := fun i r g hi hg => sG _ _ (hps i r g hi hg)
  generalize upd H1 G (.lst (ps.map V.ref)) = H2 at *
  refine ⟨G, rfl, ⟨_, SqL.of eG0⟩, ?_⟩
  refine for_it (walk_list (K := K) (a := G) (xs := ps.map V.ref)) (fun j σ H9 => ∃ y : Option V, σ = [some (.ref p.x), some (.str (SX.S cs)), some (.ref W), y, none, none] ∧ Keep W H2 H9 ∧ H9 W = some (.lst (ssV (sgs cs (gs.take j))))) ⟨_, rfl, Keep.refl _ _, eWG⟩ (fun j σ H9 _ ⟨_, _, k9, _⟩ => SqL.of (k9 _ _ eG0 nGW)) ?_ ?_
  · rintro j z σ H9 H10 hj ⟨y, rfl, k9, eW9⟩ ⟨rfl, hz⟩
    rw [List.getElem?_map] at hz
    have hj' : j < ps.length := by
      rw [List.length_map] at hj
      exact hj
    rw [List.getElem?_eq_getElem hj'] at hz
    cases hz
    have hg : gs[j]? = some gs[j] := List.getElem?_eq_getElem (by omega)
    have er : H10 ps[j] = some (.tup (gs[j]'(by omega)).row) := k9 _ _ (hps1 j _ _ (List.getElem?_eq_getElem hj') hg) (fun z => by
      have := hps1 j _ _ (List.getElem?_eq_getElem hj') hg
      rw [z, eWG] at this
      cases this)
    try simp only [L2.start, List.map_cons, List.map_nil, List.length_cons, List.length_nil, List.replicate_succ, List.replicate_zero, List.cons_append, List.nil_append, List.set_cons_succ, List.set_cons_zero, Nat.reduceAdd, Nat.reduceSub, Nat.zero_add]
    refine ⟨_, rfl, .inl ⟨rfl, _, SqL.of eW9⟩, _, rfl, _, rfl, ps[j], W, _, _, rfl, er, eW9, ?_, fun H11 s11 => ?_⟩
    · rw [sgs_len, List.length_take, lc, Nat.min_eq_left (by omega)]
      exact hok j _ hg
    refine ⟨W, _, _, rfl, rfl, s11 _ _ eW9, ?_, ?_⟩
    · show (ssV _).length < _
      unfold ssV
      rw [List.length_map, sgs_len, List.length_take]
      exact small1000 (by omega)
    refine ⟨_, rfl, fun y' u e ny => ?_, ?_⟩
    · rw [upd_ne ny]
      exact s11 _ _ (k9 _ _ e ny)
    · rw [upd_same, List.take_add_one, hg]
      show _ = some (HO.lst (ssV (sgs cs (gs.take j ++ [gs[j]]))))
      rw [sgs_snoc]
      unfold ssV
      rw [List.map_append]
      rfl
  rintro σ H9 ⟨y, rfl, k9, eW9⟩
  rw [List.length_map, List.take_of_length_le (by omega)] at eW9
  have s9 : Same H H9 := fun y u e => k9 _ _ (w1 _ _ e) (nWx _ _ e)
  have N9 := hN.same s9
  obtain ⟨_, _, _, dx9, _, _, f1, _⟩ := id N9
  have lss : (sgs cs gs).length = m + gs.length := by rw [sgs_len, lc]
  refine ⟨_, rfl, p.x, dx9, _, rfl, f1, rfl, Z, p, m, gs, nm, rfl, N9, hl, fun ys Y HY hp hs sY nY eY => ?_⟩
  obtain ⟨nm', pn, rfl⟩ := perm_lift hp nm rfl
  have eWY := sY _ _ eW9
  have NY := N9.same sY
  have l64 : nm'.length < 64 := by
    rw [pn.length_eq]
    exact hl
  generalize hss : sgs cs gs = ss at *
  refine ⟨Y, rfl, ⟨_, SqL.of eY⟩, fun T nT => ?_⟩
  refine lc_it (walk_list (K := K) (a := Y) (xs := (nm'.map (·.1)).map V.str)) (fun i H5 => Same HY H5 ∧ ∃ ts : List Addr, ts.length = i ∧ H5 T = some (.lst (ts.map V.ref)) ∧ ∀ (k : Nat) (u : Addr) (n : Str) (tx : List Nat), ts[k]? = some u → (setR ss nm')[k]? = some (n, tx) → H u = none ∧ H5 u = some (.tup [.str n, .str (SX.S tx)])) ⟨same_upd nT, [], rfl, upd_same, fun k u n tx h => by simp at h⟩ (fun i H5 _ ⟨s5, _⟩ => SqL.of (s5 _ _ eY)) ?_ ?_
  · rintro j z H5 H6 hj ⟨s5, ts, lt, eT, hts⟩ ⟨rfl, hz⟩
    rw [List.getElem?_map, List.getElem?_map] at hz
    have hj' : j < nm'.length := by
      rw [List.length_map, List.length_map] at hj
      exact hj
    have hy : nm'[j]? = some nm'[j] := List.getElem?_eq_getElem hj'
    have hrow : (setR ss nm')[j]? = some (nm'[j].1, nm'[j].2.map fun a => ss.getD a 0) := by
      unfold setR
      rw [List.getElem?_map, hy]
      rfl
    rw [hy] at hz
    cases hz
    generalize nm'[j] = row at *
    obtain ⟨x, ws⟩ := row
    have N5 := NY.same s5
    obtain ⟨_, _, _, dx5, _, _, g1, _⟩ := id N5
    have hx : (x, ws) ∈ nm := pn.mem_iff.mp (List.mem_of_getElem? hy)
    obtain ⟨i0, hi0, ei0⟩ := List.getElem_of_mem hx
    have hn0 : nm[i0]? = some (x, ws) := by
      rw [List.getElem?_eq_getElem hi0, ei0]
    have hws := hnm _ hx
    have hw1 : ws.length ≤ 900 := hws.1
    refine ⟨rfl, yesT ?_⟩
    refine ⟨_, rfl, rfl, _, rfl, p.x, dx5, _, rfl, g1, rfl, _, rfl, Z, p, m, gs, nm, i0, x, ws, rfl, N5, hn0, fun g ng => ?_⟩
    have sg := same_upd (o := .lst (nts ws)) ng
    have eWg := sg _ _ (s5 _ _ eWY)
    have egg : (upd H6 g (.lst (nts ws))) g = some (.lst (nts ws)) := upd_same
    have eTg := sg _ _ eT
    generalize upd H6 g (.lst (nts ws)) = H7 at *
    refine ⟨g, rfl, ⟨_, SqL.of egg⟩, fun D nD => ?_⟩
    refine lc_it (walk_list (K := K) (a := g) (xs := nts ws)) (fun i H8 => Same H7 H8 ∧ H8 D = some (.lst (ssV ((ws.map fun a => ss.getD a 0).take i)))) ⟨same_upd nD, upd_same⟩ (fun i H8 _ ⟨s8, _⟩ => SqL.of (s8 _ _ egg)) ?_ ?_
    · rintro k z H8 H8' hk ⟨s8, eD⟩ ⟨rfl, hz⟩
      obtain ⟨a, ha, rfl⟩ := nts_at hz
      have la := hws.2 a (List.mem_of_getElem? ha)
      refine ⟨rfl, yesT ?_⟩
      refine ⟨_, rfl, _, rfl, W, _, _, _, rfl, rfl, SqL.of (s8 _ _ eWg), at_getS (by rw [lss]; exact la), ?_⟩
      refine ⟨_, eD, ?_, fun y u e => ?_, ?_⟩
      · unfold ssV
        rw [List.length_map, List.length_take, List.length_map]
        exact Nat.lt_of_le_of_lt (Nat.min_le_right _ _) (small1000 (by omega))
      · rw [upd_ne (ne_of_none e nD)]
        exact s8 _ _ e
      · rw [upd_same, List.take_add_one, List.getElem?_map, ha]
        unfold ssV
        rw [List.map_append]
        rfl
    rintro H8 ⟨s8, eD⟩
    rw [nts_len, List.take_of_length_le (by rw [List.length_map]; exact Nat.le_refl _)] at eD
    have eT8 := s8 _ _ eTg
    generalize htx : (ws.map fun a => ss.getD a 0) = tx at *
    have ltx : tx.length ≤ 900 := by
      rw [← htx, List.length_map]
      exact hw1
    refine ⟨_, D, tx.map fun c => SX.S [c], rfl, rfl, .inl (.inl (.inl ?_)), join_z tx (by omega), ?_⟩
    · rw [List.map_map]
      exact eD
    rw [join_1]
    refine ⟨(by show 2 ≤ sizeLine; decide), fun u nu => ?_⟩
    have su := same_upd (o := .tup [.str x, .str (SX.S tx)]) nu
    have nuT : u ≠ T := fun z => by
      rw [z, eT8] at nu
      cases nu
    have sA : Same H6 (upd H8 u (.tup [.str x, .str (SX.S tx)])) := fun y o e => su _ _ (s8 _ _ (sg _ _ e))
    have nu0 : H u = none := by
      cases e : H u with
      | none => rfl
      | some o =>
        have := s8 _ _ (sg _ _ (s5 _ _ (sY _ _ (s9 _ _ e))))
        rw [nu] at this
        cases this
    refine ⟨_, su _ _ eT8, ?_, fun y o e => ?_, ts ++ [u], by rw [List.length_append, lt]; rfl, ?_, fun k u' x' tx' hu hx' => ?_⟩
    · rw [List.length_map, lt]
      exact small1000 (by omega)
    · rw [upd_ne (ne_of_none e nT)]
      exact sA _ _ (s5 _ _ e)
    · rw [upd_same, List.map_append]
      rfl
    · by_cases c : k < ts.length
      · rw [List.getElem?_append_left c] at hu
        obtain ⟨q1, q3⟩ := hts k u' x' tx' hu hx'
        refine ⟨q1, ?_⟩
        rw [upd_ne (fun z => by rw [z, eT] at q3; cases q3)]
        exact sA _ _ q3
      · have k0 : k = ts.length := by
          have := (List.getElem?_eq_some_iff.mp hu).1
          rw [List.length_append, List.length_cons, List.length_nil] at this
          omega
        rw [List.getElem?_append_right (by omega), k0, Nat.sub_self] at hu
        rw [k0, lt, hrow] at hx'
        cases hu
        cases hx'
        refine ⟨nu0, ?_⟩
        rw [upd_ne nuT]
        exact upd_same
  · rintro H5 ⟨s5, ts, lt, eT, hts⟩
    have nT0 : H T = none := by
      cases e : H T with
      | none => rfl
      | some o =>
        have := sY _ _ (s9 _ _ e)
        rw [nT] at this
        cases this
    exact q nm' T H5 pn hs ((s9.trans sY).trans s5) ⟨ts, by rw [lt, List.length_map, List.length_map]; unfold setR; rw [List.length_map], eT, nT0, fun k u n tx hu hx => hts k u n tx hu hx⟩
/-! ### drawn gates -/
def RowsAt46 (H : Hp) (R : Addr) (gs : List Gt) : Prop := ∃ ts : List Addr, ts.length = gs.length ∧ H R = some (.lst (ts.map V.ref)) ∧ ∀ (i : Nat) (t : Addr) (g : Gt), ts[i]? = some t → gs[i]? = some g → H t = some (.tup g.row)
/-! ### draws of k60 -/
/-! ### names and wires drawn -/
def W9 : List Str := ["sum", "word", "flags", "b", "", "Z 1", "guess", "zz", "a"]
def wd (i k : Nat) : Str := W9.getD i "" ++ strRep "x" k
theorem wd_ne {i j k l : Nat} (hi : i < 9) (hj : j < 9) (hk : k < 4) (hl : l < 4) (h : k ≠ l) : wd i k ≠ wd j l := by
  have all : (List.range 9).all (fun i => (List.range 9).all fun j => (List.range 4).all fun k => (List.range 4).all fun l => k == l || decide (wd i k ≠ wd j l)) = true := by decide +kernel
  have a := List.all_eq_true.mp all i (List.mem_range.mpr hi)
  have a := List.all_eq_true.mp a j (List.mem_range.mpr hj)
  have a := List.all_eq_true.mp a k (List.mem_range.mpr hk)
  have a := List.all_eq_true.mp a l (List.mem_range.mpr hl)
  rcases Bool.or_eq_true _ _ ▸ a with z | z
  · exact absurd (beq_iff_eq.mp z) h
  · exact of_decide_eq_true z
def GvOk (m : Nat) (nm : List (Str × List Nat)) : Prop := ∀ (i : Nat) (n : Str) (ws : List Nat), nm[i]? = some (n, ws) → (∃ w, w < 9 ∧ n = wd w i) ∧ ws.length ≤ 4 ∧ ∀ a ∈ ws, a < m
def GvAt (b : Addr) (H : Hp) (F : Addr) (nm : List (Str × List Nat)) : Prop := F ≠ b ∧ ∃ ts : List Addr, ts.length = nm.length ∧ H F = some (.lst (ts.map V.ref)) ∧ ∀ (i : Nat) (t : Addr) (n : Str) (ws : List Nat), ts[i]? = some t → nm[i]? = some (n, ws) → t ≠ b ∧ ∃ l, l ≠ b ∧ l ≠ F ∧ H t = some (.tup [.str n, .ref l]) ∧ H l = some (.lst (nts ws))
theorem GvAt.keep {b F : Addr} {H H' : Hp} {nm : List (Str × List Nat)} (h : GvAt b H F nm) (k : Keep b H H') : GvAt b H' F nm := by
  obtain ⟨h0, ts, h1, h2, h3⟩ := h
  refine ⟨h0, ts, h1, k _ _ h2 h0, fun i t n ws ht hn => ?_⟩
  obtain ⟨q0, l, q1, qF, q2, q3⟩ := h3 i t n ws ht hn
  exact ⟨q0, l, q1, qF, k _ _ q2 q0, k _ _ q3 q1⟩
end
section
variable {P : Program} {w : World} {K : PySem.W.Frag} {mg : Str → Option Value} {base : Heap}
variable {C : Addr} {za : Nat → Addr} {zl : Nat → FuncData} {E_TooMuch I_TooMuch : Addr}
theorem Gt.row0 (k : Str) (ws : List Nat) : atI (Gt.w k ws).row 0 = some (.str k) := atI_nat (j := 0) rfl
/-! ### drawn cubes -/
theorem sg_snoc {l : List Nat} {c : Nat} (h : SgL l) (hc : c = 45 ∨ c = 48 ∨ c = 49) : SgL (l ++ [c]) := fun d hd => by
  rcases List.mem_append.mp hd with z | z
  · exact h d z
  · rw [List.mem_singleton.mp z]
    exact hc
theorem S_tl (x : List Nat) : (SX.S x).cps.toList = x := rfl
theorem cut_to (x : List Nat) (p : Nat) (h : p ≤ x.length) : cutS (SX.S x) none (some (p : Int)) = SX.S (x.take p) := by
  unfold cutS
  rw [S_tl, SX.S_len, HT.sIx_none, HT.sIx_nat, Nat.min_eq_left h, List.drop_zero, Nat.sub_zero]
theorem cut_from (x : List Nat) (p : Nat) (h : p ≤ x.length) : cutS (SX.S x) (some (p : Int)) none = SX.S (x.drop p) := by
  unfold cutS
  rw [S_tl, SX.S_len, HT.sIx_none, HT.sIx_nat, Nat.min_eq_left h, List.take_of_length_le (by rw [List.length_drop]; exact Nat.le_refl _)]
theorem zS {x : List Nat} (h : x.length ≤ 950) : (SX.S x).length ≤ sizeLine := by
  rw [SX.S_len]
  exact Nat.le_of_lt (small1000 (by omega))
theorem set_cut {x : List Nat} {p : Nat} (c : Nat) (h : p < x.length) : x.take p ++ c :: x.drop (p + 1) = x.set p c := by
  rw [List.set_eq_take_append_cons_drop, if_pos h]
theorem nul : Str.ofString "0" = SX.S [48] := by decide +kernel
theorem eins : Str.ofString "1" = SX.S [49] := by decide +kernel
theorem E_cat (x : Str) : Str.empty ++ x = x := by
  show (⟨#[] ++ x.cps⟩ : Str) = x
  rw [Array.empty_append]
theorem at_S {x : List Nat} {p c : Nat} (h : x[p]? = some c) : atI (SX.S x).cps.toList (p : Int) = some c := atI_nat h
/-! ### settled by which bits a wire may have -/
def pr0 (c : Nat) : Int := if c = 49 then 0 else 1
def pr1 (c : Nat) : Int := if c = 48 then 0 else 1
def WsAt (H : Hp) (W : Addr) (us : List Addr) (ss : List Nat) : Prop := us.length = ss.length ∧ H W = some (.lst (us.map V.ref)) ∧ ∀ (i : Nat) (u : Addr) (c : Nat), us[i]? = some u → ss[i]? = some c → H u = some (.tup [.int (pr0 c), .int (pr1 c)])
theorem WsAt.same {H H' : Hp} {W : Addr} {us : List Addr} {ss : List Nat} (h : WsAt H W us ss) (s : Same H H') : WsAt H' W us ss := ⟨h.1, s _ _ h.2.1, fun i u c hu hc => s _ _ (h.2.2 i u c hu hc)⟩
theorem WsAt.snoc {H : Hp} {W T : Addr} {us : List Addr} {ss : List Nat} {c : Nat} (h : WsAt H W us ss) (e : H T = some (.tup [.int (pr0 c), .int (pr1 c)])) : WsAt (upd H W (.lst (us.map V.ref ++ [.ref T]))) W (us ++ [T]) (ss ++ [c]) := by
  obtain ⟨h1, h2, h3⟩ := h
  refine ⟨by rw [List.length_append, List.length_append, h1]; rfl, by rw [upd_same, List.map_append]; rfl, fun i u d hu hd => ?_⟩
  have key : H u = some (.tup [.int (pr0 d), .int (pr1 d)]) := by
    by_cases l : i < us.length
    · rw [List.getElem?_append_left l] at hu
      rw [List.getElem?_append_left (by omega)] at hd
      exact h3 i u d hu hd
    · have i0 : i = us.length := by
        have := (List.getElem?_eq_some_iff.mp hu).1
        rw [List.length_append, List.length_cons, List.length_nil] at this
        omega
      rw [List.getElem?_append_right (by omega), i0, Nat.sub_self] at hu
      rw [List.getElem?_append_right (by omega), i0, h1, Nat.sub_self] at hd
      cases hu
      cases hd
      exact e
  rw [upd_ne (fun z => by rw [z, h2] at key; cases key)]
  exact key
theorem gsg_sg {ss : List Nat} {g : Gt} (h : SgL ss) (ok : g.ok ss.length) : gsg ss g = 45 ∨ gsg ss g = 48 ∨ gsg ss g = 49 := by
  cases g with
  | fi b =>
    show (if b = 1 then 49 else 48) = 45 ∨ _ ∨ _
    by_cases c : b = 1 <;> simp [gsg, c]
  | w k l =>
    have l0 : 0 < l.length := by
      rcases ok.1 with ⟨_, z⟩ | ⟨_, z⟩ <;> omega
    have hx := h (ss.getD (l.getD 0 0) 0) (by
      match l, l0, ok with
      | a :: l, _, ok =>
        have la : a < ss.length := ok.2 a (by simp)
        show ss.getD a 0 ∈ ss
        rw [List.getD, List.getElem?_eq_getElem la]
        exact List.getElem_mem la)
    show gsw (ss.getD (l.getD 0 0) 0) (ss.getD (l.getD 1 0) 0) k = 45 ∨ gsw (ss.getD (l.getD 0 0) 0) (ss.getD (l.getD 1 0) 0) k = 48 ∨ gsw (ss.getD (l.getD 0 0) 0) (ss.getD (l.getD 1 0) 0) k = 49
    generalize ss.getD (l.getD 0 0) 0 = x at *
    generalize ss.getD (l.getD 1 0) 0 = y
    unfold gsw turnS ruS unS
    repeat' split
    all_goals first
      | exact hx
      | decide
theorem sgs_sg {m : Nat} {cs : List Nat} (hc : SgL cs) (lc : cs.length = m) : ∀ {gs : List Gt}, GsOk m gs → SgL (sgs cs gs) := by
  intro gs ok
  have key : ∀ j, j ≤ gs.length → SgL (sgs cs (gs.take j)) := by
    intro j
    induction j with
    | zero => exact fun _ => hc
    | succ j ih =>
      intro hj
      have hg : gs[j]? = some gs[j] := List.getElem?_eq_getElem (by omega)
      rw [List.take_add_one, hg]
      show SgL (sgs cs (gs.take j ++ [gs[j]]))
      rw [sgs_snoc]
      refine sg_snoc (ih (by omega)) (gsg_sg (ih (by omega)) ?_)
      rw [sgs_len, List.length_take, lc, Nat.min_eq_left (by omega)]
      exact ok j _ hg
  have k := key gs.length (Nat.le_refl _)
  rw [List.take_length] at k
  exact k
theorem WsAt.get {H : Hp} {W : Addr} {us : List Addr} {ss : List Nat} (h : WsAt H W us ss) {a : Nat} (ha : a < ss.length) : ∃ u, atI (us.map V.ref) (a : Int) = some (.ref u) ∧ H u = some (.tup [.int (pr0 (ss.getD a 0)), .int (pr1 (ss.getD a 0))]) := by
  have hu : us[a]? = some (us[a]'(by rw [h.1]; exact ha)) := List.getElem?_eq_getElem _
  refine ⟨_, atI_nat (by rw [List.getElem?_map, hu]; rfl), h.2.2 a _ _ hu ?_⟩
  rw [List.getD, List.getElem?_eq_getElem ha]
  rfl
theorem d49 (a : Nat) : decide (V.str (SX.S [a]) = V.str (Str.ofString "1")) = decide (a = 49) := by
  rw [eins]
  exact dS1 a 49
theorem getD_sg {ss : List Nat} (h : SgL ss) {a : Nat} (ha : a < ss.length) : ss.getD a 0 = 45 ∨ ss.getD a 0 = 48 ∨ ss.getD a 0 = 49 := h _ (by
  rw [List.getD, List.getElem?_eq_getElem ha]
  exact List.getElem_mem ha)
theorem GvOk.inj {m : Nat} {nm : List (Str × List Nat)} (h : GvOk m nm) (hl : nm.length ≤ 4) {i j : Nat} {x y : Str × List Nat} (hi : nm[i]? = some x) (hj : nm[j]? = some y) (e : x.1 = y.1) : i = j := by
  obtain ⟨x, wx⟩ := x
  obtain ⟨y, wy⟩ := y
  obtain ⟨⟨u, hu, eu⟩, _⟩ := h i _ _ hi
  obtain ⟨⟨v, hv, ev⟩, _⟩ := h j _ _ hj
  have li := (List.getElem?_eq_some_iff.mp hi).1
  have lj := (List.getElem?_eq_some_iff.mp hj).1
  apply Classical.byContradiction
  intro c
  refine wd_ne hu hv (by omega) (by omega) c ?_
  rw [← eu, ← ev]
  exact e
theorem rows_one {nm n1 n2 : List (Str × List Nat)} (inj : ∀ (i j : Nat) (x y : Str × List Nat), nm[i]? = some x → nm[j]? = some y → x.1 = y.1 → i = j) (p1 : n1.Perm nm) (s1 : (n1.map (·.1)).Pairwise fun x y => x.cps.toList ≤ y.cps.toList)
    (p2 : n2.Perm nm) (s2 : (n2.map (·.1)).Pairwise fun x y => x.cps.toList ≤ y.cps.toList) : n1 = n2 := by
  rw [List.pairwise_map] at s1 s2
  refine List.Perm.eq_of_pairwise (le := fun x y : Str × List Nat => x.1.cps.toList ≤ y.1.cps.toList) (fun x y hx hy a b => ?_) s1 s2 (p1.trans p2.symm)
  have e := List.le_antisymm a b
  have e : x.1 = y.1 := by
    have := Array.toList_inj.mp e
    cases h1 : x.1
    cases h2 : y.1
    rw [h1, h2] at this
    congr 1
  obtain ⟨i, hi, ei⟩ := List.getElem_of_mem (p1.mem_iff.mp hx)
  obtain ⟨j, hj, ej⟩ := List.getElem_of_mem (p2.mem_iff.mp hy)
  have ij := inj i j x y (by rw [List.getElem?_eq_getElem hi, ei]) (by rw [List.getElem?_eq_getElem hj, ej]) e
  subst ij
  rw [← ei, ej]
/-! ### told rows asked -/
def RwAt (H : Hp) (t : Addr) (rs : List (Str × List Nat)) : Prop := ∃ ts : List Addr, ts.length = rs.length ∧ H t = some (.lst (ts.map V.ref)) ∧ ∀ (i : Nat) (u : Addr) (n : Str) (tx : List Nat), ts[i]? = some u → rs[i]? = some (n, tx) → H u = some (.tup [.str n, .str (SX.S tx)])
theorem SetAt.rw {H0 H : Hp} {t : Addr} {rs : List (Str × List Nat)} (h : SetAt H0 H t rs) : RwAt H t rs := by
  obtain ⟨ts, h1, h2, _, h4⟩ := h
  exact ⟨ts, h1, h2, fun i u n tx hu hr => (h4 i u n tx hu hr).2⟩
theorem RwAt.same {H H' : Hp} {t : Addr} {rs : List (Str × List Nat)} (h : RwAt H t rs) (s : Same H H') : RwAt H' t rs := by
  obtain ⟨ts, h1, h2, h3⟩ := h
  exact ⟨ts, h1, s _ _ h2, fun i u n tx hu hr => s _ _ (h3 i u n tx hu hr)⟩
def opn (r : Str × List Nat) : Bool := decide (45 ∈ r.2)
def spOpen60 : Sp := fun vs H Q _ => ∃ (t : Addr) (rs : List (Str × List Nat)), vs = [.ref t] ∧ RwAt H t rs ∧ rs.length ≤ 4 ∧ ∀ H', Same H H' → Q (.bl (rs.any opn)) H'
theorem ok_has_open (B : Bl mg) (L : LL K mg C za zl E_TooMuch I_TooMuch) : FnOk P w K mg base CX0 1 (za 21) (zl 21) ["told"] spOpen60 := by
  refine L.F_has_open.ok sc_has_open (fun vs H Q E h => ?_) (fun cdv A outer s H vs Q E hr h => ?_)
  · obtain ⟨t, rs, rfl, _⟩ := h
    rfl
  obtain ⟨t, rs, rfl, ⟨ts, lt, et, hts⟩, hl, q⟩ := h
  refine ⟨_, (pss_one (ps_ret (pe_callB (cr_any rfl) (by rfl) B.any boot_any (pa_cons (pe_lc (own := [("name", 1), ("signs", 2)]) (g := gTup K 2 (gCons (gName 1) (gCons (gName 2) gNil))) (by rfl) sc_has_open.nd (pi_list (pv 0)) (blkOk_by (own := [("name", 1), ("signs", 2)]) (N := ["told", "name", "signs"]) (sc := defScope s_has_open) (by decide +kernel)) (fun _ _ _ _ _ => pg_tup rfl (pgs_cons (pg_name (i := 1) sc_has_open.nd rfl (Or.inl rfl) (.inr rfl)) (pgs_cons (pg_name (i := 2) sc_has_open.nd rfl (Or.inl rfl) (.inr rfl)) pgs_nil))) (fun _ _ _ _ _ => pts_nil) (fun _ _ _ _ _ => (pe_cmpR op_in_sign pe_str (pv 2) (by rfl)))) pa_nil)))), ?_⟩
  refine ⟨_, rfl, t, rfl, ⟨_, SqL.of et⟩, fun D nD => ?_⟩
  refine lc_it (walk_list (K := K) (a := t) (xs := ts.map V.ref)) (fun i H6 => Same H H6 ∧ H6 D = some (.lst (((rs.map opn).take i).map V.bl))) ⟨same_upd nD, upd_same⟩ (fun i H6 _ ⟨s6, _⟩ => SqL.of (s6 _ _ et)) ?_ ?_
  · rintro j z H6 H7 hj ⟨s6, eD⟩ ⟨rfl, hz⟩
    rw [List.getElem?_map] at hz
    have hj' : j < ts.length := by
      rw [List.length_map] at hj
      exact hj
    rw [List.getElem?_eq_getElem hj'] at hz
    cases hz
    obtain ⟨⟨n, tx⟩, hr⟩ : ∃ x, rs[j]? = some x := ⟨_, List.getElem?_eq_getElem (by omega)⟩
    have eu := s6 _ _ (hts j _ _ _ (List.getElem?_eq_getElem hj') hr)
    refine ⟨ts[j], _, rfl, .inl (.inl eu), rfl, _, _, rfl, _, _, rfl, rfl, rfl, ?_⟩
    refine yesT ?_
    rw [mns]
    refine ⟨_, rfl, 45, _, rfl, rfl, ?_⟩
    refine ⟨_, eD, ?_, fun y u e => ?_, ?_⟩
    · rw [List.length_map, List.length_take, List.length_map]
      exact Nat.lt_of_le_of_lt (Nat.min_le_right _ _) (small1000 (by omega))
    · rw [upd_ne (ne_of_none e nD)]
      exact s6 _ _ e
    · rw [upd_same, List.take_add_one, List.getElem?_map, hr, List.map_append]
      rfl
  · rintro H6 ⟨s6, eD⟩
    rw [List.length_map, lt, List.take_of_length_le (by rw [List.length_map]; exact Nat.le_refl _)] at eD
    refine ⟨D, rs.map opn, rfl, SqL.of eD, ?_⟩
    rw [List.any_map]
    exact q H6 s6
def KeptL (f g : List Nat) : Prop := f.length = g.length ∧ ∀ (i : Nat) (a c : Nat), f[i]? = some a → g[i]? = some c → a = 45 ∨ a = c
theorem dp_strs3 {H : Hp} : ∀ ds : List Str, DpAll K H (ds.map V.str) (ds.map PyData.str)
  | [] => .nil
  | d :: ds => .cons (.str d) (dp_strs3 ds)
/-! ### shutting a place keeps what is settled -/
theorem kept_turn {a c : Nat} (ha : a = 45 ∨ a = 48 ∨ a = 49) (hc : c = 45 ∨ c = 48 ∨ c = 49) (h : a = 45 ∨ a = c) : turnS a = 45 ∨ turnS a = turnS c := by
  rcases h with rfl | rfl
  · exact .inl rfl
  · exact .inr rfl
theorem kept_ru {a b c d r : Nat} (hr : r = 48 ∨ r = 49) (ha : a = 45 ∨ a = 48 ∨ a = 49) (hb : b = 45 ∨ b = 48 ∨ b = 49) (hc : c = 45 ∨ c = 48 ∨ c = 49) (hd : d = 45 ∨ d = 48 ∨ d = 49) (h : a = 45 ∨ a = c) (k : b = 45 ∨ b = d) : ruS a b r = 45 ∨ ruS a b r = ruS c d r := by
  rcases hr with rfl | rfl <;> rcases ha with rfl | rfl | rfl <;> rcases hb with rfl | rfl | rfl <;> rcases hc with rfl | rfl | rfl <;> rcases hd with rfl | rfl | rfl <;> revert h k <;> decide
theorem kept_un {a b c d : Nat} (ha : a = 45 ∨ a = 48 ∨ a = 49) (hb : b = 45 ∨ b = 48 ∨ b = 49) (h : a = 45 ∨ a = c) (k : b = 45 ∨ b = d) : unS a b = 45 ∨ unS a b = unS c d := by
  rcases h with rfl | rfl
  · exact .inl (if_pos (.inl rfl))
  · rcases k with rfl | rfl
    · exact .inl (if_pos (.inr rfl))
    · exact .inr rfl
theorem KeptL.get {f g : List Nat} (h : KeptL f g) {a : Nat} (ha : a < f.length) : f.getD a 0 = 45 ∨ f.getD a 0 = g.getD a 0 := by
  have hb : a < g.length := by rw [← h.1]; exact ha
  have := h.2 a _ _ (List.getElem?_eq_getElem ha) (List.getElem?_eq_getElem hb)
  rw [List.getD, List.getD, List.getElem?_eq_getElem ha, List.getElem?_eq_getElem hb]
  exact this
theorem KeptL.snoc {f g : List Nat} {a c : Nat} (h : KeptL f g) (k : a = 45 ∨ a = c) : KeptL (f ++ [a]) (g ++ [c]) := by
  refine ⟨by rw [List.length_append, List.length_append, h.1]; rfl, fun i x y hx hy => ?_⟩
  by_cases d : i < f.length
  · rw [List.getElem?_append_left d] at hx
    rw [List.getElem?_append_left (by rw [← h.1]; exact d)] at hy
    exact h.2 i x y hx hy
  · have i0 : i = f.length := by
      have := (List.getElem?_eq_some_iff.mp hx).1
      rw [List.length_append, List.length_cons, List.length_nil] at this
      omega
    rw [List.getElem?_append_right (by omega), i0, Nat.sub_self] at hx
    rw [List.getElem?_append_right (by rw [← h.1]; omega), i0, h.1, Nat.sub_self] at hy
    cases hx
    cases hy
    exact k
theorem kept_gate {f g : List Nat} (sf : SgL f) (sg : SgL g) (h : KeptL f g) {gt : Gt} (ok : gt.ok f.length) : gsg f gt = 45 ∨ gsg f gt = gsg g gt := by
  cases gt with
  | fi b => exact .inr rfl
  | w k l =>
    show gsw (f.getD (l.getD 0 0) 0) (f.getD (l.getD 1 0) 0) k = 45 ∨ gsw (f.getD (l.getD 0 0) 0) (f.getD (l.getD 1 0) 0) k = gsw (g.getD (l.getD 0 0) 0) (g.getD (l.getD 1 0) 0) k
    have l0 : 0 < l.length := by
      rcases ok.1 with ⟨_, z⟩ | ⟨_, z⟩ <;> omega
    have la : l.getD 0 0 < f.length := by
      match l, l0, ok with
      | a :: l, _, ok => exact ok.2 a (by simp)
    have la' : l.getD 0 0 < g.length := by rw [← h.1]; exact la
    have k0 := h.get la
    have x1 := getD_sg sf la
    have x2 := getD_sg sg la'
    unfold gsw
    by_cases ko : k = "other"
    · rw [if_pos ko, if_pos ko]
      exact kept_turn x1 x2 k0
    rw [if_neg ko, if_neg ko]
    have l2 : l.length = 2 := by
      rcases ok.1 with ⟨_, z⟩ | ⟨z, _⟩
      · exact z
      · exact absurd z ko
    have lb : l.getD 1 0 < f.length := by
      match l, l2, ok with
      | [a, b], _, ok => exact ok.2 b (by simp)
    have lb' : l.getD 1 0 < g.length := by rw [← h.1]; exact lb
    have k1 := h.get lb
    have y1 := getD_sg sf lb
    have y2 := getD_sg sg lb'
    by_cases kb : k = "both"
    · rw [if_pos kb, if_pos kb]
      exact kept_ru (.inl rfl) x1 y1 x2 y2 k0 k1
    rw [if_neg kb, if_neg kb]
    by_cases ke : k = "either"
    · rw [if_pos ke, if_pos ke]
      exact kept_ru (.inr rfl) x1 y1 x2 y2 k0 k1
    rw [if_neg ke, if_neg ke]
    exact kept_un x1 y1 k0 k1
theorem kept_sgs {m : Nat} {f g : List Nat} (sf : SgL f) (sg : SgL g) (lf : f.length = m) (lg : g.length = m) (h : KeptL f g) {gs : List Gt} (ok : GsOk m gs) : KeptL (sgs f gs) (sgs g gs) := by
  have key : ∀ j, j ≤ gs.length → KeptL (sgs f (gs.take j)) (sgs g (gs.take j)) := by
    intro j
    induction j with
    | zero => exact fun _ => h
    | succ j ih =>
      intro hj
      have hg : gs[j]? = some gs[j] := List.getElem?_eq_getElem (by omega)
      have okj : GsOk m (gs.take j) := fun i g' h => ok i g' (by
        rw [List.getElem?_take] at h
        split at h
        · exact h
        · cases h)
      rw [List.take_add_one, hg]
      show KeptL (sgs f (gs.take j ++ [gs[j]])) (sgs g (gs.take j ++ [gs[j]]))
      rw [sgs_snoc, sgs_snoc]
      refine (ih (by omega)).snoc (kept_gate (sgs_sg sf lf okj) (sgs_sg sg lg okj) (ih (by omega)) ?_)
      rw [sgs_len, List.length_take, lf, Nat.min_eq_left (by omega)]
      exact ok j _ hg
  have k := key gs.length (Nat.le_refl _)
  rw [List.take_length] at k
  exact k
/-! ### all shut: none open -/
theorem shut_gate {f : List Nat} (sf : SgL f) (no : 45 ∉ f) {gt : Gt} (ok : gt.ok f.length) : ¬ gsg f gt = 45 := by
  have at1 : ∀ a, a < f.length → f.getD a 0 = 48 ∨ f.getD a 0 = 49 := fun a ha => by
    rcases getD_sg sf ha with z | z | z
    · refine absurd ?_ no
      rw [← z, List.getD, List.getElem?_eq_getElem ha]
      exact List.getElem_mem ha
    · exact .inl z
    · exact .inr z
  cases gt with
  | fi b =>
    show ¬ (if b = 1 then 49 else 48) = 45
    split <;> decide
  | w k l =>
    show ¬ gsw (f.getD (l.getD 0 0) 0) (f.getD (l.getD 1 0) 0) k = 45
    have l0 : 0 < l.length := by
      rcases ok.1 with ⟨_, z⟩ | ⟨_, z⟩ <;> omega
    have hx := at1 (l.getD 0 0) (by
      match l, l0, ok with
      | a :: l, _, ok => exact ok.2 a (by simp))
    unfold gsw
    by_cases ko : k = "other"
    · rw [if_pos ko]
      rcases hx with z | z <;> rw [z] <;> decide
    rw [if_neg ko]
    have l2 : l.length = 2 := by
      rcases ok.1 with ⟨_, z⟩ | ⟨z, _⟩
      · exact z
      · exact absurd z ko
    have hy := at1 (l.getD 1 0) (by
      match l, l2, ok with
      | [a, b], _, ok => exact ok.2 b (by simp))
    split
    · rcases hx with z | z <;> rcases hy with w | w <;> rw [z, w] <;> decide
    split
    · rcases hx with z | z <;> rcases hy with w | w <;> rw [z, w] <;> decide
    · rcases hx with z | z <;> rcases hy with w | w <;> rw [z, w] <;> decide
theorem shut_sgs {m : Nat} {f : List Nat} (sf : SgL f) (no : 45 ∉ f) (lf : f.length = m) {gs : List Gt} (ok : GsOk m gs) : 45 ∉ sgs f gs := by
  have key : ∀ j, j ≤ gs.length → 45 ∉ sgs f (gs.take j) := by
    intro j
    induction j with
    | zero => exact fun _ => no
    | succ j ih =>
      intro hj
      have hg : gs[j]? = some gs[j] := List.getElem?_eq_getElem (by omega)
      have okj : GsOk m (gs.take j) := fun i g' h => ok i g' (by
        rw [List.getElem?_take] at h
        split at h
        · exact h
        · cases h)
      rw [List.take_add_one, hg]
      show 45 ∉ sgs f (gs.take j ++ [gs[j]])
      rw [sgs_snoc]
      intro hm
      rcases List.mem_append.mp hm with z | z
      · exact ih (by omega) z
      · refine shut_gate (sgs_sg sf lf okj) (ih (by omega)) ?_ (List.mem_singleton.mp z).symm
        rw [sgs_len, List.length_take, lf, Nat.min_eq_left (by omega)]
        exact ok j _ hg
  have k := key gs.length (Nat.le_refl _)
  rw [List.take_length] at k
  exact k
theorem shut_rows {f : List Nat} (no : 45 ∉ f) (nm : List (Str × List Nat)) (hb : ∀ x ∈ nm, ∀ a ∈ x.2, a < f.length) : (setR f nm).any opn = false := by
  rw [List.any_eq_false]
  intro r hr
  obtain ⟨x, hx, rfl⟩ := List.mem_map.mp hr
  intro z
  have z := of_decide_eq_true z
  obtain ⟨a, ha, e⟩ := List.mem_map.mp z
  have la := hb x hx a ha
  refine no ?_
  rw [← e, List.getD, List.getElem?_eq_getElem la]
  exact List.getElem_mem la
/-! ### what is drawn stands while the net grows -/
theorem rise_pw : ∀ (ss : List Str) (p : Str), risingS p ss = true → (p :: ss).Pairwise fun x y => x.cps.toList ≤ y.cps.toList
  | [], p, _ => List.pairwise_singleton _ _
  | s :: ss, p, h => by
    unfold risingS at h
    obtain ⟨h1, h2⟩ := Bool.and_eq_true_iff.mp h
    have ih := rise_pw ss s h2
    have le : p.cps.toList ≤ s.cps.toList := by
      rw [ltCps_eq] at h1
      simpa using h1
    refine List.pairwise_cons.mpr ⟨fun y hy => ?_, ih⟩
    rcases List.mem_cons.mp hy with e | hy
    · rw [e]
      exact le
    · exact List.le_trans le ((List.pairwise_cons.mp ih).1 y hy)
end
section
variable {P : Program} {w : World} {K : PySem.W.Frag} {mg : Str → Option Value} {base : Heap}
variable {C : Addr} {za : Nat → Addr} {zl : Nat → FuncData} {E_TooMuch I_TooMuch : Addr}
/-! ### two nets looked at -/
def GvW (M : Nat) (nm : List (Str × List Nat)) : Prop := (∀ (i j : Nat) (x y : Str × List Nat), nm[i]? = some x → nm[j]? = some y → x.1 = y.1 → i = j) ∧ ∀ x ∈ nm, x.2.length ≤ 8 ∧ ∀ a ∈ x.2, a < M
/-- a net that is well made -/
def NW (C : Addr) (H : Hp) (p : NetP) (m : Nat) (gs : List Gt) (nm : List (Str × List Nat)) : Prop := (∃ Z, NetAt C Z H p m gs nm) ∧ GsOk m gs ∧ GvW (m + gs.length) nm ∧ m ≤ 20 ∧ gs.length ≤ 300 ∧ nm.length ≤ 4
theorem NW.same {C : Addr} {H H' : Hp} {p : NetP} {m : Nat} {gs : List Gt} {nm : List (Str × List Nat)} (h : NW C H p m gs nm) (s : Same H H') : NW C H' p m gs nm := by
  obtain ⟨⟨Z, hN⟩, r⟩ := h
  exact ⟨⟨Z, hN.same s⟩, r⟩
def rwD (rs : List (Str × List Nat)) : PyData := .list (rs.map fun r => .tuple [.str r.1, .str (SX.S r.2)])
theorem RwAt.dp {H : Hp} {t : Addr} {rs : List (Str × List Nat)} (h : RwAt H t rs) : Dp K H (.ref t) (rwD rs) := by
  obtain ⟨ts, lt, et, hts⟩ := h
  refine .lst (SqL.of et) ?_
  clear et
  induction ts generalizing rs with
  | nil =>
    cases rs with
    | nil => exact .nil
    | cons r rs => cases lt
  | cons u ts ih =>
    cases rs with
    | nil => cases lt
    | cons r rs => exact .cons (.tup (.inl (.inl (hts 0 u r.1 r.2 rfl rfl))) (.cons (.str _) (.cons (.str _) .nil))) (ih (Nat.succ.inj lt) fun i u n tx a c => hts (i + 1) u n tx a c)
theorem pl_rw (rs : List (Str × List Nat)) : (rwD rs).plain = true ∧ (rwD rs).depth ≤ 64 := pl_list fun d hd => by
  obtain ⟨r, _, rfl⟩ := List.mem_map.mp hd
  exact ⟨rfl, by simp [PyData.depth, PyData.depthAll]⟩
theorem setR_len (f : List Nat) (nm : List (Str × List Nat)) : (setR f nm).length = nm.length := List.length_map ..
/-! ### what doesn't fit -/
def firstD : List (Str × List Nat) → List (Str × List Nat) → Option Str
  | x :: xs, y :: ys => if x.2.length = y.2.length then firstD xs ys else some x.1
  | _, _ => none
def dueL (ma mb : Nat) (sa sb : List (Str × List Nat)) : Option Str := if ma = mb then (if sa.map (·.1) = sb.map (·.1) then firstD sa sb else some (Str.ofString "names")) else some (Str.ofString "inputs")
def Rise (l : List (Str × List Nat)) : Prop := (l.map (·.1)).Pairwise fun x y => x.cps.toList ≤ y.cps.toList
/-- names of a net in order -/
def SoOf (sa na : List (Str × List Nat)) : Prop := sa.Perm na ∧ Rise sa
theorem le_str {x y : Str} (a : x.cps.toList ≤ y.cps.toList) (b : y.cps.toList ≤ x.cps.toList) : x = y := by
  have e := Array.toList_inj.mp (List.le_antisymm a b)
  cases x
  cases y
  congr 1
theorem SoOf.names {sa na : List (Str × List Nat)} (h : SoOf sa na) {ys : List Str} (p : ys.Perm (na.map (·.1))) (s : sortedS ys = true) : ys = sa.map (·.1) := by
  have pw : ys.Pairwise fun x y => x.cps.toList ≤ y.cps.toList := by
    cases ys with
    | nil => exact .nil
    | cons x r => exact rise_pw r x s
  exact List.Perm.eq_of_pairwise (le := fun x y : Str => x.cps.toList ≤ y.cps.toList) (fun x y _ _ a b => le_str a b) pw h.2 (p.trans (h.1.map (·.1)).symm)
theorem pl_strs (l : List Str) : (PyData.list (l.map PyData.str)).plain = true ∧ (PyData.list (l.map PyData.str)).depth ≤ 64 := pl_list fun d hd => by
  obtain ⟨y, _, rfl⟩ := List.mem_map.mp hd
  exact ⟨rfl, by simp [PyData.depth]⟩
theorem eqv_strs : ∀ a b : List Str, PyData.eqv (.list (a.map PyData.str)) (.list (b.map PyData.str)) = decide (a = b)
  | [], [] => rfl
  | [], _ :: _ => rfl
  | _ :: _, [] => rfl
  | x :: a, y :: b => by
    have ih := eqv_strs a b
    simp only [PyData.eqv, List.map_cons, PyData.eqvAll] at ih ⊢
    rw [ih, Bool.eq_iff_iff]
    simp
theorem firstD_none {xs ys : List (Str × List Nat)} (h : firstD xs ys = none) {i : Nat} {x y : Str × List Nat} (hx : xs[i]? = some x) (hy : ys[i]? = some y) : x.2.length = y.2.length := by
  induction xs generalizing ys i with
  | nil => simp at hx
  | cons u xs ih =>
    cases ys with
    | nil => simp at hy
    | cons v ys =>
      unfold firstD at h
      split at h
      · cases i with
        | zero =>
          cases hx
          cases hy
          assumption
        | succ i => exact ih h (by simpa using hx) (by simpa using hy)
      · cases h
theorem firstD_at {xs ys : List (Str × List Nat)} {j : Nat} (h : ∀ i, i < j → ∀ x y, xs[i]? = some x → ys[i]? = some y → x.2.length = y.2.length) {x y : Str × List Nat} (hx : xs[j]? = some x) (hy : ys[j]? = some y) (ne : ¬ x.2.length = y.2.length) : firstD xs ys = some x.1 := by
  induction xs generalizing ys j with
  | nil => simp at hx
  | cons u xs ih =>
    cases ys with
    | nil => simp at hy
    | cons v ys =>
      unfold firstD
      cases j with
      | zero =>
        cases hx
        cases hy
        rw [if_neg ne]
      | succ j =>
        rw [if_pos (h 0 (Nat.succ_pos j) u v rfl rfl)]
        exact ih (j := j) (fun i hi x y a b => h (i + 1) (Nat.succ_lt_succ hi) x y (by simpa using a) (by simpa using b)) (by simpa using hx) (by simpa using hy)
def Let (E : XK) (H : Hp) (c : Addr) (v : V) : Prop := ∀ d H', Same H H' → H' d = none → E (.ref c) (some d) (upd H' d (.xd [(("what" : Str), v)]))
theorem Let.same {E : XK} {H H' : Hp} {c : Addr} {v : V} (h : Let E H c v) (s : Same H H') : Let E H' c v := fun d H2 s2 n => h d H2 (s.trans s2) n
/-- two nets that fit -/
structure Two (C : Addr) (H : Hp) (pa pb : NetP) (m : Nat) (ga gb : List Gt) (na nb sa sb : List (Str × List Nat)) : Prop where
  a : NW C H pa m ga na
  b : NW C H pb m gb nb
  oa : SoOf sa na
  ob : SoOf sb nb
  due : dueL m m sa sb = none
theorem Two.same {C : Addr} {H H' : Hp} {pa pb : NetP} {m : Nat} {ga gb : List Gt} {na nb sa sb : List (Str × List Nat)} (h : Two C H pa pb m ga gb na nb sa sb) (s : Same H H') : Two C H' pa pb m ga gb na nb sa sb := ⟨h.a.same s, h.b.same s, h.oa, h.ob, h.due⟩
def GvL (H : Hp) (F : Addr) (nm : List (Str × List Nat)) : Prop := ∃ ts : List Addr, ts.length = nm.length ∧ H F = some (.lst (ts.map V.ref)) ∧ ∀ (i : Nat) (t : Addr) (n : Str) (ws : List Nat), ts[i]? = some t → nm[i]? = some (n, ws) → ∃ l, H t = some (.tup [.str n, .ref l]) ∧ H l = some (.lst (nts ws))
theorem GvL.same {H H' : Hp} {F : Addr} {nm : List (Str × List Nat)} (h : GvL H F nm) (s : Same H H') : GvL H' F nm := by
  obtain ⟨ts, h1, h2, h3⟩ := h
  refine ⟨ts, h1, s _ _ h2, fun i t n ws ht hn => ?_⟩
  obtain ⟨l, a, c⟩ := h3 i t n ws ht hn
  exact ⟨l, s _ _ a, s _ _ c⟩
theorem GvAt.L {b : Addr} {H : Hp} {F : Addr} {nm : List (Str × List Nat)} (h : GvAt b H F nm) : GvL H F nm := by
  obtain ⟨_, ts, h1, h2, h3⟩ := h
  refine ⟨ts, h1, h2, fun i t n ws ht hn => ?_⟩
  obtain ⟨_, l, _, _, a, c⟩ := h3 i t n ws ht hn
  exact ⟨l, a, c⟩
def Inj (nm : List (Str × List Nat)) : Prop := ∀ (i j : Nat) (x y : Str × List Nat), nm[i]? = some x → nm[j]? = some y → x.1 = y.1 → i = j
theorem RowsAt46.ne {c : Int} {H : Hp} {R b : Addr} {gs : List Gt} (h : RowsAt46 H R gs) (B : BoxAt c H b) : R ≠ b := fun z => by
  obtain ⟨ts, lt, e, _⟩ := h
  obtain ⟨x0, x1, x2, eb, _⟩ := B
  rw [z, eb] at e
  have := HO.lst.inj (Option.some.inj e)
  cases ts with
  | nil => cases this
  | cons t ts => cases this
theorem RowsAt46.keep {T : List Addr} {H H' : Hp} {R : Addr} {gs : List Gt} (h : RowsAt46 H R gs) (k : KeepS T H H') (n : R ∉ T) (nt : ∀ y ∈ T, ∀ xs, H y ≠ some (.tup xs)) : RowsAt46 H' R gs := by
  obtain ⟨ts, lt, e, f⟩ := h
  exact ⟨ts, lt, k.1 _ _ e n, fun i t g hi hg => k.1 _ _ (f i t g hi hg) (fun z => nt t z _ (f i t g hi hg))⟩
theorem RowsAt46.same {H H' : Hp} {R : Addr} {gs : List Gt} (h : RowsAt46 H R gs) (s : Same H H') : RowsAt46 H' R gs := h.keep (T := []) (.ofSame s) (fun z => nomatch z) (fun _ z => nomatch z)
theorem RowsAt46.keepB {c : Int} {H H' : Hp} {R b : Addr} {gs : List Gt} (h : RowsAt46 H R gs) (k : Keep b H H') (B : BoxAt c H b) : RowsAt46 H' R gs := by
  have n := h.ne B
  obtain ⟨ts, lt, e, f⟩ := h
  exact ⟨ts, lt, k _ _ e n, fun i t g hi hg => k _ _ (f i t g hi hg) (fun z => by
    obtain ⟨_, _, _, eb, _⟩ := B
    have := f i t g hi hg
    rw [z, eb] at this
    cases this)⟩
theorem GsOk.mono {m m2 : Nat} {gs : List Gt} (h : GsOk m gs) (l : m ≤ m2) : GsOk m2 gs := fun i g hg => by
  have k := h i g hg
  cases g with
  | fi b => exact k
  | w k' ws => exact ⟨k.1, fun a ha => Nat.lt_of_lt_of_le (k.2 a ha) (by omega)⟩
theorem sort_pw {l : List Str} (h : sortedS l = true) : l.Pairwise fun x y => x.cps.toList ≤ y.cps.toList := by
  cases l with
  | nil => exact .nil
  | cons x r => exact rise_pw r x h
/-! ### what a look tells -/
inductive Lk | op | sm | un
deriving DecidableEq
def lkT : Lk → Str
  | .op => Str.ofString "open"
  | .sm => Str.ofString "same"
  | .un => Str.ofString "unlike"
/-- a look by a cube -/
def lk (ga gb : List Gt) (sa sb : List (Str × List Nat)) (x : List Nat) : Lk :=
  if (setR (sgs x ga) sa).any opn = true then .op else if (setR (sgs x gb) sb).any opn = true then .op
  else if PyData.eqv (rwD (setR (sgs x ga) sa)) (rwD (setR (sgs x gb) sb)) = true then .sm else .un
def spLooked (C : Addr) : Sp := fun vs H Q _ => ∃ (pa pb : NetP) (m : Nat) (ga gb : List Gt) (na nb sa sb : List (Str × List Nat)) (cs : List Nat), vs = [.ref pa.x, .ref pb.x, .str (SX.S cs)] ∧ Two C H pa pb m ga gb na nb sa sb ∧ cs.length = m ∧
  ∀ (H' : Hp), Same H H' → Q (.str (lkT (lk ga gb sa sb cs))) H'
theorem ok_looked (B : Bl mg) (L : LL K mg C za zl E_TooMuch I_TooMuch) : FnOk P w K mg base CX0 4 (za 20) (zl 20) ["one", "other", "cube"] (spLooked C) := by
  have G_settled : FnOk P w K mg base CX0 3 (za 15) (zl 15) ["net", "cube"] (spSettled C) := (ok_settled B L).mono (by decide)
  have G_has_open : FnOk P w K mg base CX0 3 (za 21) (zl 21) ["told"] spOpen60 := (ok_has_open B L).mono (by decide)
  refine L.F_looked.ok sc_looked (fun vs H Q E h => ?_) (fun cdv A outer s H vs Q E hr h => ?_)
  · obtain ⟨pa, pb, m, ga, gb, na, nb, sa, sb, cs, rfl, _⟩ := h
    rfl
  obtain ⟨pa, pb, m, ga, gb, na, nb, sa, sb, cs, rfl, ⟨hA, hB, oa, ob, _⟩, lc, q⟩ := h
  refine ⟨_, (pss_cons (ps_set (i := 3) sc_looked.nd rfl (.inl rfl) (pe_call G_settled hr (by rfl) L.m_settled L.F_settled.kp L.b_settled .nil pass0 (pa_cons (pv 0) (pa_cons (pv 2) pa_nil))))
    (pss_cons (ps_set (i := 4) sc_looked.nd rfl (.inl rfl) (pe_call G_settled hr (by rfl) L.m_settled L.F_settled.kp L.b_settled .nil pass0 (pa_cons (pv 1) (pa_cons (pv 2) pa_nil))))
    (pss_cons (ps_if (PW.pt (pw_or (pt_val (pe_call G_has_open hr (by rfl) L.m_has_open L.F_has_open.kp L.b_has_open .nil pass0 (pa_cons (pv 3) pa_nil))) (pw_or1 (pt_val (pe_call G_has_open hr (by rfl) L.m_has_open L.F_has_open.kp L.b_has_open .nil pass0 (pa_cons (pv 4) pa_nil)))))) (pss_one (ps_ret pe_str)) pss_nil)
    (pss_one (ps_ret (pe_ifExp (pt_cmpR (op_eqPl hr.units) (pv 3) (pv 4) (nomark _)) pe_str pe_str)))))), ?_⟩
  obtain ⟨⟨ZA, NA⟩, okA, gA, m20, gaL, naL⟩ := id hA
  obtain ⟨⟨ZB, NB⟩, okB, gB, _, gbL, nbL⟩ := id hB
  refine ⟨_, rfl, _, rfl, ZA, pa, m, ga, na, cs, rfl, NA, lc, by omega, by omega, okA, fun x hx => ⟨by have := (gA.2 x hx).1; omega, (gA.2 x hx).2⟩, fun n1 t1 H1 pn1 ss1 s1 S1 => ?_⟩
  obtain rfl : n1 = sa := rows_one gA.1 pn1 (sort_pw ss1) oa.1 oa.2
  try simp only [L2.start, List.map_cons, List.map_nil, List.length_cons, List.length_nil, List.replicate_succ, List.replicate_zero, List.cons_append, List.nil_append, List.set_cons_succ, List.set_cons_zero, Nat.reduceAdd, Nat.reduceSub, Nat.zero_add]
  refine ⟨_, rfl, _, rfl, ZB, pb, m, gb, nb, cs, rfl, NB.same s1, lc, by omega, by omega, okB, fun x hx => ⟨by have := (gB.2 x hx).1; omega, (gB.2 x hx).2⟩, fun n2 t2 H2 pn2 ss2 s2 S2 => ?_⟩
  obtain rfl : n2 = sb := rows_one gB.1 pn2 (sort_pw ss2) ob.1 ob.2
  try simp only [L2.start, List.map_cons, List.map_nil, List.length_cons, List.length_nil, List.replicate_succ, List.replicate_zero, List.cons_append, List.nil_append, List.set_cons_succ, List.set_cons_zero, Nat.reduceAdd, Nat.reduceSub, Nat.zero_add]
  refine ⟨_, rfl, t1, _, rfl, S1.rw.same s2, by rw [setR_len, pn1.length_eq]; exact naL, fun H3 s3 => ?_⟩
  unfold lk at q
  refine ⟨_, rfl, ite2 (fun z => ?_) (fun z => ?_)⟩
  · rw [if_pos z] at q
    exact q H3 ((s1.trans s2).trans s3)
  rw [if_neg z] at q
  refine ⟨_, rfl, t2, _, rfl, S2.rw.same s3, by rw [setR_len, pn2.length_eq]; exact nbL, fun H4 s4 => ?_⟩
  have s04 := ((s1.trans s2).trans s3).trans s4
  refine ⟨_, rfl, ite2 (fun z => ?_) (fun z => ?_)⟩
  · rw [if_pos z] at q
    exact q H4 s04
  rw [if_neg z] at q
  dsimp only [tNext]
  have D1 := (S1.rw.same ((s2.trans s3).trans s4)).dp (K := K)
  have D2 := (S2.rw.same (s3.trans s4)).dp (K := K)
  refine ⟨_, rfl, _, rfl, _, _, D1, D2, (pl_rw _).1, (pl_rw _).1, (pl_rw _).2, ?_⟩
  refine ⟨_, rfl, ite2 (fun z => ?_) (fun z => ?_)⟩
  · rw [if_pos z] at q
    exact q H4 s04
  · rw [if_neg z] at q
    exact q H4 s04
def spFits (C : Addr) : Sp := fun vs H Q _ => ∃ (pa pb : NetP) (m : Nat) (ga gb : List Gt) (na nb sa sb : List (Str × List Nat)), vs = [.ref pa.x, .ref pb.x] ∧ Two C H pa pb m ga gb na nb sa sb ∧ ∀ H', Same H H' → Q .non H'
theorem ok_need_fit (B : Bl mg) (L : LL K mg C za zl E_TooMuch I_TooMuch) : FnOk P w K mg base CX0 3 (za 22) (zl 22) ["one", "other"] (spFits C) := by
  have G_Net_inputs : FnOk P w K mg base CX0 2 (za 56) (zl 56) ["self"] (spInputs C) := (ok_Net_inputs B L).mono (by decide)
  have G_Net_names : FnOk P w K mg base CX0 2 (za 55) (zl 55) ["self"] (spNames C) := (ok_Net_names B L).mono (by decide)
  have G_Net_given : FnOk P w K mg base CX0 2 (za 54) (zl 54) ["self", "name"] (spGiven C) := (ok_Net_given B L).mono (by decide)
  refine L.F_need_fit.ok sc_need_fit (fun vs H Q E h => ?_) (fun cdv A outer s H vs Q E hr h => ?_)
  · obtain ⟨pa, pb, ma, ga, gb, na, nb, sa, sb, rfl, _⟩ := h
    rfl
  obtain ⟨pa, pb, ma, ga, gb, na, nb, sa, sb, rfl, ⟨hA, hB, oA, oB, hd⟩, q⟩ := h
  refine ⟨_, (pss_cons (ps_if (pt_cmpR op_ne (pe_meth0 (pv 0) L.T.cl L.M_Net_inputs G_Net_inputs hr L.b_Net_inputs .nil pass0) (pe_meth0 (pv 1) L.T.cl L.M_Net_inputs G_Net_inputs hr L.b_Net_inputs .nil pass0) (nomark _)) (pss_one ps_never) pss_nil)
    (pss_cons (ps_if (pt_cmpR (op_nePl hr.units) (pe_meth0 (pv 0) L.T.cl L.M_Net_names G_Net_names hr L.b_Net_names .nil pass0) (pe_meth0 (pv 1) L.T.cl L.M_Net_names G_Net_names hr L.b_Net_names .nil pass0) (nomark _)) (pss_one ps_never) pss_nil)
    (pss_one (ps_for PassesOwn.never rfl (pi_list (pe_meth0 (pv 0) L.T.cl L.M_Net_names G_Net_names hr L.b_Net_names .nil pass0)) (pg_name (i := 2) sc_need_fit.nd rfl (.inl rfl)) (pss_one (ps_if (pt_cmpR op_ne (pe_callB call_len_seq (by rfl) B.len PySem.boot_len (pa_cons (pe_meth (pv 0) L.T.cl L.M_Net_given G_Net_given hr L.b_Net_given .nil pass0 (pa_cons (pv 2) pa_nil)) pa_nil)) (pe_callB call_len_seq (by rfl) B.len PySem.boot_len (pa_cons (pe_meth (pv 1) L.T.cl L.M_Net_given G_Net_given hr L.b_Net_given .nil pass0 (pa_cons (pv 2) pa_nil)) pa_nil)) (nomark _)) (pss_one ps_never) pss_nil)))))), ?_⟩
  obtain ⟨⟨ZA, NA⟩, okA, gA, mA20, gaL, naL⟩ := id hA
  obtain ⟨⟨ZB, NB⟩, okB, gB, mB20, gbL, nbL⟩ := id hB
  obtain ⟨_, _, _, dxA, _, _, eA, _⟩ := id NA
  obtain ⟨_, _, _, dxB, _, _, eB, _⟩ := id NB
  refine ⟨_, rfl, pa.x, dxA, _, rfl, eA, rfl, ZA, pa, ma, ga, na, rfl, NA, ?_⟩
  refine ⟨_, rfl, pb.x, dxB, _, rfl, eB, rfl, ZB, pb, ma, gb, nb, rfl, NB, ?_⟩
  · refine ⟨rfl, _, rfl, ite2 (fun z => ?_) (fun _ => ?_)⟩
    · simp at z
    dsimp only [tNext]
    refine ⟨_, rfl, pa.x, dxA, _, rfl, eA, rfl, ZA, pa, ma, ga, na, rfl, NA, by omega, fun ys1 u1 H1 hp1 hs1 s1 nu1 e1 => ?_⟩
    obtain rfl := oA.names hp1 hs1
    obtain ⟨_, _, _, dxB1, _, _, eB1, _⟩ := id (NB.same s1)
    refine ⟨_, rfl, pb.x, dxB1, _, rfl, eB1, rfl, ZB, pb, ma, gb, nb, rfl, NB.same s1, by omega, fun ys2 u2 H2 hp2 hs2 s2 nu2 e2 => ?_⟩
    obtain rfl := oB.names hp2 hs2
    refine ⟨_, _, .lst (SqL.of (s2 _ _ e1)) (dp_strs3 _), .lst (SqL.of e2) (dp_strs3 _), (pl_strs _).1, (pl_strs _).1, (pl_strs _).2, ?_⟩
    rw [eqv_strs]
    by_cases hn : sa.map (·.1) = sb.map (·.1)
    · refine ⟨_, rfl, ite2 (fun z => ?_) (fun _ => ?_)⟩
      · rw [decide_eq_true hn] at z
        cases z
      dsimp only [tNext]
      have hd : firstD sa sb = none := by
        unfold dueL at hd
        rw [if_pos rfl, if_pos hn] at hd
        exact hd
      have s02 := s1.trans s2
      obtain ⟨_, _, _, dxA2, _, _, eA2, _⟩ := id (NA.same s02)
      refine ⟨_, rfl, pa.x, dxA2, _, rfl, eA2, rfl, ZA, pa, ma, ga, na, rfl, NA.same s02, by omega, fun ys3 u3 H3 hp3 hs3 s3 nu3 e3 => ?_⟩
      obtain rfl := oA.names hp3 hs3
      have s03 := s02.trans s3
      refine ⟨u3, rfl, ⟨_, SqL.of e3⟩, ?_⟩
      refine for_it (walk_list (K := K) (a := u3) (xs := (sa.map (·.1)).map V.str)) (fun j σ H9 => ∃ y : Option V, σ = [some (.ref pa.x), some (.ref pb.x), y] ∧ Same H3 H9 ∧ ∀ i, i < j → ∀ x y, sa[i]? = some x → sb[i]? = some y → x.2.length = y.2.length) ⟨_, rfl, Same.refl _, fun i hi => absurd hi (Nat.not_lt_zero i)⟩ (fun j σ H9 _ ⟨_, _, s9, _⟩ => SqL.of (s9 _ _ e3)) ?_ ?_
      · rintro j v σ H9 H10 hj ⟨y, rfl, s9, hb⟩ ⟨rfl, hz⟩
        rw [List.length_map, List.length_map] at hj
        rw [List.getElem?_map, List.getElem?_map, List.getElem?_eq_getElem hj] at hz
        have hx : sa[j]? = some sa[j] := List.getElem?_eq_getElem hj
        have lab : sa.length = sb.length := by
          have := congrArg List.length hn
          rw [List.length_map, List.length_map] at this
          exact this
        have hy : sb[j]? = some (sb[j]'(by omega)) := List.getElem?_eq_getElem (by omega)
        have hxy : (sa[j]).1 = (sb[j]'(by omega)).1 := by
          have a : (sa.map (·.1))[j]? = some (sa[j]).1 := by rw [List.getElem?_map, hx]; rfl
          have c : (sb.map (·.1))[j]? = some (sb[j]'(by omega)).1 := by rw [List.getElem?_map, hy]; rfl
          rw [hn, c] at a
          exact (Option.some.inj a).symm
        cases hz
        generalize sa[j] = x at *
        generalize sb[j]'(by omega) = y2 at *
        obtain ⟨ia, hia, eia⟩ := List.getElem_of_mem (oA.1.mem_iff.mp (List.mem_of_getElem? hx))
        obtain ⟨ib, hib, eib⟩ := List.getElem_of_mem (oB.1.mem_iff.mp (List.mem_of_getElem? hy))
        have NA9 := NA.same (s03.trans s9)
        have NB9 := NB.same (s03.trans s9)
        obtain ⟨_, _, _, dA9, _, _, fA9, _⟩ := id NA9
        dsimp only [gName]
        try simp only [L2.start, List.map_cons, List.map_nil, List.length_cons, List.length_nil, List.replicate_succ, List.replicate_zero, List.cons_append, List.nil_append, List.set_cons_succ, List.set_cons_zero, Nat.reduceAdd, Nat.reduceSub, Nat.zero_add]
        refine ⟨_, rfl, pa.x, dA9, _, rfl, fA9, rfl, _, rfl, ZA, pa, ma, ga, na, ia, x.1, x.2, rfl, NA9, by rw [List.getElem?_eq_getElem hia, eia], fun t nt => ?_⟩
        have st := same_upd (o := .lst (nts x.2)) nt
        have et : (upd H10 t (.lst (nts x.2))) t = some (.lst (nts x.2)) := upd_same
        generalize upd H10 t (.lst (nts x.2)) = H11 at *
        refine ⟨t, _, rfl, .inl (SqL.of et), ?_⟩
        obtain ⟨_, _, _, dB9, _, _, fB9, _⟩ := id (NB9.same st)
        refine ⟨_, rfl, pb.x, dB9, _, rfl, fB9, rfl, _, rfl, ZB, pb, ma, gb, nb, ib, y2.1, y2.2, by rw [hxy]; rfl, NB9.same st, by rw [List.getElem?_eq_getElem hib, eib], fun t2 nt2 => ?_⟩
        have st2 := same_upd (o := .lst (nts y2.2)) nt2
        have et2 : (upd H11 t2 (.lst (nts y2.2))) t2 = some (.lst (nts y2.2)) := upd_same
        generalize upd H11 t2 (.lst (nts y2.2)) = H12 at *
        refine ⟨t2, _, rfl, .inl (SqL.of et2), ?_⟩
        have l1 : ∀ l : List Nat, (nts l).length = l.length := fun l => by
          unfold nts
          rw [List.length_map]
        rw [l1, l1]
        have s912 := (s9.trans st).trans st2
        by_cases hl : x.2.length = y2.2.length
        · refine ⟨rfl, _, rfl, ite2 (fun z => ?_) (fun _ => ?_)⟩
          · rw [hl] at z
            simp at z
          · refine ⟨_, rfl, s912, fun i hi x' y' hx' hy' => ?_⟩
            by_cases ij : i = j
            · subst ij
              rw [hx] at hx'
              rw [hy] at hy'
              cases hx'
              cases hy'
              exact hl
            · exact hb i (by omega) x' y' hx' hy'
        · have e := firstD_at hb hx hy hl
          rw [hd] at e
          cases e
      · rintro σ H9 ⟨y, rfl, s9, hb⟩
        exact q H9 (s03.trans s9)
    · exfalso
      unfold dueL at hd
      rw [if_pos rfl, if_neg hn] at hd
      cases hd
end
section
variable {P : Program} {w : World} {K : PySem.W.Frag} {mg : Str → Option Value} {base : Heap}
variable {C : Addr} {za : Nat → Addr} {zl : Nat → FuncData} {E_TooMuch I_TooMuch : Addr}
/-! ### the net of drawn gates -/
def spNet63 (C : Addr) : Sp := fun vs H Q _ => ∃ (Z : List Addr) (R F : Addr) (m : Nat) (gs : List Gt) (nm : List (Str × List Nat)), vs = [.int (m : Int), .ref R, .ref F] ∧ (∀ z ∈ Z, H z ≠ none) ∧ RowsAt46 H R gs ∧ GsOk m gs ∧ GvL H F nm ∧ Inj nm ∧ (∀ x ∈ nm, ∀ a ∈ x.2, a < m + gs.length) ∧ nm.length ≤ 3 ∧ m ≤ 100 ∧ gs.length ≤ 200 ∧
  ∀ (p : NetP) (H' : Hp), Same H H' → NetAt C Z H' p m gs nm → (H p.x = none ∧ H p.lm = none ∧ H p.ld = none ∧ H p.dn = none) → Q (.ref p.x) H'
theorem ok__law_net (B : Bl mg) (L : LL K mg C za zl E_TooMuch I_TooMuch) : FnOk P w K mg base CX0 5 (za 34) (zl 34) ["_law_first", "_law_rows", "_law_given"] (spNet63 C) := by
  have G_Net___init__ : FnOk P w K mg base CX0 3 (za 44) (zl 44) ["self", "many"] (spNetI C) := (ok_Net___init__ B L).mono (by decide)
  have G_Net_both : FnOk P w K mg base CX0 4 (za 45) (zl 45) ["self", "a", "b"] (spG2 C "both") := (ok_Net_both B L).mono (by decide)
  have G_Net_either : FnOk P w K mg base CX0 4 (za 46) (zl 46) ["self", "a", "b"] (spG2 C "either") := (ok_Net_either B L).mono (by decide)
  have G_Net_unlike : FnOk P w K mg base CX0 4 (za 47) (zl 47) ["self", "a", "b"] (spG2 C "unlike") := (ok_Net_unlike B L).mono (by decide)
  have G_Net_other : FnOk P w K mg base CX0 4 (za 48) (zl 48) ["self", "a"] (spG1 C) := (ok_Net_other B L).mono (by decide)
  have G_Net_fixed : FnOk P w K mg base CX0 4 (za 49) (zl 49) ["self", "bit"] (spFixed C) := (ok_Net_fixed B L).mono (by decide)
  have G_Net_give : FnOk P w K mg base CX0 4 (za 53) (zl 53) ["self", "name", "wires"] (spGive K C) := (ok_Net_give B L).mono (by decide)
  refine L.F__law_net.ok sc__law_net (fun vs H Q E h => ?_) (fun cdv A outer s H vs Q E hr h => ?_)
  · obtain ⟨Z, R, F, m, gs, nm, rfl, _⟩ := h
    rfl
  obtain ⟨Z, R, F, m, gs, nm, rfl, hZ, ⟨ts, lt, eR, hts⟩, ok, ⟨us, lu, eF, hus⟩, inj, gok, hnm3, hm, hg, q⟩ := h
  refine ⟨_, (pss_cons (ps_set (i := 3) sc__law_net.nd rfl (.inl rfl) (pe_make L.M G_Net___init__ hr (by rfl) L.T.mgC L.b_Net___init__ .nil pass0 (pa_cons (pv 0) pa_nil)))
    (pss_cons (ps_for PassesOwn.never rfl (pi_list (pv 1)) (pg_name (i := 4) sc__law_net.nd rfl (.inl rfl)) (pss_one (ps_if (pt_cmpR op_eq (pe_ix ix_tup (pv 4) pe_int (fun _ _ => rfl)) pe_str (nomark _)) (pss_one (ps_expr (pe_meth (pv 3) L.T.cl L.M_Net_both G_Net_both hr L.b_Net_both .nil pass0 (pa_cons (pe_ix ix_tup (pv 4) pe_int (fun _ _ => rfl)) (pa_cons (pe_ix ix_tup (pv 4) pe_int (fun _ _ => rfl)) pa_nil))))) (pss_one (ps_if (pt_cmpR op_eq (pe_ix ix_tup (pv 4) pe_int (fun _ _ => rfl)) pe_str (nomark _)) (pss_one (ps_expr (pe_meth (pv 3) L.T.cl L.M_Net_either G_Net_either hr L.b_Net_either .nil pass0 (pa_cons (pe_ix ix_tup (pv 4) pe_int (fun _ _ => rfl)) (pa_cons (pe_ix ix_tup (pv 4) pe_int (fun _ _ => rfl)) pa_nil))))) (pss_one (ps_if (pt_cmpR op_eq (pe_ix ix_tup (pv 4) pe_int (fun _ _ => rfl)) pe_str (nomark _)) (pss_one (ps_expr (pe_meth (pv 3) L.T.cl L.M_Net_unlike G_Net_unlike hr L.b_Net_unlike .nil pass0 (pa_cons (pe_ix ix_tup (pv 4) pe_int (fun _ _ => rfl)) (pa_cons (pe_ix ix_tup (pv 4) pe_int (fun _ _ => rfl)) pa_nil))))) (pss_one (ps_if (pt_cmpR op_eq (pe_ix ix_tup (pv 4) pe_int (fun _ _ => rfl)) pe_str (nomark _)) (pss_one (ps_expr (pe_meth (pv 3) L.T.cl L.M_Net_other G_Net_other hr L.b_Net_other .nil pass0 (pa_cons (pe_ix ix_tup (pv 4) pe_int (fun _ _ => rfl)) pa_nil)))) (pss_one (ps_expr (pe_meth (pv 3) L.T.cl L.M_Net_fixed G_Net_fixed hr L.b_Net_fixed .nil pass0 (pa_cons (pe_ix ix_tup (pv 4) pe_int (fun _ _ => rfl)) pa_nil)))))))))))))
    (pss_cons (ps_for PassesOwn.never rfl (pi_list (pv 2)) (pg_tup (by rfl) (pgs_cons (pg_name (i := 5) sc__law_net.nd rfl (.inl rfl)) (pgs_cons (pg_name (i := 6) sc__law_net.nd rfl (.inl rfl)) pgs_nil))) (pss_one (ps_expr (pe_meth (pv 3) L.T.cl L.M_Net_give G_Net_give hr L.b_Net_give .nil pass0 (pa_cons (pv 5) (pa_cons (pe_callTy call_list_of (by rfl) B.list PyProof.Rows.boot_list (pa_cons (pv 6) pa_nil)) pa_nil))))))
    (pss_one (ps_ret (pv 3)))))), ?_⟩
  refine ⟨_, rfl, fun x dx nx ndx ne => ?_⟩
  refine ⟨x, dx, m, rfl, upd_same, by omega, fun p H1 px fr ⟨n1, n2, n3⟩ N0 => ⟨rfl, ?_⟩⟩
  have s1 : Same H H1 := made nx ndx ne fr
  subst px
  have up : ∀ {y : Addr}, (upd (upd H dx (.own p.x)) p.x (.ins C dx [])) y = none → H y = none := fun {y} e => by
    cases h : H y with
    | none => rfl
    | some o =>
      rw [upd_ne (ne_of_none h nx), upd_ne (ne_of_none h ndx), h] at e
      cases e
  have N1 := N0 Z (fun z hz => by
    have h := hZ z hz
    have a : z ≠ p.x := fun y => h (by rw [y]; exact nx)
    have b : z ≠ dx := fun y => h (by rw [y]; exact ndx)
    exact ⟨a, by rw [upd_ne a, upd_ne b]; exact h⟩)
  have m1 := up n1
  have m2 := up n2
  have m3 := up n3
  try simp only [L2.start, List.map_cons, List.map_nil, List.length_cons, List.length_nil, List.replicate_succ, List.replicate_zero, List.cons_append, List.nil_append, List.set_cons_succ, List.set_cons_zero, Nat.reduceAdd, Nat.reduceSub, Nat.zero_add]
  have eR1 := s1 _ _ eR
  refine ⟨_, rfl, R, rfl, ⟨_, SqL.of eR1⟩, ?_⟩
  refine for_it (walk_list (K := K) (a := R) (xs := ts.map V.ref)) (fun j σ H9 => ∃ y : Option V, σ = [some (.int (m : Int)), some (.ref R), some (.ref F), some (.ref p.x), y, none, none] ∧ Same H H9 ∧ NetAt C Z H9 p m (gs.take j) []) ⟨_, rfl, s1, N1⟩ (fun j σ H9 _ ⟨_, _, s9, _⟩ => SqL.of (s9 _ _ eR)) ?_ ?_
  · rintro j z σ H9 H10 hj ⟨y, rfl, s9, N9⟩ ⟨rfl, hz⟩
    rw [List.getElem?_map] at hz
    have hj' : j < ts.length := by
      rw [List.length_map] at hj
      exact hj
    rw [List.getElem?_eq_getElem hj'] at hz
    cases hz
    have hgj : gs[j]? = some (gs[j]'(by omega)) := List.getElem?_eq_getElem (by omega)
    have et := s9 _ _ (hts j _ _ (List.getElem?_eq_getElem hj') hgj)
    have okj := ok j _ hgj
    have lj : (gs.take j).length = j := by
      rw [List.length_take]
      omega
    have tk : gs.take (j + 1) = gs.take j ++ [gs[j]'(by omega)] := by
      rw [List.take_add_one, hgj]
      rfl
    obtain ⟨_, _, _, dx9, _, _, e1, _⟩ := id N9
    have kp : ∀ {H' : Hp}, KeepS [p.lm, p.ld] H10 H' → Same H H' := fun k y o e => k.1 y o (s9 _ _ e) (fun z => by
      simp only [List.mem_cons, List.not_mem_nil, or_false] at z
      rcases z with z | z
      · rw [z, m1] at e
        cases e
      · rw [z, m2] at e
        cases e)
    generalize gs[j]'(by omega) = g at et okj tk
    try simp only [L2.start, List.map_cons, List.map_nil, List.length_cons, List.length_nil, List.replicate_succ, List.replicate_zero, List.cons_append, List.nil_append, List.set_cons_succ, List.set_cons_zero, Nat.reduceAdd, Nat.reduceSub, Nat.zero_add]
    have nS : ∀ {x y : Str}, ¬ x = y → ¬ decide (V.str x = V.str y) = true := fun h z => h (V.str.inj (of_decide_eq_true z))
    dsimp only [gName]
    try simp only [L2.start, List.map_cons, List.map_nil, List.length_cons, List.length_nil, List.replicate_succ, List.replicate_zero, List.cons_append, List.nil_append, List.set_cons_succ, List.set_cons_zero, Nat.reduceAdd, Nat.reduceSub, Nat.zero_add]
    cases g with
    | fi b =>
      have r0 : atI (Gt.fi b).row 0 = some (.str "fixed") := rfl
      refine ⟨_, rfl, ts[j], _, _, _, rfl, rfl, .inl (.inl et), r0, rfl, _, rfl, ite2 (fun z => absurd z (nS (by decide +kernel))) (fun _ => ?_)⟩
      refine ⟨_, rfl, ts[j], _, _, _, rfl, rfl, .inl (.inl et), r0, rfl, _, rfl, ite2 (fun z => absurd z (nS (by decide +kernel))) (fun _ => ?_)⟩
      refine ⟨_, rfl, ts[j], _, _, _, rfl, rfl, .inl (.inl et), r0, rfl, _, rfl, ite2 (fun z => absurd z (nS (by decide +kernel))) (fun _ => ?_)⟩
      refine ⟨_, rfl, ts[j], _, _, _, rfl, rfl, .inl (.inl et), r0, rfl, _, rfl, ite2 (fun z => absurd z (nS (by decide +kernel))) (fun _ => ?_)⟩
      refine ⟨_, rfl, p.x, dx9, _, rfl, e1, rfl, _, rfl, ts[j], _, _, _, rfl, rfl, .inl (.inl et), rfl, Z, p, m, gs.take j, [], b, rfl, N9, by rw [lj]; omega, fun H' k' N' => ?_⟩
      exact ⟨_, rfl, kp k', by rw [tk]; exact N'⟩
    | w k ws =>
      have r0 := Gt.row0 k ws
      rcases okj.1 with ⟨hk, l2⟩ | ⟨rfl, l1⟩
      · obtain ⟨a, b, rfl⟩ : ∃ a b, ws = [a, b] := by
          match ws, l2 with
          | [a, b], _ => exact ⟨_, _, rfl⟩
        rcases hk with rfl | rfl | rfl
        · refine ⟨_, rfl, ts[j], _, _, _, rfl, rfl, .inl (.inl et), r0, rfl, _, rfl, ite2 (fun _ => ?_) (fun z => absurd (decide_eq_true rfl) z)⟩
          refine ⟨_, rfl, p.x, dx9, _, rfl, e1, rfl, _, rfl, ts[j], _, _, _, rfl, rfl, .inl (.inl et), rfl, _, rfl, ts[j], _, _, _, rfl, rfl, .inl (.inl et), rfl, Z, p, m, gs.take j, [], a, b, rfl, N9, by rw [lj]; exact okj.2 a (by simp), by rw [lj]; exact okj.2 b (by simp), by rw [lj]; omega, fun H' k' N' => ?_⟩
          exact ⟨_, rfl, kp k', by rw [tk]; exact N'⟩
        · refine ⟨_, rfl, ts[j], _, _, _, rfl, rfl, .inl (.inl et), r0, rfl, _, rfl, ite2 (fun z => absurd z (nS (by decide +kernel))) (fun _ => ?_)⟩
          refine ⟨_, rfl, ts[j], _, _, _, rfl, rfl, .inl (.inl et), r0, rfl, _, rfl, ite2 (fun _ => ?_) (fun z => absurd (decide_eq_true rfl) z)⟩
          refine ⟨_, rfl, p.x, dx9, _, rfl, e1, rfl, _, rfl, ts[j], _, _, _, rfl, rfl, .inl (.inl et), rfl, _, rfl, ts[j], _, _, _, rfl, rfl, .inl (.inl et), rfl, Z, p, m, gs.take j, [], a, b, rfl, N9, by rw [lj]; exact okj.2 a (by simp), by rw [lj]; exact okj.2 b (by simp), by rw [lj]; omega, fun H' k' N' => ?_⟩
          exact ⟨_, rfl, kp k', by rw [tk]; exact N'⟩
        · refine ⟨_, rfl, ts[j], _, _, _, rfl, rfl, .inl (.inl et), r0, rfl, _, rfl, ite2 (fun z => absurd z (nS (by decide +kernel))) (fun _ => ?_)⟩
          refine ⟨_, rfl, ts[j], _, _, _, rfl, rfl, .inl (.inl et), r0, rfl, _, rfl, ite2 (fun z => absurd z (nS (by decide +kernel))) (fun _ => ?_)⟩
          refine ⟨_, rfl, ts[j], _, _, _, rfl, rfl, .inl (.inl et), r0, rfl, _, rfl, ite2 (fun _ => ?_) (fun z => absurd (decide_eq_true rfl) z)⟩
          refine ⟨_, rfl, p.x, dx9, _, rfl, e1, rfl, _, rfl, ts[j], _, _, _, rfl, rfl, .inl (.inl et), rfl, _, rfl, ts[j], _, _, _, rfl, rfl, .inl (.inl et), rfl, Z, p, m, gs.take j, [], a, b, rfl, N9, by rw [lj]; exact okj.2 a (by simp), by rw [lj]; exact okj.2 b (by simp), by rw [lj]; omega, fun H' k' N' => ?_⟩
          exact ⟨_, rfl, kp k', by rw [tk]; exact N'⟩
      · obtain ⟨a, rfl⟩ : ∃ a, ws = [a] := by
          match ws, l1 with
          | [a], _ => exact ⟨_, rfl⟩
        refine ⟨_, rfl, ts[j], _, _, _, rfl, rfl, .inl (.inl et), r0, rfl, _, rfl, ite2 (fun z => absurd z (nS (by decide +kernel))) (fun _ => ?_)⟩
        refine ⟨_, rfl, ts[j], _, _, _, rfl, rfl, .inl (.inl et), r0, rfl, _, rfl, ite2 (fun z => absurd z (nS (by decide +kernel))) (fun _ => ?_)⟩
        refine ⟨_, rfl, ts[j], _, _, _, rfl, rfl, .inl (.inl et), r0, rfl, _, rfl, ite2 (fun z => absurd z (nS (by decide +kernel))) (fun _ => ?_)⟩
        refine ⟨_, rfl, ts[j], _, _, _, rfl, rfl, .inl (.inl et), r0, rfl, _, rfl, ite2 (fun _ => ?_) (fun z => absurd (decide_eq_true rfl) z)⟩
        refine ⟨_, rfl, p.x, dx9, _, rfl, e1, rfl, _, rfl, ts[j], _, _, _, rfl, rfl, .inl (.inl et), rfl, Z, p, m, gs.take j, [], a, rfl, N9, by rw [lj]; exact okj.2 a (by simp), by rw [lj]; omega, fun H' k' N' => ?_⟩
        exact ⟨_, rfl, kp k', by rw [tk]; exact N'⟩
  · rintro σ H9 ⟨y, rfl, s9, N9⟩
    rw [List.length_map, List.take_of_length_le (by omega)] at N9
    dsimp only [tSeq]
    refine ⟨_, rfl, F, rfl, ⟨_, SqL.of (s9 _ _ eF)⟩, ?_⟩
    refine for_it (walk_list (K := K) (a := F) (xs := us.map V.ref)) (fun j σ H9 => ∃ y4 y5 y6 : Option V, σ = [some (.int (m : Int)), some (.ref R), some (.ref F), some (.ref p.x), y4, y5, y6] ∧ Same H H9 ∧ NetAt C Z H9 p m gs (nm.take j)) ⟨_, _, _, rfl, s9, N9⟩ (fun j σ H9 _ ⟨_, _, _, _, s9, _⟩ => SqL.of (s9 _ _ eF)) ?_ ?_
    · rintro j z σ H5 H6 hj ⟨y4, y5, y6, rfl, s5, N5⟩ ⟨rfl, hz⟩
      rw [List.getElem?_map] at hz
      have hj' : j < us.length := by
        rw [List.length_map] at hj
        exact hj
      rw [List.getElem?_eq_getElem hj'] at hz
      cases hz
      obtain ⟨⟨n, ws⟩, hnj⟩ : ∃ x, nm[j]? = some x := ⟨_, List.getElem?_eq_getElem (by omega)⟩
      obtain ⟨l, q2, q3⟩ := hus j _ _ _ (List.getElem?_eq_getElem hj') hnj
      have hws : ∀ a ∈ ws, a < m + gs.length := gok _ (List.mem_of_getElem? hnj)
      have tk : nm.take (j + 1) = nm.take j ++ [(n, ws)] := by
        rw [List.take_add_one, hnj]
        rfl
      refine ⟨us[j], _, rfl, .inl (.inl (s5 _ _ q2)), rfl, ?_⟩
      refine ⟨_, _, rfl, ?_⟩
      dsimp only [gName]
      try simp only [L2.start, List.map_cons, List.map_nil, List.length_cons, List.length_nil, List.replicate_succ, List.replicate_zero, List.cons_append, List.nil_append, List.set_cons_succ, List.set_cons_zero, Nat.reduceAdd, Nat.reduceSub, Nat.zero_add]
      refine ⟨_, _, rfl, ?_⟩
      dsimp only [gName, gNil]
      try simp only [L2.start, List.map_cons, List.map_nil, List.length_cons, List.length_nil, List.replicate_succ, List.replicate_zero, List.cons_append, List.nil_append, List.set_cons_succ, List.set_cons_zero, Nat.reduceAdd, Nat.reduceSub, Nat.zero_add]
      obtain ⟨_, _, _, dx5, _, _, e5, _⟩ := id N5
      refine ⟨trivial, _, rfl, p.x, dx5, _, rfl, e5, rfl, _, rfl, _, rfl, l, _, rfl, .inl (SqL.of (s5 _ _ q3)), fun L nL => ?_⟩
      have sL := same_upd (o := .lst (nts ws)) nL
      have eL : (upd H6 L (.lst (nts ws))) L = some (.lst (nts ws)) := upd_same
      refine ⟨Z, p, m, gs, nm.take j, n, L, ws, rfl, N5.same sL, fun hx => ?_, .inl (SqL.of eL), hws, by rw [List.length_take]; omega, fun H' k' N' => ?_⟩
      · obtain ⟨⟨n', ws'⟩, hx1, hx2⟩ := List.mem_map.mp hx
        obtain ⟨i, hi, ei⟩ := List.getElem_of_mem hx1
        have hi' : i < j := by
          rw [List.length_take] at hi
          omega
        have hni : nm[i]? = some (n', ws') := by
          rw [← ei, List.getElem_take]
          exact List.getElem?_eq_getElem _
        have := inj i j _ _ hni hnj hx2
        omega
      · refine ⟨_, _, _, rfl, fun y o e => k'.1 y o (sL _ _ (s5 _ _ e)) (fun z => ?_), by rw [tk]; exact N'⟩
        rw [List.mem_singleton.mp z, m3] at e
        cases e
    · rintro σ H9 ⟨y4, y5, y6, rfl, s9, N9⟩
      rw [List.length_map, List.take_of_length_le (by omega)] at N9
      exact ⟨_, rfl, q p H9 s9 N9 ⟨nx, m1, m2, m3⟩⟩
end
section
variable {P : Program} {w : World} {K : PySem.W.Frag} {mg : Str → Option Value} {base : Heap}
variable {C : Addr} {za : Nat → Addr} {zl : Nat → FuncData} {E_TooMuch I_TooMuch : Addr}
/-! ### a cube split -/
def spSplit : Sp := fun vs H Q _ => ∃ (x : List Nat) (p : Nat), vs = [.str (SX.S x), .int (p : Int)] ∧ x[p]? = some 45 ∧ x.length ≤ 900 ∧
  ∀ t H', H t = none → Same H H' → H' t = some (.tup [.str (SX.S (x.set p 48)), .str (SX.S (x.set p 49))]) → Q (.ref t) H'
theorem ok_split (B : Bl mg) (L : LL K mg C za zl E_TooMuch I_TooMuch) : FnOk P w K mg base CX0 1 (za 11) (zl 11) ["cube", "place"] spSplit := by
  refine L.F_split.ok sc_split (fun vs H Q E h => ?_) (fun cdv A outer s H vs Q E hr h => ?_)
  · obtain ⟨x, p, rfl, _⟩ := h
    rfl
  obtain ⟨x, p, rfl, hp, hl, q⟩ := h
  refine ⟨_, (pss_cons (ps_if (PW.pt (pw_or (pt_not (pt_chain op_le op_lt pe_int (pv 1) (pe_callB call_len_str (by rfl) B.len PySem.boot_len (pa_cons (pv 0) pa_nil)))) (pw_or1 (pt_cmpR op_ne (pe_ix ix_str (pv 0) (pv 1) (fun _ _ => rfl)) pe_str (nomark _))))) (pss_one ps_never) pss_nil)
    (pss_cons (ps_set (i := 2) sc_split.nd rfl (.inl rfl) (pe_slice sl_str (pv 0) po_none (po_some (pv 1))))
    (pss_cons (ps_set (i := 3) sc_split.nd rfl (.inl rfl) (pe_slice sl_str (pv 0) (po_some (pe_op op_add (pv 1) pe_int)) po_none))
    (pss_one (ps_ret (pe_tup (pa_cons (pe_joined (.cons (pe_fmt (pv 2)) (.cons pe_str (.cons (pe_fmt (pv 3)) .nil)))) (pa_cons (pe_joined (.cons (pe_fmt (pv 2)) (.cons pe_str (.cons (pe_fmt (pv 3)) .nil)))) pa_nil)))))))), ?_⟩
  have pl : p < x.length := (List.getElem?_eq_some_iff.mp hp).1
  have zx : (SX.S x).length ≤ sizeLine := zS (by omega)
  refine ifS_ev (fun r H' => r = false ∧ H' = H) (fun Q' q' => ?_) (fun H' z => absurd z.1 (by decide)) ?_
  · refine ⟨_, rfl, _, _, rfl, rfl, _, rfl, ite2 (fun c => ?_) (fun c => absurd (decide_eq_true (show (0 : Int) ≤ (p : Int) by omega)) c)⟩
    refine ⟨_, rfl, _, rfl, zx, _, _, rfl, rfl, _, rfl, ?_⟩
    rw [SX.S_len, decide_eq_true (show (p : Int) < (x.length : Nat) by omega)]
    refine iteF ?_
    refine ⟨_, rfl, _, rfl, _, _, 45, rfl, rfl, zx, at_S hp, rfl, _, rfl, ?_⟩
    rw [show (⟨#[45]⟩ : Str) = SX.S [45] from rfl, ← mns, decide_eq_true rfl]
    exact q' _ _ ⟨rfl, rfl⟩
  rintro H1 ⟨_, rfl⟩
  dsimp only [tNext]
  refine ⟨_, rfl, _, rfl, p, rfl, _, rfl, zx, ?_⟩
  rw [cut_to x p (by omega)]
  try simp only [L2.start, List.map_cons, List.map_nil, List.length_cons, List.length_nil, List.replicate_succ, List.replicate_zero, List.cons_append, List.nil_append, List.set_cons_succ, List.set_cons_zero, Nat.reduceAdd, Nat.reduceSub, Nat.zero_add]
  refine ⟨_, rfl, _, rfl, _, _, rfl, rfl, (p : Int) + 1, rfl, _, rfl, zx, ?_⟩
  rw [show ((p : Int) + 1) = ((p + 1 : Nat) : Int) by omega, cut_from x (p + 1) (by omega)]
  try simp only [L2.start, List.map_cons, List.map_nil, List.length_cons, List.length_nil, List.replicate_succ, List.replicate_zero, List.cons_append, List.nil_append, List.set_cons_succ, List.set_cons_zero, Nat.reduceAdd, Nat.reduceSub, Nat.zero_add]
  have z1 : (SX.S (x.take p)).length ≤ sizeLine := zS (by rw [List.length_take]; omega)
  have z2 : (SX.S (x.drop (p + 1))).length ≤ sizeLine := zS (by rw [List.length_drop]; omega)
  have w0 : Str.empty ++ SX.S (x.take p) ++ Str.ofString "0" ++ SX.S (x.drop (p + 1)) = SX.S (x.set p 48) := by
    rw [E_cat, nul, SX.S_cat, SX.S_cat, List.append_assoc]
    exact congrArg SX.S (set_cut 48 pl)
  have w1 : Str.empty ++ SX.S (x.take p) ++ Str.ofString "1" ++ SX.S (x.drop (p + 1)) = SX.S (x.set p 49) := by
    rw [E_cat, eins, SX.S_cat, SX.S_cat, List.append_assoc]
    exact congrArg SX.S (set_cut 49 pl)
  have l1 : (Str.empty ++ SX.S (x.take p)).length ≤ sizeLine := by rw [E_cat]; exact z1
  have l2 : ∀ c, (Str.empty ++ SX.S (x.take p) ++ SX.S [c]).length ≤ sizeLine := fun c => by
    rw [E_cat, SX.S_cat]
    exact zS (by rw [List.length_append, List.length_take]; show min p x.length + 1 ≤ 950; omega)
  have l3 : ∀ c, (SX.S (x.set p c)).length ≤ sizeLine := fun c => zS (by rw [List.length_set]; omega)
  refine ⟨_, rfl, .inl ⟨_, rfl, z1, _, rfl, l1, _, rfl, (by rw [nul]; exact l2 48), _, rfl, .inl ⟨_, rfl, z2, _, rfl, (by rw [w0]; exact l3 48), ?_⟩⟩⟩
  refine ⟨_, rfl, .inl ⟨_, rfl, z1, _, rfl, l1, _, rfl, (by rw [eins]; exact l2 49), _, rfl, .inl ⟨_, rfl, z2, _, rfl, (by rw [w1]; exact l3 49), ?_⟩⟩⟩
  refine ⟨(by show 2 ≤ sizeLine; decide), fun t nt => ?_⟩
  refine q t _ nt (same_upd nt) ?_
  rw [upd_same, w0, w1]
end
section
variable {P : Program} {w : World} {K : PySem.W.Frag} {mg : Str → Option Value} {base : Heap}
variable {C : Addr} {za : Nat → Addr} {zl : Nat → FuncData} {E_TooMuch I_TooMuch : Addr}
/-! ### same -/
def ix45 (x : List Nat) : Nat := (Builtin.Str.occurrences (SX.S x) (SX.S [45]) 0 (SX.S x).length 1).headD 0
theorem sidx {x : List Nat} (h : 45 ∈ x) : ∃ rest, Builtin.Str.occurrences (SX.S x) (SX.S [45]) 0 (SX.S x).length 1 = ix45 x :: rest ∧ x[ix45 x]? = some 45 := by
  have e := PySem.StrLaws.found_one (SX.S x) 45
  have hm : 45 ∈ (SX.S x).cps.toList := h
  rw [decide_eq_true hm] at e
  unfold ix45
  cases q : Builtin.Str.occurrences (SX.S x) (SX.S [45]) 0 (SX.S x).length 1 with
  | nil =>
    rw [show Builtin.Str.occurrences (SX.S x) ⟨#[45]⟩ 0 (SX.S x).length 1 = [] from q] at e
    cases e
  | cons i rest =>
    refine ⟨rest, rfl, ?_⟩
    have s := PySem.StrLaws.occ_spec (SX.S x) (SX.S [45]) 0 (SX.S x).length 1 i (by rw [q]; exact List.mem_cons_self)
    exact (PySem.StrLaws.subAt_one (SX.S x) 45 i).mp s
theorem rep_m : ∀ m : Nat, m ≤ 20 → strRep (Str.ofString "-") m = SX.S (List.replicate m 45) := by decide +kernel
def cV (cs : List (List Nat)) : List V := cs.map fun x => V.str (SX.S x)
theorem cV_app (a b : List (List Nat)) : cV (a ++ b) = cV a ++ cV b := List.map_append ..
theorem cV_len (a : List (List Nat)) : (cV a).length = a.length := List.length_map ..
theorem dp_cV {H : Hp} : ∀ cs : List (List Nat), DpAll K H (cV cs) ((cs.map SX.S).map PyData.str)
  | [] => .nil
  | _ :: cs => .cons (.str _) (dp_cV cs)
def z0 (x : List Nat) : List Nat := x.map fun c => if c = 45 then 48 else c
theorem repl_z0 : ∀ x : List Nat, PySem.StrLaws.replL [45] [48] x = z0 x
  | [] => PySem.StrLaws.replL_nil
  | c :: r => by
    by_cases h : c = 45
    · subst h
      rw [PySem.StrLaws.replL_hit (by decide) rfl]
      show 48 :: PySem.StrLaws.replL [45] [48] r = _
      rw [repl_z0 r]
      rfl
    · rw [PySem.StrLaws.replL_miss (fun z => h (by injection z)), repl_z0 r]
      unfold z0
      rw [List.map_cons, if_neg h]
theorem replace_z0 (x : List Nat) : Txt.replace (SX.S x) (Str.ofString "-") (Str.ofString "0") = SX.S (z0 x) := by
  have h := PySem.StrLaws.replace_list (x := SX.S x) (y := Str.ofString "-") (z := Str.ofString "0") (by decide +kernel)
  have e1 : (Str.ofString "-").cps.toList = [45] := by decide +kernel
  have e2 : (Str.ofString "0").cps.toList = [48] := by decide +kernel
  rw [e1, e2] at h
  have h2 : (Txt.replace (SX.S x) (Str.ofString "-") (Str.ofString "0")).cps.toList = (SX.S (z0 x)).cps.toList := h.trans (repl_z0 x)
  have e := Array.toList_inj.mp h2
  cases q : Txt.replace (SX.S x) (Str.ofString "-") (Str.ofString "0")
  rw [q] at e
  cases q2 : SX.S (z0 x)
  rw [q2] at e
  congr 1
/-- what comes of looking -/
inductive Rs
  | sm (ks : List (List Nat))
  | un (x : List Nat)
def dfs (L : List Nat → Lk) : Nat → List (List Nat) → List (List Nat) → Option Rs
  | _, [], k => some (.sm k)
  | 0, _ :: _, _ => none
  | n + 1, x :: st, k => match L x with
    | .un => some (.un x)
    | .sm => dfs L n st (k ++ [x])
    | .op => dfs L n (x.set (ix45 x) 48 :: x.set (ix45 x) 49 :: st) k
def TolAt (H0 H : Hp) (T : Addr) : Rs → Prop
  | .sm ks => ∃ k0, H T = some (.tup [.str (Str.ofString "same"), .ref k0]) ∧ H k0 = some (.lst (cV ks)) ∧ H0 k0 = none
  | .un x => H T = some (.tup [.str (Str.ofString "unlike"), .str (SX.S (z0 x))])
def Cb (m : Nat) (st : List (List Nat)) : Prop := ∀ x ∈ st, x.length = m ∧ SgL x
theorem Cb.set {m : Nat} {x : List Nat} (h : x.length = m ∧ SgL x) (i c : Nat) (hc : c = 45 ∨ c = 48 ∨ c = 49) : (x.set i c).length = m ∧ SgL (x.set i c) := ⟨by rw [List.length_set, h.1], fun a ha => by
  rcases List.mem_or_eq_of_mem_set ha with w | w
  · exact h.2 a w
  · rw [w]
    exact hc⟩
/-- an open look asks for an open place -/
theorem lk_open {m : Nat} {ga gb : List Gt} {na nb sa sb : List (Str × List Nat)} {x : List Nat} (oa : GsOk m ga) (ob : GsOk m gb) (wa : GvW (m + ga.length) na) (wb : GvW (m + gb.length) nb) (pa : sa.Perm na) (pb : sb.Perm nb) (lx : x.length = m) (sx : SgL x) (h : lk ga gb sa sb x = .op) : 45 ∈ x := by
  have op1 : ∀ {g : List Gt} {n n0 : List (Str × List Nat)}, GsOk m g → GvW (m + g.length) n0 → n.Perm n0 → (setR (sgs x g) n).any opn = true → 45 ∈ x := fun {g n n0} ok gw pn h => by
    refine Classical.byContradiction fun no => ?_
    rw [shut_rows (shut_sgs sx no lx ok) n (fun y hy a ha => by rw [sgs_len, lx]; exact (gw.2 y (pn.mem_iff.mp hy)).2 a ha)] at h
    cases h
  unfold lk at h
  split at h
  · exact op1 oa wa pa (by assumption)
  · split at h
    · exact op1 ob wb pb (by assumption)
    · split at h <;> cases h
def spSameX (C CT : Addr) : Sp := fun vs H Q E => ∃ (pa pb : NetP) (m most : Nat) (ga gb : List Gt) (na nb sa sb : List (Str × List Nat)), vs = [.ref pa.x, .ref pb.x, .int (most : Int)] ∧ Two C H pa pb m ga gb na nb sa sb ∧ most ≤ 3000 ∧
  (∀ (r : Rs) (T : Addr) (H' : Hp), dfs (lk ga gb sa sb) most [List.replicate m 45] [] = some r → Same H H' → TolAt H H' T r → Q (.ref T) H') ∧ (dfs (lk ga gb sa sb) most [List.replicate m 45] [] = none → Let E H CT (.int (most : Int)))
theorem okX_same (B : Bl mg) (L : LL K mg C za zl E_TooMuch I_TooMuch) : FnOk P w K mg base (L2.CX P w) 6 (za 19) (zl 19) ["one", "other", "most"] (spSameX C E_TooMuch) := by
  have G_need_fit : FnOk P w K mg base CX0 5 (za 22) (zl 22) ["one", "other"] (spFits C) := (ok_need_fit B L).mono (by decide)
  have G_looked : FnOk P w K mg base CX0 5 (za 20) (zl 20) ["one", "other", "cube"] (spLooked C) := (ok_looked B L).mono (by decide)
  have G_split : FnOk P w K mg base CX0 5 (za 11) (zl 11) ["cube", "place"] spSplit := (ok_split B L).mono (by decide)
  have G_Net_inputs : FnOk P w K mg base CX0 5 (za 56) (zl 56) ["self"] (spInputs C) := (ok_Net_inputs B L).mono (by decide)
  refine L.F_same.okX sc_same (fun vs H Q E h => ?_) (fun cdv A outer s H vs Q E hr h => ?_)
  · obtain ⟨pa, pb, m, most, ga, gb, na, nb, sa, sb, rfl, _⟩ := h
    rfl
  obtain ⟨pa, pb, m, most, ga, gb, na, nb, sa, sb, rfl, hT, hm, q, qX⟩ := h
  refine ⟨_, (pss_cons (ps_expr (pe_call G_need_fit hr (by rfl) L.m_need_fit L.F_need_fit.kp L.b_need_fit .nil pass0 (pa_cons (pv 0) (pa_cons (pv 1) pa_nil))))
    (pss_cons (ps_set (i := 3) sc_same.nd rfl (.inl rfl) (pe_lst pa_nil))
    (pss_cons (ps_set (i := 4) sc_same.nd rfl (.inl rfl) (pe_lst (pa_cons (pe_op op_mul_str pe_str (pe_meth0 (pv 0) L.T.cl L.M_Net_inputs G_Net_inputs hr L.b_Net_inputs .nil pass0)) pa_nil)))
    (pss_cons (ps_set (i := 5) sc_same.nd rfl (.inl rfl) pe_int)
    (pss_cons (ps_while (passes_of rfl) (pt_cmpR (op_nePl hr.units) (pv 4) (pe_lst pa_nil) (nomark _)) (pss_cons (ps_if (pt_cmpR op_eq (pv 5) (pv 2) (nomark _)) (pss_one (ps_raise rfl (takes_of rfl rfl rfl rfl) (pmk_what L.R_TooMuch hr (by decide) L.g_TooMuch rfl (pa_cons (pv 2) pa_nil)))) pss_nil)
    (pss_cons (ps_aug (i := 5) sc_same.nd rfl (.inl rfl) pe_int iop_add)
    (pss_cons (ps_set (i := 6) sc_same.nd rfl (.inl rfl) (pe_bm0 PySem.F.plainAttrs_list PySem.F.slot_list_pop PySem.F.type_list_pop mt_pop (pv 4)))
    (pss_cons (ps_set (i := 7) sc_same.nd rfl (.inl rfl) (pe_call G_looked hr (by rfl) L.m_looked L.F_looked.kp L.b_looked .nil pass0 (pa_cons (pv 0) (pa_cons (pv 1) (pa_cons (pv 6) pa_nil)))))
    (pss_cons (ps_if (pt_cmpR op_eq (pv 7) pe_str (nomark _)) (pss_one (ps_ret (pe_tup (pa_strU (pat_cons (CwR.pet_replC (pv 6)) pat_nil))))) pss_nil)
    (pss_one (ps_if (pt_cmpR op_eq (pv 7) pe_str (nomark _)) (pss_one (ps_expr (pe_bm PySem.F.plainAttrs_list PySem.F.slot_list_append PySem.F.type_list_append mt_append (pv 3) (pa_cons (pv 6) pa_nil)))) (pss_cons (ps_asg (pe_call G_split hr (by rfl) L.m_split L.F_split.kp L.b_split .nil pass0 (pa_cons (pv 6) (pa_cons (pe_bm PySem.F.plainAttrs_str PySem.F.slot_str_index PySem.F.type_str_index mt_sindex (pv 6) (pa_cons pe_str pa_nil)) pa_nil))) (pg_tup (by rfl) (pgs_cons (pg_name (i := 8) sc_same.nd rfl (.inl rfl)) (pgs_cons (pg_name (i := 9) sc_same.nd rfl (.inl rfl)) pgs_nil))))
    (pss_one (ps_expr (pe_bm PySem.F.plainAttrs_list PySem.F.slot_list_extend PySem.F.type_list_extend mt_extend (pv 4) (pa_cons (pe_lst (pa_cons (pv 9) (pa_cons (pv 8) pa_nil))) pa_nil)))))))))))))
    (pss_one (ps_ret (pe_tup (pa_cons pe_str (pa_cons (pv 3) pa_nil)))))))))), ?_⟩
  refine ⟨_, rfl, _, rfl, pa, pb, m, ga, gb, na, nb, sa, sb, rfl, hT, fun H1 s1 => ?_⟩
  have hT1 := hT.same s1
  obtain ⟨⟨ZA, NA⟩, okA, gA, mA20, gaL, naL⟩ := id hT1.a
  obtain ⟨⟨ZB, NB⟩, okB, gB, _, gbL, nbL⟩ := id hT1.b
  obtain ⟨_, _, _, dxA, _, _, eA, _⟩ := id NA
  refine ⟨(by show 0 ≤ sizeLine; decide), fun K0 nK0 => ?_⟩
  have sK := same_upd (o := .lst []) nK0
  have eK : (upd H1 K0 (.lst [])) K0 = some (.lst []) := upd_same
  generalize upd H1 K0 (.lst []) = H2 at *
  try simp only [L2.start, List.map_cons, List.map_nil, List.length_cons, List.length_nil, List.replicate_succ, List.replicate_zero, List.cons_append, List.nil_append, List.set_cons_succ, List.set_cons_zero, Nat.reduceAdd, Nat.reduceSub, Nat.zero_add]
  refine ⟨_, rfl, pa.x, dxA, _, rfl, sK _ _ eA, rfl, ZA, pa, m, ga, na, rfl, NA.same sK, ?_⟩
  refine ⟨_, m, rfl, rfl, by decide, by omega, ?_⟩
  rw [rep_m m mA20]
  refine ⟨(by show 1 ≤ sizeLine; decide), fun L0 nL0 => ?_⟩
  have sL := same_upd (o := .lst (cV [List.replicate m 45])) nL0
  have eL : (upd H2 L0 (.lst (cV [List.replicate m 45]))) L0 = some (.lst (cV [List.replicate m 45])) := upd_same
  have eKL := sL _ _ eK
  have sKL : Same H1 (upd H2 L0 (.lst (cV [List.replicate m 45]))) := sK.trans sL
  have nKL : K0 ≠ L0 := ne_of_none eK nL0
  have nL1 : H1 L0 = none := by
    cases e : H1 L0 with
    | none => rfl
    | some o =>
      rw [sK _ _ e] at nL0
      cases nL0
  have nKH : H K0 = none := by
    cases e : H K0 with
    | none => rfl
    | some o =>
      rw [s1 _ _ e] at nK0
      cases nK0
  change gName _ _ _ (upd H2 L0 (.lst (cV [List.replicate m 45]))) _
  generalize upd H2 L0 (.lst (cV [List.replicate m 45])) = H3 at *
  try simp only [L2.start, List.map_cons, List.map_nil, List.length_cons, List.length_nil, List.replicate_succ, List.replicate_zero, List.cons_append, List.nil_append, List.set_cons_succ, List.set_cons_zero, Nat.reduceAdd, Nat.reduceSub, Nat.zero_add]
  have sgR : SgL (List.replicate m 45) := fun c hc => .inl (List.eq_of_mem_replicate hc)
  generalize hL : lk ga gb sa sb = L' at q qX
  refine while_by (fun σ H4 => ∃ (y6 y7 y8 y9 : Option V) (n : Nat) (st ks : List (List Nat)), σ = [some (.ref pa.x), some (.ref pb.x), some (.int (most : Int)), some (.ref K0), some (.ref L0), some (.int (n : Int)), y6, y7, y8, y9] ∧ H4 K0 = some (.lst (cV ks)) ∧ H4 L0 = some (.lst (cV st.reverse)) ∧ Cb m st ∧ ks.length ≤ n ∧ st.length ≤ n + 1 ∧ n ≤ most ∧ Same H1 H4 ∧ dfs L' most [List.replicate m 45] [] = dfs L' (most - n) st ks)
    (fun (σ : L2.St) (_ : Hp) => match σ[5]? with | some (some (V.int n)) => ((most : Int) - n).toNat | _ => 0) ⟨_, _, _, _, 0, [List.replicate m 45], [], rfl, eKL, eL, fun x hx => by rw [List.mem_singleton.mp hx]; exact ⟨List.length_replicate, sgR⟩, Nat.le_refl _, Nat.le_refl _, Nat.zero_le _, sKL, rfl⟩ ?_ ?_
  · rintro σ H4 ⟨y6, y7, y8, y9, n, st, ks, rfl, eK4, eL4, hst, lk', ll, hn, s4, hd⟩
    refine ⟨_, rfl, (by show 0 ≤ sizeLine; decide), fun U nU => ?_⟩
    have sU := same_upd (o := .lst []) nU
    have eU : (upd H4 U (.lst [])) U = some (.lst []) := upd_same
    have eK5 := sU _ _ eK4
    have eL5 := sU _ _ eL4
    have s5 := s4.trans sU
    generalize upd H4 U (.lst []) = H5 at *
    refine ⟨.list ((st.reverse.map SX.S).map PyData.str), .list (([] : List Str).map PyData.str), .lst (SqL.of eL5) (dp_cV _), .lst (SqL.of eU) .nil, (pl_strs _).1, rfl, (pl_strs _).2, ?_⟩
    rw [eqv_strs]
    cases st with
    | nil =>
      refine ⟨_, rfl, ite2 (fun z => by cases z) (fun _ => ?_)⟩
      refine ⟨_, rfl, (by show 2 ≤ sizeLine; decide), fun t nt => ?_⟩
      have st' := same_upd (o := .tup [.str (Str.ofString "same"), .ref K0]) nt
      have hd : dfs L' most [List.replicate m 45] [] = some (.sm ks) := by
        rw [hd]
        cases most - n <;> rfl
      exact q _ _ _ hd ((s1.trans s5).trans st') ⟨K0, upd_same, st' _ _ eK5, nKH⟩
    | cons x st =>
      have hx := hst x List.mem_cons_self
      obtain ⟨lx, sx⟩ := hx
      have hst' : Cb m st := fun y hy => hst y (List.mem_cons_of_mem _ hy)
      refine ⟨_, rfl, ite2 (fun z => ?_) (fun z => absurd ?_ z)⟩
      · refine ⟨_, rfl, _, rfl, rfl, _, rfl, ite2 (fun c => ?_) (fun c => ?_)⟩
        · have e : n = most := by
            have := V.int.inj (of_decide_eq_true c)
            omega
          have hd : dfs L' most [List.replicate m 45] [] = none := by
            rw [hd, e, Nat.sub_self]
            rfl
          exact ⟨_, rfl, _, rfl, fun dd nd => qX hd dd _ (s1.trans s5) nd⟩
        have hn' : n < most := by
          have : ¬ (n : Int) = (most : Int) := fun e => c (decide_eq_true (congrArg V.int e))
          omega
        have hsub : most - n = (most - (n + 1)) + 1 := by omega
        rw [hsub] at hd
        dsimp only [tNext]
        refine ⟨_, rfl, _, _, rfl, rfl, ?_⟩
        try simp only [L2.start, List.map_cons, List.map_nil, List.length_cons, List.length_nil, List.replicate_succ, List.replicate_zero, List.cons_append, List.nil_append, List.set_cons_succ, List.set_cons_zero, Nat.reduceAdd, Nat.reduceSub, Nat.zero_add]
        have ecV : cV (x :: st).reverse = cV st.reverse ++ [.str (SX.S x)] := by
          rw [List.reverse_cons, cV_app]
          rfl
        rw [ecV] at eL5
        refine ⟨_, rfl, .inl ⟨rfl, _, SqL.of eL5⟩, L0, _, .str (SX.S x), rfl, rfl, eL5, by simp, ?_⟩
        rw [List.dropLast_concat]
        have eL6 : (upd H5 L0 (.lst (cV st.reverse))) L0 = some (.lst (cV st.reverse)) := upd_same
        have eK6 : (upd H5 L0 (.lst (cV st.reverse))) K0 = some (.lst (cV ks)) := by
          rw [upd_ne nKL]
          exact eK5
        have s6 : Same H1 (upd H5 L0 (.lst (cV st.reverse))) := fun y o e => by
          rw [upd_ne (ne_of_none e nL1)]
          exact s5 _ _ e
        generalize upd H5 L0 (.lst (cV st.reverse)) = H6 at *
        try simp only [L2.start, List.map_cons, List.map_nil, List.length_cons, List.length_nil, List.replicate_succ, List.replicate_zero, List.cons_append, List.nil_append, List.set_cons_succ, List.set_cons_zero, Nat.reduceAdd, Nat.reduceSub, Nat.zero_add]
        have ll' : st.length ≤ n := Nat.le_of_succ_le_succ ll
        refine ⟨_, rfl, _, rfl, _, rfl, pa, pb, m, ga, gb, na, nb, sa, sb, x, rfl, hT1.same s6, lx, fun H7 s7 => ?_⟩
        rw [hL]
        try simp only [L2.start, List.map_cons, List.map_nil, List.length_cons, List.length_nil, List.replicate_succ, List.replicate_zero, List.cons_append, List.nil_append, List.set_cons_succ, List.set_cons_zero, Nat.reduceAdd, Nat.reduceSub, Nat.zero_add]
        have eL7 := s7 _ _ eL6
        have eK7 := s7 _ _ eK6
        have s17 := s6.trans s7
        have nK1 : H1 K0 = none := nK0
        have upK : ∀ {o : HO} {G : Hp}, Same H1 G → Same H1 (upd G K0 o) := fun {o G} s y u e => by
          rw [upd_ne (ne_of_none e nK1)]
          exact s _ _ e
        have upL : ∀ {o : HO} {G : Hp}, Same H1 G → Same H1 (upd G L0 o) := fun {o G} s y u e => by
          rw [upd_ne (ne_of_none e nL1)]
          exact s _ _ e
        cases hl : L' x with
        | op =>
          have ho : 45 ∈ x := lk_open okA okB gA gB hT1.oa.1 hT1.ob.1 lx sx (by rw [hL]; exact hl)
          refine ⟨_, rfl, rfl, _, rfl, ite2 (fun c => absurd c (by decide)) (fun _ => ?_)⟩
          dsimp only [tNext]
          refine ⟨_, rfl, rfl, _, rfl, ite2 (fun c => absurd c (by decide)) (fun _ => ?_)⟩
          obtain ⟨rest, ei, ai⟩ := sidx ho
          generalize hi : ix45 x = i at *
          refine ⟨_, rfl, _, rfl, rfl, _, _, i, rest, rfl, rfl, ei, x, i, rfl, ai, by omega, fun t H8 nt s8 et => ?_⟩
          refine ⟨t, _, rfl, .inl (.inl et), rfl, ?_⟩
          refine ⟨_, _, rfl, ?_⟩
          dsimp only [gName]
          try simp only [L2.start, List.map_cons, List.map_nil, List.length_cons, List.length_nil, List.replicate_succ, List.replicate_zero, List.cons_append, List.nil_append, List.set_cons_succ, List.set_cons_zero, Nat.reduceAdd, Nat.reduceSub, Nat.zero_add]
          refine ⟨_, _, rfl, ?_⟩
          dsimp only [gName, gNil]
          try simp only [L2.start, List.map_cons, List.map_nil, List.length_cons, List.length_nil, List.replicate_succ, List.replicate_zero, List.cons_append, List.nil_append, List.set_cons_succ, List.set_cons_zero, Nat.reduceAdd, Nat.reduceSub, Nat.zero_add]
          have eL8 := s8 _ _ eL7
          have eK8 := s8 _ _ eK7
          have s18 := s17.trans s8
          refine ⟨trivial, _, rfl, .inl ⟨rfl, _, SqL.of eL8⟩, _, rfl, _, rfl, (by show 2 ≤ sizeLine; decide), fun U2 nU2 => ?_⟩
          have sU2 := same_upd (o := .lst [.str (SX.S (x.set i 49)), .str (SX.S (x.set i 48))]) nU2
          have eU2 : (upd H8 U2 (.lst [.str (SX.S (x.set i 49)), .str (SX.S (x.set i 48))])) U2 = some (.lst [.str (SX.S (x.set i 49)), .str (SX.S (x.set i 48))]) := upd_same
          have eL9 := sU2 _ _ eL8
          have eK9 := sU2 _ _ eK8
          have s19 := s18.trans sU2
          generalize upd H8 U2 (.lst [.str (SX.S (x.set i 49)), .str (SX.S (x.set i 48))]) = H9 at *
          refine ⟨L0, U2, _, _, rfl, rfl, eL9, eU2, by rw [cV_len, List.length_reverse]; exact Nat.le_of_lt (big_lt (show st.length + 2 ≤ _ by omega)), ?_⟩
          refine ⟨⟨_, _, _, _, n + 1, x.set i 48 :: x.set i 49 :: st, ks, rfl, ?_, ?_, fun y hy => ?_, by omega, ?_, by omega, upL s19, ?_⟩, ?_⟩
          · rw [upd_ne nKL]
            exact eK9
          · rw [upd_same, List.reverse_cons, List.reverse_cons, List.append_assoc, cV_app]
            rfl
          · rcases List.mem_cons.mp hy with w | w
            · rw [w]
              exact Cb.set ⟨lx, sx⟩ i 48 (.inr (.inl rfl))
            · rcases List.mem_cons.mp w with w | w
              · rw [w]
                exact Cb.set ⟨lx, sx⟩ i 49 (.inr (.inr rfl))
              · exact hst' y w
          · show st.length + 2 ≤ n + 1 + 1
            omega
          · rw [hd]
            show (match L' x with | .un => _ | .sm => _ | .op => _) = _
            rw [hl, hi]
          · show ((most : Int) - ((n : Int) + 1)).toNat < ((most : Int) - (n : Int)).toNat
            omega
        | sm =>
          refine ⟨_, rfl, rfl, _, rfl, ite2 (fun c => absurd c (by decide)) (fun _ => ?_)⟩
          dsimp only [tNext]
          refine ⟨_, rfl, rfl, _, rfl, ite2 (fun _ => ?_) (fun c => absurd rfl c)⟩
          refine ⟨_, rfl, .inl ⟨rfl, _, SqL.of eK7⟩, _, rfl, K0, _, _, rfl, rfl, eK7, by rw [cV_len]; exact big_lt (by omega), ?_⟩
          refine ⟨⟨_, _, _, _, n + 1, st, ks ++ [x], rfl, ?_, ?_, hst', by rw [List.length_append]; exact Nat.succ_le_succ lk', by omega, by omega, upK s17, ?_⟩, ?_⟩
          · rw [upd_same, cV_app]
            rfl
          · rw [upd_ne nKL.symm]
            exact eL7
          · rw [hd]
            show (match L' x with | .un => _ | .sm => _ | .op => _) = _
            rw [hl]
          · show ((most : Int) - ((n : Int) + 1)).toNat < ((most : Int) - (n : Int)).toNat
            omega
        | un =>
          refine ⟨_, rfl, rfl, _, rfl, ite2 (fun _ => ?_) (fun c => absurd rfl c)⟩
          refine ⟨_, rfl, _, rfl, ?_, (by show 2 ≤ sizeLine; decide), fun t nt => ?_⟩
          · rw [SX.S_len, show (Str.ofString "0").length = 1 by decide +kernel]
            omega
          · have hd : dfs L' most [List.replicate m 45] [] = some (.un x) := by
              rw [hd]
              show (match L' x with | .un => _ | .sm => _ | .op => _) = _
              rw [hl]
            refine q _ _ _ hd ((s1.trans s17).trans (same_upd nt)) ?_
            show (upd _ t _) t = _
            rw [upd_same, replace_z0]
      · rw [List.reverse_cons, List.map_append]
        simp
  · rintro σ H4 Q1 Q2 hq ⟨a, ha, hz, hf⟩
    refine ⟨a, ha, hz, fun U nU => ?_⟩
    obtain ⟨d, e, h1, h2, h3, h4, h5, k, hk, h6⟩ := hf U nU
    exact ⟨d, e, h1, h2, h3, h4, h5, k, hk, hq _ _ h6⟩
def spSame91 (C : Addr) : Sp := fun vs H Q _ => ∃ (pa pb : NetP) (m most : Nat) (ga gb : List Gt) (na nb sa sb : List (Str × List Nat)), vs = [.ref pa.x, .ref pb.x, .int (most : Int)] ∧ Two C H pa pb m ga gb na nb sa sb ∧ most ≤ 3000 ∧ dfs (lk ga gb sa sb) most [List.replicate m 45] [] ≠ none ∧
  ∀ (r : Rs) (T : Addr) (H' : Hp), dfs (lk ga gb sa sb) most [List.replicate m 45] [] = some r → Same H H' → TolAt H H' T r → Q (.ref T) H'
theorem ok_sameP (B : Bl mg) (L : LL K mg C za zl E_TooMuch I_TooMuch) : FnOk P w K mg base CX0 6 (za 19) (zl 19) ["one", "other", "most"] (spSame91 C) := by
  have G_need_fit : FnOk P w K mg base CX0 5 (za 22) (zl 22) ["one", "other"] (spFits C) := (ok_need_fit B L).mono (by decide)
  have G_looked : FnOk P w K mg base CX0 5 (za 20) (zl 20) ["one", "other", "cube"] (spLooked C) := (ok_looked B L).mono (by decide)
  have G_split : FnOk P w K mg base CX0 5 (za 11) (zl 11) ["cube", "place"] spSplit := (ok_split B L).mono (by decide)
  have G_Net_inputs : FnOk P w K mg base CX0 5 (za 56) (zl 56) ["self"] (spInputs C) := (ok_Net_inputs B L).mono (by decide)
  refine L.F_same.ok sc_same (fun vs H Q E h => ?_) (fun cdv A outer s H vs Q E hr h => ?_)
  · obtain ⟨pa, pb, m, most, ga, gb, na, nb, sa, sb, rfl, _⟩ := h
    rfl
  obtain ⟨pa, pb, m, most, ga, gb, na, nb, sa, sb, rfl, hT, hm, full, q⟩ := h
  refine ⟨_, (pss_cons (ps_expr (pe_call G_need_fit hr (by rfl) L.m_need_fit L.F_need_fit.kp L.b_need_fit .nil pass0 (pa_cons (pv 0) (pa_cons (pv 1) pa_nil))))
    (pss_cons (ps_set (i := 3) sc_same.nd rfl (.inl rfl) (pe_lst pa_nil))
    (pss_cons (ps_set (i := 4) sc_same.nd rfl (.inl rfl) (pe_lst (pa_cons (pe_op op_mul_str pe_str (pe_meth0 (pv 0) L.T.cl L.M_Net_inputs G_Net_inputs hr L.b_Net_inputs .nil pass0)) pa_nil)))
    (pss_cons (ps_set (i := 5) sc_same.nd rfl (.inl rfl) pe_int)
    (pss_cons (ps_while PassesOwn.never (pt_cmpR (op_nePl hr.units) (pv 4) (pe_lst pa_nil) (nomark _)) (pss_cons (ps_if (pt_cmpR op_eq (pv 5) (pv 2) (nomark _)) (pss_one ps_never) pss_nil)
    (pss_cons (ps_aug (i := 5) sc_same.nd rfl (.inl rfl) pe_int iop_add)
    (pss_cons (ps_set (i := 6) sc_same.nd rfl (.inl rfl) (pe_bm0 PySem.F.plainAttrs_list PySem.F.slot_list_pop PySem.F.type_list_pop mt_pop (pv 4)))
    (pss_cons (ps_set (i := 7) sc_same.nd rfl (.inl rfl) (pe_call G_looked hr (by rfl) L.m_looked L.F_looked.kp L.b_looked .nil pass0 (pa_cons (pv 0) (pa_cons (pv 1) (pa_cons (pv 6) pa_nil)))))
    (pss_cons (ps_if (pt_cmpR op_eq (pv 7) pe_str (nomark _)) (pss_one (ps_ret (pe_tup (pa_strU (pat_cons (CwR.pet_replC (pv 6)) pat_nil))))) pss_nil)
    (pss_one (ps_if (pt_cmpR op_eq (pv 7) pe_str (nomark _)) (pss_one (ps_expr (pe_bm PySem.F.plainAttrs_list PySem.F.slot_list_append PySem.F.type_list_append mt_append (pv 3) (pa_cons (pv 6) pa_nil)))) (pss_cons (ps_asg (pe_call G_split hr (by rfl) L.m_split L.F_split.kp L.b_split .nil pass0 (pa_cons (pv 6) (pa_cons (pe_bm PySem.F.plainAttrs_str PySem.F.slot_str_index PySem.F.type_str_index mt_sindex (pv 6) (pa_cons pe_str pa_nil)) pa_nil))) (pg_tup (by rfl) (pgs_cons (pg_name (i := 8) sc_same.nd rfl (.inl rfl)) (pgs_cons (pg_name (i := 9) sc_same.nd rfl (.inl rfl)) pgs_nil))))
    (pss_one (ps_expr (pe_bm PySem.F.plainAttrs_list PySem.F.slot_list_extend PySem.F.type_list_extend mt_extend (pv 4) (pa_cons (pe_lst (pa_cons (pv 9) (pa_cons (pv 8) pa_nil))) pa_nil)))))))))))))
    (pss_one (ps_ret (pe_tup (pa_cons pe_str (pa_cons (pv 3) pa_nil)))))))))), ?_⟩
  refine ⟨_, rfl, _, rfl, pa, pb, m, ga, gb, na, nb, sa, sb, rfl, hT, fun H1 s1 => ?_⟩
  have hT1 := hT.same s1
  obtain ⟨⟨ZA, NA⟩, okA, gA, mA20, gaL, naL⟩ := id hT1.a
  obtain ⟨⟨ZB, NB⟩, okB, gB, _, gbL, nbL⟩ := id hT1.b
  obtain ⟨_, _, _, dxA, _, _, eA, _⟩ := id NA
  refine ⟨(by show 0 ≤ sizeLine; decide), fun K0 nK0 => ?_⟩
  have sK := same_upd (o := .lst []) nK0
  have eK : (upd H1 K0 (.lst [])) K0 = some (.lst []) := upd_same
  generalize upd H1 K0 (.lst []) = H2 at *
  try simp only [L2.start, List.map_cons, List.map_nil, List.length_cons, List.length_nil, List.replicate_succ, List.replicate_zero, List.cons_append, List.nil_append, List.set_cons_succ, List.set_cons_zero, Nat.reduceAdd, Nat.reduceSub, Nat.zero_add]
  refine ⟨_, rfl, pa.x, dxA, _, rfl, sK _ _ eA, rfl, ZA, pa, m, ga, na, rfl, NA.same sK, ?_⟩
  refine ⟨_, m, rfl, rfl, by decide, by omega, ?_⟩
  rw [rep_m m mA20]
  refine ⟨(by show 1 ≤ sizeLine; decide), fun L0 nL0 => ?_⟩
  have sL := same_upd (o := .lst (cV [List.replicate m 45])) nL0
  have eL : (upd H2 L0 (.lst (cV [List.replicate m 45]))) L0 = some (.lst (cV [List.replicate m 45])) := upd_same
  have eKL := sL _ _ eK
  have sKL : Same H1 (upd H2 L0 (.lst (cV [List.replicate m 45]))) := sK.trans sL
  have nKL : K0 ≠ L0 := ne_of_none eK nL0
  have nL1 : H1 L0 = none := by
    cases e : H1 L0 with
    | none => rfl
    | some o =>
      rw [sK _ _ e] at nL0
      cases nL0
  have nKH : H K0 = none := by
    cases e : H K0 with
    | none => rfl
    | some o =>
      rw [s1 _ _ e] at nK0
      cases nK0
  change gName _ _ _ (upd H2 L0 (.lst (cV [List.replicate m 45]))) _
  generalize upd H2 L0 (.lst (cV [List.replicate m 45])) = H3 at *
  try simp only [L2.start, List.map_cons, List.map_nil, List.length_cons, List.length_nil, List.replicate_succ, List.replicate_zero, List.cons_append, List.nil_append, List.set_cons_succ, List.set_cons_zero, Nat.reduceAdd, Nat.reduceSub, Nat.zero_add]
  have sgR : SgL (List.replicate m 45) := fun c hc => .inl (List.eq_of_mem_replicate hc)
  generalize hL : lk ga gb sa sb = L' at q full
  refine while_by (fun σ H4 => ∃ (y6 y7 y8 y9 : Option V) (n : Nat) (st ks : List (List Nat)), σ = [some (.ref pa.x), some (.ref pb.x), some (.int (most : Int)), some (.ref K0), some (.ref L0), some (.int (n : Int)), y6, y7, y8, y9] ∧ H4 K0 = some (.lst (cV ks)) ∧ H4 L0 = some (.lst (cV st.reverse)) ∧ Cb m st ∧ ks.length ≤ n ∧ st.length ≤ n + 1 ∧ n ≤ most ∧ Same H1 H4 ∧ dfs L' most [List.replicate m 45] [] = dfs L' (most - n) st ks)
    (fun (σ : L2.St) (_ : Hp) => match σ[5]? with | some (some (V.int n)) => ((most : Int) - n).toNat | _ => 0) ⟨_, _, _, _, 0, [List.replicate m 45], [], rfl, eKL, eL, fun x hx => by rw [List.mem_singleton.mp hx]; exact ⟨List.length_replicate, sgR⟩, Nat.le_refl _, Nat.le_refl _, Nat.zero_le _, sKL, rfl⟩ ?_ ?_
  · rintro σ H4 ⟨y6, y7, y8, y9, n, st, ks, rfl, eK4, eL4, hst, lk', ll, hn, s4, hd⟩
    refine ⟨_, rfl, (by show 0 ≤ sizeLine; decide), fun U nU => ?_⟩
    have sU := same_upd (o := .lst []) nU
    have eU : (upd H4 U (.lst [])) U = some (.lst []) := upd_same
    have eK5 := sU _ _ eK4
    have eL5 := sU _ _ eL4
    have s5 := s4.trans sU
    generalize upd H4 U (.lst []) = H5 at *
    refine ⟨.list ((st.reverse.map SX.S).map PyData.str), .list (([] : List Str).map PyData.str), .lst (SqL.of eL5) (dp_cV _), .lst (SqL.of eU) .nil, (pl_strs _).1, rfl, (pl_strs _).2, ?_⟩
    rw [eqv_strs]
    cases st with
    | nil =>
      refine ⟨_, rfl, ite2 (fun z => by cases z) (fun _ => ?_)⟩
      refine ⟨_, rfl, (by show 2 ≤ sizeLine; decide), fun t nt => ?_⟩
      have st' := same_upd (o := .tup [.str (Str.ofString "same"), .ref K0]) nt
      have hd : dfs L' most [List.replicate m 45] [] = some (.sm ks) := by
        rw [hd]
        cases most - n <;> rfl
      exact q _ _ _ hd ((s1.trans s5).trans st') ⟨K0, upd_same, st' _ _ eK5, nKH⟩
    | cons x st =>
      have hx := hst x List.mem_cons_self
      obtain ⟨lx, sx⟩ := hx
      have hst' : Cb m st := fun y hy => hst y (List.mem_cons_of_mem _ hy)
      refine ⟨_, rfl, ite2 (fun z => ?_) (fun z => absurd ?_ z)⟩
      · refine ⟨_, rfl, _, rfl, rfl, _, rfl, ite2 (fun c => ?_) (fun c => ?_)⟩
        · have e : n = most := by
            have := V.int.inj (of_decide_eq_true c)
            omega
          have hd : dfs L' most [List.replicate m 45] [] = none := by
            rw [hd, e, Nat.sub_self]
            rfl
          exact (full hd).elim
        have hn' : n < most := by
          have : ¬ (n : Int) = (most : Int) := fun e => c (decide_eq_true (congrArg V.int e))
          omega
        have hsub : most - n = (most - (n + 1)) + 1 := by omega
        rw [hsub] at hd
        dsimp only [tNext]
        refine ⟨_, rfl, _, _, rfl, rfl, ?_⟩
        try simp only [L2.start, List.map_cons, List.map_nil, List.length_cons, List.length_nil, List.replicate_succ, List.replicate_zero, List.cons_append, List.nil_append, List.set_cons_succ, List.set_cons_zero, Nat.reduceAdd, Nat.reduceSub, Nat.zero_add]
        have ecV : cV (x :: st).reverse = cV st.reverse ++ [.str (SX.S x)] := by
          rw [List.reverse_cons, cV_app]
          rfl
        rw [ecV] at eL5
        refine ⟨_, rfl, .inl ⟨rfl, _, SqL.of eL5⟩, L0, _, .str (SX.S x), rfl, rfl, eL5, by simp, ?_⟩
        rw [List.dropLast_concat]
        have eL6 : (upd H5 L0 (.lst (cV st.reverse))) L0 = some (.lst (cV st.reverse)) := upd_same
        have eK6 : (upd H5 L0 (.lst (cV st.reverse))) K0 = some (.lst (cV ks)) := by
          rw [upd_ne nKL]
          exact eK5
        have s6 : Same H1 (upd H5 L0 (.lst (cV st.reverse))) := fun y o e => by
          rw [upd_ne (ne_of_none e nL1)]
          exact s5 _ _ e
        generalize upd H5 L0 (.lst (cV st.reverse)) = H6 at *
        try simp only [L2.start, List.map_cons, List.map_nil, List.length_cons, List.length_nil, List.replicate_succ, List.replicate_zero, List.cons_append, List.nil_append, List.set_cons_succ, List.set_cons_zero, Nat.reduceAdd, Nat.reduceSub, Nat.zero_add]
        have ll' : st.length ≤ n := Nat.le_of_succ_le_succ ll
        refine ⟨_, rfl, _, rfl, _, rfl, pa, pb, m, ga, gb, na, nb, sa, sb, x, rfl, hT1.same s6, lx, fun H7 s7 => ?_⟩
        rw [hL]
        try simp only [L2.start, List.map_cons, List.map_nil, List.length_cons, List.length_nil, List.replicate_succ, List.replicate_zero, List.cons_append, List.nil_append, List.set_cons_succ, List.set_cons_zero, Nat.reduceAdd, Nat.reduceSub, Nat.zero_add]
        have eL7 := s7 _ _ eL6
        have eK7 := s7 _ _ eK6
        have s17 := s6.trans s7
        have nK1 : H1 K0 = none := nK0
        have upK : ∀ {o : HO} {G : Hp}, Same H1 G → Same H1 (upd G K0 o) := fun {o G} s y u e => by
          rw [upd_ne (ne_of_none e nK1)]
          exact s _ _ e
        have upL : ∀ {o : HO} {G : Hp}, Same H1 G → Same H1 (upd G L0 o) := fun {o G} s y u e => by
          rw [upd_ne (ne_of_none e nL1)]
          exact s _ _ e
        cases hl : L' x with
        | op =>
          have ho : 45 ∈ x := lk_open okA okB gA gB hT1.oa.1 hT1.ob.1 lx sx (by rw [hL]; exact hl)
          refine ⟨_, rfl, rfl, _, rfl, ite2 (fun c => absurd c (by decide)) (fun _ => ?_)⟩
          dsimp only [tNext]
          refine ⟨_, rfl, rfl, _, rfl, ite2 (fun c => absurd c (by decide)) (fun _ => ?_)⟩
          obtain ⟨rest, ei, ai⟩ := sidx ho
          generalize hi : ix45 x = i at *
          refine ⟨_, rfl, _, rfl, rfl, _, _, i, rest, rfl, rfl, ei, x, i, rfl, ai, by omega, fun t H8 nt s8 et => ?_⟩
          refine ⟨t, _, rfl, .inl (.inl et), rfl, ?_⟩
          refine ⟨_, _, rfl, ?_⟩
          dsimp only [gName]
          try simp only [L2.start, List.map_cons, List.map_nil, List.length_cons, List.length_nil, List.replicate_succ, List.replicate_zero, List.cons_append, List.nil_append, List.set_cons_succ, List.set_cons_zero, Nat.reduceAdd, Nat.reduceSub, Nat.zero_add]
          refine ⟨_, _, rfl, ?_⟩
          dsimp only [gName, gNil]
          try simp only [L2.start, List.map_cons, List.map_nil, List.length_cons, List.length_nil, List.replicate_succ, List.replicate_zero, List.cons_append, List.nil_append, List.set_cons_succ, List.set_cons_zero, Nat.reduceAdd, Nat.reduceSub, Nat.zero_add]
          have eL8 := s8 _ _ eL7
          have eK8 := s8 _ _ eK7
          have s18 := s17.trans s8
          refine ⟨trivial, _, rfl, .inl ⟨rfl, _, SqL.of eL8⟩, _, rfl, _, rfl, (by show 2 ≤ sizeLine; decide), fun U2 nU2 => ?_⟩
          have sU2 := same_upd (o := .lst [.str (SX.S (x.set i 49)), .str (SX.S (x.set i 48))]) nU2
          have eU2 : (upd H8 U2 (.lst [.str (SX.S (x.set i 49)), .str (SX.S (x.set i 48))])) U2 = some (.lst [.str (SX.S (x.set i 49)), .str (SX.S (x.set i 48))]) := upd_same
          have eL9 := sU2 _ _ eL8
          have eK9 := sU2 _ _ eK8
          have s19 := s18.trans sU2
          generalize upd H8 U2 (.lst [.str (SX.S (x.set i 49)), .str (SX.S (x.set i 48))]) = H9 at *
          refine ⟨L0, U2, _, _, rfl, rfl, eL9, eU2, by rw [cV_len, List.length_reverse]; exact Nat.le_of_lt (big_lt (show st.length + 2 ≤ _ by omega)), ?_⟩
          refine ⟨⟨_, _, _, _, n + 1, x.set i 48 :: x.set i 49 :: st, ks, rfl, ?_, ?_, fun y hy => ?_, by omega, ?_, by omega, upL s19, ?_⟩, ?_⟩
          · rw [upd_ne nKL]
            exact eK9
          · rw [upd_same, List.reverse_cons, List.reverse_cons, List.append_assoc, cV_app]
            rfl
          · rcases List.mem_cons.mp hy with w | w
            · rw [w]
              exact Cb.set ⟨lx, sx⟩ i 48 (.inr (.inl rfl))
            · rcases List.mem_cons.mp w with w | w
              · rw [w]
                exact Cb.set ⟨lx, sx⟩ i 49 (.inr (.inr rfl))
              · exact hst' y w
          · show st.length + 2 ≤ n + 1 + 1
            omega
          · rw [hd]
            show (match L' x with | .un => _ | .sm => _ | .op => _) = _
            rw [hl, hi]
          · show ((most : Int) - ((n : Int) + 1)).toNat < ((most : Int) - (n : Int)).toNat
            omega
        | sm =>
          refine ⟨_, rfl, rfl, _, rfl, ite2 (fun c => absurd c (by decide)) (fun _ => ?_)⟩
          dsimp only [tNext]
          refine ⟨_, rfl, rfl, _, rfl, ite2 (fun _ => ?_) (fun c => absurd rfl c)⟩
          refine ⟨_, rfl, .inl ⟨rfl, _, SqL.of eK7⟩, _, rfl, K0, _, _, rfl, rfl, eK7, by rw [cV_len]; exact big_lt (by omega), ?_⟩
          refine ⟨⟨_, _, _, _, n + 1, st, ks ++ [x], rfl, ?_, ?_, hst', by rw [List.length_append]; exact Nat.succ_le_succ lk', by omega, by omega, upK s17, ?_⟩, ?_⟩
          · rw [upd_same, cV_app]
            rfl
          · rw [upd_ne nKL.symm]
            exact eL7
          · rw [hd]
            show (match L' x with | .un => _ | .sm => _ | .op => _) = _
            rw [hl]
          · show ((most : Int) - ((n : Int) + 1)).toNat < ((most : Int) - (n : Int)).toNat
            omega
        | un =>
          refine ⟨_, rfl, rfl, _, rfl, ite2 (fun _ => ?_) (fun c => absurd rfl c)⟩
          refine ⟨_, rfl, _, rfl, ?_, (by show 2 ≤ sizeLine; decide), fun t nt => ?_⟩
          · rw [SX.S_len, show (Str.ofString "0").length = 1 by decide +kernel]
            omega
          · have hd : dfs L' most [List.replicate m 45] [] = some (.un x) := by
              rw [hd]
              show (match L' x with | .un => _ | .sm => _ | .op => _) = _
              rw [hl]
            refine q _ _ _ hd ((s1.trans s17).trans (same_upd nt)) ?_
            show (upd _ t _) t = _
            rw [upd_same, replace_z0]
      · rw [List.reverse_cons, List.map_append]
        simp
  · rintro σ H4 Q1 Q2 hq ⟨a, ha, hz, hf⟩
    refine ⟨a, ha, hz, fun U nU => ?_⟩
    obtain ⟨d, e, h1, h2, h3, h4, h5, k, hk, h6⟩ := hf U nU
    exact ⟨d, e, h1, h2, h3, h4, h5, k, hk, hq _ _ h6⟩
end
section
variable {P : Program} {w : World} {K : PySem.W.Frag} {mg : Str → Option Value} {base : Heap}
variable {C : Addr} {za : Nat → Addr} {zl : Nat → FuncData} {E_TooMuch I_TooMuch : Addr}
theorem walk_zlS {t : Bool} {x : List Nat} {a : Addr} {ys : List V} {n : Nat} (hx : x.length = n) (hy : ys.length = n) : Walk (Itzl t K (SX.S x) a) n (fun H => bif t then SqT K H a ys else SqL K H a ys) (YPair (fun i => (x[i]?).map fun c => .str (SX.S [c])) (fun i => ys[i]?)) := by
  have w := walk_zl (K := K) (t := t) (x := SX.S x) (a := a) (ys := ys) (n := n) (by show x.toArray.size = n; rw [List.size_toArray, hx]) hy
  refine ⟨w.goes, w.stops, fun i H v H' hi g z => ?_⟩
  obtain ⟨T, u, v', e1, e2, e3, e4, e5⟩ := w.yields i H v H' hi g z
  refine ⟨T, u, v', e1, e2, e3, ?_, e5⟩
  rw [← e4]
  show _ = (x.toArray[i]?).map _
  rw [List.getElem?_toArray]
theorem pad_ok : ∀ k : Nat, k < 101 → PadOk (k : Int) = true := by decide +kernel
def zb (n : Int) (k : Nat) : Str := Txt.zfill (binT n.toNat) (k : Int)
def spBits : Sp := fun vs H Q _ => ∃ (n k : Nat), vs = [.int (n : Int), .int (k : Int)] ∧ (binT n).length ≤ 100 ∧ k ≤ 100 ∧ Q (.str (zb (n : Int) k)) H
theorem ok_bits_text (B : Bl mg) (L : LL K mg C za zl E_TooMuch I_TooMuch) : FnOk P w K mg base CX0 1 (za 7) (zl 7) ["number", "many"] spBits := by
  refine L.F_bits_text.ok sc_bits_text (fun vs H Q E h => ?_) (fun cdv A outer s H vs Q E hr h => ?_)
  · obtain ⟨n, k, rfl, _⟩ := h
    rfl
  obtain ⟨n, k, rfl, hl, hp, q⟩ := h
  refine ⟨_, (pss_one (ps_ret (pe_bm PySem.F.plainAttrs_str PySem.F.slot_str_zfill PySem.F.type_str_zfill mt_zfill (pe_joined1 (pe_fmtB (pv 0) (pe_joined1 pe_str))) (pa_cons (pv 1) pa_nil)))), ?_⟩
  refine ⟨_, rfl, n, rfl, rfl, Nat.le_trans hl (by decide), rfl, _, rfl, _, _, rfl, rfl, pad_ok k (by omega), q⟩
end
section
variable {P : Program} {w : World} {K : PySem.W.Frag} {mg : Str → Option Value} {base : Heap}
variable {C : Addr} {za : Nat → Addr} {zl : Nat → FuncData} {E_TooMuch I_TooMuch : Addr}
/-! ### holes -/
def cstep (f : Int) (p : Nat × Int) : Int := if p.1 = 49 then Builtin.bitAnd f p.2 else if p.1 = 48 then Builtin.bitAnd f (Builtin.bitNot p.2) else f
def cinV (m : Nat) (x : List Nat) : Int := if x.length = m then (x.zip (acs m)).foldl cstep (2 ^ 2 ^ m - 1) else 0
def holeV (m : Nat) (cs : List (List Nat)) : Int := cs.foldl (fun l x => Builtin.bitAnd l (Builtin.bitNot (cinV m x))) (2 ^ 2 ^ m - 1)
theorem acs_len (m : Nat) : (acs m).length = m := by
  unfold acs
  rw [List.length_map, List.length_range]
def spCin : Sp := fun vs H Q _ => ∃ (x : List Nat) (v : Addr) (m : Nat), vs = [.str (SX.S x), .ref v, .int (m : Int)] ∧ H v = some (.lst ((acs m).map V.int)) ∧ m ≤ 8 ∧ x.length ≤ 900 ∧ ∀ H', Same H H' → Q (.int (cinV m x)) H'
theorem ok_cases_in (B : Bl mg) (L : LL K mg C za zl E_TooMuch I_TooMuch) : FnOk P w K mg base CX0 1 (za 13) (zl 13) ["cube", "values", "many"] spCin := by
  refine L.F_cases_in.ok sc_cases_in (fun vs H Q E h => ?_) (fun cdv A outer s H vs Q E hr h => ?_)
  · obtain ⟨x, v, m, rfl, _⟩ := h
    rfl
  obtain ⟨x, v, m, rfl, ev, hm, hx, q⟩ := h
  refine ⟨_, (pss_cons (ps_if (pt_cmpR op_ne (pe_callB call_len_str (by rfl) B.len PySem.boot_len (pa_cons (pv 0) pa_nil)) (pv 2) (nomark _)) (pss_one (ps_ret pe_int)) pss_nil)
    (pss_cons (ps_set (i := 3) sc_cases_in.nd rfl (.inl rfl) (pe_op op_sub (pe_op op_oneShl pe_int (pe_op op_oneShl pe_int (pv 2))) pe_int))
    (pss_cons (ps_for PassesOwn.never rfl (pi_zl (by rfl) B.zip (pa_cons (pv 0) (pa_cons (pv 1) pa_nil))) (pg_tup (by rfl) (pgs_cons (pg_name (i := 4) sc_cases_in.nd rfl (.inl rfl)) (pgs_cons (pg_name (i := 5) sc_cases_in.nd rfl (.inl rfl)) pgs_nil))) (pss_one (ps_if (pt_cmpR op_eq (pv 4) pe_str (nomark _)) (pss_one (ps_aug (i := 3) sc_cases_in.nd rfl (.inl rfl) (pv 5) iop_and)) (pss_one (ps_if (pt_cmpR op_eq (pv 4) pe_str (nomark _)) (pss_one (ps_aug (i := 3) sc_cases_in.nd rfl (.inl rfl) (pe_un un_inv (pv 5)) iop_and)) pss_nil)))))
    (pss_one (ps_ret (pv 3)))))), ?_⟩
  have b12 : (2 : Nat) ^ m ≤ 256 := Nat.le_trans (Nat.pow_le_pow_right (by decide) hm) (by decide)
  have c12 : (2 : Int) ^ m = ((2 ^ m : Nat) : Int) := (PySem.W.kbt_cast m).symm
  refine ⟨_, rfl, _, rfl, zS (by omega), ?_⟩
  rw [SX.S_len]
  unfold cinV at q
  by_cases hl : x.length = m
  · rw [if_pos hl] at q
    refine ⟨_, rfl, rfl, _, rfl, ite2 (fun z => ?_) (fun _ => ?_)⟩
    · rw [hl] at z
      simp at z
    dsimp only [tNext]
    refine ⟨_, rfl, m, rfl, rfl, by omega, 2 ^ m, rfl, congrArg V.int c12, by omega, _, _, rfl, rfl, ?_⟩
    try simp only [L2.start, List.map_cons, List.map_nil, List.length_cons, List.length_nil, List.replicate_succ, List.replicate_zero, List.cons_append, List.nil_append, List.set_cons_succ, List.set_cons_zero, Nat.reduceAdd, Nat.reduceSub, Nat.zero_add]
    refine ⟨_, rfl, _, rfl, false, SX.S x, v, _, rfl, SqL.of ev, ?_⟩
    refine for_it (walk_zlS (K := K) (t := false) (x := x) (a := v) (ys := (acs m).map V.int) (n := m) hl (by rw [List.length_map, acs_len])) (fun j σ H9 => ∃ y4 y5 : Option V, σ = [some (.str (SX.S x)), some (.ref v), some (.int (m : Int)), some (.int (((x.zip (acs m)).take j).foldl cstep (2 ^ 2 ^ m - 1))), y4, y5] ∧ Same H H9) ⟨_, _, rfl, Same.refl _⟩ (fun j σ H9 _ ⟨_, _, _, s9⟩ => SqL.of (s9 _ _ ev)) ?_ ?_
    · rintro j w σ H9 H10 hj ⟨y4, y5, rfl, s9⟩ ⟨T, u1, u2, rfl, nT, rfl, e1, e2⟩
      obtain ⟨c, hc, rfl⟩ := Option.map_eq_some_iff.mp e1
      replace e2 : ((acs m).map V.int)[j]? = some u2 := e2
      rw [List.getElem?_map] at e2
      obtain ⟨i, hi, rfl⟩ := Option.map_eq_some_iff.mp e2
      have sT := same_upd (o := .tup [.str (SX.S [c]), .int i]) nT
      have tk : (x.zip (acs m)).take (j + 1) = (x.zip (acs m)).take j ++ [(c, i)] := by
        rw [List.take_add_one, (List.getElem?_zip_eq_some (z := (c, i))).mpr ⟨hc, hi⟩]
        rfl
      rw [tk, List.foldl_append]
      refine ⟨T, _, rfl, .inl (.inl upd_same), rfl, _, _, rfl, _, _, rfl, rfl, ?_⟩
      generalize upd H9 T (.tup [.str (SX.S [c]), .int i]) = Ha at *
      generalize ((x.zip (acs m)).take j).foldl cstep (2 ^ 2 ^ m - 1) = f at *
      dsimp only [gNil]
      try simp only [L2.start, List.map_cons, List.map_nil, List.length_cons, List.length_nil, List.replicate_succ, List.replicate_zero, List.cons_append, List.nil_append, List.set_cons_succ, List.set_cons_zero, Nat.reduceAdd, Nat.reduceSub, Nat.zero_add]
      have sTT := s9.trans sT
      refine ⟨_, rfl, rfl, _, rfl, ite2 (fun z => ?_) (fun z => ?_)⟩
      · rw [d49] at z
        have z := of_decide_eq_true z
        refine ⟨_, rfl, _, rfl, _, _, rfl, rfl, ?_⟩
        exact ⟨_, _, by rw [show List.foldl cstep f [(c, i)] = Builtin.bitAnd f i from if_pos z]; rfl, sTT⟩
      · rw [d49] at z
        have z := of_decide_eq_false (Bool.eq_false_iff.mpr z)
        refine ⟨_, rfl, rfl, _, rfl, ite2 (fun y => ?_) (fun y => ?_)⟩
        · rw [d48] at y
          have y := of_decide_eq_true y
          refine ⟨_, rfl, _, rfl, _, rfl, _, _, rfl, rfl, ?_⟩
          exact ⟨_, _, by rw [show List.foldl cstep f [(c, i)] = Builtin.bitAnd f (Builtin.bitNot i) from (if_neg z).trans (if_pos y)]; rfl, sTT⟩
        · rw [d48] at y
          have y := of_decide_eq_false (Bool.eq_false_iff.mpr y)
          exact ⟨_, _, by rw [show List.foldl cstep f [(c, i)] = f from (if_neg z).trans (if_neg y)], sTT⟩
    · rintro σ H9 ⟨y4, y5, rfl, s9⟩
      rw [List.take_of_length_le (by rw [List.length_zip, acs_len, hl]; omega)]
      exact ⟨_, rfl, q H9 s9⟩
  · rw [if_neg hl] at q
    refine ⟨_, rfl, rfl, _, rfl, ite2 (fun _ => ?_) (fun z => ?_)⟩
    · exact q H (Same.refl _)
    · refine absurd ?_ z
      simp only [Bool.not_eq_true', decide_eq_false_iff_not]
      intro e
      have := V.int.inj e
      omega
theorem and_pos0 {x y : Int} (h : 0 ≤ x) : 0 ≤ Builtin.bitAnd x y ∧ Builtin.bitAnd x y ≤ x := by
  obtain ⟨n, rfl⟩ : ∃ n : Nat, x = (n : Int) := ⟨x.toNat, by omega⟩
  clear h
  induction n using Nat.strongRecOn generalizing y with
  | ind n ih =>
    by_cases n0 : n = 0
    · subst n0
      have e : Builtin.bitAnd ((0 : Nat) : Int) y = 0 := by
        have := PySem.W.kbt_mask' y 0
        rw [Int.pow_zero] at this
        rw [show (((0 : Nat) : Int)) = 1 - 1 from rfl, this]
        omega
      rw [e]
      exact ⟨by decide, by decide⟩
    · have hh := PySem.W.kbt_halves (n : Int) y
      have i := ih (n / 2) (by omega) (y := y / 2)
      rw [show ((n / 2 : Nat) : Int) = (n : Int) / 2 by omega] at i
      rw [hh]
      split <;> omega
theorem holeV_in (m : Nat) : ∀ cs : List (List Nat), 0 ≤ holeV m cs ∧ holeV m cs < 2 ^ 2 ^ m := by
  intro cs
  have h0 := PySem.W.kbt_pos (2 ^ m)
  unfold holeV
  have key : ∀ (cs : List (List Nat)) (l : Int), 0 ≤ l → l < 2 ^ 2 ^ m → 0 ≤ cs.foldl (fun l x => Builtin.bitAnd l (Builtin.bitNot (cinV m x))) l ∧ cs.foldl (fun l x => Builtin.bitAnd l (Builtin.bitNot (cinV m x))) l < 2 ^ 2 ^ m := by
    intro cs
    induction cs with
    | nil => exact fun l a c => ⟨a, c⟩
    | cons x cs ih =>
      intro l a c
      have h := and_pos0 (x := l) (y := Builtin.bitNot (cinV m x)) a
      exact ih _ h.1 (Int.lt_of_le_of_lt h.2 c)
  exact key cs _ (by omega) (by omega)
/-- a whole number is a power of two times an odd one -/
theorem odd_part : ∀ n : Nat, 0 < n → ∃ k a : Nat, n = 2 ^ k * (2 * a + 1) := by
  intro n
  induction n using Nat.strongRecOn with
  | ind n ih =>
    intro h
    by_cases c : n % 2 = 1
    · exact ⟨0, n / 2, by rw [Nat.pow_zero]; omega⟩
    · obtain ⟨k, a, e⟩ := ih (n / 2) (by omega) (by omega)
      exact ⟨k + 1, a, by rw [Nat.pow_succ, Nat.mul_comm (2 ^ k) 2, Nat.mul_assoc, ← e]; omega⟩
theorem low_bit {l : Int} {m : Nat} (h0 : 0 < l) (h1 : l < 2 ^ 2 ^ m) : ∃ k : Nat, Builtin.bitAnd l (-l) = 2 ^ k ∧ k < 2 ^ m := by
  obtain ⟨n, rfl⟩ : ∃ n : Nat, l = (n : Int) := ⟨l.toNat, by omega⟩
  obtain ⟨k, a, e⟩ := odd_part n (by omega)
  have e2 : (n : Int) = 2 ^ k * (2 * (a : Int) + 1) := by
    rw [e, Int.natCast_mul, PySem.W.kbt_cast]
    rfl
  refine ⟨k, by rw [e2]; exact PySem.W.kbt_low k a, ?_⟩
  have c : n < 2 ^ 2 ^ m := by
    have : ((2 ^ 2 ^ m : Nat) : Int) = 2 ^ 2 ^ m := PySem.W.kbt_cast _
    omega
  have d : 2 ^ k ≤ n := by
    rw [e]
    exact Nat.le_mul_of_pos_right _ (by omega)
  exact (Nat.pow_lt_pow_iff_right (by decide : 1 < 2)).mp (Nat.lt_of_le_of_lt d c)
theorem bin_len : ∀ n : Nat, n < 256 → (binT n).length ≤ 100 := by decide +kernel
def spHole : Sp := fun vs H Q _ => ∃ (t : Addr) (m : Nat) (cs : List (List Nat)), vs = [.ref t, .int (m : Int)] ∧ H t = some (.lst (cs.map fun x => V.str (SX.S x))) ∧ m ≤ 8 ∧ (∀ x ∈ cs, x.length ≤ 900) ∧
  (holeV m cs = 0 → ∀ H', Same H H' → Q .non H') ∧ (holeV m cs ≠ 0 → ∀ (k : Nat) (H' : Hp), Same H H' → Builtin.bitAnd (holeV m cs) (-holeV m cs) = 2 ^ k → k < 2 ^ m → Q (.str (zb (k : Int) m)) H')
theorem ok_hole (B : Bl mg) (L : LL K mg C za zl E_TooMuch I_TooMuch) : FnOk P w K mg base CX0 4 (za 12) (zl 12) ["cubes", "many"] spHole := by
  have G_all_cases : FnOk P w K mg base CX0 3 (za 4) (zl 4) ["many"] spAllC := (ok_all_cases B L).mono (by decide)
  have G_cases_in : FnOk P w K mg base CX0 3 (za 13) (zl 13) ["cube", "values", "many"] spCin := (ok_cases_in B L).mono (by decide)
  have G_bits_text : FnOk P w K mg base CX0 3 (za 7) (zl 7) ["number", "many"] spBits := (ok_bits_text B L).mono (by decide)
  refine L.F_hole.ok sc_hole (fun vs H Q E h => ?_) (fun cdv A outer s H vs Q E hr h => ?_)
  · obtain ⟨t, m, cs, rfl, _⟩ := h
    rfl
  obtain ⟨t, m, cs, rfl, et, hm, hcs, q0, q1⟩ := h
  refine ⟨_, (pss_cons (ps_set (i := 2) sc_hole.nd rfl (.inl rfl) (pe_call G_all_cases hr (by rfl) L.m_all_cases L.F_all_cases.kp L.b_all_cases .nil pass0 (pa_cons (pv 1) pa_nil)))
    (pss_cons (ps_set (i := 3) sc_hole.nd rfl (.inl rfl) (pe_op op_sub (pe_op op_oneShl pe_int (pe_op op_oneShl pe_int (pv 1))) pe_int))
    (pss_cons (ps_for PassesOwn.never rfl (pi_list (pv 0)) (pg_name (i := 4) sc_hole.nd rfl (.inl rfl)) (pss_one (ps_aug (i := 3) sc_hole.nd rfl (.inl rfl) (pe_un un_inv (pe_call G_cases_in hr (by rfl) L.m_cases_in L.F_cases_in.kp L.b_cases_in .nil pass0 (pa_cons (pv 4) (pa_cons (pv 2) (pa_cons (pv 1) pa_nil))))) iop_and)))
    (pss_cons (ps_if (pt_cmpR op_eq (pv 3) pe_int (nomark _)) (pss_one (ps_ret pe_non)) pss_nil)
    (pss_one (ps_ret (pe_call G_bits_text hr (by rfl) L.m_bits_text L.F_bits_text.kp L.b_bits_text .nil pass0 (pa_cons (pe_op op_sub (pe_bits (pe_op op_and (pv 3) (pe_un un_neg (pv 3)))) pe_int) (pa_cons (pv 1) pa_nil))))))))), ?_⟩
  have b12 : (2 : Nat) ^ m ≤ 256 := Nat.le_trans (Nat.pow_le_pow_right (by decide) hm) (by decide)
  have c12 : (2 : Int) ^ m = ((2 ^ m : Nat) : Int) := (PySem.W.kbt_cast m).symm
  refine ⟨_, rfl, m, rfl, by omega, fun D H1 nD s1 eD => ?_⟩
  try simp only [L2.start, List.map_cons, List.map_nil, List.length_cons, List.length_nil, List.replicate_succ, List.replicate_zero, List.cons_append, List.nil_append, List.set_cons_succ, List.set_cons_zero, Nat.reduceAdd, Nat.reduceSub, Nat.zero_add]
  refine ⟨_, rfl, m, rfl, rfl, by omega, 2 ^ m, rfl, congrArg V.int c12, by omega, _, _, rfl, rfl, ?_⟩
  try simp only [L2.start, List.map_cons, List.map_nil, List.length_cons, List.length_nil, List.replicate_succ, List.replicate_zero, List.cons_append, List.nil_append, List.set_cons_succ, List.set_cons_zero, Nat.reduceAdd, Nat.reduceSub, Nat.zero_add]
  have et1 := s1 _ _ et
  refine ⟨_, rfl, t, rfl, ⟨_, SqL.of et1⟩, ?_⟩
  refine for_it (walk_list (K := K) (a := t) (xs := cs.map fun x => V.str (SX.S x))) (fun j σ H9 => ∃ y4 : Option V, σ = [some (.ref t), some (.int (m : Int)), some (.ref D), some (.int (holeV m (cs.take j))), y4] ∧ Same H1 H9) ⟨_, rfl, Same.refl _⟩ (fun j σ H9 _ ⟨_, _, s9⟩ => SqL.of (s9 _ _ et1)) ?_ ?_
  · rintro j v σ H9 H10 hj ⟨y4, rfl, s9⟩ ⟨rfl, hz⟩
    rw [List.getElem?_map] at hz
    obtain ⟨x, hx, rfl⟩ := Option.map_eq_some_iff.mp hz
    dsimp only [gName]
    try simp only [L2.start, List.map_cons, List.map_nil, List.length_cons, List.length_nil, List.replicate_succ, List.replicate_zero, List.cons_append, List.nil_append, List.set_cons_succ, List.set_cons_zero, Nat.reduceAdd, Nat.reduceSub, Nat.zero_add]
    refine ⟨_, rfl, _, rfl, _, rfl, _, rfl, x, D, m, rfl, s9 _ _ eD, hm, hcs x (List.mem_of_getElem? hx), fun H11 s11 => ?_⟩
    refine ⟨_, rfl, _, _, rfl, rfl, ?_⟩
    refine ⟨some (.str (SX.S x)), ?_, s9.trans s11⟩
    rw [List.take_add_one, hx]
    unfold holeV
    rw [List.foldl_append]
    rfl
  · rintro σ H9 ⟨y4, rfl, s9⟩
    rw [List.length_map, List.take_length]
    have s09 := s1.trans s9
    obtain ⟨h0, h1⟩ := holeV_in m cs
    by_cases hz : holeV m cs = 0
    · dsimp only [tSeq]
      refine ⟨_, rfl, rfl, _, rfl, ite2 (fun _ => ?_) (fun z => absurd (by rw [hz]; rfl) z)⟩
      exact q0 hz H9 s09
    · dsimp only [tSeq]
      refine ⟨_, rfl, rfl, _, rfl, ite2 (fun z => absurd (V.int.inj (of_decide_eq_true z)) hz) (fun _ => ?_)⟩
      dsimp only [tNext]
      obtain ⟨k, ek, lk⟩ := low_bit (by omega) h1
      refine ⟨_, rfl, _, rfl, _, rfl, _, _, rfl, rfl, _, rfl, _, _, rfl, rfl, ?_⟩
      refine ⟨_, rfl, ?_⟩
      have eb : Builtin.Int.intBits (Builtin.bitAnd (holeV m cs) (-holeV m cs)) = k + 1 := by
        rw [ek]
        have a : ((2 : Int) ^ k).natAbs = 2 ^ k := by
          rw [← PySem.W.kbt_cast k]
          rfl
        have u : Builtin.Int.intBits ((2 : Int) ^ k) ≤ k + 1 := PySem.intBits_le_iff.mpr (by rw [a]; exact Nat.pow_lt_pow_succ (by decide))
        have v : ¬ Builtin.Int.intBits ((2 : Int) ^ k) ≤ k := fun z => by
          have := PySem.intBits_le_iff.mp z
          rw [a] at this
          exact Nat.lt_irrefl _ this
        omega
      refine ⟨k, m, ?_, bin_len k (by omega), by omega, q1 hz k H9 s09 ek lk⟩
      show [V.int (((Builtin.Int.intBits (Builtin.bitAnd (holeV m cs) (-holeV m cs)) : Nat) : Int) - 1), V.int (m : Int)] = _
      rw [eb, show (((k + 1 : Nat) : Int) - 1) = (k : Int) by omega]
end
section
variable {P : Program} {w : World} {K : PySem.W.Frag} {mg : Str → Option Value} {base : Heap}
variable {C : Addr} {za : Nat → Addr} {zl : Nat → FuncData} {E_TooMuch I_TooMuch : Addr}
/-! ### what was handed in -/
/-- a thing and whether it's a text of these signs -/
inductive Thg (H : Hp) : V → Option (List Nat) → Prop
  | non : Thg H .non none
  | int (i : Int) : Thg H (.int i) none
  | bl (b : Bool) : Thg H (.bl b) none
  | tup {t : Addr} {xs : List V} (e : H t = some (.tup xs)) : Thg H (.ref t) none
  | lst {t : Addr} {xs : List V} (e : H t = some (.lst xs)) : Thg H (.ref t) none
  | str {x : List Nat} (h : x.length ≤ 900) : Thg H (.str (SX.S x)) (some x)
theorem Thg.same {H H' : Hp} {v : V} {o : Option (List Nat)} (h : Thg H v o) (s : Same H H') : Thg H' v o := by
  cases h with
  | non => exact .non
  | int i => exact .int i
  | bl b => exact .bl b
  | tup e => exact .tup (s _ _ e)
  | lst e => exact .lst (s _ _ e)
  | str h => exact .str h
def isT (G : List Nat) (m : Nat) : Option (List Nat) → Bool
  | none => false
  | some x => decide (x.length = m) && x.all fun c => decide (c ∈ G)
def spIsT : Sp := fun vs H Q _ => ∃ (G : List Nat) (m : Nat) (v : V) (o : Option (List Nat)), vs = [.str (SX.S G), .int (m : Int), v] ∧ Thg H v o ∧ G.length ≤ 20 ∧ ∀ H', Same H H' → Q (.bl (isT G m o)) H'
theorem ok_is_text_of (B : Bl mg) (L : LL K mg C za zl E_TooMuch I_TooMuch) : FnOk P w K mg base CX0 1 (za 14) (zl 14) ["signs", "many", "thing"] spIsT := by
  refine L.F_is_text_of.ok sc_is_text_of (fun vs H Q E h => ?_) (fun cdv A outer s H vs Q E hr h => ?_)
  · obtain ⟨G, m, v, o, rfl, _⟩ := h
    rfl
  obtain ⟨G, m, v, o, rfl, hv, hG, q⟩ := h
  refine ⟨_, (pss_one (ps_ret (pe_and (pe_callB call_isi (by rfl) B.isinstance boot_isinstance (pa_cons (pv 2) (pa_cons (pe_bltn (v := .ty "str") (by rfl) B.str PyProof.Rows.boot_str rfl) pa_nil))) (pe_and (pe_cmpR op_eq (pe_callB call_len_str (by rfl) B.len PySem.boot_len (pa_cons (pv 2) pa_nil)) (pv 1) (nomark _)) (pe_one (pe_callB (cr_all rfl) (by rfl) B.all boot_all (pa_cons (pe_lc (own := [("sign", 3)]) (by rfl) sc_is_text_of.nd (pi_str (pv 2)) (blkOk_by (own := [("sign", 3)]) (N := ["signs", "many", "thing", "sign"]) (sc := defScope s_is_text_of) (by decide +kernel)) (fun _ _ _ _ _ => pg_name (i := 3) sc_is_text_of.nd rfl (Or.inl rfl)) (fun _ _ _ _ _ => pts_nil) (fun _ _ _ _ _ => (pe_cmpR op_in_sign (pv 3) (pv 0) (by rfl)))) pa_nil))))))), ?_⟩
  cases hv with
  | non => exact ⟨_, rfl, _, _, _, _, _, rfl, .ty _, .base .non, kit_ty (by decide +kernel : kitB "NoneType" "str" = some false), _, rfl, iteF (q H (Same.refl _))⟩
  | int i => exact ⟨_, rfl, _, _, _, _, _, rfl, .ty _, .base (.int _), kit_ty (by decide +kernel : kitB "int" "str" = some false), _, rfl, iteF (q H (Same.refl _))⟩
  | bl b => exact ⟨_, rfl, _, _, _, _, _, rfl, .ty _, .base (.bl _), kit_ty (by decide +kernel : kitB "bool" "str" = some false), _, rfl, iteF (q H (Same.refl _))⟩
  | tup e => exact ⟨_, rfl, _, _, _, _, _, rfl, .ty _, ty_tup (SqT.of e), kit_ty (by decide +kernel : kitB "tuple" "str" = some false), _, rfl, iteF (q H (Same.refl _))⟩
  | lst e => exact ⟨_, rfl, _, _, _, _, _, rfl, .ty _, ty_lst (SqL.of e), kit_ty (by decide +kernel : kitB "list" "str" = some false), _, rfl, iteF (q H (Same.refl _))⟩
  | @str x hx =>
    refine ⟨_, rfl, _, _, _, _, _, rfl, .ty _, .base (.str _), kit_ty (by decide +kernel : kitB "str" "str" = some true), _, rfl, iteT ?_⟩
    refine ⟨_, rfl, _, rfl, zS (by omega), ?_⟩
    rw [SX.S_len]
    refine ⟨_, rfl, rfl, _, rfl, ite2 (fun z => ?_) (fun z => ?_)⟩
    · have lx : x.length = m := by
        have := V.int.inj (of_decide_eq_true z)
        omega
      refine ⟨_, rfl, SX.S x, rfl, fun D nD => ?_⟩
      refine lc_it (walk_S (x := x)) (fun i H6 => Same H H6 ∧ H6 D = some (.lst (((x.map fun c => decide (c ∈ G)).take i).map V.bl))) ⟨same_upd nD, upd_same⟩ (fun _ _ _ _ => trivial) ?_ ?_
      · rintro i v H6 H7 hi ⟨s6, eD⟩ ⟨rfl, c, hc, rfl⟩
        refine ⟨rfl, yesT ?_⟩
        refine ⟨_, rfl, _, rfl, c, _, rfl, rfl, ?_⟩
        refine ⟨_, eD, ?_, fun y o e => ?_, ?_⟩
        · rw [List.length_map, List.length_take, List.length_map]
          exact Nat.lt_of_le_of_lt (Nat.min_le_right _ _) (small1000 (by omega))
        · rw [upd_ne (ne_of_none e nD)]
          exact s6 _ _ e
        · rw [upd_same, List.take_add_one, List.getElem?_map, hc, List.map_append]
          rfl
      · rintro H6 ⟨s6, eD⟩
        rw [List.take_of_length_le (by rw [List.length_map]; exact Nat.le_refl _)] at eD
        refine ⟨D, _, rfl, SqL.of eD, ?_⟩
        have e : (x.map fun c => decide (c ∈ G)).all id = isT G m (some x) := by
          show _ = (decide (x.length = m) && x.all fun c => decide (c ∈ G))
          rw [decide_eq_true lx, List.all_map]
          rfl
        rw [e]
        exact q H6 s6
    · have lx : ¬ x.length = m := fun y => z (decide_eq_true (by rw [y]))
      have e : isT G m (some x) = false := by
        show (decide (x.length = m) && x.all fun c => decide (c ∈ G)) = false
        rw [decide_eq_false lx]
        rfl
      have q := q H (Same.refl _)
      rw [e] at q
      exact q
end
section
variable {P : Program} {w : World} {K : PySem.W.Frag} {mg : Str → Option Value} {base : Heap}
variable {C : Addr} {za : Nat → Addr} {zl : Nat → FuncData} {E_TooMuch I_TooMuch : Addr}
/-! ### cubes that hold all inputs -/
def bc (m c : Nat) : List Nat := (List.range m).map fun i => 48 + c / 2 ^ (m - 1 - i) % 2
theorem bc_len (m c : Nat) : (bc m c).length = m := by
  unfold bc
  rw [List.length_map, List.length_range]
theorem bc_bt (m c : Nat) : BtL (bc m c) := fun d hd => by
  obtain ⟨i, _, rfl⟩ := List.mem_map.mp hd
  have : c / 2 ^ (m - 1 - i) % 2 < 2 := Nat.mod_lt _ (by decide)
  omega
def cov (x b : List Nat) : Bool := (x.zip b).all fun p => decide (p.1 = 45 ∨ p.1 = p.2)
theorem tb_not (x : Int) (k : Nat) : tb (Builtin.bitNot x) k = 1 - tb x k := by
  unfold tb
  have e : Builtin.bitNot x = -x - 1 := rfl
  rw [e]
  have hp : (0 : Int) < 2 ^ k := PySem.W.kbt_pos k
  generalize (2 : Int) ^ k = p at *
  have h1 := Int.mul_ediv_add_emod x p
  have h2 := Int.emod_nonneg x (by omega : p ≠ 0)
  have h3 := Int.emod_lt_of_pos x hp
  have : (-x - 1) / p = -(x / p) - 1 := by
    refine ((Int.ediv_emod_unique hp).mpr ⟨?_, ?_, ?_⟩ : _ ∧ (-x - 1) % p = p - 1 - x % p).1
    · have : p * (-(x / p) - 1) = -(p * (x / p)) - p := by rw [Int.mul_sub, Int.mul_neg, Int.mul_one]
      omega
    · omega
    · omega
  rw [this]
  omega
theorem tb_cstep {f i : Int} {c k : Nat} (hc : c = 45 ∨ c = 48 ∨ c = 49) (hf : tb f k = 0 ∨ tb f k = 1) {d : Nat} (hd : d < 2) (hi : tb i k = (d : Int)) : tb (cstep f (c, i)) k = if (c = 45 ∨ c = 48 + d) then tb f k else 0 := by
  have d01 : d = 0 ∨ d = 1 := by omega
  unfold cstep
  rcases hc with rfl | rfl | rfl
  · simp
  · rw [if_neg (by show ¬ (48 : Nat) = 49; decide), if_pos rfl, tb_and, tb_not, hi]
    rcases d01 with rfl | rfl <;> rcases hf with h | h <;> rw [h] <;> decide
  · rw [if_pos rfl, tb_and, hi]
    rcases d01 with rfl | rfl <;> rcases hf with h | h <;> rw [h] <;> decide
theorem tb_cfold {k : Nat} : ∀ (x : List Nat) (is : List Int) (ds : List Nat) (f : Int), SgL x → is.length = ds.length → (∀ (j : Nat) (i : Int) (d : Nat), is[j]? = some i → ds[j]? = some d → d < 2 ∧ tb i k = (d : Int)) → (tb f k = 0 ∨ tb f k = 1) →
    tb ((x.zip is).foldl cstep f) k = if cov x (ds.map (48 + ·)) = true then tb f k else 0
  | [], _, _, f, _, _, _, _ => by simp [cov]
  | c :: x, [], [], f, _, _, _, _ => by simp [cov]
  | c :: x, [], _ :: _, _, _, h, _, _ => by cases h
  | c :: x, _ :: _, [], _, _, h, _, _ => by cases h
  | c :: x, i :: is, d :: ds, f, sx, l, h, hf => by
    obtain ⟨hd, hi⟩ := h 0 i d rfl rfl
    have e := tb_cstep (sx c List.mem_cons_self) hf hd hi
    have ih := tb_cfold x is ds (cstep f (c, i)) (fun y hy => sx y (List.mem_cons_of_mem _ hy)) (Nat.succ.inj l) (fun j i d a b => h (j + 1) i d a b) (tb_01 _ _)
    rw [List.zip_cons_cons, List.foldl_cons, ih, e]
    have ec : cov (c :: x) ((d :: ds).map (48 + ·)) = (decide (c = 45 ∨ c = 48 + d) && cov x (ds.map (48 + ·))) := rfl
    rw [ec]
    by_cases a : (c = 45 ∨ c = 48 + d)
    · rw [if_pos a, decide_eq_true a, Bool.true_and]
    · rw [if_neg a, decide_eq_false a, Bool.false_and, if_neg Bool.false_ne_true]
      split <;> rfl
theorem tb_cin {m n : Nat} {x : List Nat} (lx : x.length = m) (sx : SgL x) (hn : n < 2 ^ m) : tb (cinV m x) n = if cov x (bc m n) = true then 1 else 0 := by
  unfold cinV
  rw [if_pos lx]
  have e : bc m n = ((List.range m).map fun i => n / 2 ^ (m - 1 - i) % 2).map (48 + ·) := by
    unfold bc
    rw [List.map_map]
    rfl
  rw [e, tb_cfold x (acs m) ((List.range m).map fun i => n / 2 ^ (m - 1 - i) % 2) _ sx (by rw [acs_len, List.length_map, List.length_range]) (fun j i d hi hd => ?_) (tb_01 _ _), tb_full hn]
  have hj : j < m := by
    have := (List.getElem?_eq_some_iff.mp hi).1
    rw [acs_len] at this
    exact this
  rw [List.getElem?_map, List.getElem?_range hj] at hd
  cases hd
  unfold acs at hi
  rw [List.getElem?_map, List.getElem?_range hj] at hi
  cases hi
  exact ⟨Nat.mod_lt _ (by decide), pcs_bit (m - 1 - j) j n (by rw [show m - 1 - j + 1 + j = m by omega]; exact hn)⟩
theorem tb_hole {m n : Nat} (hn : n < 2 ^ m) : ∀ (cs : List (List Nat)) (l : Int), (∀ x ∈ cs, x.length = m ∧ SgL x) →
    tb (cs.foldl (fun l x => Builtin.bitAnd l (Builtin.bitNot (cinV m x))) l) n = if (cs.any fun x => cov x (bc m n)) = true then 0 else tb l n
  | [], _, _ => rfl
  | x :: cs, l, h => by
    obtain ⟨lx, sx⟩ := h x List.mem_cons_self
    rw [List.foldl_cons, tb_hole hn cs _ fun y hy => h y (List.mem_cons_of_mem _ hy), List.any_cons, tb_and, tb_not, tb_cin lx sx hn]
    cases cov x (bc m n)
    · rw [Bool.false_or, if_neg Bool.false_ne_true]
      rcases tb_01 l n with e | e <;> rw [e] <;> rfl
    · rw [Bool.true_or, if_pos rfl, if_pos rfl]
      split
      · rfl
      · rcases tb_01 l n with e | e <;> rw [e] <;> rfl
theorem zero_of_tb {l : Int} {N : Nat} (h0 : 0 ≤ l) (h1 : l < 2 ^ N) (h : ∀ n, n < N → tb l n = 0) : l = 0 := by
  obtain ⟨n, rfl⟩ : ∃ n : Nat, l = (n : Int) := ⟨l.toNat, by omega⟩
  by_cases z : n = 0
  · rw [z]
    rfl
  exfalso
  obtain ⟨k, a, e⟩ := odd_part n (by omega)
  have c : n < 2 ^ N := by
    have : ((2 ^ N : Nat) : Int) = 2 ^ N := PySem.W.kbt_cast _
    omega
  have d : 2 ^ k ≤ n := by
    rw [e]
    exact Nat.le_mul_of_pos_right _ (by omega)
  have kN := (Nat.pow_lt_pow_iff_right (by decide : 1 < 2)).mp (Nat.lt_of_le_of_lt d c)
  have t := h k kN
  unfold tb at t
  rw [show (2 : Int) ^ k = ((2 ^ k : Nat) : Int) from (PySem.W.kbt_cast _).symm] at t
  have e2 : n / 2 ^ k = 2 * a + 1 := by
    rw [e]
    exact Nat.mul_div_cancel_left _ (Nat.two_pow_pos k)
  have : ((n : Int) / ((2 ^ k : Nat) : Int)) = ((n / 2 ^ k : Nat) : Int) := rfl
  rw [this, e2] at t
  omega
theorem hole_iff {m : Nat} {cs : List (List Nat)} (h : ∀ x ∈ cs, x.length = m ∧ SgL x) : holeV m cs = 0 ↔ ∀ n, n < 2 ^ m → (cs.any fun x => cov x (bc m n)) = true := by
  obtain ⟨h0, h1⟩ := holeV_in m cs
  constructor
  · intro z n hn
    have t := tb_hole hn cs (2 ^ 2 ^ m - 1) h
    have e : tb (holeV m cs) n = 0 := by rw [z]; exact tb_nul n
    unfold holeV at e
    rw [e, tb_full hn] at t
    by_cases c : (cs.any fun x => cov x (bc m n)) = true
    · exact c
    · rw [if_neg c] at t
      cases t
  · intro a
    refine zero_of_tb h0 h1 fun n hn => ?_
    unfold holeV
    rw [tb_hole hn cs _ h, if_pos (a n hn)]
/-! ### what papers are asked -/
def covA (m : Nat) (os : List (Option (List Nat))) : Bool := (List.range (2 ^ m)).all fun n => os.any fun o => cov (o.getD []) (bc m n)
def showsV (m : Nat) (L : List Nat → Lk) : Option (List (Option (List Nat))) → Bool
  | none => false
  | some os => os.all (isT [48, 49, 45] m) && (covA m os && os.all fun o => decide (L (o.getD []) = .sm))
def unlV (m : Nat) (L : List Nat → Lk) (o : Option (List Nat)) : Bool := isT [48, 49] m o && decide (L (o.getD []) = .un)
theorem isT_cs {m : Nat} : ∀ {os : List (Option (List Nat))}, os.all (isT [48, 49, 45] m) = true → ∃ cs : List (List Nat), os = cs.map some ∧ ∀ x ∈ cs, x.length = m ∧ SgL x
  | [], _ => ⟨[], rfl, fun _ z => nomatch z⟩
  | o :: os, h => by
    rw [List.all_cons, Bool.and_eq_true] at h
    obtain ⟨cs, e, hc⟩ := isT_cs h.2
    cases o with
    | none => cases h.1
    | some x =>
      have hx := h.1
      simp only [isT, Bool.and_eq_true, decide_eq_true_eq, List.all_eq_true] at hx
      refine ⟨x :: cs, by rw [e]; rfl, fun y hy => ?_⟩
      rcases List.mem_cons.mp hy with rfl | hy
      · refine ⟨hx.1, fun c hc => ?_⟩
        have := hx.2 c hc
        simp only [List.mem_cons, List.not_mem_nil, or_false] at this
        omega
      · exact hc y hy
theorem covA_cs {m : Nat} {cs : List (List Nat)} (h : ∀ x ∈ cs, x.length = m ∧ SgL x) : covA m (cs.map some) = true ↔ holeV m cs = 0 := by
  rw [hole_iff h]
  unfold covA
  rw [List.all_eq_true]
  constructor
  · intro a n hn
    have := a n (List.mem_range.mpr hn)
    rw [List.any_map] at this
    exact this
  · intro a n hn
    rw [List.any_map]
    exact a n (List.mem_range.mp hn)
end
section
variable {P : Program} {w : World} {K : PySem.W.Frag} {mg : Str → Option Value} {base : Heap}
variable {C : Addr} {za : Nat → Addr} {zl : Nat → FuncData} {E_TooMuch I_TooMuch : Addr}
/-! ### papers -/
inductive Top62 (H : Hp) : V → Option (List (Option (List Nat))) → Prop
  | lst {t : Addr} {xs : List V} {os : List (Option (List Nat))} (e : H t = some (.lst xs)) (ll : xs.length = os.length) (h : ∀ (i : Nat) (v : V) (o : Option (List Nat)), xs[i]? = some v → os[i]? = some o → Thg H v o) (l : os.length ≤ 900) : Top62 H (.ref t) (some os)
  | non : Top62 H .non none
  | int (i : Int) : Top62 H (.int i) none
  | bl (b : Bool) : Top62 H (.bl b) none
  | str (x : Str) : Top62 H (.str x) none
  | tup {t : Addr} {xs : List V} (e : H t = some (.tup xs)) : Top62 H (.ref t) none
theorem Top62.same {H H' : Hp} {v : V} {l : Option (List (Option (List Nat)))} (h : Top62 H v l) (s : Same H H') : Top62 H' v l := by
  cases h with
  | lst e ll h l => exact .lst (s _ _ e) ll (fun i v o a b => (h i v o a b).same s) l
  | non => exact .non
  | int i => exact .int i
  | bl b => exact .bl b
  | str x => exact .str x
  | tup e => exact .tup (s _ _ e)
theorem s01m : Str.ofString "01-" = SX.S [48, 49, 45] := by decide +kernel
theorem s01 : Str.ofString "01" = SX.S [48, 49] := by decide +kernel
theorem lkT_eq (w : Lk) (u : Lk) : decide (V.str (lkT w) = V.str (lkT u)) = decide (w = u) := by
  cases w <;> cases u <;> decide +kernel
def spShU (C : Addr) : Sp := fun vs H Q _ => ∃ (pa pb : NetP) (m : Nat) (ga gb : List Gt) (na nb sa sb : List (Str × List Nat)) (v : V) (o : Option (List Nat)), vs = [.ref pa.x, .ref pb.x, v] ∧ Two C H pa pb m ga gb na nb sa sb ∧ Thg H v o ∧
  ∀ H', Same H H' → Q (.bl (unlV m (lk ga gb sa sb) o)) H'
theorem ok_shows_unlike (B : Bl mg) (L : LL K mg C za zl E_TooMuch I_TooMuch) : FnOk P w K mg base CX0 6 (za 24) (zl 24) ["one", "other", "thing"] (spShU C) := by
  have G_need_fit : FnOk P w K mg base CX0 5 (za 22) (zl 22) ["one", "other"] (spFits C) := (ok_need_fit B L).mono (by decide)
  have G_looked : FnOk P w K mg base CX0 5 (za 20) (zl 20) ["one", "other", "cube"] (spLooked C) := (ok_looked B L).mono (by decide)
  have G_is_text_of : FnOk P w K mg base CX0 5 (za 14) (zl 14) ["signs", "many", "thing"] spIsT := (ok_is_text_of B L).mono (by decide)
  have G_Net_inputs : FnOk P w K mg base CX0 5 (za 56) (zl 56) ["self"] (spInputs C) := (ok_Net_inputs B L).mono (by decide)
  refine L.F_shows_unlike.ok sc_shows_unlike (fun vs H Q E h => ?_) (fun cdv A outer s H vs Q E hr h => ?_)
  · obtain ⟨pa, pb, m, ga, gb, na, nb, sa, sb, v, o, rfl, _⟩ := h
    rfl
  obtain ⟨pa, pb, m, ga, gb, na, nb, sa, sb, v, o, rfl, hT, hv, q⟩ := h
  refine ⟨_, (pss_cons (ps_expr (pe_call G_need_fit hr (by rfl) L.m_need_fit L.F_need_fit.kp L.b_need_fit .nil pass0 (pa_cons (pv 0) (pa_cons (pv 1) pa_nil))))
    (pss_one (ps_ret (pe_and (pe_call G_is_text_of hr (by rfl) L.m_is_text_of L.F_is_text_of.kp L.b_is_text_of .nil pass0 (pa_cons pe_str (pa_cons (pe_meth0 (pv 0) L.T.cl L.M_Net_inputs G_Net_inputs hr L.b_Net_inputs .nil pass0) (pa_cons (pv 2) pa_nil)))) (pe_one (pe_cmpR op_eq (pe_call G_looked hr (by rfl) L.m_looked L.F_looked.kp L.b_looked .nil pass0 (pa_cons (pv 0) (pa_cons (pv 1) (pa_cons (pv 2) pa_nil)))) pe_str (nomark _))))))), ?_⟩
  refine ⟨_, rfl, _, rfl, pa, pb, m, ga, gb, na, nb, sa, sb, rfl, hT, fun H1 s1 => ?_⟩
  have hT1 := hT.same s1
  obtain ⟨⟨ZA, NA⟩, okA, gA, mA20, gaL, naL⟩ := id hT1.a
  obtain ⟨_, _, _, dxA, _, _, eA, _⟩ := id NA
  have hv1 := hv.same s1
  refine ⟨_, rfl, pa.x, dxA, _, rfl, eA, rfl, ZA, pa, m, ga, na, rfl, NA, ?_⟩
  refine ⟨_, rfl, [48, 49], m, v, o, by rw [s01]; rfl, hv1, by decide, fun H2 s2 => ?_⟩
  unfold unlV at q
  refine ⟨_, rfl, ite2 (fun z => ?_) (fun z => ?_)⟩
  · have z' := z
    cases hv1 with
    | @str x hx =>
      simp only [isT, Bool.and_eq_true, decide_eq_true_eq] at z'
      refine ⟨_, rfl, _, rfl, _, rfl, pa, pb, m, ga, gb, na, nb, sa, sb, x, rfl, hT1.same s2, z'.1, fun H3 s3 => ?_⟩
      rw [z, Bool.true_and] at q
      have := q H3 ((s1.trans s2).trans s3)
      rw [← lkT_eq] at this
      exact ⟨rfl, this⟩
    | _ => cases z
  · rw [Bool.eq_false_iff.mpr z, Bool.false_and] at q
    exact q H2 (s1.trans s2)
def spShS (C : Addr) : Sp := fun vs H Q _ => ∃ (pa pb : NetP) (m : Nat) (ga gb : List Gt) (na nb sa sb : List (Str × List Nat)) (v : V) (l : Option (List (Option (List Nat)))), vs = [.ref pa.x, .ref pb.x, v] ∧ Two C H pa pb m ga gb na nb sa sb ∧ m ≤ 8 ∧ Top62 H v l ∧
  ∀ H', Same H H' → Q (.bl (showsV m (lk ga gb sa sb) l)) H'
theorem ok_shows_same (B : Bl mg) (L : LL K mg C za zl E_TooMuch I_TooMuch) : FnOk P w K mg base CX0 6 (za 23) (zl 23) ["one", "other", "thing"] (spShS C) := by
  have G_need_fit : FnOk P w K mg base CX0 5 (za 22) (zl 22) ["one", "other"] (spFits C) := (ok_need_fit B L).mono (by decide)
  have G_looked : FnOk P w K mg base CX0 5 (za 20) (zl 20) ["one", "other", "cube"] (spLooked C) := (ok_looked B L).mono (by decide)
  have G_is_text_of : FnOk P w K mg base CX0 5 (za 14) (zl 14) ["signs", "many", "thing"] spIsT := (ok_is_text_of B L).mono (by decide)
  have G_hole : FnOk P w K mg base CX0 5 (za 12) (zl 12) ["cubes", "many"] spHole := (ok_hole B L).mono (by decide)
  have G_Net_inputs : FnOk P w K mg base CX0 5 (za 56) (zl 56) ["self"] (spInputs C) := (ok_Net_inputs B L).mono (by decide)
  refine L.F_shows_same.ok sc_shows_same (fun vs H Q E h => ?_) (fun cdv A outer s H vs Q E hr h => ?_)
  · obtain ⟨pa, pb, m, ga, gb, na, nb, sa, sb, v, l, rfl, _⟩ := h
    rfl
  obtain ⟨pa, pb, m, ga, gb, na, nb, sa, sb, v, l, rfl, hT, h12, hv, q⟩ := h
  refine ⟨_, (pss_cons (ps_expr (pe_call G_need_fit hr (by rfl) L.m_need_fit L.F_need_fit.kp L.b_need_fit .nil pass0 (pa_cons (pv 0) (pa_cons (pv 1) pa_nil))))
    (pss_cons (ps_set (i := 3) sc_shows_same.nd rfl (.inr rfl) (pe_meth0 (pv 0) L.T.cl L.M_Net_inputs G_Net_inputs hr L.b_Net_inputs .nil pass0))
    (pss_cons (ps_if (PW.pt (pw_or (pt_not (pt_val (pe_callB call_isi (by rfl) B.isinstance boot_isinstance (pa_cons (pv 2) (pa_cons (pe_bltn (v := .ty "list") (by rfl) B.list PyProof.Rows.boot_list rfl) pa_nil))))) (pw_or1 (pt_not (pt_val (pe_callB (cr_all rfl) (by rfl) B.all boot_all (pa_cons (pe_lc (own := [("cube", 4)]) (by rfl) sc_shows_same.nd (pi_list (pv 2)) (blkOk_by (own := [("cube", 4)]) (N := ["one", "other", "thing", "many", "cube"]) (sc := defScope s_shows_same) (by decide +kernel)) (fun _ _ _ _ _ => pg_name (i := 4) sc_shows_same.nd rfl (Or.inl rfl)) (fun _ _ _ _ _ => pts_nil) (fun _ _ _ _ _ => (pe_call G_is_text_of hr (by rfl) L.m_is_text_of L.F_is_text_of.kp L.b_is_text_of .nil pass0 (pa_cons pe_str (pa_cons (pv 3) (pa_cons (pv 4) pa_nil)))))) pa_nil))))))) (pss_one (ps_ret pe_bl)) pss_nil)
    (pss_one (ps_ret (pe_and (pe_cmpR op_isN (pe_call G_hole hr (by rfl) L.m_hole L.F_hole.kp L.b_hole .nil pass0 (pa_cons (pv 2) (pa_cons (pv 3) pa_nil))) pe_non (nomark _)) (pe_one (pe_callB (cr_all rfl) (by rfl) B.all boot_all (pa_cons (pe_lc (own := [("cube", 4)]) (by rfl) sc_shows_same.nd (pi_list (pv 2)) (blkOk_by (own := [("cube", 4)]) (N := ["one", "other", "thing", "many", "cube"]) (sc := defScope s_shows_same) (by decide +kernel)) (fun _ _ _ _ _ => pg_name (i := 4) sc_shows_same.nd rfl (Or.inl rfl)) (fun _ _ _ _ _ => pts_nil) (fun _ _ _ _ _ => (pe_cmpR op_eq (pe_call G_looked hr (by rfl) L.m_looked L.F_looked.kp L.b_looked .nil pass0 (pa_cons (pv 0) (pa_cons (pv 1) (pa_cons (pv 4) pa_nil)))) pe_str (nomark _)))) pa_nil))))))))), ?_⟩
  refine ⟨_, rfl, _, rfl, pa, pb, m, ga, gb, na, nb, sa, sb, rfl, hT, fun H1 s1 => ?_⟩
  have hT1 := hT.same s1
  obtain ⟨⟨ZA, NA⟩, okA, gA, mA20, gaL, naL⟩ := id hT1.a
  obtain ⟨_, _, _, dxA, _, _, eA, _⟩ := id NA
  have hv1 := hv.same s1
  refine ⟨_, rfl, pa.x, dxA, _, rfl, eA, rfl, ZA, pa, m, ga, na, rfl, NA, ?_⟩
  try simp only [L2.start, List.map_cons, List.map_nil, List.length_cons, List.length_nil, List.replicate_succ, List.replicate_zero, List.cons_append, List.nil_append, List.set_cons_succ, List.set_cons_zero, Nat.reduceAdd, Nat.reduceSub, Nat.zero_add]
  cases hv1 with
  | non => exact ⟨_, rfl, _, _, _, _, _, rfl, .ty _, .base .non, kit_ty (by decide +kernel : kitB "NoneType" "list" = some false), _, rfl, iteT (q H1 s1)⟩
  | int i => exact ⟨_, rfl, _, _, _, _, _, rfl, .ty _, .base (.int _), kit_ty (by decide +kernel : kitB "int" "list" = some false), _, rfl, iteT (q H1 s1)⟩
  | bl b => exact ⟨_, rfl, _, _, _, _, _, rfl, .ty _, .base (.bl _), kit_ty (by decide +kernel : kitB "bool" "list" = some false), _, rfl, iteT (q H1 s1)⟩
  | str x => exact ⟨_, rfl, _, _, _, _, _, rfl, .ty _, .base (.str _), kit_ty (by decide +kernel : kitB "str" "list" = some false), _, rfl, iteT (q H1 s1)⟩
  | tup e => exact ⟨_, rfl, _, _, _, _, _, rfl, .ty _, ty_tup (SqT.of e), kit_ty (by decide +kernel : kitB "tuple" "list" = some false), _, rfl, iteT (q H1 s1)⟩
  | @lst t xs os e ll h lc =>
    refine ⟨_, rfl, _, _, _, _, _, rfl, .ty _, ty_lst (SqL.of e), kit_ty (by decide +kernel : kitB "list" "list" = some true), _, rfl, iteF ?_⟩
    refine ⟨_, rfl, t, rfl, ⟨_, SqL.of e⟩, fun D nD => ?_⟩
    refine lc_it (walk_list (K := K) (a := t) (xs := xs)) (fun i H6 => Same H1 H6 ∧ H6 D = some (.lst (((os.map (isT [48, 49, 45] m)).take i).map V.bl))) ⟨same_upd nD, upd_same⟩ (fun i H6 _ ⟨s6, _⟩ => SqL.of (s6 _ _ e)) ?_ ?_
    · rintro j z H6 H7 hj ⟨s6, eD⟩ ⟨rfl, hz⟩
      have ho : os[j]? = some (os[j]'(by omega)) := List.getElem?_eq_getElem (by omega)
      have ht := (h j z _ hz ho).same s6
      generalize os[j]'(by omega) = o at *
      refine ⟨rfl, yesT ?_⟩
      refine ⟨_, rfl, _, rfl, [48, 49, 45], m, _, o, by rw [s01m]; rfl, ht, by decide, fun H8 s8 => ?_⟩
      refine ⟨_, s8 _ _ eD, ?_, fun y o e => ?_, ?_⟩
      · rw [List.length_map, List.length_take]
        exact big_lt (by omega)
      · rw [upd_ne (ne_of_none e nD)]
        exact s8 _ _ (s6 _ _ e)
      · rw [upd_same, List.take_add_one, List.getElem?_map, ho, List.map_append]
        rfl
    · rintro H6 ⟨s6, eD⟩
      rw [List.take_of_length_le (by rw [List.length_map]; omega)] at eD
      refine ⟨D, _, rfl, SqL.of eD, ?_⟩
      rw [List.all_map, show (id ∘ isT [48, 49, 45] m) = isT [48, 49, 45] m from rfl]
      have e6 := s6 _ _ e
      have s16 := s1.trans s6
      replace q : ∀ H', Same H H' → Q (.bl (os.all (isT [48, 49, 45] m) && (covA m os && os.all fun o => decide (lk ga gb sa sb (o.getD []) = .sm)))) H' := q
      by_cases ha : os.all (isT [48, 49, 45] m) = true
      · rw [ha, Bool.true_and] at q
        rw [ha]
        refine ⟨_, rfl, iteF ?_⟩
        dsimp only [tNext]
        try simp only [L2.start, List.map_cons, List.map_nil, List.length_cons, List.length_nil, List.replicate_succ, List.replicate_zero, List.cons_append, List.nil_append, List.set_cons_succ, List.set_cons_zero, Nat.reduceAdd, Nat.reduceSub, Nat.zero_add]
        obtain ⟨cs, rfl, hcs⟩ := isT_cs ha
        have ex : xs = cs.map fun x => V.str (SX.S x) := by
          apply List.ext_getElem?
          intro i
          rw [List.getElem?_map]
          by_cases hi : i < cs.length
          · have a : xs[i]? = some (xs[i]'(by rw [ll, List.length_map]; exact hi)) := List.getElem?_eq_getElem _
            have b : (cs.map some)[i]? = some (some cs[i]) := by rw [List.getElem?_map, List.getElem?_eq_getElem hi]; rfl
            have := h i _ _ a b
            rw [a, List.getElem?_eq_getElem hi]
            generalize xs[i]'(by rw [ll, List.length_map]; exact hi) = u at *
            cases this
            rfl
          · rw [List.getElem?_eq_none (by rw [ll, List.length_map]; omega), List.getElem?_eq_none (by omega)]
            rfl
        subst ex
        rw [List.length_map] at lc
        have hc := covA_cs hcs
        refine ⟨_, rfl, _, rfl, t, m, cs, rfl, e6, h12, fun x hx => by rw [(hcs x hx).1]; omega, fun h0 H7 s7 => ?_, fun h0 k H7 s7 _ _ => ?_⟩
        · rw [hc.mpr h0, Bool.true_and, List.all_map] at q
          refine ⟨rfl, _, rfl, iteT ?_⟩
          have e7 := s7 _ _ e6
          have s17 := s16.trans s7
          refine ⟨_, rfl, t, rfl, ⟨_, SqL.of e7⟩, fun D2 nD2 => ?_⟩
          refine lc_it (walk_list (K := K) (a := t) (xs := cs.map fun x => V.str (SX.S x))) (fun i H6 => Same H7 H6 ∧ H6 D2 = some (.lst (((cs.map fun x => decide (lk ga gb sa sb x = .sm)).take i).map V.bl))) ⟨same_upd nD2, upd_same⟩ (fun i H6 _ ⟨s6, _⟩ => SqL.of (s6 _ _ e7)) ?_ ?_
          · rintro j z H8 H9 hj ⟨s8, eD2⟩ ⟨rfl, hz⟩
            rw [List.getElem?_map] at hz
            obtain ⟨x, hx, rfl⟩ := Option.map_eq_some_iff.mp hz
            obtain ⟨lx, sx⟩ := hcs x (List.mem_of_getElem? hx)
            refine ⟨rfl, yesT ?_⟩
            refine ⟨_, rfl, _, rfl, _, rfl, pa, pb, m, ga, gb, na, nb, sa, sb, x, rfl, hT1.same ((s6.trans s7).trans s8), lx, fun H10 s10 => ?_⟩
            refine ⟨rfl, _, s10 _ _ eD2, ?_, fun y o e => ?_, ?_⟩
            · rw [List.length_map, List.length_take, List.length_map]
              exact big_lt (by omega)
            · rw [upd_ne (ne_of_none e nD2)]
              exact s10 _ _ (s8 _ _ e)
            · rw [upd_same, List.take_add_one, List.getElem?_map, hx, List.map_append]
              show some (HO.lst (_ ++ [V.bl (decide (V.str (lkT (lk ga gb sa sb x)) = V.str (lkT .sm)))])) = _
              rw [lkT_eq]
              rfl
          · rintro H8 ⟨s8, eD2⟩
            rw [List.take_of_length_le (by rw [List.length_map, List.length_map]; omega)] at eD2
            refine ⟨D2, _, rfl, SqL.of eD2, ?_⟩
            rw [List.all_map]
            exact q H8 (s17.trans s8)
        · rw [Bool.eq_false_iff.mpr (fun z => h0 (hc.mp z)), Bool.false_and] at q
          refine ⟨rfl, _, rfl, iteF ?_⟩
          exact q H7 (s16.trans s7)
      · rw [Bool.eq_false_iff.mpr ha, Bool.false_and] at q
        rw [Bool.eq_false_iff.mpr ha]
        exact ⟨_, rfl, iteT (q H6 s16)⟩
end
section
variable {P : Program} {w : World} {K : PySem.W.Frag} {mg : Str → Option Value} {base : Heap}
variable {C : Addr} {za : Nat → Addr} {zl : Nat → FuncData} {E_TooMuch I_TooMuch : Addr}
/-! ### what looks show -/
theorem S_inj {x y : List Nat} (h : SX.S x = SX.S y) : x = y := by
  have := congrArg (fun s : Str => s.cps.toList) h
  exact this
theorem eqv_rw : ∀ a b : List (Str × List Nat), PyData.eqv (rwD a) (rwD b) = true → a = b
  | [], [], _ => rfl
  | [], _ :: _, h => by cases h
  | _ :: _, [], h => by cases h
  | x :: a, y :: b, h => by
    have ih := eqv_rw a b
    unfold rwD at ih h
    simp only [List.map_cons, PyData.eqv, PyData.eqvAll, Bool.and_eq_true, beq_iff_eq, decide_eq_true_eq, and_true] at ih h
    obtain ⟨⟨h1, h2⟩, h3⟩ := h
    have e : x = y := by
      obtain ⟨x1, x2⟩ := x
      obtain ⟨y1, y2⟩ := y
      have a1 : x1 = y1 := h1
      have a2 : x2 = y2 := S_inj h2
      rw [a1, a2]
    rw [e, ih h3]
theorem lk_sm {ga gb : List Gt} {sa sb : List (Str × List Nat)} {x : List Nat} (h : lk ga gb sa sb x = .sm) : (setR (sgs x ga) sa).any opn = false ∧ (setR (sgs x gb) sb).any opn = false ∧ setR (sgs x ga) sa = setR (sgs x gb) sb := by
  unfold lk at h
  split at h
  · cases h
  · split at h
    · cases h
    · split at h
      · exact ⟨Bool.eq_false_iff.mpr (by assumption), Bool.eq_false_iff.mpr (by assumption), eqv_rw _ _ (by assumption)⟩
      · cases h
theorem lk_un {ga gb : List Gt} {sa sb : List (Str × List Nat)} {x : List Nat} (h : lk ga gb sa sb x = .un) : (setR (sgs x ga) sa).any opn = false ∧ (setR (sgs x gb) sb).any opn = false ∧ setR (sgs x ga) sa ≠ setR (sgs x gb) sb := by
  unfold lk at h
  split at h
  · cases h
  · split at h
    · cases h
    · split at h
      · cases h
      · refine ⟨Bool.eq_false_iff.mpr (by assumption), Bool.eq_false_iff.mpr (by assumption), fun e => ?_⟩
        rename_i he
        rw [e, PySem.SeqAt.eqv_refl_plain _ (pl_rw _).1] at he
        exact he rfl
/-- what is settled by a cube stands for all bits in it -/
theorem kept_eval {m : Nat} {x t : List Nat} {gs : List Gt} {sa na : List (Str × List Nat)} (ok : GsOk m gs) (w : GvW (m + gs.length) na) (p : sa.Perm na) (sx : SgL x) (lx : x.length = m) (st : SgL t) (lt : t.length = m) (k : KeptL x t) (no : (setR (sgs x gs) sa).any opn = false) : setR (sgs x gs) sa = setR (sgs t gs) sa := by
  have kk := kept_sgs sx st lx lt k ok
  refine List.map_congr_left fun r hr => ?_
  have hno : opn (r.1, r.2.map fun a => (sgs x gs).getD a 0) = false := by
    cases e : opn (r.1, r.2.map fun a => (sgs x gs).getD a 0) with
    | false => rfl
    | true =>
      have : (setR (sgs x gs) sa).any opn = true := List.any_eq_true.mpr ⟨_, List.mem_map.mpr ⟨r, hr, rfl⟩, e⟩
      rw [no] at this
      cases this
  refine congrArg (Prod.mk r.1) (List.map_congr_left fun a ha => ?_)
  have la : a < (sgs x gs).length := by
    rw [sgs_len, lx]
    exact (w.2 r (p.mem_iff.mp hr)).2 a ha
  rcases kk.get la with z | z
  · have : 45 ∈ r.2.map fun a => (sgs x gs).getD a 0 := by
      rw [← z]
      exact List.mem_map.mpr ⟨a, ha, rfl⟩
    have h2 : opn (r.1, r.2.map fun a => (sgs x gs).getD a 0) = true := decide_eq_true this
    rw [hno] at h2
    cases h2
  · exact z
def Hop (L : List Nat → Lk) (m : Nat) : Prop := ∀ x, x.length = m → SgL x → L x = .op → 45 ∈ x
theorem dfs_sm {L : List Nat → Lk} {m : Nat} (hop : Hop L m) : ∀ (n : Nat) (st k ks : List (List Nat)), dfs L n st k = some (.sm ks) → Cb m st → (∀ x ∈ k, L x = .sm ∧ x.length = m ∧ SgL x) →
    (∀ x ∈ ks, L x = .sm ∧ x.length = m ∧ SgL x) ∧ ∀ t, t.length = m → BtL t → (∃ x, (x ∈ st ∨ x ∈ k) ∧ KeptL x t) → ∃ x ∈ ks, KeptL x t := by
  intro n
  induction n with
  | zero =>
    intro st k ks h hst hk
    cases st with
    | nil =>
      cases h
      refine ⟨hk, fun t _ _ ⟨x, hx, kx⟩ => ⟨x, hx.elim (fun z => nomatch z) id, kx⟩⟩
    | cons x st => cases h
  | succ n ih =>
    intro st k ks h hst hk
    cases st with
    | nil =>
      cases h
      exact ⟨hk, fun t _ _ ⟨x, hx, kx⟩ => ⟨x, hx.elim (fun z => nomatch z) id, kx⟩⟩
    | cons x st =>
      have hx := hst x List.mem_cons_self
      have hst' : Cb m st := fun y hy => hst y (List.mem_cons_of_mem _ hy)
      cases e : L x with
      | un =>
        have h' : some (Rs.un x) = some (Rs.sm ks) := by
          rw [← h]
          show _ = (match L x with | .un => _ | .sm => _ | .op => _)
          rw [e]
        cases h'
      | sm =>
        have h' : dfs L n st (k ++ [x]) = some (.sm ks) := by
          rw [← h]
          show _ = (match L x with | .un => _ | .sm => _ | .op => _)
          rw [e]
        obtain ⟨i1, i2⟩ := ih st (k ++ [x]) ks h' hst' fun y hy => by
          rcases List.mem_append.mp hy with w | w
          · exact hk y w
          · rw [List.mem_singleton.mp w]
            exact ⟨e, hx⟩
        refine ⟨i1, fun t lt bt ⟨y, hy, ky⟩ => i2 t lt bt ⟨y, ?_, ky⟩⟩
        rcases hy with w | w
        · rcases List.mem_cons.mp w with w | w
          · exact .inr (List.mem_append.mpr (.inr (List.mem_singleton.mpr w)))
          · exact .inl w
        · exact .inr (List.mem_append.mpr (.inl w))
      | op =>
        have h' : dfs L n (x.set (ix45 x) 48 :: x.set (ix45 x) 49 :: st) k = some (.sm ks) := by
          rw [← h]
          show _ = (match L x with | .un => _ | .sm => _ | .op => _)
          rw [e]
        obtain ⟨_, _, a45⟩ := sidx (hop x hx.1 hx.2 e)
        have pl : ix45 x < x.length := (List.getElem?_eq_some_iff.mp a45).1
        obtain ⟨i1, i2⟩ := ih _ k ks h' (fun y hy => by
          rcases List.mem_cons.mp hy with w | w
          · rw [w]
            exact Cb.set hx _ 48 (.inr (.inl rfl))
          · rcases List.mem_cons.mp w with w | w
            · rw [w]
              exact Cb.set hx _ 49 (.inr (.inr rfl))
            · exact hst' y w) hk
        refine ⟨i1, fun t lt bt ⟨y, hy, ky⟩ => i2 t lt bt ?_⟩
        rcases hy with w | w
        · rcases List.mem_cons.mp w with w | w
          · subst w
            have tl : ix45 y < t.length := by rw [lt, ← hx.1]; exact pl
            have ht := bt t[ix45 y] (List.getElem_mem tl)
            have kset : ∀ c, t[ix45 y]? = some c → KeptL (y.set (ix45 y) c) t := fun c hc => by
              refine ⟨by rw [List.length_set, ky.1], fun j a d hj hd => ?_⟩
              by_cases ij : ix45 y = j
              · subst ij
                rw [List.getElem?_set_self pl] at hj
                cases hj
                rw [hc] at hd
                cases hd
                exact .inr rfl
              · rw [List.getElem?_set_ne ij] at hj
                exact ky.2 j a d hj hd
            rcases ht with z | z
            · exact ⟨_, .inl List.mem_cons_self, kset 48 (by rw [List.getElem?_eq_getElem tl, z])⟩
            · exact ⟨_, .inl (List.mem_cons_of_mem _ List.mem_cons_self), kset 49 (by rw [List.getElem?_eq_getElem tl, z])⟩
          · exact ⟨y, .inl (List.mem_cons_of_mem _ (List.mem_cons_of_mem _ w)), ky⟩
        · exact ⟨y, .inr w, ky⟩
theorem dfs_un {L : List Nat → Lk} {m : Nat} : ∀ (n : Nat) (st k : List (List Nat)) (z : List Nat), dfs L n st k = some (.un z) → Cb m st → L z = .un ∧ z.length = m ∧ SgL z := by
  intro n
  induction n with
  | zero =>
    intro st k z h hst
    cases st with
    | nil => cases h
    | cons x st => cases h
  | succ n ih =>
    intro st k z h hst
    cases st with
    | nil => cases h
    | cons x st =>
      have hx := hst x List.mem_cons_self
      have hst' : Cb m st := fun y hy => hst y (List.mem_cons_of_mem _ hy)
      cases e : L x with
      | un =>
        have h' : some (Rs.un x) = some (Rs.un z) := by
          rw [← h]
          show _ = (match L x with | .un => _ | .sm => _ | .op => _)
          rw [e]
        cases h'
        exact ⟨e, hx⟩
      | sm =>
        refine ih st (k ++ [x]) z ?_ hst'
        rw [← h]
        show _ = (match L x with | .un => _ | .sm => _ | .op => _)
        rw [e]
      | op =>
        refine ih (x.set (ix45 x) 48 :: x.set (ix45 x) 49 :: st) k z ?_ fun y hy => ?_
        · rw [← h]
          show _ = (match L x with | .un => _ | .sm => _ | .op => _)
          rw [e]
        · rcases List.mem_cons.mp hy with w | w
          · rw [w]
            exact Cb.set hx _ 48 (.inr (.inl rfl))
          · rcases List.mem_cons.mp w with w | w
            · rw [w]
              exact Cb.set hx _ 49 (.inr (.inr rfl))
            · exact hst' y w
theorem z0_bt {x : List Nat} (h : SgL x) : BtL (z0 x) ∧ (z0 x).length = x.length ∧ KeptL x (z0 x) := by
  refine ⟨fun c hc => ?_, List.length_map .., List.length_map .. |>.symm, fun i a d ha hd => ?_⟩
  · obtain ⟨a, ha, rfl⟩ := List.mem_map.mp hc
    rcases h a ha with w | w | w
    · rw [if_pos w]; exact .inl rfl
    · rw [if_neg (by omega)]; exact .inl w
    · rw [if_neg (by omega)]; exact .inr w
  · unfold z0 at hd
    rw [List.getElem?_map, ha] at hd
    cases hd
    by_cases c : a = 45
    · exact .inl c
    · exact .inr (by show a = if a = 45 then 48 else a; rw [if_neg c])
theorem BtL.sg {l : List Nat} (h : BtL l) : SgL l ∧ 45 ∉ l := ⟨fun c hc => .inr (h c hc), fun z => by
  rcases h 45 z with e | e <;> cases e⟩
end
section
variable {P : Program} {w : World} {K : PySem.W.Frag} {mg : Str → Option Value} {base : Heap}
variable {C : Addr} {za : Nat → Addr} {zl : Nat → FuncData} {E_TooMuch I_TooMuch : Addr}
/-! ### enough looks -/
def c45 (x : List Nat) : Nat := x.count 45
def wt (st : List (List Nat)) : Nat := (st.map fun x => 2 ^ (c45 x + 1) - 1).sum
theorem c45_set {x : List Nat} (h : 45 ∈ x) {c : Nat} (hc : c ≠ 45) : c45 (x.set (ix45 x) c) + 1 = c45 x := by
  obtain ⟨_, _, a45⟩ := sidx h
  have pl : ix45 x < x.length := (List.getElem?_eq_some_iff.mp a45).1
  have e45 : x[ix45 x] = 45 := (List.getElem?_eq_some_iff.mp a45).2
  unfold c45
  rw [List.count_set pl, e45]
  have : 0 < x.count 45 := List.count_pos_iff.mpr h
  simp [hc]
  omega
theorem dfs_some {L : List Nat → Lk} {m : Nat} (hop : Hop L m) : ∀ (n : Nat) (st k : List (List Nat)), Cb m st → wt st ≤ n → dfs L n st k ≠ none := by
  intro n
  induction n with
  | zero =>
    intro st k hst hw
    cases st with
    | nil => exact fun z => by cases z
    | cons x st =>
      exfalso
      unfold wt at hw
      rw [List.map_cons, List.sum_cons] at hw
      have := Nat.two_pow_pos (c45 x)
      rw [Nat.pow_succ] at hw
      omega
  | succ n ih =>
    intro st k hst hw
    cases st with
    | nil => exact fun z => by cases z
    | cons x st =>
      have hx := hst x List.mem_cons_self
      have hst' : Cb m st := fun y hy => hst y (List.mem_cons_of_mem _ hy)
      have hw' : (2 ^ (c45 x + 1) - 1) + wt st ≤ n + 1 := by
        unfold wt at hw ⊢
        rw [List.map_cons, List.sum_cons] at hw
        exact hw
      have p := Nat.two_pow_pos (c45 x)
      rw [Nat.pow_succ] at hw'
      show (match L x with | .un => _ | .sm => _ | .op => _) ≠ none
      cases e : L x with
      | un => exact fun z => by cases z
      | sm => exact ih st _ hst' (by omega)
      | op =>
        have h45 := hop x hx.1 hx.2 e
        have a0 := c45_set h45 (c := 48) (by decide)
        have a1 := c45_set h45 (c := 49) (by decide)
        refine ih _ k (fun y hy => ?_) ?_
        · rcases List.mem_cons.mp hy with w | w
          · rw [w]
            exact Cb.set hx _ 48 (.inr (.inl rfl))
          · rcases List.mem_cons.mp w with w | w
            · rw [w]
              exact Cb.set hx _ 49 (.inr (.inr rfl))
            · exact hst' y w
        · show (List.map _ (_ :: _ :: st)).sum ≤ n
          rw [List.map_cons, List.map_cons, List.sum_cons, List.sum_cons]
          rw [show c45 (x.set (ix45 x) 48) + 1 = c45 x from a0, show c45 (x.set (ix45 x) 49) + 1 = c45 x from a1]
          have : (st.map fun x => 2 ^ (c45 x + 1) - 1).sum = wt st := rfl
          omega
theorem dfs_full {L : List Nat → Lk} {m : Nat} (hop : Hop L m) {n : Nat} (h : 2 ^ (m + 1) ≤ n) : dfs L n [List.replicate m 45] [] ≠ none := by
  refine dfs_some hop n _ [] (fun x hx => ?_) ?_
  · rw [List.mem_singleton.mp hx]
    exact ⟨List.length_replicate, fun a ha => .inl (List.eq_of_mem_replicate ha)⟩
  · unfold wt c45
    rw [List.map_cons, List.map_nil, List.sum_cons, List.sum_nil, List.count_replicate_self]
    omega
def resD : Rs → PyData
  | .sm ks => .tuple [.str (Str.ofString "same"), .list ((ks.map SX.S).map PyData.str)]
  | .un x => .tuple [.str (Str.ofString "unlike"), .str (SX.S (z0 x))]
theorem cV_str (ks : List (List Nat)) : cV ks = (ks.map SX.S).map V.str := by
  unfold cV
  rw [List.map_map]
  rfl
theorem TolAt.dp {H0 H H' : Hp} {T : Addr} {r : Rs} (h : TolAt H0 H T r) (s : Same H H') : Dp K H' (.ref T) (resD r) := by
  cases r with
  | sm ks =>
    obtain ⟨k0, a, c, _⟩ := h
    rw [cV_str] at c
    exact .tup (.inl (.inl (s _ _ a))) (.cons (.str _) (.cons (.lst (SqL.of (s _ _ c)) (dp_strs3 _)) .nil))
  | un x => exact .tup (.inl (.inl (s _ _ h))) (.cons (.str _) (.cons (.str _) .nil))
theorem inj_nodup {l : List (Str × List Nat)} (h : Inj l) : (l.map (·.1)).Nodup := by
  rw [List.Nodup, List.pairwise_iff_getElem]
  intro i j hi hj hij e
  rw [List.getElem_map, List.getElem_map] at e
  rw [List.length_map] at hi hj
  have := h i j _ _ (List.getElem?_eq_getElem hi) (List.getElem?_eq_getElem hj) e
  omega
theorem inj_of {l : List (Str × List Nat)} (h : (l.map (·.1)).Nodup) : Inj l := fun i j x y hx hy e => by
  have hi := (List.getElem?_eq_some_iff.mp hx).1
  refine (List.getElem?_inj (l := l.map (·.1)) (by rw [List.length_map]; exact hi) h).mp ?_
  rw [List.getElem?_map, List.getElem?_map, hx, hy]
  exact congrArg some e
theorem Inj.perm {a b : List (Str × List Nat)} (h : Inj a) (p : a.Perm b) : Inj b := inj_of ((p.map (·.1)).nodup_iff.mp (inj_nodup h))
theorem GsOk.snoc {m : Nat} {gs : List Gt} {g : Gt} (h : GsOk m gs) (hg : g.ok (m + gs.length)) : GsOk m (gs ++ [g]) := fun i g' hi => by
  by_cases d : i < gs.length
  · rw [List.getElem?_append_left d] at hi
    exact h i g' hi
  · have i0 : i = gs.length := by
      have := (List.getElem?_eq_some_iff.mp hi).1
      rw [List.length_append, List.length_cons, List.length_nil] at this
      omega
    rw [List.getElem?_append_right (by omega), i0, Nat.sub_self] at hi
    cases hi
    rw [i0]
    exact hg
theorem kept_rep {m : Nat} {t : List Nat} (h : t.length = m) : KeptL (List.replicate m 45) t := ⟨by rw [List.length_replicate, h], fun i a c ha _ => .inl (List.eq_of_mem_replicate (List.mem_of_getElem? ha))⟩
end
section
variable {P : Program} {w : World} {K : PySem.W.Frag} {mg : Str → Option Value} {base : Heap}
variable {C : Addr} {za : Nat → Addr} {zl : Nat → FuncData} {E_TooMuch I_TooMuch : Addr}
/-! ### bent rows -/
theorem ixn {n a : Nat} (h : a < n) : ixN n (a : Int) = some a := by
  unfold ixN
  rw [if_pos (by omega), if_pos (by omega)]
  rfl
def spBent : Sp := fun vs H Q _ => ∃ (b R : Addr) (c : Int) (m : Nat) (gs : List Gt), vs = [.ref b, .int (m : Int), .ref R] ∧ BoxAt c H b ∧ c ≤ 800000000 ∧ 1 ≤ m ∧ m ≤ 100 ∧ RowsAt46 H R gs ∧ GsOk m gs ∧ 1 ≤ gs.length ∧ gs.length ≤ 300 ∧
  ∀ (R' : Addr) (gs' : List Gt) (H' : Hp), gs'.length = gs.length → GsOk m gs' → RowsAt46 H' R' gs' → BoxAt (c + 5) H' b → Keep b H H' → Q (.ref R') H'
theorem ok__law_bent_rows (B : Bl mg) (L : LL K mg C za zl E_TooMuch I_TooMuch) : FnOk P w K mg base CX0 2 (za 35) (zl 35) ["_law_box_here", "_law_first", "_law_rows"] spBent := by
  have G__law_take : FnOk P w K mg base CX0 1 (za 32) (zl 32) ["_law_box_here", "_law_size"] (spTake 1) := (ok_take L.F__law_take L.b__law_take L.m__law_take B 1).mono (by decide)
  refine L.F__law_bent_rows.ok sc__law_bent_rows (fun vs H Q E h => ?_) (fun cdv A outer s H vs Q E hr h => ?_)
  · obtain ⟨b, R, c, m, gs, rfl, _⟩ := h
    rfl
  obtain ⟨b, R, c, m, gs, rfl, hB, hc, m1, m8, hR, ok, g1, g40, q⟩ := h
  refine ⟨_, (pss_cons (ps_par (by rfl) sc__law_bent_rows.nd (i := 3) (j := 4) rfl rfl (by decide) rfl rfl (pa_cons (pe_callTy call_list_of (by rfl) B.list PyProof.Rows.boot_list (pa_cons (pv 2) pa_nil)) (pa_cons (pe_call G__law_take hr (by rfl) L.m__law_take L.F__law_take.kp L.b__law_take .nil pass0 (pa_cons (pv 0) (pa_cons (pe_callB call_len_seq (by rfl) B.len PySem.boot_len (pa_cons (pv 2) pa_nil)) pa_nil))) pa_nil)) (by rfl))
    (pss_cons (ps_par (by rfl) sc__law_bent_rows.nd (i := 5) (j := 6) rfl rfl (by decide) rfl rfl (pa_cons (pe_ix ix_list (pv 2) (pv 4) (fun _ _ => rfl)) (pa_cons (pe_call G__law_take hr (by rfl) L.m__law_take L.F__law_take.kp L.b__law_take .nil pass0 (pa_cons (pv 0) (pa_cons pe_int pa_nil))) pa_nil)) (by rfl))
    (pss_cons (ps_if (pt_cmpR op_in_seq (pe_ix ix_tup (pv 5) pe_int (fun _ _ => rfl)) (pe_tup (pa_cons pe_str (pa_cons pe_str (pa_cons pe_str pa_nil)))) (by rfl)) (pss_cons (ps_set (i := 7) sc__law_bent_rows.nd rfl (.inl rfl) (pe_lst (pa_cons (pe_tup (pa_cons pe_str (pa_cons pe_str pa_nil))) (pa_cons (pe_tup (pa_cons pe_str (pa_cons pe_str pa_nil))) (pa_cons (pe_tup (pa_cons pe_str (pa_cons pe_str pa_nil))) pa_nil)))))
    (pss_cons (ps_set (i := 8) sc__law_bent_rows.nd rfl (.inl rfl) (pe_callTy (call_dictP rfl) (by rfl) L.z_dict PyProof.Rows.boot_dict (pa_cons (pv 7) pa_nil)))
    (pss_one (ps_asg (pe_ix ix_list (pe_lst (pa_cons (pe_op op_catT (pe_tup (pa_cons (pe_dget (units1 hr) (pv 8) (pe_ix ix_tup (pv 5) pe_int (fun _ _ => rfl)) (fun _ _ => rfl)) pa_nil)) (pe_slice sl_tup (pv 5) (po_some pe_int) po_none)) (pa_cons (pe_tup (pa_cons (pe_ix ix_tup (pv 5) pe_int (fun _ _ => rfl)) (pa_cons (pe_ix ix_tup (pv 5) pe_int (fun _ _ => rfl)) (pa_cons (pe_ix ix_tup (pv 5) pe_int (fun _ _ => rfl)) pa_nil)))) (pa_cons (pe_tup (pa_cons (pe_ix ix_tup (pv 5) pe_int (fun _ _ => rfl)) (pa_cons (pe_ix ix_tup (pv 5) pe_int (fun _ _ => rfl)) (pa_cons (pe_call G__law_take hr (by rfl) L.m__law_take L.F__law_take.kp L.b__law_take .nil pass0 (pa_cons (pv 0) (pa_cons (pe_op op_add (pv 1) (pv 4)) pa_nil))) pa_nil)))) (pa_cons (pe_tup (pa_cons (pe_ix ix_tup (pv 5) pe_int (fun _ _ => rfl)) (pa_cons (pe_ix ix_tup (pv 5) pe_int (fun _ _ => rfl)) (pa_cons (pe_ix ix_tup (pv 5) pe_int (fun _ _ => rfl)) pa_nil)))) (pa_cons (pe_tup (pa_cons pe_str (pa_cons (pe_ix ix_tup (pv 5) pe_int (fun _ _ => rfl)) pa_nil))) pa_nil)))))) (pv 6) (fun _ _ => rfl)) (pg_sub (pv 3) (pv 4) set_list))))) (pss_one (ps_if (pt_cmpR op_eq (pe_ix ix_tup (pv 5) pe_int (fun _ _ => rfl)) pe_str (nomark _)) (pss_one (ps_asg (pe_tup (pa_cons (pe_ix ix_tup (pv 5) pe_int (fun _ _ => rfl)) (pa_cons (pe_ix ix_list (pe_lst (pa_cons (pe_op op_sub pe_int (pe_ix ix_tup (pv 5) pe_int (fun _ _ => rfl))) (pa_cons (pe_ix ix_tup (pv 5) pe_int (fun _ _ => rfl)) pa_nil))) (pe_op op_mod (pv 6) pe_int) (fun _ _ => rfl)) pa_nil))) (pg_sub (pv 3) (pv 4) set_list))) (pss_one (ps_asg (pe_tup (pa_cons pe_str (pa_cons (pe_call G__law_take hr (by rfl) L.m__law_take L.F__law_take.kp L.b__law_take .nil pass0 (pa_cons (pv 0) (pa_cons (pe_op op_add (pv 1) (pv 4)) pa_nil))) pa_nil))) (pg_sub (pv 3) (pv 4) set_list))))))
    (pss_one (ps_ret (pv 3)))))), ?_⟩
  obtain ⟨ts, lt, eR, hts⟩ := id hR
  have lR : (ts.map V.ref).length = gs.length := by rw [List.length_map, lt]
  refine ⟨_, rfl, R, _, rfl, .inl (SqL.of eR), fun M nM => ?_⟩
  have sM := same_upd (o := .lst (ts.map V.ref)) nM
  have eM : (upd H M (.lst (ts.map V.ref))) M = some (.lst (ts.map V.ref)) := upd_same
  have nMb : M ≠ b := fun z => by
    obtain ⟨_, _, _, e, _⟩ := hB
    rw [← z, nM] at e
    cases e
  generalize upd H M (.lst (ts.map V.ref)) = H1 at *
  refine ⟨_, rfl, _, rfl, R, _, rfl, .inl (SqL.of (sM _ _ eR)), ?_⟩
  rw [lR]
  refine ⟨b, _, c, rfl, hB.same sM, by omega, by omega, by omega, by omega, by decide, fun r H2 r0 r1 B2 k2 => ?_⟩
  obtain ⟨a, rfl⟩ := Int.eq_ofNat_of_zero_le r0
  have al : a < gs.length := by omega
  refine ⟨_, _, rfl, ?_⟩
  try simp only [L2.start, List.map_cons, List.map_nil, List.length_cons, List.length_nil, List.replicate_succ, List.replicate_zero, List.cons_append, List.nil_append, List.set_cons_succ, List.set_cons_zero, Nat.reduceAdd, Nat.reduceSub, Nat.zero_add]
  have hR2 := (hR.same sM).keepB k2 (hB.same sM)
  have eM2 := k2 _ _ eM nMb
  obtain ⟨ts', lt', eR2, hts'⟩ := id hR2
  have eRR : ts' = ts := by
    have e1 := k2 _ _ (sM _ _ eR) (hR.ne hB)
    rw [eR2] at e1
    have e2 : ts'.map V.ref = ts.map V.ref := by
      injection e1 with e1
      injection e1
    exact (List.map_inj_right (fun x y h => by injection h)).mp e2
  subst eRR
  obtain ⟨g, hg⟩ : ∃ g, gs[a]? = some g := ⟨_, List.getElem?_eq_getElem al⟩
  obtain ⟨u, hu⟩ : ∃ u, ts'[a]? = some u := ⟨_, List.getElem?_eq_getElem (by omega)⟩
  have et := hts' a u g hu hg
  have okg := ok a g hg
  refine ⟨_, rfl, _, rfl, R, _, _, _, rfl, rfl, SqL.of eR2, atI_nat (j := a) (by rw [List.getElem?_map, hu]; rfl), ?_⟩
  refine ⟨_, rfl, b, 5, c + 1, rfl, B2, by decide, by decide, by decide, by omega, by decide, fun wy H3 w0 w5 B3 k3 => ?_⟩
  refine ⟨_, _, rfl, ?_⟩
  try simp only [L2.start, List.map_cons, List.map_nil, List.length_cons, List.length_nil, List.replicate_succ, List.replicate_zero, List.cons_append, List.nil_append, List.set_cons_succ, List.set_cons_zero, Nat.reduceAdd, Nat.reduceSub, Nat.zero_add]
  have hR3 := hR2.keepB k3 B2
  have eM3 := k3 _ _ eM2 nMb
  have nub : u ≠ b := fun z => by
    obtain ⟨_, _, _, e, _⟩ := B2
    rw [← z, et] at e
    cases e
  have et3 := k3 _ _ et nub
  have kH3 : Keep b H H3 := fun y o e n => k3 _ _ (k2 _ _ (sM _ _ e) n) n
  have fin : ∀ (g' : Gt) (H4 : Hp) (t' : Addr), g'.ok (m + a) → H4 t' = some (.tup g'.row) → Keep b H3 H4 → BoxAt (c + 5) H4 b → Q (.ref M) (upd H4 M (.lst ((ts'.map V.ref).set a (.ref t')))) := fun g' H4 t' og et' k4 B4 => by
    have eM4 := k4 _ _ eM3 nMb
    refine q M (gs.set a g') _ List.length_set (fun i x hi => ?_) ⟨ts'.set a t', by rw [List.length_set, List.length_set, lt'], by rw [upd_same, List.map_set], fun i t x ht hx => ?_⟩ ?_ ?_
    · by_cases ia : a = i
      · subst ia
        rw [List.getElem?_set_self al] at hi
        cases hi
        exact og
      · rw [List.getElem?_set_ne ia] at hi
        exact ok i x hi
    · by_cases ia : a = i
      · subst ia
        rw [List.getElem?_set_self (by omega)] at ht hx
        cases ht
        cases hx
        rw [upd_ne (fun z => by rw [z, eM4] at et'; cases et')]
        exact et'
      · rw [List.getElem?_set_ne ia] at ht hx
        have e := hR3
        have e2 := hts' i t x ht hx
        have tb : t ≠ b := fun z => by
          obtain ⟨_, _, _, e, _⟩ := B2
          rw [← z, e2] at e
          cases e
        have e4 := k4 _ _ (k3 _ _ e2 tb) tb
        rw [upd_ne (fun z => by rw [z, eM4] at e4; cases e4)]
        exact e4
    · exact B4.at (upd_ne nMb.symm)
    · exact fun y o e n => by
        rw [upd_ne (ne_of_none e nM)]
        exact k4 _ _ (kH3 _ _ e n) n
  cases g with
  | fi bb =>
    have r0 : atI (Gt.fi bb).row 0 = some (.str "fixed") := rfl
    refine ⟨_, rfl, u, _, _, _, rfl, rfl, .inl (.inl et3), r0, (by show 3 ≤ sizeLine; decide), fun U nU => ?_⟩
    refine ⟨U, _, rfl, .inr (.inl (.inl upd_same)), rfl, rfl, _, rfl, ite2 (fun z => absurd z (by decide +kernel)) (fun _ => ?_)⟩
    have sU := same_upd (o := .tup [.str "both", .str "either", .str "unlike"]) nU
    have et4 := sU _ _ et3
    have k4 : Keep b H3 _ := .ofSame sU
    have B4 := B3.same sU
    generalize upd H3 U _ = H4 at *
    refine ⟨_, rfl, u, _, _, _, rfl, rfl, .inl (.inl et4), r0, rfl, _, rfl, ite2 (fun _ => ?_) (fun z => absurd (decide_eq_true rfl) z)⟩
    refine ⟨_, rfl, u, _, _, _, rfl, rfl, .inl (.inl et4), r0, _, rfl, u, _, _, _, rfl, rfl, .inl (.inl et4), rfl, _, _, rfl, rfl, _, rfl, u, _, _, _, rfl, rfl, .inl (.inl et4), rfl, (by show 2 ≤ sizeLine; decide), fun D nD => ?_⟩
    have sD := same_upd (o := .lst [.int (1 - (bb : Int)), .int (bb : Int)]) nD
    have eD : (upd H4 D (.lst [.int (1 - (bb : Int)), .int (bb : Int)])) D = some (.lst [.int (1 - (bb : Int)), .int (bb : Int)]) := upd_same
    have k5 := k4.trans (.ofSame sD)
    have B5 := B4.same sD
    generalize upd H4 D _ = H5 at *
    have b1 : bb ≤ 1 := okg
    obtain ⟨bb', hb', h01⟩ : ∃ b' : Nat, atI [V.int (1 - (bb : Int)), .int (bb : Int)] (wy % 2) = some (.int (b' : Int)) ∧ b' ≤ 1 := by
      have : wy % 2 = 0 ∨ wy % 2 = 1 := by omega
      rcases this with e | e <;> rw [e]
      · exact ⟨1 - bb, congrArg (fun z => some (V.int z)) (by omega), by omega⟩
      · exact ⟨bb, rfl, by omega⟩
    refine ⟨_, rfl, _, _, rfl, rfl, (by show (0 : Int) < 2; decide), D, _, _, _, rfl, rfl, SqL.of eD, hb', (by show 2 ≤ sizeLine; decide), fun T nT => ?_⟩
    have sT := same_upd (o := .tup [.str "fixed", .int (bb' : Int)]) nT
    have eT : (upd H5 T (.tup [.str "fixed", .int (bb' : Int)])) T = some (.tup [.str "fixed", .int (bb' : Int)]) := upd_same
    have k6 := k5.trans (.ofSame sT)
    have B6 := B5.same sT
    generalize upd H5 T _ = H6 at *
    refine ⟨_, rfl, _, rfl, M, _, _, a, rfl, rfl, k6 _ _ eM3 nMb, ixn (by rw [List.length_map]; omega), ?_⟩
    exact ⟨_, rfl, fin (.fi bb') H6 T h01 eT k6 (B6.mono (by omega))⟩
  | w k l =>
    have r0 := Gt.row0 k l
    rcases okg.1 with ⟨hk, l2⟩ | ⟨rfl, l1⟩
    · obtain ⟨p, p2, rfl⟩ : ∃ p p2, l = [p, p2] := by
        match l, l2 with
        | [p, p2], _ => exact ⟨_, _, rfl⟩
      refine ⟨_, rfl, u, _, _, _, rfl, rfl, .inl (.inl et3), r0, (by show 3 ≤ sizeLine; decide), fun U nU => ?_⟩
      refine ⟨U, _, rfl, .inr (.inl (.inl upd_same)), rfl, rfl, _, rfl, ite2 (fun _ => ?_) (fun z => absurd (by rcases hk with rfl | rfl | rfl <;> decide +kernel) z)⟩
      have sU := same_upd (o := .tup [.str "both", .str "either", .str "unlike"]) nU
      have et4 := sU _ _ et3
      have k4 : Keep b H3 _ := .ofSame sU
      have B4 := B3.same sU
      generalize upd H3 U _ = H4 at *
      refine ⟨(by show 2 ≤ sizeLine; decide), fun S1 nS1 => ?_⟩
      have s5 := same_upd (o := .tup [.str "both", .str "either"]) nS1
      have eS1 : (upd H4 S1 (.tup [.str "both", .str "either"])) S1 = some (.tup [.str "both", .str "either"]) := upd_same
      have k5 := k4.trans (.ofSame s5)
      have B5 := B4.same s5
      have et5 := s5 _ _ et4
      generalize upd H4 S1 _ = H5 at *
      refine ⟨(by show 2 ≤ sizeLine; decide), fun S2 nS2 => ?_⟩
      have s6 := same_upd (o := .tup [.str "either", .str "unlike"]) nS2
      have eS2 : (upd H5 S2 (.tup [.str "either", .str "unlike"])) S2 = some (.tup [.str "either", .str "unlike"]) := upd_same
      have k6 := k5.trans (.ofSame s6)
      have B6 := B5.same s6
      have et6 := s6 _ _ et5
      generalize upd H5 S2 _ = H6 at *
      refine ⟨(by show 2 ≤ sizeLine; decide), fun S3 nS3 => ?_⟩
      have s7 := same_upd (o := .tup [.str "unlike", .str "both"]) nS3
      have eS3 : (upd H6 S3 (.tup [.str "unlike", .str "both"])) S3 = some (.tup [.str "unlike", .str "both"]) := upd_same
      have k7 := k6.trans (.ofSame s7)
      have B7 := B6.same s7
      have et7 := s7 _ _ et6
      generalize upd H6 S3 _ = H7 at *
      have eS1 := s7 _ _ (s6 _ _ eS1)
      have eS2 := s7 _ _ eS2
      refine ⟨(by show 3 ≤ sizeLine; decide), fun S nS => ?_⟩
      have s8 := same_upd (o := .lst [.ref S1, .ref S2, .ref S3]) nS
      have eS : (upd H7 S (.lst [.ref S1, .ref S2, .ref S3])) S = some (.lst [.ref S1, .ref S2, .ref S3]) := upd_same
      have k8 := k7.trans (.ofSame s8)
      have B8 := B7.same s8
      have et8 := s8 _ _ et7
      generalize upd H7 S _ = H8 at *
      refine ⟨_, rfl, S, [S1, S2, S3], [(.inr "both", .str "either"), (.inr "either", .str "unlike"), (.inr "unlike", .str "both")], rfl, SqL.of eS, .cons (.inl (.inl (s8 _ _ eS1))) (.cons (.inl (.inl (s8 _ _ eS2))) (.cons (.inl (.inl (s8 _ _ eS3))) .nil)), fun Dk nDk => ?_⟩
      have s9 := same_upd (o := .dK (mergeK [] [(.inr "both", .str "either"), (.inr "either", .str "unlike"), (.inr "unlike", .str "both")])) nDk
      have eDk : (upd H8 Dk (.dK (mergeK [] [(.inr "both", .str "either"), (.inr "either", .str "unlike"), (.inr "unlike", .str "both")]))) Dk = some (.dK (mergeK [] [(.inr "both", .str "either"), (.inr "either", .str "unlike"), (.inr "unlike", .str "both")])) := upd_same
      have k9 := k8.trans (.ofSame s9)
      have B9 := B8.same s9
      have et9 := s9 _ _ et8
      generalize upd H8 Dk _ = H9 at *
      obtain ⟨k', hk', hkk⟩ : ∃ k' : Str, valV (mergeK [] [(Sum.inr ("both" : Str), V.str "either"), (.inr "either", .str "unlike"), (.inr "unlike", .str "both")] : List (Key × V)) (.inr k) = some (.str k') ∧ (k' = "both" ∨ k' = "either" ∨ k' = "unlike") := by
        rcases hk with rfl | rfl | rfl
        · exact ⟨"either", rfl, .inr (.inl rfl)⟩
        · exact ⟨"unlike", rfl, .inr (.inr rfl)⟩
        · exact ⟨"both", rfl, .inl rfl⟩
      dsimp only [gName]
      try simp only [L2.start, List.map_cons, List.map_nil, List.length_cons, List.length_nil, List.replicate_succ, List.replicate_zero, List.cons_append, List.nil_append, List.set_cons_succ, List.set_cons_zero, Nat.reduceAdd, Nat.reduceSub, Nat.zero_add]
      refine ⟨_, rfl, _, rfl, u, _, _, _, rfl, rfl, .inl (.inl et9), r0, Dk, _, rfl, .inl ⟨_, .inr k, .inl eDk, rfl, hk'.symm⟩, (by show 1 ≤ sizeLine; decide), fun T1 nT1 => ?_⟩
      have s10 := same_upd (o := .tup [.str k']) nT1
      have eT1 : (upd H9 T1 (.tup [.str k'])) T1 = some (.tup [.str k']) := upd_same
      have k10 := k9.trans (.ofSame s10)
      have B10 := B9.same s10
      have et10 := s10 _ _ et9
      generalize upd H9 T1 _ = H10 at *
      refine ⟨_, rfl, _, rfl, u, _, rfl, .inl (.inl et10), (by show ¬ (HT.sIx 3 0 (some 1) = 0 ∧ HT.sIx 3 3 none = 3); decide), fun T2 nT2 => ?_⟩
      have s11 := same_upd (o := .tup (cutV (Gt.w k [p, p2]).row (some 1) none)) nT2
      have eT2 : (upd H10 T2 (.tup (cutV (Gt.w k [p, p2]).row (some 1) none))) T2 = some (.tup (cutV (Gt.w k [p, p2]).row (some 1) none)) := upd_same
      have k11 := k10.trans (.ofSame s11)
      have B11 := B10.same s11
      have et11 := s11 _ _ et10
      generalize upd H10 T2 _ = H11 at *
      refine ⟨T1, T2, _, _, rfl, rfl, .inl (.inl (s11 _ _ eT1)), .inl (.inl eT2), (by simp), (by show 3 ≤ sizeLine; decide), (fun z => by cases z), fun _ T3 nT3 => ?_⟩
      have z3 : T3 ≠ b := (B11.ne nT3).symm
      have s12 := same_upd (o := .tup ([.str k'] ++ cutV (Gt.w k [p, p2]).row (some 1) none)) nT3
      have eT3 : (upd H11 T3 (.tup ([.str k'] ++ cutV (Gt.w k [p, p2]).row (some 1) none))) T3 = some (.tup ([.str k'] ++ cutV (Gt.w k [p, p2]).row (some 1) none)) := upd_same
      have k12 := k11.trans (.ofSame s12)
      have B12 := B11.same s12
      have et12 := s12 _ _ et11
      generalize upd H11 T3 _ = H12 at *
      refine ⟨_, rfl, u, _, _, _, rfl, rfl, .inl (.inl et12), r0, _, rfl, u, _, _, _, rfl, rfl, .inl (.inl et12), rfl, _, rfl, u, _, _, _, rfl, rfl, .inl (.inl et12), rfl, (by show 3 ≤ sizeLine; decide), fun T4 nT4 => ?_⟩
      have z4 : T4 ≠ b := (B12.ne nT4).symm
      have s13 := same_upd (o := .tup [.str k, .int (p2 : Int), .int (p : Int)]) nT4
      have eT4 : (upd H12 T4 (.tup [.str k, .int (p2 : Int), .int (p : Int)])) T4 = some (.tup [.str k, .int (p2 : Int), .int (p : Int)]) := upd_same
      have k13_ := k12.trans (.ofSame s13)
      have B13 := B12.same s13
      have et13 := s13 _ _ et12
      generalize upd H12 T4 _ = H13 at *
      refine ⟨_, rfl, u, _, _, _, rfl, rfl, .inl (.inl et13), r0, _, rfl, u, _, _, _, rfl, rfl, .inl (.inl et13), rfl, _, rfl, _, rfl, _, rfl, _, _, rfl, rfl, ?_⟩
      refine ⟨b, _, c + 2, rfl, B13.mono (by omega), by omega, by omega, by omega, by omega, by decide, fun r H14 q0 q1 B14 j14 => ?_⟩
      obtain ⟨p', rfl⟩ := Int.eq_ofNat_of_zero_le q0
      have et14 := j14 _ _ et13 nub
      have k14 := k13_.trans j14
      refine ⟨(by show 3 ≤ sizeLine; decide), fun T5 nT5 => ?_⟩
      have s15 := same_upd (o := .tup [.str k, .int (p : Int), .int (p' : Int)]) nT5
      have eT5 : (upd H14 T5 (.tup [.str k, .int (p : Int), .int (p' : Int)])) T5 = some (.tup [.str k, .int (p : Int), .int (p' : Int)]) := upd_same
      have k15 := k14.trans (.ofSame s15)
      have B15 := B14.same s15
      have et15 := s15 _ _ et14
      generalize upd H14 T5 _ = H15 at *
      refine ⟨_, rfl, u, _, _, _, rfl, rfl, .inl (.inl et15), r0, _, rfl, u, _, _, _, rfl, rfl, .inl (.inl et15), rfl, _, rfl, u, _, _, _, rfl, rfl, .inl (.inl et15), rfl, (by show 3 ≤ sizeLine; decide), fun T6 nT6 => ?_⟩
      have s16 := same_upd (o := .tup [.str k, .int (p2 : Int), .int (p : Int)]) nT6
      have eT6 : (upd H15 T6 (.tup [.str k, .int (p2 : Int), .int (p : Int)])) T6 = some (.tup [.str k, .int (p2 : Int), .int (p : Int)]) := upd_same
      have k16 := k15.trans (.ofSame s16)
      have B16 := B15.same s16
      have et16 := s16 _ _ et15
      generalize upd H15 T6 _ = H16 at *
      refine ⟨_, rfl, u, _, _, _, rfl, rfl, .inl (.inl et16), rfl, (by show 2 ≤ sizeLine; decide), fun T7 nT7 => ?_⟩
      have s17 := same_upd (o := .tup [.str "other", .int (p : Int)]) nT7
      have eT7 : (upd H16 T7 (.tup [.str "other", .int (p : Int)])) T7 = some (.tup [.str "other", .int (p : Int)]) := upd_same
      have k17 := k16.trans (.ofSame s17)
      have B17 := B16.same s17
      have et17 := s17 _ _ et16
      generalize upd H16 T7 _ = H17 at *
      refine ⟨(by show 5 ≤ sizeLine; decide), fun W nW => ?_⟩
      have s18 := same_upd (o := .lst [.ref T3, .ref T4, .ref T5, .ref T6, .ref T7]) nW
      have eW : (upd H17 W (.lst [.ref T3, .ref T4, .ref T5, .ref T6, .ref T7])) W = some (.lst [.ref T3, .ref T4, .ref T5, .ref T6, .ref T7]) := upd_same
      have k18 := k17.trans (.ofSame s18)
      have B18 := B17.same s18
      have et18 := s18 _ _ et17
      generalize upd H17 W _ = H18 at *
      have f3 := s18 _ _ (s17 _ _ (s16 _ _ (s15 _ _ (j14 _ _ (s13 _ _ eT3) z3))))
      have f4 := s18 _ _ (s17 _ _ (s16 _ _ (s15 _ _ (j14 _ _ eT4 z4))))
      have f5 := s18 _ _ (s17 _ _ (s16 _ _ eT5))
      have f6 := s18 _ _ (s17 _ _ eT6)
      have f7 := s18 _ _ eT7
      have lp : p < m + a := okg.2 p (by simp)
      have lp2 : p2 < m + a := okg.2 p2 (by simp)
      have two : ∀ x y : Nat, x < m + a → y < m + a → ∀ z ∈ [x, y], z < m + a := fun x y hx hy z hz => by
        simp only [List.mem_cons, List.not_mem_nil, or_false] at hz
        rcases hz with rfl | rfl <;> assumption
      obtain ⟨t', g', ha', ht', hg'⟩ : ∃ (t' : Addr) (g' : Gt), atI [V.ref T3, .ref T4, .ref T5, .ref T6, .ref T7] wy = some (.ref t') ∧ H18 t' = some (.tup g'.row) ∧ g'.ok (m + a) := by
        have : wy = 0 ∨ wy = 1 ∨ wy = 2 ∨ wy = 3 ∨ wy = 4 := by omega
        rcases this with rfl | rfl | rfl | rfl | rfl
        · exact ⟨T3, .w k' [p, p2], rfl, f3, .inl ⟨hkk, rfl⟩, two _ _ lp lp2⟩
        · exact ⟨T4, .w k [p2, p], rfl, f4, .inl ⟨hk, rfl⟩, two _ _ lp2 lp⟩
        · exact ⟨T5, .w k [p, p'], rfl, f5, .inl ⟨hk, rfl⟩, two _ _ lp (by omega)⟩
        · exact ⟨T6, .w k [p2, p], rfl, f6, .inl ⟨hk, rfl⟩, two _ _ lp2 lp⟩
        · exact ⟨T7, .w "other" [p], rfl, f7, .inr ⟨rfl, rfl⟩, fun x hx => by rw [List.mem_singleton.mp hx]; exact lp⟩
      refine ⟨_, rfl, W, _, _, _, rfl, rfl, SqL.of eW, ha', ?_⟩
      refine ⟨_, rfl, _, rfl, M, _, _, a, rfl, rfl, k18 _ _ eM3 nMb, ixn (by rw [List.length_map]; omega), ?_⟩
      exact ⟨_, rfl, fin g' H18 t' hg' ht' k18 (B18.mono (by omega))⟩
    · obtain ⟨p, rfl⟩ : ∃ p, l = [p] := by
        match l, l1 with
        | [p], _ => exact ⟨_, rfl⟩
      refine ⟨_, rfl, u, _, _, _, rfl, rfl, .inl (.inl et3), r0, (by show 3 ≤ sizeLine; decide), fun U nU => ?_⟩
      refine ⟨U, _, rfl, .inr (.inl (.inl upd_same)), rfl, rfl, _, rfl, ite2 (fun z => absurd z (by decide +kernel)) (fun _ => ?_)⟩
      have sU := same_upd (o := .tup [.str "both", .str "either", .str "unlike"]) nU
      have et4 := sU _ _ et3
      have k4 : Keep b H3 _ := .ofSame sU
      have B4 := B3.same sU
      generalize upd H3 U _ = H4 at *
      refine ⟨_, rfl, u, _, _, _, rfl, rfl, .inl (.inl et4), r0, rfl, _, rfl, ite2 (fun z => absurd z (by decide +kernel)) (fun _ => ?_)⟩
      refine ⟨_, rfl, _, rfl, _, rfl, _, _, rfl, rfl, ?_⟩
      refine ⟨b, _, c + 2, rfl, B4.mono (by omega), by omega, by omega, by omega, by omega, by decide, fun r H5 r0' r1' B5 k5 => ?_⟩
      obtain ⟨p', rfl⟩ := Int.eq_ofNat_of_zero_le r0'
      refine ⟨(by show 2 ≤ sizeLine; decide), fun T nT => ?_⟩
      have sT := same_upd (o := .tup [.str "other", .int (p' : Int)]) nT
      have eT : (upd H5 T (.tup [.str "other", .int (p' : Int)])) T = some (.tup [.str "other", .int (p' : Int)]) := upd_same
      have k6 := (k4.trans k5).trans (.ofSame sT)
      have B6 := B5.same sT
      generalize upd H5 T _ = H6 at *
      refine ⟨_, rfl, _, rfl, M, _, _, a, rfl, rfl, k6 _ _ eM3 nMb, ixn (by rw [List.length_map]; omega), ?_⟩
      exact ⟨_, rfl, fin (.w "other" [p']) H6 T ⟨.inr ⟨rfl, rfl⟩, fun x hx => by rw [List.mem_singleton.mp hx]; omega⟩ eT k6 (B6.mono (by omega))⟩
end
section
variable {P : Program} {w : World} {K : PySem.W.Frag} {mg : Str → Option Value} {base : Heap}
variable {C : Addr} {za : Nat → Addr} {zl : Nat → FuncData} {E_TooMuch I_TooMuch : Addr}
/-! ### enumerate of a text: new pairs of place and sign -/
def Itex (x : Str) : It :=
  ⟨fun i _ => i < x.cps.size,
   fun i H v H' => ∃ T c, v = .ref T ∧ H T = none ∧ H' = upd H T (.tup [.int (i : Nat), .str ⟨#[c]⟩]) ∧ x.cps[i]? = some c,
   fun i _ => i = x.cps.size⟩
def StEx (x : Str) (tx : Tok) (e it : Addr) (i : Nat) (h : Heap) : Prop := (∃ old, IsEnum h e it ((i : Nat) : Int) old) ∧ h.IsStrIter it (strIterType x) x tx i
theorem turn_ex {P : Program} {w : World} {K : PySem.W.Frag} {elts : List Expr} {kk : Nat} {tpos : Pos} {x : Str} {tx : Tok} {e it : Addr} (ne : e ≠ it) :
    Turn P w K (.Tuple elts kk tpos) (Itex x) [e, it] e (StEx x tx e it) where
  mem := List.mem_cons_self
  obj := by
    rintro i h ⟨⟨old, a1⟩, ⟨o1, e1, _, d1⟩⟩ c hm
    simp only [List.mem_cons, List.not_mem_nil, or_false] at hm
    rcases hm with z | z <;> subst z
    · exact ⟨_, a1, (fun _ q => nomatch q)⟩
    · exact ⟨o1, e1, (fun _ q => by rw [d1] at q; cases q)⟩
  keep := by
    rintro i h h' ⟨⟨old, a1⟩, s1⟩ k
    obtain ⟨o1, e1, r1⟩ := s1
    exact ⟨⟨old, k e (by simp) _ a1⟩, ⟨o1, k it (by simp) _ e1, r1⟩⟩
  item := by
    intro X hP hw hK hc i pins s σ H E I hf st hg
    subst hP hw hK
    have W := WalksT.enumerateD (prog := X.prog) (w := X.w) (A := X.A) (Draws.text (A := X.A.in1) (I.ok.hd hc) it x tx) e ne (by simpa using ne) (by simp)
    refine W.item i s _ E hg st fun T vals h1 tk pt hT isT mid k1 => ?_
    obtain ⟨t0, u, ⟨c, t1, hc1, rfl⟩, rfl⟩ := pt
    refine ⟨.ref T, rfl, W.go elts kk tpos i T { s with heap := h1, toks := tk } _ E mid fun h2 st2 k2 => ?_⟩
    have nT : T ∉ [e, it] := W.apart i T h1 mid
    have isT2 : h2.IsTuple T #[.int ((i : Nat) : Int) t0, .str ⟨#[c]⟩ t1] := isT.at fun o z => k2 T o nT z
    have new : ObjOk X.prog X.w (upd H T (.tup [.int (i : Nat), .str ⟨#[c]⟩])) h2 T (.tup [.int (i : Nat), .str ⟨#[c]⟩]) :=
      ⟨by show 2 ≤ sizeLine; decide, [.int ((i : Nat) : Int) t0, .str ⟨#[c]⟩ t1], .cons ⟨t0, rfl⟩ (.cons ⟨t1, rfl⟩ .nil), isT2⟩
    have I2 : Inv X pins σ (upd H T (.tup [.int (i : Nat), .str ⟨#[c]⟩])) { s with heap := h2, toks := tk } :=
      I.turnedNew (t' := tk) (ch := [e, it]) (fun b o nb z => k2 b o nb (k1 b o nb z)) hf hT new
    refine ⟨.ref T, _, I2, rfl, ⟨T, c, rfl, I.hok.fresh hT, rfl, hc1⟩, st2, fun b hb => ?_⟩
    have nb : b ≠ T := by
      obtain ⟨⟨old, a1⟩, ⟨o1, e1, _⟩⟩ := st
      have lt : b < s.heap.objs.size := by
        simp only [List.mem_cons, List.not_mem_nil, or_false] at hb
        rcases hb with q | q <;> subst q
        · exact Heap.lt_size a1
        · exact Heap.lt_size e1
      exact Nat.ne_of_lt (Nat.lt_of_lt_of_le lt hT)
    rw [upd_ne nb]
    exact (hf b hb).1
  done := by
    intro X hP hw hK hc i pins s σ H E I hf st hg
    subst hP hw hK
    have W := WalksT.enumerateD (prog := X.prog) (w := X.w) (A := X.A) (Draws.text (A := X.A.in1) (I.ok.hd hc) it x tx) e ne (by simpa using ne) (by simp)
    have hg' : i = x.cps.size := hg
    subst hg'
    exact W.done s _ E st fun h1 tk k1 => ⟨rfl, I.turnedL (t' := tk) (ch := [e, it]) (fun b o nb z => k1 b o nb z) hf⟩
  self := fun A i s Q E st h => by
    obtain ⟨⟨old, a1⟩, _⟩ := st
    exact wpAny_pyIter_enum a1 h
def iEx (ta : TA) : TI := fun σ H R => ta σ H fun vs H1 => ∃ x, vs = [.str x] ∧ R (Itex x) H1
theorem pi_ex {X : Cx} {e : Expr} {ta : TA} {p pos tpos : Pos} {elts : List Expr} {kk : Nat} (hg : Gl X "enumerate") (hm : X.mg "enumerate" = none) (ha : PA X [e] ta) (hs : starEach [e] X.env = [(false, eval e X.env)] := by rfl) :
    PI X (.Tuple elts kk tpos) (.Call (.Name "enumerate" p) [e] [] pos) (iEx ta) := by
  constructor
  intro pins s σ H R I h
  refine Call_ (ld_blt I hg hm boot_enumerate (PyProof.Rows.callWith_type1 (thn (ha.run pos pins s σ H _ I h) fun us s1 hh => ?_) hs rfl))
  obtain ⟨vs, H1, I1, r1, x, rfl, q⟩ := hh
  match us, r1 with
  | [v1], .cons ⟨tx, hx⟩ .nil =>
    subst hx
    refine call_enumerate_str fun h' a1 a2 _ k => wpAny_pyIter_enum a1 ?_
    have I2 : Inv X pins σ H1 { s1 with heap := h' } := I1.kept (t' := s1.toks) k
    have fr : ∀ b ∈ [s1.heap.objs.size + 1, s1.heap.objs.size], FpOk X pins H1 b := fun b hb => by
      have le : s1.heap.objs.size ≤ b := by
        simp only [List.mem_cons, List.not_mem_nil, or_false] at hb
        rcases hb with z | z <;> rw [z]
        · exact Nat.le_add_right _ _
        · exact Nat.le_refl _
      exact I1.fpOk le (I1.hok.fresh le)
    exact ⟨s1.heap.objs.size + 1, [s1.heap.objs.size + 1, s1.heap.objs.size], _, _, H1, rfl, I2, turn_ex (Nat.succ_ne_self _), ⟨⟨_, a1⟩, a2⟩, fr, q⟩
theorem walk_ex {x : List Nat} : Walk (Itex (SX.S x)) x.length (fun _ => True) (YPair (fun i => some (.int (i : Nat))) (fun i => (x[i]?).map fun c => .str (SX.S [c]))) := by
  refine ⟨fun i _ hi _ => by show i < x.toArray.size; rw [List.size_toArray]; exact hi, fun _ _ => by show _ = x.toArray.size; rw [List.size_toArray], fun i H v H' _ _ z => ?_⟩
  obtain ⟨T, c, h1, h2, h3, h4⟩ := z
  refine ⟨T, _, _, h1, h2, h3, rfl, ?_⟩
  have h5 : x[i]? = some c := by
    rw [← h4]
    show _ = x.toArray[i]?
    rw [List.getElem?_toArray]
  simp only [h5]
  rfl
end
section
variable {P : Program} {w : World} {K : PySem.W.Frag} {mg : Str → Option Value} {base : Heap}
variable {C : Addr} {za : Nat → Addr} {zl : Nat → FuncData} {E_TooMuch I_TooMuch : Addr}
/-! ### signs and truths -/
def sgn (b : Bool) : Nat := if b = true then 49 else 48
theorem sgn_inj {a b : Bool} (h : sgn a = sgn b) : a = b := by
  cases a <;> cases b <;> first | rfl | cases h
theorem sgn_bt (vals : List Bool) : BtL (vals.map sgn) := fun c hc => by
  obtain ⟨b, _, rfl⟩ := List.mem_map.mp hc
  cases b
  · exact .inl rfl
  · exact .inr rfl
theorem gsw_bits (x y : Bool) (k : Str) (hk : k = "both" ∨ k = "either" ∨ k = "unlike" ∨ k = "other") : gsw (sgn x) (sgn y) k = sgn (gbw x y k) := by
  rcases hk with rfl | rfl | rfl | rfl <;> cases x <;> cases y <;> decide +kernel
theorem sgn_getD {vals : List Bool} {a : Nat} (h : a < vals.length) : (vals.map sgn).getD a 0 = sgn (vals.getD a false) := by
  simp only [List.getD, List.getElem?_map, List.getElem?_eq_getElem h]
  rfl
theorem gsg_bits {vals : List Bool} {g : Gt} (ok : g.ok vals.length) : gsg (vals.map sgn) g = sgn (gb vals g) := by
  cases g with
  | fi b =>
    show (if b = 1 then 49 else 48) = sgn (decide (b = 1))
    by_cases c : b = 1
    · rw [if_pos c, decide_eq_true c]; rfl
    · rw [if_neg c, decide_eq_false c]; rfl
  | w k ws =>
    obtain ⟨hk, hw⟩ := ok
    have h0 : ws.getD 0 0 < vals.length ∧ ws.getD 1 0 < vals.length := by
      rcases hk with ⟨_, l⟩ | ⟨_, l⟩
      · match ws, l, hw with
        | [a, c], _, hw => exact ⟨hw a (by simp), hw c (by simp)⟩
      · match ws, l, hw with
        | [a], _, hw =>
          have := hw a (by simp)
          exact ⟨this, Nat.lt_of_le_of_lt (Nat.zero_le _) this⟩
    show gsw ((vals.map sgn).getD (ws.getD 0 0) 0) ((vals.map sgn).getD (ws.getD 1 0) 0) k = sgn (gbw (vals.getD (ws.getD 0 0) false) (vals.getD (ws.getD 1 0) false) k)
    rw [sgn_getD h0.1, sgn_getD h0.2]
    exact gsw_bits _ _ _ (by
      rcases hk with ⟨k3, _⟩ | ⟨k1, _⟩
      · rcases k3 with e | e | e
        · exact .inl e
        · exact .inr (.inl e)
        · exact .inr (.inr (.inl e))
      · exact .inr (.inr (.inr k1)))
theorem sgs_rb : ∀ (gs : List Gt) (vals : List Bool), GsOk vals.length gs → sgs (vals.map sgn) gs = (rb vals gs).map sgn
  | [], _, _ => rfl
  | g :: gs, vals, ok => by
    have h0 := gsg_bits (vals := vals) (g := g) (ok 0 g rfl)
    have ih := sgs_rb gs (vals ++ [gb vals g]) fun i g' hi => by
      have := ok (i + 1) g' hi
      rw [List.length_append]
      rw [show vals.length + [gb vals g].length + i = vals.length + (i + 1) by rw [List.length_singleton]; omega]
      exact this
    have e1 : sgs (vals.map sgn) (g :: gs) = sgs (vals.map sgn ++ [gsg (vals.map sgn) g]) gs := rfl
    have e2 : rb vals (g :: gs) = rb (vals ++ [gb vals g]) gs := rfl
    rw [e1, e2, h0, ← ih, List.map_append]
    rfl
/-- told truths -/
def TBr (gs : List Gt) (nm : List (Str × List Nat)) (vals : List Bool) : List (Str × List Bool) := nm.map fun x => (x.1, x.2.map (wb vals gs))
def SRr (L : List (Str × List Bool)) : List (Str × List Nat) := L.map fun y => (y.1, y.2.map sgn)
theorem map_inj' {α β : Type} {f : α → β} (hf : ∀ a b, f a = f b → a = b) : ∀ {x y : List α}, x.map f = y.map f → x = y
  | [], [], _ => rfl
  | [], _ :: _, h => by cases h
  | _ :: _, [], h => by cases h
  | a :: x, b :: y, h => by
    rw [List.map_cons, List.map_cons, List.cons.injEq] at h
    rw [hf a b h.1, map_inj' hf h.2]
theorem SRr_inj {A B : List (Str × List Bool)} (h : SRr A = SRr B) : A = B := map_inj' (fun a b e => by
  obtain ⟨a1, a2⟩ := a
  obtain ⟨b1, b2⟩ := b
  have e1 := (Prod.mk.inj e).1
  have e2 := map_inj' (fun _ _ => sgn_inj) (Prod.mk.inj e).2
  rw [show a1 = b1 from e1, show a2 = b2 from e2]) h
theorem setR_bits {gs : List Gt} {nm : List (Str × List Nat)} {vals : List Bool} (ok : GsOk vals.length gs) (w : ∀ x ∈ nm, ∀ a ∈ x.2, a < vals.length + gs.length) : setR (sgs (vals.map sgn) gs) nm = SRr (TBr gs nm vals) := by
  unfold setR SRr TBr
  rw [List.map_map, sgs_rb gs vals ok]
  refine List.map_congr_left fun x hx => ?_
  show (x.1, _) = (x.1, (x.2.map (wb vals gs)).map sgn)
  rw [List.map_map]
  refine congrArg (Prod.mk x.1) (List.map_congr_left fun a ha => ?_)
  exact sgn_getD (by rw [rb_len]; exact w x hx a ha)
/-! ### a case's inputs -/
def Vc (m c : Nat) : List Bool := bitsOf (acs m) c
theorem Vc_len (m c : Nat) : (Vc m c).length = m := by
  unfold Vc
  rw [bitsOf_len, acs_len]
theorem bc_Vc {m c : Nat} (hc : c < 2 ^ m) : bc m c = (Vc m c).map sgn := by
  unfold bc Vc bitsOf acs
  rw [List.map_map, List.map_map]
  refine List.map_congr_left fun i hi => ?_
  have hi := List.mem_range.mp hi
  show _ = sgn (decide (tb (pcs (m - 1 - i) i) c = 1))
  rw [pcs_bit (m - 1 - i) i c (by rw [show m - 1 - i + 1 + i = m by omega]; exact hc)]
  have d : c / 2 ^ (m - 1 - i) % 2 < 2 := Nat.mod_lt _ (by decide)
  generalize c / 2 ^ (m - 1 - i) % 2 = d' at *
  have : d' = 0 ∨ d' = 1 := by omega
  rcases this with rfl | rfl <;> rfl
def cso (x : List Nat) : Nat := ((List.range x.length).map fun k => (x.getD k 0 - 48) * 2 ^ (x.length - 1 - k)).sum
theorem cso_cons (c : Nat) (t : List Nat) : cso (c :: t) = (c - 48) * 2 ^ t.length + cso t := by
  unfold cso
  rw [List.length_cons, List.range_succ_eq_map, List.map_cons, List.map_map, List.sum_cons]
  refine congr (congrArg HAdd.hAdd ?_) (congrArg List.sum (List.map_congr_left fun k hk => ?_))
  · show (c - 48) * 2 ^ (t.length + 1 - 1 - 0) = _
    rw [show t.length + 1 - 1 - 0 = t.length by omega]
  · show (t.getD k 0 - 48) * 2 ^ (t.length + 1 - 1 - (k + 1)) = _
    rw [show t.length + 1 - 1 - (k + 1) = t.length - 1 - k by omega]
theorem bc_cons (n d r : Nat) (hd : d ≤ 1) (hr : r < 2 ^ n) : bc (n + 1) (d * 2 ^ n + r) = (48 + d) :: bc n r := by
  unfold bc
  rw [List.range_succ_eq_map, List.map_cons, List.map_map]
  have p := Nat.two_pow_pos n
  refine congr (congrArg List.cons ?_) (List.map_congr_left fun k hk => ?_)
  · rw [show n + 1 - 1 - 0 = n by omega, Nat.mul_comm, Nat.mul_add_div p, Nat.div_eq_of_lt hr]
    omega
  · have hk := List.mem_range.mp hk
    show 48 + (d * 2 ^ n + r) / 2 ^ (n + 1 - 1 - (k + 1)) % 2 = 48 + r / 2 ^ (n - 1 - k) % 2
    rw [show n + 1 - 1 - (k + 1) = n - 1 - k by omega]
    have e : 2 ^ n = 2 ^ (n - 1 - k) * (2 ^ k * 2) := by
      rw [← Nat.pow_succ, ← Nat.pow_add]
      congr 1
      omega
    rw [e, show d * (2 ^ (n - 1 - k) * (2 ^ k * 2)) = 2 ^ (n - 1 - k) * (d * 2 ^ k * 2) by simp only [Nat.mul_assoc, Nat.mul_comm, Nat.mul_left_comm], Nat.mul_add_div (Nat.two_pow_pos _)]
    omega
theorem cso_bc : ∀ x : List Nat, BtL x → cso x < 2 ^ x.length ∧ bc x.length (cso x) = x
  | [], _ => ⟨by decide, rfl⟩
  | c :: t, h => by
    obtain ⟨h1, h2⟩ := cso_bc t fun a ha => h a (List.mem_cons_of_mem _ ha)
    have hc := h c List.mem_cons_self
    have hd : c - 48 ≤ 1 := by omega
    rw [cso_cons, List.length_cons]
    refine ⟨?_, ?_⟩
    · rw [Nat.pow_succ]
      have : (c - 48) * 2 ^ t.length ≤ 1 * 2 ^ t.length := Nat.mul_le_mul_right _ hd
      omega
    · rw [bc_cons _ _ _ hd h1, h2]
      congr 1
      omega
def csT (x : List Nat) (k : Nat) : Nat := (x.getD k 0 - 48) * 2 ^ (x.length - 1 - k)
theorem tb_ext_nat : ∀ (n : Nat) (v w : Int), (∀ c, tb v c = tb w c) → (2 ^ n : Int) ∣ v - w
  | 0, v, w, _ => ⟨v - w, by rw [Int.pow_zero, Int.one_mul]⟩
  | n + 1, v, w, h => by
    obtain ⟨k, hk⟩ := tb_ext_nat n (v / 2) (w / 2) fun c => by rw [← tb_succ, ← tb_succ]; exact h (c + 1)
    have h0 := h 0
    rw [tb_zero, tb_zero] at h0
    refine ⟨k, ?_⟩
    rw [GM.pow_s, show (2 ^ n * 2 : Int) * k = 2 * (2 ^ n * k) by simp only [Int.mul_assoc, Int.mul_comm, Int.mul_left_comm], ← hk]
    omega
theorem tb_ext {v w : Int} (h : ∀ c, tb v c = tb w c) : v = w := by
  obtain ⟨k, hk⟩ := tb_ext_nat (v - w).natAbs v w h
  by_cases k0 : k = 0
  · rw [k0, Int.mul_zero] at hk
    omega
  · exfalso
    have h1 : (v - w).natAbs = (2 ^ (v - w).natAbs : Int).natAbs * k.natAbs := by
      rw [← Int.natAbs_mul, ← hk]
    have h2 : (2 ^ (v - w).natAbs : Int).natAbs = 2 ^ (v - w).natAbs := by
      rw [show (2 ^ (v - w).natAbs : Int) = ((2 ^ (v - w).natAbs : Nat) : Int) from (PySem.W.kbt_cast _).symm]
      rfl
    rw [h2] at h1
    have h3 := Nat.lt_two_pow_self (n := (v - w).natAbs)
    have h4 : 1 ≤ k.natAbs := by omega
    have h5 : 2 ^ (v - w).natAbs * 1 ≤ 2 ^ (v - w).natAbs * k.natAbs := Nat.mul_le_mul_left _ h4
    omega
theorem pl_ints (l : List Int) : (PyData.list (l.map PyData.int)).plain = true ∧ (PyData.list (l.map PyData.int)).depth ≤ 1 := by
  have : ∀ l : List Int, PyData.plainAll (l.map PyData.int) = true ∧ PyData.depthAll (l.map PyData.int) = 0 := fun l => by
    induction l with
    | nil => exact ⟨rfl, rfl⟩
    | cons a l ih => simp [PyData.plainAll, PyData.depthAll, PyData.plain, PyData.depth, ih.1, ih.2]
  obtain ⟨a, b⟩ := this l
  exact ⟨by simpa [PyData.plain] using a, by simp [PyData.depth, b]⟩
/-! ### values and truths -/
def Tz (N : Nat) (v : Int) : Prop := ∀ c, N ≤ c → tb v c = 0
theorem tz_0 (N : Nat) : Tz N 0 := fun c _ => tb_nul c
theorem tz_full (N : Nat) : Tz N (2 ^ N - 1) := fun c hc => by
  have := PySem.W.kbt_pos N
  exact tb_small (n := N) (by omega) (by omega) hc
theorem tz_gv {N : Nat} {ws : List Int} (h : ∀ a, Tz N (ws.getD a 0)) (g : Gt) : Tz N (gv (2 ^ N - 1) ws g) := by
  cases g with
  | fi b =>
    show Tz N (if b = 1 then 2 ^ N - 1 else 0)
    split
    · exact tz_full N
    · exact tz_0 N
  | w k l =>
    show Tz N (gvw (2 ^ N - 1) _ _ k)
    unfold gvw
    intro c hc
    have h1 := h (l.getD 0 0) c hc
    have h2 := h (l.getD 1 0) c hc
    have h3 := tz_full N c hc
    split
    · rw [tb_xor, h1, h3]; rfl
    · split
      · rw [tb_and, h1, h2]; rfl
      · split
        · rw [tb_or, h1, h2]; rfl
        · rw [tb_xor, h1, h2]; rfl
theorem tz_rv {N : Nat} : ∀ (gs : List Gt) (ws : List Int), (∀ a, Tz N (ws.getD a 0)) → ∀ a, Tz N ((rv (2 ^ N - 1) ws gs).getD a 0)
  | [], ws, h, a => h a
  | g :: gs, ws, h, a => tz_rv gs (ws ++ [gv (2 ^ N - 1) ws g]) (fun b => by
      by_cases c : b < ws.length
      · rw [show (ws ++ [gv (2 ^ N - 1) ws g]).getD b 0 = ws.getD b 0 from getD_app c]
        exact h b
      · by_cases c2 : b = ws.length
        · rw [c2, show (ws ++ [gv (2 ^ N - 1) ws g]).getD ws.length 0 = gv (2 ^ N - 1) ws g by simp [List.getD]]
          exact tz_gv h g
        · rw [show (ws ++ [gv (2 ^ N - 1) ws g]).getD b 0 = 0 by rw [List.getD, List.getElem?_eq_none (by rw [List.length_append, List.length_singleton]; omega)]; rfl]
          exact tz_0 N) a
def rsA (m : Nat) (gs : List Gt) : List Int := rv (2 ^ 2 ^ m - 1) ((acs m).map (· % 2 ^ 2 ^ m)) gs
def RTr (sa : List (Str × List Nat)) (rs : List Int) : List (Str × List Int) := sa.map fun x => (x.1, x.2.map fun a => rs.getD a 0)
def FB (c : Nat) (L : List (Str × List Int)) : List (Str × List Bool) := L.map fun y => (y.1, y.2.map fun v => decide (tb v c = 1))
theorem FB_RT {m c : Nat} (hc : c < 2 ^ m) (gs : List Gt) (sa : List (Str × List Nat)) : FB c (RTr sa (rsA m gs)) = TBr gs sa (Vc m c) := by
  unfold FB RTr TBr
  rw [List.map_map]
  refine List.map_congr_left fun x _ => ?_
  show (x.1, (x.2.map fun a => (rsA m gs).getD a 0).map fun v => decide (tb v c = 1)) = _
  rw [List.map_map]
  refine congrArg (Prod.mk x.1) (List.map_congr_left fun a _ => ?_)
  show decide (tb ((rsA m gs).getD a 0) c = 1) = _
  unfold rsA Vc
  rw [rv_case hc]
  cases wb (bitsOf (acs m) c) gs a <;> rfl
theorem ext_vals {N : Nat} : ∀ u w : List Int, (∀ v ∈ u, Tz N v) → (∀ v ∈ w, Tz N v) → u.length = w.length → (∀ c, c < N → u.map (fun v => decide (tb v c = 1)) = w.map (fun v => decide (tb v c = 1))) → u = w
  | [], [], _, _, _, _ => rfl
  | [], _ :: _, _, _, l, _ => by cases l
  | _ :: _, [], _, _, l, _ => by cases l
  | a :: u, b :: w, hu, hw, l, h => by
    have ih := ext_vals u w (fun v hv => hu v (List.mem_cons_of_mem _ hv)) (fun v hv => hw v (List.mem_cons_of_mem _ hv)) (Nat.succ.inj l) fun c hc => by
      have := h c hc
      rw [List.map_cons, List.map_cons, List.cons.injEq] at this
      exact this.2
    have e : a = b := tb_ext fun c => by
      by_cases hc : c < N
      · have := h c hc
        rw [List.map_cons, List.map_cons, List.cons.injEq] at this
        have h1 := this.1
        rcases tb_01 a c with x | x <;> rcases tb_01 b c with y | y <;> rw [x, y] at h1 ⊢ <;> simp at h1
      · rw [hu a List.mem_cons_self c (by omega), hw b List.mem_cons_self c (by omega)]
    rw [e, ih]
theorem ext_FB {N : Nat} (hN : 0 < N) : ∀ A B : List (Str × List Int), (∀ y ∈ A, ∀ v ∈ y.2, Tz N v) → (∀ y ∈ B, ∀ v ∈ y.2, Tz N v) → (∀ c, c < N → FB c A = FB c B) → A = B
  | [], [], _, _, _ => rfl
  | [], _ :: _, _, _, h => by cases h 0 hN
  | _ :: _, [], _, _, h => by cases h 0 hN
  | a :: A, b :: B, hA, hB, h => by
    have hd : ∀ c, c < N → a.1 = b.1 ∧ a.2.map (fun v => decide (tb v c = 1)) = b.2.map (fun v => decide (tb v c = 1)) ∧ FB c A = FB c B := fun c hc => by
      have := h c hc
      unfold FB at this
      rw [List.map_cons, List.map_cons, List.cons.injEq] at this
      exact ⟨(Prod.mk.inj this.1).1, (Prod.mk.inj this.1).2, this.2⟩
    have ih := ext_FB hN A B (fun y hy => hA y (List.mem_cons_of_mem _ hy)) (fun y hy => hB y (List.mem_cons_of_mem _ hy)) fun c hc => (hd c hc).2.2
    have e2 := ext_vals a.2 b.2 (hA a List.mem_cons_self) (hB b List.mem_cons_self) (by
      have := congrArg List.length (hd 0 hN).2.1
      rw [List.length_map, List.length_map] at this
      exact this) fun c hc => (hd c hc).2.1
    rw [ih, show a = b from Prod.ext (hd 0 hN).1 e2]
theorem RT_tz {m : Nat} (gs : List Gt) (sa : List (Str × List Nat)) : ∀ y ∈ RTr sa (rsA m gs), ∀ v ∈ y.2, Tz (2 ^ m) v := fun y hy v hv => by
  obtain ⟨x, _, rfl⟩ := List.mem_map.mp hy
  obtain ⟨a, _, rfl⟩ := List.mem_map.mp hv
  refine tz_rv gs _ (fun b => ?_) a
  rw [List.getD, List.getElem?_map]
  cases (acs m)[b]? with
  | none => exact tz_0 _
  | some v =>
    intro c hc
    have hp := PySem.W.kbt_pos (2 ^ m)
    exact tb_small (n := 2 ^ m) (Int.emod_nonneg _ (by omega)) (Int.emod_lt_of_pos _ hp) hc
/-- all cases at once tell alike just where each does -/
theorem alike_iff {m : Nat} {ga gb : List Gt} {sa sb : List (Str × List Nat)} : RTr sa (rsA m ga) = RTr sb (rsA m gb) ↔ ∀ c, c < 2 ^ m → TBr ga sa (Vc m c) = TBr gb sb (Vc m c) := by
  constructor
  · intro h c hc
    rw [← FB_RT hc, ← FB_RT hc, h]
  · intro h
    exact ext_FB (Nat.two_pow_pos m) _ _ (RT_tz ga sa) (RT_tz gb sb) fun c hc => by rw [FB_RT hc, FB_RT hc, h c hc]
/-! ### told rows as data -/
def RDr (L : List (Str × List Int)) : PyData := .list (L.map fun y => .tuple [.str y.1, .list (y.2.map PyData.int)])
theorem eqv_isB : ∀ a b : List Int, PyData.eqvAll (a.map PyData.int) (b.map PyData.int) = decide (a = b)
  | [], [] => rfl
  | [], _ :: _ => rfl
  | _ :: _, [] => rfl
  | x :: a, y :: b => by
    have ih := eqv_isB a b
    rw [List.map_cons, List.map_cons, PyData.eqvAll, ih, Bool.eq_iff_iff]
    simp [PyData.eqv]
theorem eqv_RD : ∀ A B : List (Str × List Int), PyData.eqv (RDr A) (RDr B) = decide (A = B)
  | [], [] => rfl
  | [], _ :: _ => rfl
  | _ :: _, [] => rfl
  | x :: a, y :: b => by
    have ih := eqv_RD a b
    unfold RDr at ih ⊢
    simp only [PyData.eqv] at ih
    simp only [List.map_cons, PyData.eqv, PyData.eqvAll, eqv_isB, Bool.and_true]
    rw [ih, Bool.eq_iff_iff]
    obtain ⟨x1, x2⟩ := x
    obtain ⟨y1, y2⟩ := y
    simp
theorem pl_RD (L : List (Str × List Int)) : (RDr L).plain = true ∧ (RDr L).depth ≤ 64 := pl_list fun d hd => by
  obtain ⟨r, _, rfl⟩ := List.mem_map.mp hd
  obtain ⟨a, b⟩ := pl_ints r.2
  refine ⟨?_, ?_⟩
  · simp only [PyData.plain, PyData.plainAll, Bool.and_true, Bool.true_and] at a ⊢
    exact a
  · simp only [PyData.depth, PyData.depthAll] at b ⊢
    omega
end
section
variable {P : Program} {w : World} {K : PySem.W.Frag} {mg : Str → Option Value} {base : Heap}
variable {C : Addr} {za : Nat → Addr} {zl : Nat → FuncData} {E_TooMuch I_TooMuch : Addr}
/-! ### what same tells, by truths -/
structure P2 (m : Nat) (ga gb : List Gt) (na nb sa sb : List (Str × List Nat)) : Prop where
  oka : GsOk m ga
  okb : GsOk m gb
  wa : GvW (m + ga.length) na
  wb : GvW (m + gb.length) nb
  oa : SoOf sa na
  ob : SoOf sb nb
theorem Two.p2 {C : Addr} {H : Hp} {pa pb : NetP} {m : Nat} {ga gb : List Gt} {na nb sa sb : List (Str × List Nat)} (h : Two C H pa pb m ga gb na nb sa sb) : P2 m ga gb na nb sa sb := ⟨h.a.2.1, h.b.2.1, h.a.2.2.1, h.b.2.2.1, h.oa, h.ob⟩
section
variable {m : Nat} {ga gb : List Gt} {na nb sa sb : List (Str × List Nat)}
theorem P2.inA (h : P2 m ga gb na nb sa sb) : ∀ x ∈ sa, ∀ a ∈ x.2, a < m + ga.length := fun x hx => (h.wa.2 x (h.oa.1.mem_iff.mp hx)).2
theorem P2.inB (h : P2 m ga gb na nb sa sb) : ∀ x ∈ sb, ∀ a ∈ x.2, a < m + gb.length := fun x hx => (h.wb.2 x (h.ob.1.mem_iff.mp hx)).2
theorem P2.hop (h : P2 m ga gb na nb sa sb) : Hop (lk ga gb sa sb) m := fun x lx sx e => lk_open h.oka h.okb h.wa h.wb h.oa.1 h.ob.1 lx sx e
theorem P2.bits (h : P2 m ga gb na nb sa sb) {vals : List Bool} (lv : vals.length = m) : setR (sgs (vals.map sgn) ga) sa = SRr (TBr ga sa vals) ∧ setR (sgs (vals.map sgn) gb) sb = SRr (TBr gb sb vals) := by
  subst lv
  exact ⟨setR_bits h.oka h.inA, setR_bits h.okb h.inB⟩
theorem P2.look (h : P2 m ga gb na nb sa sb) {vals : List Bool} (lv : vals.length = m) : lk ga gb sa sb (vals.map sgn) = if TBr ga sa vals = TBr gb sb vals then .sm else .un := by
  obtain ⟨b1, b2⟩ := h.bits lv
  have bt := sgn_bt vals
  cases e : lk ga gb sa sb (vals.map sgn) with
  | op =>
    have := bt _ (h.hop _ (by rw [List.length_map, lv]) bt.sg.1 e)
    omega
  | sm =>
    obtain ⟨_, _, e3⟩ := lk_sm e
    rw [b1, b2] at e3
    rw [if_pos (SRr_inj e3)]
  | un =>
    obtain ⟨_, _, e3⟩ := lk_un e
    rw [b1, b2] at e3
    rw [if_neg fun z => e3 (by rw [z])]
theorem cov_of {x t : List Nat} (k : KeptL x t) : cov x t = true := by
  unfold cov
  rw [List.all_eq_true]
  intro p hp
  obtain ⟨i, hi, e⟩ := List.getElem_of_mem hp
  have z : (x.zip t)[i]? = some p := by rw [List.getElem?_eq_getElem hi, e]
  obtain ⟨h1, h2⟩ := List.getElem?_zip_eq_some.mp z
  exact decide_eq_true (k.2 i p.1 p.2 h1 h2)
def wk (ks : List (List Nat)) : Nat := (ks.map fun x => 2 ^ c45 x).sum
theorem wk_app (a b : List (List Nat)) : wk (a ++ b) = wk a + wk b := by
  unfold wk
  rw [List.map_append, List.sum_append]
theorem dfs_wk {L : List Nat → Lk} {m : Nat} (hop : Hop L m) : ∀ (n : Nat) (st k ks : List (List Nat)), Cb m st → dfs L n st k = some (.sm ks) → wk ks = wk k + wk st
  | n, [], k, ks, _, h => by
    have : some (Rs.sm k) = some (Rs.sm ks) := by
      rw [← h]
      cases n <;> rfl
    cases this
    exact (Nat.add_zero _).symm
  | 0, _ :: _, _, _, _, h => by cases h
  | n + 1, x :: st, k, ks, hst, h => by
    have hx := hst x List.mem_cons_self
    have hst' : Cb m st := fun y hy => hst y (List.mem_cons_of_mem _ hy)
    have h' : (match L x with | .un => some (Rs.un x) | .sm => dfs L n st (k ++ [x]) | .op => dfs L n (x.set (ix45 x) 48 :: x.set (ix45 x) 49 :: st) k) = some (.sm ks) := h
    cases e : L x with
    | un => rw [e] at h'; cases h'
    | sm =>
      rw [e] at h'
      rw [dfs_wk hop n st (k ++ [x]) ks hst' h', wk_app]
      unfold wk
      rw [List.map_cons, List.map_nil, List.map_cons, List.sum_cons, List.sum_cons, List.sum_nil]
      omega
    | op =>
      rw [e] at h'
      have h45 := hop x hx.1 hx.2 e
      rw [dfs_wk hop n _ k ks (fun y hy => by
        rcases List.mem_cons.mp hy with w | w
        · rw [w]
          exact Cb.set hx _ 48 (.inr (.inl rfl))
        · rcases List.mem_cons.mp w with w | w
          · rw [w]
            exact Cb.set hx _ 49 (.inr (.inr rfl))
          · exact hst' y w) h']
      have a0 := c45_set h45 (c := 48) (by decide)
      have a1 := c45_set h45 (c := 49) (by decide)
      unfold wk
      rw [List.map_cons, List.map_cons, List.map_cons, List.sum_cons, List.sum_cons, List.sum_cons, ← a0]
      have : c45 (x.set (ix45 x) 49) = c45 (x.set (ix45 x) 48) := by omega
      rw [this, Nat.pow_succ]
      omega
theorem wk_rep (m : Nat) : wk [List.replicate m 45] = 2 ^ m := by
  unfold wk c45
  rw [List.map_cons, List.map_nil, List.sum_cons, List.sum_nil, List.count_replicate_self]
  omega
/-- what a told result is -/
def ResB (m : Nat) (ga gb : List Gt) (sa sb : List (Str × List Nat)) : Rs → Prop
  | .sm ks => (∀ x ∈ ks, lk ga gb sa sb x = .sm ∧ x.length = m ∧ SgL x) ∧ (∀ c, c < 2 ^ m → TBr ga sa (Vc m c) = TBr gb sb (Vc m c)) ∧ (∀ c, c < 2 ^ m → (ks.any fun x => cov x (bc m c)) = true) ∧ wk ks = 2 ^ m
  | .un x => BtL (z0 x) ∧ (z0 x).length = m ∧ lk ga gb sa sb (z0 x) = .un ∧ cso (z0 x) < 2 ^ m ∧ bc m (cso (z0 x)) = z0 x ∧ TBr ga sa (Vc m (cso (z0 x))) ≠ TBr gb sb (Vc m (cso (z0 x)))
theorem P2.res (h : P2 m ga gb na nb sa sb) {n : Nat} {r : Rs} (e : dfs (lk ga gb sa sb) n [List.replicate m 45] [] = some r) : ResB m ga gb sa sb r := by
  have cb : Cb m [List.replicate m 45] := fun x hx => by
    rw [List.mem_singleton.mp hx]
    exact ⟨List.length_replicate, fun a ha => .inl (List.eq_of_mem_replicate ha)⟩
  cases r with
  | sm ks =>
    obtain ⟨i1, i2⟩ := dfs_sm h.hop n _ [] ks e cb (fun x hx => nomatch hx)
    have cv : ∀ c, c < 2 ^ m → ∃ x, x ∈ ks ∧ KeptL x (bc m c) := fun c _ => by
      obtain ⟨x, hx, kx⟩ := i2 (bc m c) (bc_len m c) (bc_bt m c) ⟨_, .inl List.mem_cons_self, kept_rep (bc_len m c)⟩
      exact ⟨x, hx, kx⟩
    refine ⟨i1, fun c hc => ?_, fun c hc => ?_, ?_⟩
    · obtain ⟨x, hx, kx⟩ := cv c hc
      obtain ⟨l1, l2, l3⟩ := i1 x hx
      obtain ⟨o1, o2, e3⟩ := lk_sm l1
      have ea := kept_eval h.oka h.wa h.oa.1 l3 l2 (bc_bt m c).sg.1 (bc_len m c) kx o1
      have eb := kept_eval h.okb h.wb h.ob.1 l3 l2 (bc_bt m c).sg.1 (bc_len m c) kx o2
      rw [ea, eb, bc_Vc hc, (h.bits (Vc_len m c)).1, (h.bits (Vc_len m c)).2] at e3
      exact SRr_inj e3
    · obtain ⟨x, hx, kx⟩ := cv c hc
      exact List.any_eq_true.mpr ⟨x, hx, cov_of kx⟩
    · rw [dfs_wk h.hop n _ [] ks cb e, wk_rep]
      exact Nat.zero_add _
  | un x =>
    obtain ⟨l1, l2, l3⟩ := dfs_un n _ [] x e cb
    obtain ⟨o1, o2, e3⟩ := lk_un l1
    obtain ⟨b1, b2, b3⟩ := z0_bt l3
    have lz : (z0 x).length = m := by rw [b2, l2]
    obtain ⟨c1, c2⟩ := cso_bc (z0 x) b1
    rw [lz] at c1 c2
    have ea := kept_eval h.oka h.wa h.oa.1 l3 l2 b1.sg.1 lz b3 o1
    have eb := kept_eval h.okb h.wb h.ob.1 l3 l2 b1.sg.1 lz b3 o2
    have ne : TBr ga sa (Vc m (cso (z0 x))) ≠ TBr gb sb (Vc m (cso (z0 x))) := fun z => e3 (by
      rw [ea, eb, ← c2, bc_Vc c1, (h.bits (Vc_len m _)).1, (h.bits (Vc_len m _)).2, z])
    refine ⟨b1, lz, ?_, c1, c2, ne⟩
    rw [← c2, bc_Vc c1, h.look (Vc_len m _), if_neg ne]
end
/-! ### one case told -/
theorem vals_c {m c : Nat} (hc : c < 2 ^ m) : vals1 (c : Int) m = (Vc m c).map bi := by
  unfold vals1 Vc bitsOf acs
  rw [List.map_map, List.map_map]
  refine List.map_congr_left fun i hi => ?_
  have hi := List.mem_range.mp hi
  show _ = bi (decide (tb (pcs (m - 1 - i) i) c = 1))
  rw [← tb_bi, pcs_bit (m - 1 - i) i c (by rw [show m - 1 - i + 1 + i = m by omega]; exact hc)]
  unfold tb
  rw [show (2 : Int) ^ (m - 1 - i) = ((2 ^ (m - 1 - i) : Nat) : Int) from (PySem.W.kbt_cast _).symm]
  omega
theorem one_vals {m c : Nat} (hc : c < 2 ^ m) (gs : List Gt) (ws : List Nat) : wf (ws.map fun a => (rv 1 (vals1 (c : Int) m) gs).getD a 0) = (numB (ws.map (wb (Vc m c) gs)) : Int) := by
  rw [← wf_num, vals_c hc, rv_rb, List.map_map]
  congr 1
  refine List.map_congr_left fun a _ => ?_
  show _ = bi (wb (Vc m c) gs a)
  unfold wb
  simp only [List.getD, List.getElem?_map]
  cases (rb (Vc m c) gs)[a]? <;> rfl
theorem numB_inj : ∀ {a b : List Bool}, a.length = b.length → numB a = numB b → a = b
  | [], [], _, _ => rfl
  | [], _ :: _, l, _ => by cases l
  | _ :: _, [], l, _ => by cases l
  | x :: a, y :: b, l, e => by
    have l' : a.length = b.length := Nat.succ.inj l
    rw [numB_cons, numB_cons, l'] at e
    have h1 := numB_lt a
    have h2 := numB_lt b
    rw [l'] at h1
    have xy : x = y := by
      cases x <;> cases y <;> simp at e <;> first | rfl | omega
    subst xy
    rw [numB_inj l' (by omega)]
def ONr (L : List (Str × List Bool)) : PyData := .list (L.map fun y => .tuple [.str y.1, .int (numB y.2 : Nat)])
theorem eqv_ON : ∀ A B : List (Str × List Bool), A.map (fun y => y.2.length) = B.map (fun y => y.2.length) → PyData.eqv (ONr A) (ONr B) = decide (A = B)
  | [], [], _ => rfl
  | [], _ :: _, _ => rfl
  | _ :: _, [], _ => rfl
  | x :: a, y :: b, l => by
    rw [List.map_cons, List.map_cons, List.cons.injEq] at l
    have ih := eqv_ON a b l.2
    unfold ONr at ih ⊢
    simp only [PyData.eqv] at ih
    simp only [List.map_cons, PyData.eqv, PyData.eqvAll, Bool.and_true]
    rw [ih, Bool.eq_iff_iff]
    obtain ⟨x1, x2⟩ := x
    obtain ⟨y1, y2⟩ := y
    simp only [Bool.and_eq_true, beq_iff_eq, decide_eq_true_eq, List.cons.injEq, Prod.mk.injEq]
    constructor
    · rintro ⟨⟨h1, h2⟩, h3⟩
      exact ⟨⟨h1, numB_inj l.1 (Int.ofNat.inj h2)⟩, h3⟩
    · rintro ⟨⟨h1, h2⟩, h3⟩
      exact ⟨⟨h1, by rw [h2]⟩, h3⟩
theorem pl_ON (L : List (Str × List Bool)) : (ONr L).plain = true ∧ (ONr L).depth ≤ 64 := pl_list fun d hd => by
  obtain ⟨r, _, rfl⟩ := List.mem_map.mp hd
  exact ⟨rfl, by simp [PyData.depth, PyData.depthAll]⟩
end
section
variable {P : Program} {w : World} {K : PySem.W.Frag} {mg : Str → Option Value} {base : Heap}
variable {C : Addr} {za : Nat → Addr} {zl : Nat → FuncData} {E_TooMuch I_TooMuch : Addr}
/-! ### papers right -/
mutual
theorem dp_same {K : PySem.W.Frag} {H H' : Hp} (s : Same H H') : ∀ {v : V} {d : PyData}, Dp K H v d → Dp K H' v d
  | _, _, .non => .non
  | _, _, .bl b => .bl b
  | _, _, .int i => .int i
  | _, _, .str x => .str x
  | _, _, .lst h k => .lst (SqL.ext h (fun a u e => s a u e)) (dp_sameAll s k)
  | _, _, .tup h k => .tup (SqT.ext h (fun a u e => s a u e)) (dp_sameAll s k)
theorem dp_sameAll {K : PySem.W.Frag} {H H' : Hp} (s : Same H H') : ∀ {vs : List V} {ds : List PyData}, DpAll K H vs ds → DpAll K H' vs ds
  | _, _, .nil => .nil
  | _, _, .cons h k => .cons (dp_same s h) (dp_sameAll s k)
end
def TolB (H : Hp) (T : Addr) : Rs → Prop
  | .sm ks => ∃ k0, H T = some (.tup [.str (Str.ofString "same"), .ref k0]) ∧ H k0 = some (.lst (cV ks))
  | .un x => H T = some (.tup [.str (Str.ofString "unlike"), .str (SX.S (z0 x))])
theorem TolB.same {H H' : Hp} {T : Addr} {r : Rs} (h : TolB H T r) (s : Same H H') : TolB H' T r := by
  cases r with
  | sm ks =>
    obtain ⟨k, a, b⟩ := h
    exact ⟨k, s _ _ a, s _ _ b⟩
  | un x => exact s _ _ h
theorem dpa_of {H : Hp} : ∀ (ts : List Addr) (ds : List PyData), ts.length = ds.length → (∀ (i : Nat) (u : Addr) (d : PyData), ts[i]? = some u → ds[i]? = some d → Dp K H (.ref u) d) → DpAll K H (ts.map V.ref) ds
  | [], [], _, _ => .nil
  | [], _ :: _, h, _ => by cases h
  | _ :: _, [], h, _ => by cases h
  | t :: ts, d :: ds, h, f => .cons (f 0 t d rfl rfl) (dpa_of ts ds (Nat.succ.inj h) fun i a b h1 h2 => f (i + 1) a b h1 h2)
theorem so_uniq {sa nm : List (Str × List Nat)} (so : SoOf sa nm) (inj : Inj nm) {i : Nat} {x : Str × List Nat} {n : Str} {ws : List Nat} (hx : sa[i]? = some x) (hn : x.1 = n) (hw : (n, ws) ∈ nm) : x = (n, ws) := by
  obtain ⟨j, hj, ej⟩ := List.getElem_of_mem hw
  obtain ⟨k, hk, ek⟩ := List.getElem_of_mem (so.1.mem_iff.mp (List.mem_of_getElem? hx))
  have := inj k j x (n, ws) (by rw [List.getElem?_eq_getElem hk, ek]) (by rw [List.getElem?_eq_getElem hj, ej]) hn
  subst this
  exact ek.symm.trans ej
theorem RunAt.dp {H0 H : Hp} {t : Addr} {ys : List Str} {sa nm : List (Str × List Nat)} {rs : List Int} (h : RunAt H0 H t ys nm rs) (e : ys = sa.map (·.1)) (so : SoOf sa nm) (inj : Inj nm) : Dp K H (.ref t) (RDr (RTr sa rs)) := by
  obtain ⟨ts, lt, et, hts⟩ := h
  subst e
  rw [List.length_map] at lt
  refine .lst (SqL.of et) (dpa_of _ _ (by unfold RTr; rw [List.length_map, List.length_map, lt]) fun i u d hu hd => ?_)
  unfold RTr at hd
  rw [List.map_map, List.getElem?_map] at hd
  obtain ⟨x, hx, rfl⟩ := Option.map_eq_some_iff.mp hd
  obtain ⟨ws, l, hw, _, e1, e2⟩ := hts i u x.1 hu (by rw [List.getElem?_map, hx]; rfl)
  have := so_uniq so inj hx rfl hw
  rw [show ws = x.2 from (congrArg Prod.snd this).symm] at e2
  exact .tup (.inl (.inl e1)) (.cons (.str _) (.cons (.lst (SqL.of e2) (dp_ints _)) .nil))
theorem OneAt.dp {H : Hp} {t : Addr} {ys : List Str} {sa nm : List (Str × List Nat)} {m c : Nat} {gs : List Gt} (hc : c < 2 ^ m) (h : OneAt H t ys nm (rv 1 (vals1 (c : Int) m) gs)) (e : ys = sa.map (·.1)) (so : SoOf sa nm) (inj : Inj nm) : Dp K H (.ref t) (ONr (TBr gs sa (Vc m c))) := by
  obtain ⟨ts, lt, et, hts⟩ := h
  subst e
  rw [List.length_map] at lt
  refine .lst (SqL.of et) (dpa_of _ _ (by unfold TBr; rw [List.length_map, List.length_map, lt]) fun i u d hu hd => ?_)
  unfold TBr at hd
  rw [List.map_map, List.getElem?_map] at hd
  obtain ⟨x, hx, rfl⟩ := Option.map_eq_some_iff.mp hd
  obtain ⟨ws, hw, e1⟩ := hts i u x.1 hu (by rw [List.getElem?_map, hx]; rfl)
  have := so_uniq so inj hx rfl hw
  rw [show ws = x.2 from (congrArg Prod.snd this).symm, one_vals hc] at e1
  exact .tup (.inl (.inl e1)) (.cons (.str _) (.cons (.int _) .nil))
theorem due_len {sa sb : List (Str × List Nat)} : sa.map (·.1) = sb.map (·.1) → firstD sa sb = none → sa.map (fun x => x.2.length) = sb.map (fun x => x.2.length) := fun e h => by
  have ll : sa.length = sb.length := by
    have := congrArg List.length e
    rw [List.length_map, List.length_map] at this
    exact this
  apply List.ext_getElem?
  intro i
  rw [List.getElem?_map, List.getElem?_map]
  by_cases hi : i < sa.length
  · rw [List.getElem?_eq_getElem hi, List.getElem?_eq_getElem (show i < sb.length by omega)]
    exact congrArg some (firstD_none h (List.getElem?_eq_getElem hi) (List.getElem?_eq_getElem (by omega)))
  · rw [List.getElem?_eq_none (by omega), List.getElem?_eq_none (by omega)]
theorem wk_len : ∀ ks : List (List Nat), ks.length ≤ wk ks
  | [] => Nat.zero_le _
  | x :: ks => by
    have ih := wk_len ks
    unfold wk at ih ⊢
    rw [List.map_cons, List.sum_cons, List.length_cons]
    have := Nat.two_pow_pos (c45 x)
    omega
theorem wk_sum : ∀ ks : List (List Nat), (ks.map fun x => ((2 ^ c45 x : Nat) : Int)).sum = ((wk ks : Nat) : Int)
  | [] => rfl
  | x :: ks => by
    have ih := wk_sum ks
    unfold wk at ih ⊢
    rw [List.map_cons, List.sum_cons, List.map_cons, List.sum_cons, ih]
    omega
theorem txt_c45 (x : List Nat) : Txt.count (SX.S x) (Str.ofString "-") = (c45 x : Int) := by
  rw [mns]
  refine (PyProof.Rows.count_cnt (SX.S x) 45).trans ?_
  show PyProof.Rows.cnt 45 x = _
  induction x with
  | nil => rfl
  | cons a x ih =>
    rw [PyProof.Rows.cnt_cons, ih]
    unfold c45
    rw [List.count_cons]
    by_cases h : a = 45
    · rw [if_pos h, h]
      simp
      omega
    · rw [if_neg h]
      simp [h]
def spPaper (C : Addr) : Sp := fun vs H Q _ => ∃ (pa pb : NetP) (m : Nat) (ga gb : List Gt) (na nb sa sb : List (Str × List Nat)) (T : Addr) (r : Rs), vs = [.ref pa.x, .ref pb.x, .int (m : Int), .ref T] ∧ Two C H pa pb m ga gb na nb sa sb ∧ 1 ≤ m ∧ m ≤ 8 ∧ ResB m ga gb sa sb r ∧ TolB H T r ∧ ∀ H', Same H H' → Q (.bl true) H'
theorem ok__law_paper_right (B : Bl mg) (L : LL K mg C za zl E_TooMuch I_TooMuch) : FnOk P w K mg base CX0 7 (za 38) (zl 38) ["_law_one", "_law_other", "_law_first", "_law_told"] (spPaper C) := by
  have G_all_cases : FnOk P w K mg base CX0 6 (za 4) (zl 4) ["many"] spAllC := (ok_all_cases B L).mono (by decide)
  have G_ran : FnOk P w K mg base CX0 6 (za 2) (zl 2) ["net", "values", "many"] (spRan C) := (ok_ran B L).mono (by decide)
  have G_one_case : FnOk P w K mg base CX0 6 (za 6) (zl 6) ["net", "word"] (spOneC C) := (ok_one_case B L).mono (by decide)
  have G_shows_same : FnOk P w K mg base CX0 6 (za 23) (zl 23) ["one", "other", "thing"] (spShS C) := (ok_shows_same B L).mono (by decide)
  have G_shows_unlike : FnOk P w K mg base CX0 6 (za 24) (zl 24) ["one", "other", "thing"] (spShU C) := (ok_shows_unlike B L).mono (by decide)
  have G_hole : FnOk P w K mg base CX0 6 (za 12) (zl 12) ["cubes", "many"] spHole := (ok_hole B L).mono (by decide)
  refine L.F__law_paper_right.ok sc__law_paper_right (fun vs H Q E h => ?_) (fun cdv A outer s H vs Q E hr h => ?_)
  · obtain ⟨pa, pb, m, ga, gb, na, nb, sa, sb, T, r, rfl, _⟩ := h
    rfl
  obtain ⟨pa, pb, m, ga, gb, na, nb, sa, sb, T, r, rfl, hT, m1, m9, hr', ht, q⟩ := h
  refine ⟨_, (pss_cons (ps_set (i := 4) sc__law_paper_right.nd rfl (.inl rfl) (pe_call G_all_cases hr (by rfl) L.m_all_cases L.F_all_cases.kp L.b_all_cases .nil pass0 (pa_cons (pv 2) pa_nil)))
    (pss_cons (ps_set (i := 5) sc__law_paper_right.nd rfl (.inl rfl) (pe_cmpR (op_eqPl hr.units) (pe_callN G_ran hr (by rfl) L.m_ran L.F_ran.kp (L.kb_ran_many).choose_spec pass0 (pa_cons (pv 0) (pa_cons (pv 4) pa_nil)) (pk_cons (pe_op op_oneShl pe_int (pv 2)) pk_nil)) (pe_callN G_ran hr (by rfl) L.m_ran L.F_ran.kp (L.kb_ran_many).choose_spec pass0 (pa_cons (pv 1) (pa_cons (pv 4) pa_nil)) (pk_cons (pe_op op_oneShl pe_int (pv 2)) pk_nil)) (nomark _)))
    (pss_cons (ps_if (pt_cmpR op_eq (pe_ix ix_tup (pv 3) pe_int (fun _ _ => rfl)) pe_str (nomark _)) (pss_cons (ps_set (i := 6) sc__law_paper_right.nd rfl (.inl rfl) (pe_callB (cr_sum rfl) (by rfl) B.sum boot_sum (pa_cons (pe_lc (own := [("_law_at", 8), ("_law_sign", 9)]) (g := gTup K 2 (gCons (gName 8) (gCons (gName 9) gNil))) (by rfl) sc__law_paper_right.nd (pi_ex (by rfl) B.enumerate (pa_cons (pe_ix ix_tup (pv 3) pe_int (fun _ _ => rfl)) pa_nil)) (blkOk_by (own := [("_law_at", 8), ("_law_sign", 9)]) (N := ["_law_one", "_law_other", "_law_first", "_law_told", "_law_cases", "_law_alike", "_law_word", "_law_met", "_law_at", "_law_sign", "_law_cube"]) (sc := defScope s__law_paper_right) (by decide +kernel)) (fun _ _ _ _ _ => pg_tup rfl (pgs_cons (pg_name (i := 8) sc__law_paper_right.nd rfl (Or.inl rfl) (.inr rfl)) (pgs_cons (pg_name (i := 9) sc__law_paper_right.nd rfl (Or.inl rfl) (.inr rfl)) pgs_nil))) (fun _ _ _ _ _ => pts_nil) (fun _ _ _ _ _ => (pe_op op_shlN (pe_callTy call_int_str (by rfl) B.int PyProof.Rows.boot_int (pa_cons (pv 9) pa_nil)) (pe_op op_sub (pe_op op_sub (pv 2) pe_int) (pv 8))))) pa_nil)))
    (pss_cons (ps_set (i := 7) sc__law_paper_right.nd rfl (.inl rfl) (pe_cmpR (op_eqPl hr.units) (pe_call G_one_case hr (by rfl) L.m_one_case L.F_one_case.kp L.b_one_case .nil pass0 (pa_cons (pv 0) (pa_cons (pv 6) pa_nil))) (pe_call G_one_case hr (by rfl) L.m_one_case L.F_one_case.kp L.b_one_case .nil pass0 (pa_cons (pv 1) (pa_cons (pv 6) pa_nil))) (nomark _)))
    (pss_one (ps_ret (pe_and (pe_not (pv 5)) (pe_and (pe_not (pv 7)) (pe_and (pe_call G_shows_unlike hr (by rfl) L.m_shows_unlike L.F_shows_unlike.kp L.b_shows_unlike .nil pass0 (pa_cons (pv 0) (pa_cons (pv 1) (pa_cons (pe_ix ix_tup (pv 3) pe_int (fun _ _ => rfl)) pa_nil)))) (pe_one (pe_not (pe_call G_shows_same hr (by rfl) L.m_shows_same L.F_shows_same.kp L.b_shows_same .nil pass0 (pa_cons (pv 0) (pa_cons (pv 1) (pa_cons (pe_lst (pa_cons (pe_ix ix_tup (pv 3) pe_int (fun _ _ => rfl)) pa_nil)) pa_nil))))))))))))) pss_nil)
    (pss_cons (ps_if (PW.pt (pw_or (pt_not (pt_val (pv 5))) (pw_or (pt_not (pt_val (pe_call G_shows_same hr (by rfl) L.m_shows_same L.F_shows_same.kp L.b_shows_same .nil pass0 (pa_cons (pv 0) (pa_cons (pv 1) (pa_cons (pe_ix ix_tup (pv 3) pe_int (fun _ _ => rfl)) pa_nil)))))) (pw_or1 (pt_cmpR op_notN (pe_call G_hole hr (by rfl) L.m_hole L.F_hole.kp L.b_hole .nil pass0 (pa_cons (pe_ix ix_tup (pv 3) pe_int (fun _ _ => rfl)) (pa_cons (pv 2) pa_nil))) pe_non (nomark _)))))) (pss_one (ps_ret pe_bl)) pss_nil)
    (pss_one (ps_ret (pe_cmpR op_eq (pe_callB (cr_sum rfl) (by rfl) B.sum boot_sum (pa_cons (pe_lc (own := [("_law_cube", 10)]) (by rfl) sc__law_paper_right.nd (pi_list (pe_ix ix_tup (pv 3) pe_int (fun _ _ => rfl))) (blkOk_by (own := [("_law_cube", 10)]) (N := ["_law_one", "_law_other", "_law_first", "_law_told", "_law_cases", "_law_alike", "_law_word", "_law_met", "_law_at", "_law_sign", "_law_cube"]) (sc := defScope s__law_paper_right) (by decide +kernel)) (fun _ _ _ _ _ => pg_name (i := 10) sc__law_paper_right.nd rfl (Or.inl rfl)) (fun _ _ _ _ _ => pts_nil) (fun _ _ _ _ _ => (pe_op op_oneShl pe_int (pe_bmKX (K := K) PySem.F.plainAttrs_str PySem.F.slot_str_count PySem.F.type_str_count mt_count (pv 10) (pa_cons pe_str pa_nil))))) pa_nil)) (pe_op op_oneShl pe_int (pv 2)) (nomark _)))))))), ?_⟩
  have b12 : (2 : Nat) ^ m ≤ 512 := Nat.le_trans (Nat.pow_le_pow_right (by decide) m9) (by decide)
  have c12 : (2 : Int) ^ m = ((2 ^ m : Nat) : Int) := (PySem.W.kbt_cast m).symm
  have pp2 := hT.p2
  obtain ⟨⟨ZA, NA⟩, okA, gA, mA20, gaL, naL⟩ := id hT.a
  obtain ⟨⟨ZB, NB⟩, okB, gB, mB20, gbL, nbL⟩ := id hT.b
  have gA' : ∀ x ∈ na, x.2.length ≤ 900 ∧ ∀ a ∈ x.2, a < m + ga.length := fun x hx => ⟨by have := (gA.2 x hx).1; omega, (gA.2 x hx).2⟩
  have gB' : ∀ x ∈ nb, x.2.length ≤ 900 ∧ ∀ a ∈ x.2, a < m + gb.length := fun x hx => ⟨by have := (gB.2 x hx).1; omega, (gB.2 x hx).2⟩
  have hdue := hT.due
  unfold dueL at hdue
  rw [if_pos rfl] at hdue
  have hnm : sa.map (·.1) = sb.map (·.1) := by
    by_cases z : sa.map (·.1) = sb.map (·.1)
    · exact z
    · rw [if_neg z] at hdue
      cases hdue
  rw [if_pos hnm] at hdue
  have hln := due_len hnm hdue
  refine ⟨_, rfl, m, rfl, by omega, fun D H1 nD s1 eD => ?_⟩
  try simp only [L2.start, List.map_cons, List.map_nil, List.length_cons, List.length_nil, List.replicate_succ, List.replicate_zero, List.cons_append, List.nil_append, List.set_cons_succ, List.set_cons_zero, Nat.reduceAdd, Nat.reduceSub, Nat.zero_add]
  have NA1 := NA.same s1
  refine ⟨_, rfl, _, rfl, _, rfl, m, rfl, rfl, by omega, rfl, rfl, ZA, pa, m, ga, na, D, acs m, 2 ^ m, congrArg (fun x => [V.ref pa.x, V.ref D, V.int x]) c12, NA1, eD, acs_len m, Nat.le_trans b12 (by decide), by omega, by omega, okA, gA', fun ys1 t1 H2 p1 so1 s2 R1 => ?_⟩
  obtain rfl := hT.oa.names p1 so1
  have NB2 := (NB.same s1).same s2
  refine ⟨_, rfl, _, rfl, _, rfl, m, rfl, rfl, by omega, rfl, rfl, ZB, pb, m, gb, nb, D, acs m, 2 ^ m, congrArg (fun x => [V.ref pb.x, V.ref D, V.int x]) c12, NB2, s2 _ _ eD, acs_len m, Nat.le_trans b12 (by decide), by omega, by omega, okB, gB', fun ys2 t2 H3 p2 so2 s3 R2 => ?_⟩
  obtain rfl := hT.ob.names p2 so2
  have D1 : Dp K H3 (.ref t1) (RDr (RTr sa (rsA m ga))) := dp_same s3 (RunAt.dp (K := K) R1 rfl hT.oa gA.1)
  have D2 : Dp K H3 (.ref t2) (RDr (RTr sb (rsA m gb))) := RunAt.dp (K := K) R2 rfl hT.ob gB.1
  refine ⟨_, _, D1, D2, (pl_RD _).1, (pl_RD _).1, (pl_RD _).2, ?_⟩
  rw [eqv_RD]
  have s03 := (s1.trans s2).trans s3
  dsimp only [gName]
  try simp only [L2.start, List.map_cons, List.map_nil, List.length_cons, List.length_nil, List.replicate_succ, List.replicate_zero, List.cons_append, List.nil_append, List.set_cons_succ, List.set_cons_zero, Nat.reduceAdd, Nat.reduceSub, Nat.zero_add]
  have NA3 := NA.same s03
  have NB3 := NB.same s03
  have hT3 := hT.same s03
  have hTol := ht.same s03
  cases r with
  | un x =>
    obtain ⟨bt, lz, hlk, hcs, hbc, hne⟩ := hr'
    have et3 : H3 T = some (.tup [.str (Str.ofString "unlike"), .str (SX.S (z0 x))]) := hTol
    generalize hz : z0 x = z at *
    have nal : ¬ RTr sa (rsA m ga) = RTr sb (rsA m gb) := fun e => hne (alike_iff.mp e _ hcs)
    rw [decide_eq_false nal]
    refine ⟨_, rfl, T, _, _, _, rfl, rfl, .inl (.inl et3), rfl, rfl, true, rfl, iteT ?_⟩
    refine ⟨_, rfl, T, _, _, _, rfl, rfl, .inl (.inl et3), rfl, _, rfl, fun D4 nD4 => ?_⟩
    refine lc_it (walk_ex (x := z)) (fun j H7 => Same H3 H7 ∧ H7 D4 = some (.lst (((List.range j).map fun k => ((csT z k : Nat) : Int)).map V.int))) ⟨same_upd nD4, upd_same⟩ (fun _ _ _ _ => trivial) ?_ ?_
    · rintro j v H7 H8 hj ⟨s7, eD4⟩ ⟨T', u1, u2, rfl, nT, rfl, e1, e2⟩
      cases e1
      obtain ⟨g, hg, rfl⟩ := Option.map_eq_some_iff.mp e2
      have sT := same_upd (o := .tup [.int (j : Int), .str (SX.S [g])]) nT
      refine ⟨T', _, rfl, .inl (.inl upd_same), rfl, _, _, rfl, _, _, rfl, rfl, rfl, ?_⟩
      refine yesT ?_
      have hb := bt g (List.mem_of_getElem? hg)
      have it : PySem.intText? (SX.S [g]) = some (((g - 48 : Nat) : Int)) ∧ (SX.S [g]).length ≤ 640 := by
        rcases hb with z | z <;> subst z <;> exact ⟨by decide +kernel, by decide +kernel⟩
      have hj : j < z.length := (List.getElem?_eq_some_iff.mp hg).1
      refine ⟨_, rfl, _, _, rfl, it.1, it.2, ?_⟩
      refine ⟨_, rfl, _, _, rfl, rfl, _, rfl, _, _, rfl, rfl, _, z.length - 1 - j, rfl, congrArg V.int (by show ((m : Nat) : Int) - 1 - (j : Int) = _; omega), shl_ok (n := 9) (by omega) (by omega), ?_⟩
      refine ⟨_, sT _ _ eD4, ?_, fun y o e => ?_, ?_⟩
      · rw [List.length_map, List.length_map, List.length_range]
        exact big_lt (by omega)
      · rw [upd_ne (ne_of_none e nD4)]
        exact sT _ _ (s7 _ _ e)
      · rw [upd_same, List.range_succ, List.map_append, List.map_append]
        have : (((g - 48 : Nat) : Int) * 2 ^ (z.length - 1 - j)) = ((csT z j : Nat) : Int) := by
          unfold csT
          rw [List.getD, hg, Int.natCast_mul, show ((2 ^ (z.length - 1 - j) : Nat) : Int) = (2 : Int) ^ (z.length - 1 - j) from PySem.W.kbt_cast _]
          rfl
        rw [this]
        rfl
    rintro H7 ⟨s7, eD4⟩
    refine ⟨_, _, rfl, SqL.of eD4, ?_⟩
    have e : ((List.range z.length).map fun k => ((csT z k : Nat) : Int)).sum = ((cso z : Nat) : Int) := by
      unfold cso csT
      generalize List.range z.length = l
      induction l with
      | nil => rfl
      | cons a l ih =>
        rw [List.map_cons, List.sum_cons, ih, List.map_cons, List.sum_cons]
        omega
    rw [e]
    dsimp only [gName]
    try simp only [L2.start, List.map_cons, List.map_nil, List.length_cons, List.length_nil, List.replicate_succ, List.replicate_zero, List.cons_append, List.nil_append, List.set_cons_succ, List.set_cons_zero, Nat.reduceAdd, Nat.reduceSub, Nat.zero_add]
    have s37 := s7
    refine ⟨_, rfl, _, rfl, ZA, pa, m, ga, na, _, rfl, NA3.same s7, by omega, by omega, okA, gA', fun ys3 t3 H8 p3 so3 s8 R3 => ?_⟩
    obtain rfl := hT.oa.names p3 so3
    refine ⟨_, rfl, _, rfl, ZB, pb, m, gb, nb, _, rfl, (NB3.same s7).same s8, by omega, by omega, okB, gB', fun ys4 t4 H9 p4 so4 s9 R4 => ?_⟩
    obtain rfl := hT.ob.names p4 so4
    refine ⟨_, _, dp_same s9 (OneAt.dp (K := K) hcs R3 rfl hT.oa gA.1), OneAt.dp (K := K) hcs R4 rfl hT.ob gB.1, (pl_ON _).1, (pl_ON _).1, (pl_ON _).2, ?_⟩
    rw [eqv_ON _ _ (by
      unfold TBr
      rw [List.map_map, List.map_map]
      have f : ∀ (g : List Gt) (l : List (Str × List Nat)), l.map ((fun y : Str × List Bool => y.2.length) ∘ fun x => (x.1, x.2.map (wb (Vc m (cso z)) g))) = l.map fun x => x.2.length := fun g l => List.map_congr_left fun x _ => List.length_map ..
      rw [f, f]
      exact hln), decide_eq_false hne]
    dsimp only [gName]
    try simp only [L2.start, List.map_cons, List.map_nil, List.length_cons, List.length_nil, List.replicate_succ, List.replicate_zero, List.cons_append, List.nil_append, List.set_cons_succ, List.set_cons_zero, Nat.reduceAdd, Nat.reduceSub, Nat.zero_add]
    have s39 := (s7.trans s8).trans s9
    have hT9 := hT3.same s39
    have et9 := s39 _ _ et3
    have hU : unlV m (lk ga gb sa sb) (some z) = true := by
      show (isT [48, 49] m (some z) && decide (lk ga gb sa sb z = .un)) = true
      rw [hlk]
      simp only [isT, Bool.and_eq_true, decide_eq_true_eq, List.all_eq_true, List.mem_cons, List.not_mem_nil, or_false]
      exact ⟨⟨lz, fun c hc => bt c hc⟩, trivial⟩
    have hS : showsV m (lk ga gb sa sb) (some [some z]) = false := by
      show ([some z].all _ && (covA m [some z] && ([some z].all fun o => decide (lk ga gb sa sb (o.getD []) = .sm)))) = false
      rw [show ([some z].all fun o => decide (lk ga gb sa sb (o.getD []) = .sm)) = false from by
        rw [List.all_cons, show (some z).getD [] = z from rfl, hlk]
        rfl, Bool.and_false, Bool.and_false]
    refine ⟨_, rfl, _, rfl, _, rfl, iteT ?_⟩
    refine ⟨_, rfl, _, rfl, _, rfl, iteT ?_⟩
    refine ⟨_, rfl, _, rfl, _, rfl, T, _, _, _, rfl, rfl, .inl (.inl et9), (atI_nat (j := 1) rfl), pa, pb, m, ga, gb, na, nb, sa, sb, _, some z, rfl, hT9, .str (by omega), fun H10 s10 => ?_⟩
    rw [hU]
    refine ⟨_, rfl, iteT ?_⟩
    refine ⟨_, rfl, _, rfl, _, rfl, T, _, _, _, rfl, rfl, .inl (.inl (s10 _ _ et9)), (atI_nat (j := 1) rfl), (by show 1 ≤ sizeLine; decide), fun L5 nL5 => ?_⟩
    have s5 := same_upd (o := .lst [.str (SX.S z)]) nL5
    refine ⟨pa, pb, m, ga, gb, na, nb, sa, sb, _, some [some z], rfl, (hT9.same s10).same s5, by omega, .lst upd_same rfl (fun i v o e1 e2 => ?_) (by show 1 ≤ 900; decide), fun H11 s11 => ?_⟩
    · cases i with
      | zero =>
        cases e1
        cases e2
        exact .str (by omega)
      | succ i => cases e1
    rw [hS]
    exact ⟨_, rfl, q H11 (s03.trans (s39.trans (s10.trans (s5.trans s11))))⟩
  | sm ks =>
    obtain ⟨hks, hal, hcv, hwk⟩ := hr'
    obtain ⟨k0, et3, ek3⟩ : ∃ k0, H3 T = some (.tup [.str (Str.ofString "same"), .ref k0]) ∧ H3 k0 = some (.lst (cV ks)) := hTol
    have al : RTr sa (rsA m ga) = RTr sb (rsA m gb) := alike_iff.mpr hal
    rw [decide_eq_true al]
    have lks : ks.length ≤ 512 := Nat.le_trans (wk_len ks) (by rw [hwk]; exact b12)
    have hcs : ∀ x ∈ ks, x.length = m ∧ SgL x := fun x hx => (hks x hx).2
    have hole0 : holeV m ks = 0 := (hole_iff hcs).mpr hcv
    have hS : showsV m (lk ga gb sa sb) (some (ks.map some)) = true := by
      show ((ks.map some).all _ && (covA m (ks.map some) && ((ks.map some).all fun o => decide (lk ga gb sa sb (o.getD []) = .sm)))) = true
      rw [(covA_cs hcs).mpr hole0, Bool.true_and, Bool.and_eq_true, List.all_map, List.all_map, List.all_eq_true, List.all_eq_true]
      refine ⟨fun x hx => ?_, fun x hx => decide_eq_true (hks x hx).1⟩
      simp only [Function.comp, isT, Bool.and_eq_true, decide_eq_true_eq, List.all_eq_true, List.mem_cons, List.not_mem_nil, or_false]
      exact ⟨(hcs x hx).1, fun c hc => by have := (hcs x hx).2 c hc; omega⟩
    have htop : ∀ {G : Hp}, Same H3 G → Top62 G (.ref k0) (some (ks.map some)) := fun {G} sG => by
      refine .lst (sG _ _ ek3) (by rw [cV_len, List.length_map]) (fun i v o hv ho => ?_) (by rw [List.length_map]; omega)
      unfold cV at hv
      rw [List.getElem?_map] at hv ho
      obtain ⟨x, hx, rfl⟩ := Option.map_eq_some_iff.mp hv
      rw [hx] at ho
      cases ho
      have := (hcs x (List.mem_of_getElem? hx)).1
      exact .str (by omega)
    refine ⟨_, rfl, T, _, _, _, rfl, rfl, .inl (.inl et3), rfl, rfl, false, rfl, iteF ?_⟩
    dsimp only [tNext]
    refine ⟨_, rfl, true, rfl, iteF ?_⟩
    refine ⟨_, rfl, _, rfl, _, rfl, T, _, _, _, rfl, rfl, .inl (.inl et3), (atI_nat (j := 1) rfl), pa, pb, m, ga, gb, na, nb, sa, sb, _, some (ks.map some), rfl, hT3, by omega, htop (Same.refl _), fun H4 s4 => ?_⟩
    rw [hS]
    refine ⟨true, rfl, iteF ?_⟩
    refine ⟨_, rfl, T, _, _, _, rfl, rfl, .inl (.inl (s4 _ _ et3)), (atI_nat (j := 1) rfl), _, rfl, k0, m, ks, rfl, s4 _ _ ek3, by omega, fun x hx => by rw [(hcs x hx).1]; omega, fun _ H5 s5 => ?_, fun hne => absurd hole0 hne⟩
    refine ⟨rfl, _, rfl, iteF ?_⟩
    dsimp only [tNext]
    have s35 := s4.trans s5
    have et5 := s35 _ _ et3
    have ek5 := s35 _ _ ek3
    refine ⟨_, rfl, T, _, _, _, rfl, rfl, .inl (.inl et5), (atI_nat (j := 1) rfl), k0, rfl, ⟨_, SqL.of ek5⟩, fun D6 nD6 => ?_⟩
    refine lc_it (walk_list (K := K) (a := k0) (xs := cV ks)) (fun i G => Same H5 G ∧ G D6 = some (.lst (((ks.map fun x => ((2 ^ c45 x : Nat) : Int)).take i).map V.int))) ⟨same_upd nD6, upd_same⟩ (fun i G _ ⟨sG, _⟩ => SqL.of (sG _ _ ek5)) ?_ ?_
    · rintro j z G G' hj ⟨sG, eD6⟩ ⟨rfl, hz⟩
      have hz : (cV ks)[j]? = some z := hz
      unfold cV at hz
      rw [List.getElem?_map] at hz
      obtain ⟨x, hx, rfl⟩ := Option.map_eq_some_iff.mp hz
      obtain ⟨lx, sx⟩ := hcs x (List.mem_of_getElem? hx)
      have c9 : c45 x ≤ 9 := by
        have : c45 x ≤ x.length := List.count_le_length
        omega
      refine ⟨rfl, yesT ?_⟩
      refine ⟨_, rfl, rfl, _, _, rfl, rfl, ?_⟩
      rw [txt_c45]
      refine ⟨c45 x, rfl, rfl, by omega, ?_⟩
      refine ⟨_, eD6, ?_, fun y o e => ?_, ?_⟩
      · rw [List.length_map, List.length_take, List.length_map]
        exact big_lt (by omega)
      · rw [upd_ne (ne_of_none e nD6)]
        exact sG _ _ e
      · rw [upd_same, List.take_add_one, List.getElem?_map, hx, List.map_append, show (2 : Int) ^ c45 x = ((2 ^ c45 x : Nat) : Int) from (PySem.W.kbt_cast _).symm]
        rfl
    rintro G ⟨sG, eD6⟩
    rw [List.take_of_length_le (by rw [List.length_map, cV_len]; omega)] at eD6
    refine ⟨_, _, rfl, SqL.of eD6, ?_⟩
    refine ⟨_, rfl, m, rfl, rfl, by omega, rfl, ?_⟩
    have hs : (ks.map fun x => ((2 ^ c45 x : Nat) : Int)).sum = (2 : Int) ^ m := by
      rw [c12, ← hwk]
      exact wk_sum ks
    rw [hs, decide_eq_true rfl]
    exact q G (s03.trans (s35.trans sG))
end
section
variable {P : Program} {w : World} {K : PySem.W.Frag} {mg : Str → Option Value} {base : Heap}
variable {C : Addr} {za : Nat → Addr} {zl : Nat → FuncData} {E_TooMuch I_TooMuch : Addr}
/-! ### rows told of a net -/
/-- names and wires in a list that is new -/
def GvN (H H' : Hp) (F : Addr) (nm : List (Str × List Nat)) : Prop := H F = none ∧ ∃ ts : List Addr, ts.length = nm.length ∧ H' F = some (.lst (ts.map V.ref)) ∧ ∀ (i : Nat) (t : Addr) (n : Str) (ws : List Nat), ts[i]? = some t → nm[i]? = some (n, ws) → H t = none ∧ ∃ l, H l = none ∧ l ≠ F ∧ H' t = some (.tup [.str n, .ref l]) ∧ H' l = some (.lst (nts ws))
theorem GvN.at {H H' : Hp} {F b : Addr} {nm : List (Str × List Nat)} (h : GvN H H' F nm) (hb : H b ≠ none) : GvAt b H' F nm := by
  obtain ⟨h0, ts, h1, h2, h3⟩ := h
  have ne : ∀ {y : Addr}, H y = none → y ≠ b := fun n z => hb (by rw [← z]; exact n)
  refine ⟨ne h0, ts, h1, h2, fun i t n ws ht hn => ?_⟩
  obtain ⟨a, l, b', c, d, e⟩ := h3 i t n ws ht hn
  exact ⟨ne a, l, ne b', c, d, e⟩
def spRowsOf (C : Addr) : Sp := fun vs H Q _ => ∃ (Z : List Addr) (p : NetP) (m : Nat) (gs : List Gt) (nm sa : List (Str × List Nat)), vs = [.ref p.x] ∧ NetAt C Z H p m gs nm ∧ nm.length < 60 ∧ SoOf sa nm ∧ Inj nm ∧ ∀ (T R F : Addr) (H' : Hp), Same H H' → H' T = some (.tup [.ref R, .ref F]) → H R = none → RowsAt46 H' R gs → GvN H H' F sa → Q (.ref T) H'
theorem ok__law_rows_of (B : Bl mg) (L : LL K mg C za zl E_TooMuch I_TooMuch) : FnOk P w K mg base CX0 2 (za 36) (zl 36) ["_law_net_here"] (spRowsOf C) := by
  have G_Net_gates : FnOk P w K mg base CX0 1 (za 57) (zl 57) ["self"] (spGates C) := (ok_Net_gates B L).mono (by decide)
  have G_Net_names : FnOk P w K mg base CX0 1 (za 55) (zl 55) ["self"] (spNames C) := (ok_Net_names B L).mono (by decide)
  have G_Net_given : FnOk P w K mg base CX0 1 (za 54) (zl 54) ["self", "name"] (spGiven C) := (ok_Net_given B L).mono (by decide)
  refine L.F__law_rows_of.ok sc__law_rows_of (fun vs H Q E h => ?_) (fun cdv A outer s H vs Q E hr h => ?_)
  · obtain ⟨Z, p, m, gs, nm, sa, rfl, _⟩ := h
    rfl
  obtain ⟨Z, p, m, gs, nm, sa, rfl, N, n60, so, inj, q⟩ := h
  refine ⟨_, (pss_one (ps_ret (pe_tup (pa_cons (pe_meth0 (pv 0) L.T.cl L.M_Net_gates G_Net_gates hr L.b_Net_gates .nil pass0) (pa_cons (pe_lc (own := [("_law_name", 1)]) (by rfl) sc__law_rows_of.nd (pi_list (pe_meth0 (pv 0) L.T.cl L.M_Net_names G_Net_names hr L.b_Net_names .nil pass0)) (blkOk_by (own := [("_law_name", 1)]) (N := ["_law_net_here", "_law_name"]) (sc := defScope s__law_rows_of) (by decide +kernel)) (fun _ _ _ _ _ => pg_name (i := 1) sc__law_rows_of.nd rfl (Or.inl rfl)) (fun _ _ _ _ _ => pts_nil) (fun _ _ _ _ _ => (pe_tup (pa_cons (pv 1) (pa_cons (pe_meth (pv 0) L.T.cl L.M_Net_given G_Net_given hr L.b_Net_given .nil pass0 (pa_cons (pv 1) pa_nil)) pa_nil))))) pa_nil))))), ?_⟩
  obtain ⟨_, _, _, dx, _, _, e1, _⟩ := id N
  refine ⟨_, rfl, p.x, dx, _, rfl, e1, rfl, Z, p, m, gs, nm, rfl, N, fun R ps nR lps hps => ?_⟩
  have sR := same_upd (o := .lst (ps.map V.ref)) nR
  have eR : (upd H R (.lst (ps.map V.ref))) R = some (.lst (ps.map V.ref)) := upd_same
  have rR : RowsAt46 (upd H R (.lst (ps.map V.ref))) R gs := ⟨ps, lps, upd_same, fun i t g a c => sR _ _ (hps i t g a c)⟩
  have N1 := N.same sR
  generalize upd H R (.lst (ps.map V.ref)) = H1 at *
  obtain ⟨_, _, _, dx1, _, _, e2, _⟩ := id N1
  refine ⟨_, rfl, p.x, dx1, _, rfl, e2, rfl, Z, p, m, gs, nm, rfl, N1, by omega, fun ys u H2 hp hs s2 nu eu => ?_⟩
  obtain rfl := so.names hp hs
  refine ⟨u, rfl, ⟨_, SqL.of eu⟩, fun D nD => ?_⟩
  have s02 := sR.trans s2
  have s2D := same_upd (o := .lst []) nD
  have nDH : H D = none := by
    cases e : H D with
    | none => rfl
    | some o => rw [s02 _ _ e] at nD; cases nD
  refine lc_it (walk_list (K := K) (a := u) (xs := (sa.map (·.1)).map V.str)) (fun j G => Same H2 G ∧ ∃ ts : List Addr, ts.length = j ∧ G D = some (.lst (ts.map V.ref)) ∧ ∀ (i : Nat) (t : Addr) (n : Str) (ws : List Nat), ts[i]? = some t → sa[i]? = some (n, ws) → H t = none ∧ t ≠ D ∧ ∃ l, H l = none ∧ l ≠ D ∧ G t = some (.tup [.str n, .ref l]) ∧ G l = some (.lst (nts ws))) ⟨s2D, [], rfl, upd_same, fun i t n ws h => by simp at h⟩ (fun j G _ ⟨sG, _⟩ => SqL.of (sG _ _ eu)) ?_ ?_
  · rintro j z G G' hj ⟨sG, ts, lt, eD, hts⟩ ⟨rfl, hz⟩
    rw [List.length_map, List.length_map] at hj
    have hx : sa[j]? = some sa[j] := List.getElem?_eq_getElem hj
    rw [List.getElem?_map, List.getElem?_map, hx] at hz
    cases hz
    obtain ⟨ia, hia, eia⟩ := List.getElem_of_mem (so.1.mem_iff.mp (List.mem_of_getElem? hx))
    generalize sa[j] = x at *
    have NG := (N1.same s2).same sG
    obtain ⟨_, _, _, dxG, _, _, eG, _⟩ := id NG
    refine ⟨rfl, yesT ?_⟩
    refine ⟨_, rfl, _, rfl, p.x, dxG, _, rfl, eG, rfl, _, rfl, Z, p, m, gs, nm, ia, x.1, x.2, rfl, NG, by rw [List.getElem?_eq_getElem hia, eia], fun l nl => ?_⟩
    have sl := same_upd (o := .lst (nts x.2)) nl
    have el : (upd G' l (.lst (nts x.2))) l = some (.lst (nts x.2)) := upd_same
    have nlD : l ≠ D := (ne_of_none eD nl).symm
    refine ⟨(by show 2 ≤ sizeLine; decide), fun t nt => ?_⟩
    have st := same_upd (o := .tup [.str x.1, .ref l]) nt
    have et : (upd (upd G' l (.lst (nts x.2))) t (.tup [.str x.1, .ref l])) t = some (.tup [.str x.1, .ref l]) := upd_same
    have ntD : t ≠ D := (ne_of_none (sl _ _ eD) nt).symm
    have sG2 := sl.trans st
    have eD2 := sG2 _ _ eD
    have el2 := st _ _ el
    have fr : ∀ {y : Addr} {A : Hp}, Same H2 A → A y = none → H y = none := fun {y A} sA n => by
      cases e : H y with
      | none => rfl
      | some o => rw [sA _ _ (s02 _ _ e)] at n; cases n
    have hl0 := fr sG nl
    have ht0 := fr (sG.trans sl) nt
    dsimp only
    generalize upd (upd G' l (.lst (nts x.2))) t (.tup [.str x.1, .ref l]) = G2 at *
    refine ⟨_, eD2, ?_, fun y o e => ?_, ts ++ [t], by rw [List.length_append, lt]; rfl, by rw [upd_same, List.map_append]; rfl, fun i t' n ws ht hn => ?_⟩
    · rw [List.length_map, lt]
      exact big_lt (by have := so.1.length_eq; omega)
    · rw [upd_ne (ne_of_none e nD)]
      exact sG2 _ _ (sG _ _ e)
    · by_cases c : i < ts.length
      · rw [List.getElem?_append_left c] at ht
        obtain ⟨a1, a2, l', a3, a4, a5, a6⟩ := hts i t' n ws ht hn
        exact ⟨a1, a2, l', a3, a4, by rw [upd_ne a2]; exact sG2 _ _ a5, by rw [upd_ne a4]; exact sG2 _ _ a6⟩
      · have i0 : i = ts.length := by
          have := (List.getElem?_eq_some_iff.mp ht).1
          rw [List.length_append, List.length_singleton] at this
          omega
        rw [List.getElem?_append_right (by omega), i0, Nat.sub_self] at ht
        cases ht
        rw [i0, lt, hx] at hn
        cases hn
        exact ⟨ht0, ntD, l, hl0, nlD, by rw [upd_ne ntD]; exact et, by rw [upd_ne nlD]; exact el2⟩
  rintro G ⟨sG, ts, lt, eD, hts⟩
  rw [List.length_map, List.length_map] at lt
  refine ⟨(by show 2 ≤ sizeLine; decide), fun T nT => ?_⟩
  have sT := same_upd (o := .tup [.ref R, .ref D]) nT
  refine q T R D _ ((s02.trans sG).trans sT) upd_same nR (((rR.same s2).same sG).same sT) ⟨nDH, ts, lt, sT _ _ eD, fun i t n ws ht hn => ?_⟩
  obtain ⟨a1, a2, l', a3, a4, a5, a6⟩ := hts i t n ws ht hn
  exact ⟨a1, l', a3, a4, sT _ _ a5, sT _ _ a6⟩
end
section
variable {P : Program} {w : World} {K : PySem.W.Frag} {mg : Str → Option Value} {base : Heap}
variable {C : Addr} {za : Nat → Addr} {zl : Nat → FuncData} {E_TooMuch I_TooMuch : Addr}
/-! ### a net spoilt -/
def spSpoilt (C : Addr) : Sp := fun vs H Q _ => ∃ (Z Z' : List Addr) (b : Addr) (c : Int) (p : NetP) (m : Nat) (gs : List Gt) (nm sa : List (Str × List Nat)), vs = [.ref b, .int (m : Int), .ref p.x] ∧ BoxAt c H b ∧ c ≤ 700000000 ∧ NetAt C Z H p m gs nm ∧ b ∈ Z ∧ GsOk m gs ∧ GvW (m + gs.length) nm ∧ 1 ≤ nm.length ∧ nm.length ≤ 3 ∧ (∀ x ∈ nm, x.2 ≠ []) ∧ 1 ≤ gs.length ∧ gs.length ≤ 200 ∧ 1 ≤ m ∧ m ≤ 50 ∧ SoOf sa nm ∧ (∀ z ∈ Z', H z ≠ none) ∧
  ∀ (p' : NetP) (gs' : List Gt) (nm' : List (Str × List Nat)) (H' : Hp), Keep b H H' → BoxAt (c + 20) H' b → NetAt C Z' H' p' m gs' nm' → GsOk m gs' → gs'.length = gs.length → GvW (m + gs.length) nm' → nm'.map (·.1) = sa.map (·.1) → nm'.map (fun x => x.2.length) = sa.map (fun x => x.2.length) → (H p'.x = none ∧ H p'.lm = none ∧ H p'.ld = none ∧ H p'.dn = none) → Q (.ref p'.x) H'
theorem ok__law_spoilt (B : Bl mg) (L : LL K mg C za zl E_TooMuch I_TooMuch) : FnOk P w K mg base CX0 6 (za 37) (zl 37) ["_law_box_here", "_law_first", "_law_net_here"] (spSpoilt C) := by
  have G__law_rows_of : FnOk P w K mg base CX0 5 (za 36) (zl 36) ["_law_net_here"] (spRowsOf C) := (ok__law_rows_of B L).mono (by decide)
  have G__law_take : FnOk P w K mg base CX0 5 (za 32) (zl 32) ["_law_box_here", "_law_size"] (spTake 1) := (ok_take L.F__law_take L.b__law_take L.m__law_take B 1).mono (by decide)
  have G__law_bent_rows : FnOk P w K mg base CX0 5 (za 35) (zl 35) ["_law_box_here", "_law_first", "_law_rows"] spBent := (ok__law_bent_rows B L).mono (by decide)
  have G__law_net : FnOk P w K mg base CX0 5 (za 34) (zl 34) ["_law_first", "_law_rows", "_law_given"] (spNet63 C) := (ok__law_net B L).mono (by decide)
  refine L.F__law_spoilt.ok sc__law_spoilt (fun vs H Q E h => ?_) (fun cdv A outer s H vs Q E hr h => ?_)
  · obtain ⟨Z, Z', b, c, p, m, gs, nm, sa, rfl, _⟩ := h
    rfl
  obtain ⟨Z, Z', b, c, p, m, gs, nm, sa, rfl, hB, hc, N, bZ, ok, gw, n1, n3, hne, g1, g200, m1, m50, so, hZ', q⟩ := h
  refine ⟨_, (pss_cons (ps_asg (pe_call G__law_rows_of hr (by rfl) L.m__law_rows_of L.F__law_rows_of.kp L.b__law_rows_of .nil pass0 (pa_cons (pv 2) pa_nil)) (pg_tup (by rfl) (pgs_cons (pg_name (i := 3) sc__law_spoilt.nd rfl (.inl rfl)) (pgs_cons (pg_name (i := 4) sc__law_spoilt.nd rfl (.inl rfl)) pgs_nil))))
    (pss_cons (ps_if (pt_cmpR op_gt (pe_call G__law_take hr (by rfl) L.m__law_take L.F__law_take.kp L.b__law_take .nil pass0 (pa_cons (pv 0) (pa_cons pe_int pa_nil))) pe_int (nomark _)) (pss_one (ps_set (i := 3) sc__law_spoilt.nd rfl (.inl rfl) (pe_call G__law_bent_rows hr (by rfl) L.m__law_bent_rows L.F__law_bent_rows.kp L.b__law_bent_rows .nil pass0 (pa_cons (pv 0) (pa_cons (pv 1) (pa_cons (pv 3) pa_nil)))))) (pss_cons (ps_asg (pe_ix ix_list (pv 4) (pe_call G__law_take hr (by rfl) L.m__law_take L.F__law_take.kp L.b__law_take .nil pass0 (pa_cons (pv 0) (pa_cons (pe_callB call_len_seq (by rfl) B.len PySem.boot_len (pa_cons (pv 4) pa_nil)) pa_nil))) (fun _ _ => rfl)) (pg_tup (by rfl) (pgs_cons (pg_name (i := 5) sc__law_spoilt.nd rfl (.inr rfl)) (pgs_cons (pg_name (i := 6) sc__law_spoilt.nd rfl (.inr rfl)) pgs_nil))))
    (pss_cons (ps_set (i := 7) sc__law_spoilt.nd rfl (.inl rfl) (pe_call G__law_take hr (by rfl) L.m__law_take L.F__law_take.kp L.b__law_take .nil pass0 (pa_cons (pv 0) (pa_cons (pe_callB call_len_seq (by rfl) B.len PySem.boot_len (pa_cons (pv 6) pa_nil)) pa_nil))))
    (pss_cons (ps_set (i := 6) sc__law_spoilt.nd rfl (.inr rfl) (pe_op op_cat (pe_op op_cat (pe_slice sl_list (pv 6) po_none (po_some (pv 7))) (pe_lst (pa_cons (pe_call G__law_take hr (by rfl) L.m__law_take L.F__law_take.kp L.b__law_take .nil pass0 (pa_cons (pv 0) (pa_cons (pe_op op_add (pv 1) (pe_callB call_len_seq (by rfl) B.len PySem.boot_len (pa_cons (pv 3) pa_nil))) pa_nil))) pa_nil))) (pe_slice sl_list (pv 6) (po_some (pe_op op_add (pv 7) pe_int)) po_none)))
    (pss_one (ps_setLc (i := 4) (own := [("_law_one", 8), ("_law_some", 9)]) (g := gTup K 2 (gCons (gName 8) (gCons (gName 9) gNil))) (by rfl) sc__law_spoilt.nd rfl rfl (sw_true rfl rfl rfl (by decide +kernel)) (pi_list (pv 4)) (blkOk_by (own := [("_law_one", 8), ("_law_some", 9)]) (N := ["_law_box_here", "_law_first", "_law_net_here", "_law_rows", "_law_given", "_law_name", "_law_wires", "_law_at", "_law_one", "_law_some"]) (sc := defScope s__law_spoilt) (by decide +kernel)) (fun _ _ _ _ _ => pg_tup rfl (pgs_cons (pg_name (i := 8) sc__law_spoilt.nd rfl (Or.inl rfl) (.inr rfl)) (pgs_cons (pg_name (i := 9) sc__law_spoilt.nd rfl (Or.inl rfl) (.inr rfl)) pgs_nil))) (fun _ _ _ _ _ => pts_nil) (fun _ _ _ _ _ => (pe_tup (pa_cons (pv 8) (pa_cons (pe_ifExp (pt_cmpR op_eq (pv 8) (pv 5) (nomark _)) (pv 6) (pv 9)) pa_nil))))))))))
    (pss_one (ps_ret (pe_call G__law_net hr (by rfl) L.m__law_net L.F__law_net.kp L.b__law_net .nil pass0 (pa_cons (pv 1) (pa_cons (pv 3) (pa_cons (pv 4) pa_nil)))))))), ?_⟩
  have inj : Inj nm := gw.1
  refine ⟨_, rfl, Z, p, m, gs, nm, sa, rfl, N, by omega, so, inj, fun T R F H1 s1 eT nR rR gvN => ?_⟩
  refine ⟨T, _, rfl, .inl (.inl eT), rfl, _, _, rfl, _, _, rfl, rfl, ?_⟩
  dsimp only [gName]
  try simp only [L2.start, List.map_cons, List.map_nil, List.length_cons, List.length_nil, List.replicate_succ, List.replicate_zero, List.cons_append, List.nil_append, List.set_cons_succ, List.set_cons_zero, Nat.reduceAdd, Nat.reduceSub, Nat.zero_add]
  have B1 := hB.same s1
  have gvA := gvN.at hB.some
  have lsa : sa.length = nm.length := so.1.length_eq
  have injS : Inj sa := Inj.perm inj so.1.symm
  have lR : ∃ ts : List Addr, ts.length = gs.length ∧ H1 R = some (.lst (ts.map V.ref)) := by
    obtain ⟨ts, a, e, _⟩ := rR
    exact ⟨ts, a, e⟩
  have nRb : R ≠ b := rR.ne B1
  refine ifS_cut (fun σ' H' => ∃ (R' F' : Addr) (gs' : List Gt) (nm' : List (Str × List Nat)) (y5 y6 y7 y8 y9 : Option V), σ' = [some (.ref b), some (.int (m : Int)), some (.ref p.x), some (.ref R'), some (.ref F'), y5, y6, y7, y8, y9] ∧ Keep b H1 H' ∧ BoxAt (c + 15) H' b ∧ RowsAt46 H' R' gs' ∧ GsOk m gs' ∧ gs'.length = gs.length ∧ GvL H' F' nm' ∧ GvW (m + gs.length) nm' ∧ nm'.map (·.1) = sa.map (·.1) ∧ nm'.map (fun x => x.2.length) = sa.map (fun x => x.2.length)) (fun D' hD => ?_) ?_
  · refine ⟨_, rfl, b, _, _, rfl, B1, by decide, by decide, by decide, by omega, by decide, fun r H2 u2 v2 B2 k2 => ?_⟩
    replace B2 := bx1 B2
    refine ⟨_, _, rfl, rfl, _, rfl, ite2 (fun z => ?_) (fun z => ?_)⟩
    · refine ⟨_, rfl, _, rfl, _, rfl, b, R, _, m, gs, rfl, B2, by omega, m1, by omega, rR.keepB k2 B1, ok, g1, by omega, fun R' gs' H3 l' ok' rR' B3 k3 => ?_⟩
      exact hD _ _ ⟨R', F, gs', sa, _, _, _, _, _, rfl, k2.trans k3, B3.mono (by omega), rR', ok', l', ((gvA.keep k2).keep k3).L, ⟨injS, fun x hx => gw.2 x (so.1.mem_iff.mp hx)⟩, rfl, rfl⟩
    · obtain ⟨nFb, fs, lfs, eF, hfs⟩ := id (gvA.keep k2)
      have lF : (fs.map V.ref).length = sa.length := by rw [List.length_map, lfs]
      refine ⟨_, rfl, _, rfl, _, rfl, F, _, rfl, .inl (SqL.of eF), ?_⟩
      rw [lF]
      refine ⟨b, _, _, rfl, B2, by omega, by omega, by omega, by omega, by decide, fun r3 H3 u3 v3 B3 k3 => ?_⟩
      replace B3 := bx1 B3
      obtain ⟨i3, rfl⟩ := Int.eq_ofNat_of_zero_le u3
      have il : i3 < sa.length := by omega
      obtain ⟨t3, ht3⟩ : ∃ t, fs[i3]? = some t := ⟨_, List.getElem?_eq_getElem (by omega)⟩
      obtain ⟨x3, hx3⟩ : ∃ x, sa[i3]? = some x := ⟨_, List.getElem?_eq_getElem il⟩
      obtain ⟨nt3, l3, nl3, nlF, et3, el3⟩ := hfs i3 t3 x3.1 x3.2 ht3 hx3
      have eF3 := k3 _ _ eF nFb
      have et3' := k3 _ _ et3 nt3
      have el3' := k3 _ _ el3 nl3
      refine ⟨F, _, _, _, rfl, rfl, SqL.of eF3, atI_nat (j := i3) (by rw [List.getElem?_map, ht3]; rfl), ?_⟩
      refine ⟨t3, _, rfl, .inl (.inl et3'), rfl, _, _, rfl, _, _, rfl, rfl, ?_⟩
      dsimp only [gName]
      try simp only [L2.start, List.map_cons, List.map_nil, List.length_cons, List.length_nil, List.replicate_succ, List.replicate_zero, List.cons_append, List.nil_append, List.set_cons_succ, List.set_cons_zero, Nat.reduceAdd, Nat.reduceSub, Nat.zero_add]
      have hx3m : x3 ∈ sa := List.mem_of_getElem? hx3
      have w3 := gw.2 x3 (so.1.mem_iff.mp hx3m)
      have n30 : x3.2 ≠ [] := hne x3 (so.1.mem_iff.mp hx3m)
      have p3 : 1 ≤ x3.2.length := by
        cases e : x3.2 with
        | nil => exact absurd e n30
        | cons a l => rw [List.length_cons]; omega
      have ln3 : (nts x3.2).length = x3.2.length := by
        unfold nts
        rw [List.length_map]
      refine ⟨_, rfl, _, rfl, l3, _, rfl, .inl (SqL.of el3'), ?_⟩
      rw [ln3]
      refine ⟨b, _, _, rfl, B3, by omega, by omega, by omega, by omega, by decide, fun r4 H4 u4 v4 B4 k4 => ?_⟩
      replace B4 := bx1 B4
      obtain ⟨a4, rfl⟩ := Int.eq_ofNat_of_zero_le u4
      have el4 := k4 _ _ el3' nl3
      dsimp only [gName]
      try simp only [L2.start, List.map_cons, List.map_nil, List.length_cons, List.length_nil, List.replicate_succ, List.replicate_zero, List.cons_append, List.nil_append, List.set_cons_succ, List.set_cons_zero, Nat.reduceAdd, Nat.reduceSub, Nat.zero_add]
      refine ⟨_, rfl, _, rfl, (a4 : Int), rfl, l3, _, rfl, SqL.of el4, fun L1 nL1 => ?_⟩
      rw [cutN_to x3.2 a4 (by omega)]
      have sL1 := same_upd (o := .lst (nts (x3.2.take a4))) nL1
      have eL1 : (upd H4 L1 (.lst (nts (x3.2.take a4)))) L1 = some (.lst (nts (x3.2.take a4))) := upd_same
      have B5 := B4.same sL1
      have nL1b : L1 ≠ b := (B4.ne nL1).symm
      have k14 : Keep b H1 H4 := (k2.trans k3).trans k4
      have k15 := k14.trans (.ofSame sL1)
      have el5 := sL1 _ _ el4
      generalize upd H4 L1 _ = H5 at *
      obtain ⟨ts, lts, eR1⟩ := lR
      have eR5 := k15 _ _ eR1 nRb
      refine ⟨_, rfl, _, rfl, _, rfl, R, _, rfl, .inl (SqL.of eR5), _, _, rfl, rfl, ?_⟩
      have hM : (m : Int) + ((ts.map V.ref).length : Nat) = ((m + gs.length : Nat) : Int) := by
        rw [List.length_map, lts]
        omega
      refine ⟨b, ((m + gs.length : Nat) : Int), _, (by show [V.ref b, V.int ((m : Int) + ((ts.map V.ref).length : Nat))] = _; rw [hM]), B5, by omega, by omega, by omega, by omega, by decide, fun r6 H6 u6 v6 B6 k6 => ?_⟩
      replace B6 := bx1 B6
      obtain ⟨w6, rfl⟩ := Int.eq_ofNat_of_zero_le u6
      refine ⟨(by show 1 ≤ sizeLine; decide), fun L5 nL5 => ?_⟩
      have sL5 := same_upd (o := .lst [.int (w6 : Int)]) nL5
      have eL5 : (upd H6 L5 (.lst [.int (w6 : Int)])) L5 = some (.lst (nts [w6])) := upd_same
      have eL1' := sL5 _ _ (k6 _ _ eL1 nL1b)
      have el6 := sL5 _ _ (k6 _ _ el5 nl3)
      have B7 := B6.same sL5
      have k17 := (k15.trans k6).trans (.ofSame sL5)
      generalize upd H6 L5 _ = H7 at *
      refine ⟨L1, L5, _, _, rfl, rfl, eL1', eL5, by
        unfold nts
        rw [List.length_map, List.length_map, List.length_take]
        exact Nat.le_of_lt (big_lt (show min a4 x3.2.length + 1 ≤ _ by omega)), fun L6 nL6 => ?_⟩
      rw [← nts_app]
      have sL6 := same_upd (o := .lst (nts (x3.2.take a4 ++ [w6]))) nL6
      have eL6 : (upd H7 L6 (.lst (nts (x3.2.take a4 ++ [w6])))) L6 = some (.lst (nts (x3.2.take a4 ++ [w6]))) := upd_same
      have el7 := sL6 _ _ el6
      have B8 := B7.same sL6
      have k18 := k17.trans (.ofSame sL6)
      generalize upd H7 L6 _ = H8 at *
      refine ⟨_, rfl, _, rfl, _, _, rfl, rfl, (a4 : Int) + 1, rfl, l3, _, rfl, SqL.of el7, fun L7 nL7 => ?_⟩
      rw [show ((a4 : Int) + 1) = ((a4 + 1 : Nat) : Int) by omega, cutN_from x3.2 (a4 + 1) (by omega)]
      have sL7 := same_upd (o := .lst (nts (x3.2.drop (a4 + 1)))) nL7
      have eL7 : (upd H8 L7 (.lst (nts (x3.2.drop (a4 + 1))))) L7 = some (.lst (nts (x3.2.drop (a4 + 1)))) := upd_same
      have eL67 := sL7 _ _ eL6
      have B9 := B8.same sL7
      have k19 := k18.trans (.ofSame sL7)
      generalize upd H8 L7 _ = H9 at *
      refine ⟨L6, L7, _, _, rfl, rfl, eL67, eL7, by
        unfold nts
        rw [List.length_map, List.length_map, List.length_append, List.length_take, List.length_drop]
        exact Nat.le_of_lt (big_lt (show min a4 x3.2.length + 1 + (x3.2.length - (a4 + 1)) ≤ _ by omega)), fun L8 nL8 => ?_⟩
      rw [← nts_app]
      obtain ⟨wn, ewn⟩ : ∃ wn, wn = x3.2.take a4 ++ [w6] ++ x3.2.drop (a4 + 1) := ⟨_, rfl⟩
      rw [← ewn]
      have lwn : wn.length = x3.2.length := by
        rw [ewn, List.length_append, List.length_append, List.length_take, List.length_drop, List.length_singleton]
        omega
      have iwn : ∀ a ∈ wn, a < m + gs.length := fun a ha => by
        rw [ewn] at ha
        rcases List.mem_append.mp ha with y | y
        · rcases List.mem_append.mp y with y | y
          · exact w3.2 a (List.mem_of_mem_take y)
          · rw [List.mem_singleton.mp y]
            omega
        · exact w3.2 a (List.mem_of_mem_drop y)
      have sL8 := same_upd (o := .lst (nts wn)) nL8
      have eL8 : (upd H9 L8 (.lst (nts wn))) L8 = some (.lst (nts wn)) := upd_same
      have B10 := B9.same sL8
      have k110 := k19.trans (.ofSame sL8)
      have nL8b : L8 ≠ b := (B9.ne nL8).symm
      generalize upd H9 L8 _ = H10 at *
      dsimp only [gName]
      try simp only [L2.start, List.map_cons, List.map_nil, List.length_cons, List.length_nil, List.replicate_succ, List.replicate_zero, List.cons_append, List.nil_append, List.set_cons_succ, List.set_cons_zero, Nat.reduceAdd, Nat.reduceSub, Nat.zero_add]
      obtain ⟨_, gs0, lg0, eF10, hg0⟩ := id (gvA.keep k110)
      refine ⟨_, rfl, F, rfl, ⟨_, SqL.of eF10⟩, fun D nD => ?_⟩
      refine lc_it (walk_list (K := K) (a := F) (xs := gs0.map V.ref)) (fun j G => Same H10 G ∧ ∃ ts : List Addr, ts.length = j ∧ G D = some (.lst (ts.map V.ref)) ∧ ∀ (i : Nat) (t : Addr) (x : Str × List Nat), ts[i]? = some t → sa[i]? = some x → t ≠ D ∧ ∃ l, l ≠ D ∧ G t = some (.tup [.str x.1, .ref l]) ∧ G l = some (.lst (nts (if x.1 = x3.1 then wn else x.2)))) ⟨same_upd nD, [], rfl, upd_same, fun i t x h => by simp at h⟩ (fun j G _ ⟨sG, _⟩ => SqL.of (sG _ _ eF10)) ?_ ?_
      · rintro j z G G' hj ⟨sG, ts, lt, eD, hts⟩ ⟨rfl, hz⟩
        rw [List.length_map] at hj
        rw [List.getElem?_map, List.getElem?_eq_getElem hj] at hz
        cases hz
        obtain ⟨⟨n, l⟩, hx⟩ : ∃ x, sa[j]? = some x := ⟨_, List.getElem?_eq_getElem (by omega)⟩
        obtain ⟨_, la, _, _, q1, q2⟩ := hg0 j _ _ _ (List.getElem?_eq_getElem hj) hx
        refine ⟨gs0[j], _, rfl, .inl (.inl (sG _ _ q1)), rfl, _, _, rfl, _, _, rfl, rfl, rfl, ?_⟩
        have nDt : ∀ {y : Addr}, G' y = none → y ≠ D := fun h => (ne_of_none eD h).symm
        have nDo : ∀ {y : Addr} {o : HO}, H10 y = some o → y ≠ D := fun h => ne_of_none h nD
        have fin : ∀ (lx : Addr), lx ≠ D → G' lx = some (.lst (nts (if n = x3.1 then wn else l))) → ∀ t, G' t = none → ∃ acc, (upd G' t (.tup [.str n, .ref lx])) D = some (.lst acc) ∧ acc.length < sizeLine ∧ Same H10 (upd (upd G' t (.tup [.str n, .ref lx])) D (.lst (acc ++ [.ref t]))) ∧ ∃ ts' : List Addr, ts'.length = j + 1 ∧ (upd (upd G' t (.tup [.str n, .ref lx])) D (.lst (acc ++ [.ref t]))) D = some (.lst (ts'.map V.ref)) ∧ ∀ (i : Nat) (u : Addr) (x : Str × List Nat), ts'[i]? = some u → sa[i]? = some x → u ≠ D ∧ ∃ l, l ≠ D ∧ (upd (upd G' t (.tup [.str n, .ref lx])) D (.lst (acc ++ [.ref t]))) u = some (.tup [.str x.1, .ref l]) ∧ (upd (upd G' t (.tup [.str n, .ref lx])) D (.lst (acc ++ [.ref t]))) l = some (.lst (nts (if x.1 = x3.1 then wn else x.2))) := fun lx nlx elx t nt => by
          have st := same_upd (o := .tup [.str n, .ref lx]) nt
          have et : (upd G' t (.tup [.str n, .ref lx])) t = some (.tup [.str n, .ref lx]) := upd_same
          have ntD := nDt nt
          have elx2 := st _ _ elx
          have eD2 := st _ _ eD
          generalize upd G' t _ = G2 at *
          refine ⟨_, eD2, ?_, fun y o e => ?_, ts ++ [t], by rw [List.length_append, lt]; rfl, by rw [upd_same, List.map_append]; rfl, fun i u x hu hn => ?_⟩
          · rw [List.length_map, lt]
            exact big_lt (by omega)
          · rw [upd_ne (nDo e)]
            exact st _ _ (sG _ _ e)
          · by_cases c : i < ts.length
            · rw [List.getElem?_append_left c] at hu
              obtain ⟨a2, l', a4, a5, a6⟩ := hts i u x hu hn
              exact ⟨a2, l', a4, by rw [upd_ne a2]; exact st _ _ a5, by rw [upd_ne a4]; exact st _ _ a6⟩
            · have i0 : i = ts.length := by
                have := (List.getElem?_eq_some_iff.mp hu).1
                rw [List.length_append, List.length_singleton] at this
                omega
              rw [List.getElem?_append_right (by omega), i0, Nat.sub_self] at hu
              cases hu
              rw [i0, lt, hx] at hn
              cases hn
              exact ⟨ntD, lx, nlx, by rw [upd_ne ntD]; exact et, by rw [upd_ne nlx]; exact elx2⟩
        refine yesT ?_
        refine ⟨_, rfl, _, rfl, _, rfl, rfl, _, rfl, ite2 (fun z => ?_) (fun z => ?_)⟩
        · have zn : n = x3.1 := V.str.inj (of_decide_eq_true z)
          exact ⟨_, rfl, (by show 2 ≤ sizeLine; decide), fun t nt => fin L8 (nDo eL8) (by rw [if_pos zn]; exact sG _ _ eL8) t nt⟩
        · have zn : n ≠ x3.1 := fun e => z (decide_eq_true (by rw [e]))
          exact ⟨_, rfl, (by show 2 ≤ sizeLine; decide), fun t nt => fin la (nDo q2) (by rw [if_neg zn]; exact sG _ _ q2) t nt⟩
      rintro G ⟨sG, ts, lt, eD, hts⟩
      rw [List.length_map, lg0] at lt
      dsimp only [gName]
      refine hD _ _ ⟨R, D, gs, sa.map (fun x => (x.1, if x.1 = x3.1 then wn else x.2)), _, _, _, _, _, rfl, k110.trans (.ofSame sG), (B10.same sG).mono (by omega), rR.keepB (k110.trans (.ofSame sG)) B1, ok, rfl, ⟨ts, by rw [List.length_map]; exact lt, eD, fun i t n ws ht hn => ?_⟩, ⟨fun i j x y hi hj e => ?_, fun x hx => ?_⟩, ?_, ?_⟩
      · rw [List.getElem?_map] at hn
        obtain ⟨x, hx, ex⟩ := Option.map_eq_some_iff.mp hn
        cases ex
        obtain ⟨_, l', _, a5, a6⟩ := hts i t x ht hx
        exact ⟨l', a5, a6⟩
      · rw [List.getElem?_map] at hi hj
        obtain ⟨x', hx', ex⟩ := Option.map_eq_some_iff.mp hi
        obtain ⟨y', hy', ey⟩ := Option.map_eq_some_iff.mp hj
        cases ex
        cases ey
        exact injS i j x' y' hx' hy' e
      · obtain ⟨y, hy, ey⟩ := List.mem_map.mp hx
        cases ey
        have wy := gw.2 y (so.1.mem_iff.mp hy)
        by_cases c : y.1 = x3.1
        · refine ⟨?_, fun a ha => ?_⟩
          · show (if y.1 = x3.1 then wn else y.2).length ≤ 8
            rw [if_pos c, lwn]
            exact w3.1
          · replace ha : a ∈ (if y.1 = x3.1 then wn else y.2) := ha
            rw [if_pos c] at ha
            exact iwn a ha
        · refine ⟨?_, fun a ha => ?_⟩
          · show (if y.1 = x3.1 then wn else y.2).length ≤ 8
            rw [if_neg c]
            exact wy.1
          · replace ha : a ∈ (if y.1 = x3.1 then wn else y.2) := ha
            rw [if_neg c] at ha
            exact wy.2 a ha
      · rw [List.map_map]
        rfl
      · rw [List.map_map]
        refine List.map_congr_left fun x hx => ?_
        show (if x.1 = x3.1 then wn else x.2).length = x.2.length
        by_cases c : x.1 = x3.1
        · rw [if_pos c, lwn]
          obtain ⟨i, hi⟩ := List.getElem?_of_mem hx
          have := injS i i3 x x3 hi hx3 c
          rw [this, hx3] at hi
          cases hi
          rfl
        · rw [if_neg c]
  · rintro σ' H' ⟨R', F', gs', nm', y5, y6, y7, y8, y9, rfl, k1, B', rR', ok', l', gv', gw', en, el⟩
    have hZ1 : ∀ z ∈ Z', H' z ≠ none := fun z hz => by
      have e1 : H1 z ≠ none := by
        cases e : H z with
        | none => exact absurd e (hZ' z hz)
        | some o => rw [s1 _ _ e]; exact fun z => nomatch z
      by_cases c : z = b
      · rw [c]
        exact B'.some
      · cases e : H1 z with
        | none => exact absurd e e1
        | some o => rw [k1 _ _ e c]; exact fun z => nomatch z
    have ln : nm'.length = sa.length := by
      have := congrArg List.length en
      rw [List.length_map, List.length_map] at this
      exact this
    have kb : Keep b H H' := (Keep.ofSame s1).trans k1
    refine ⟨_, rfl, _, rfl, _, rfl, Z', R', F', m, gs', nm', rfl, hZ1, rR', ok', gv', gw'.1, fun x hx a ha => by rw [l']; exact (gw'.2 x hx).2 a ha, by omega, by omega, by omega, fun p' H'' s2 N' fr => ?_⟩
    have fr' : ∀ {y : Addr}, H' y = none → H y = none := fun {y} n => by
      cases e : H y with
      | none => rfl
      | some o =>
        by_cases c : y = b
        · rw [c] at n
          exact absurd n B'.some
        · rw [kb _ _ e c] at n
          cases n
    exact q p' gs' nm' H'' (kb.trans (.ofSame s2)) ((B'.same s2).mono (by omega)) N' ok' l' gw' en el ⟨fr' fr.1, fr' fr.2.1, fr' fr.2.2.1, fr' fr.2.2.2⟩
end
section
variable {P : Program} {w : World} {K : PySem.W.Frag} {mg : Str → Option Value} {base : Heap}
variable {C : Addr} {za : Nat → Addr} {zl : Nat → FuncData} {E_TooMuch I_TooMuch : Addr}
/-! ### nets made of parts -/
theorem rg_lo (k : Nat) : rgV 0 (k : Int) = nts (List.range k) := by
  unfold rgV nts
  rw [show ((k : Int) - 0).toNat = k by omega]
  exact List.map_congr_left fun i _ => congrArg V.int (Int.zero_add _)
theorem rg_hi (k : Nat) : rgV (k : Int) (2 * (k : Int)) = nts ((List.range k).map (k + ·)) := by
  unfold rgV nts
  rw [show (2 * (k : Int) - (k : Int)).toNat = k by omega, List.map_map]
  exact List.map_congr_left fun i _ => congrArg V.int (by show (k : Int) + (i : Int) = ((k + i : Nat) : Int); omega)
def mfi (way k : Nat) : Nat := if way = 0 then 2 * k else if way = 1 then k + 1 else if way = 2 then 2 * k else if way = 3 then 2 * k + 1 else 2 * k
def mwl (way k : Nat) : Nat := if way = 0 then 1 else if way = 1 then k + 1 else if way = 2 then 2 * k else if way = 3 then k else k + 2
def nm85 (ws : List Nat) : List (Str × List Nat) := [(Str.ofString "told", ws), (Str.ofString "more", ws.take 1)]
def Made85 (way which k : Nat) (gs : List Gt) (ws : List Nat) : Prop := GsOk (mfi way k) gs ∧ (which = 1 → 1 ≤ gs.length) ∧ gs.length ≤ 200 ∧ ws.length = mwl way k ∧ ∀ w ∈ ws, w < mfi way k + gs.length
def spMade (C : Addr) : Sp := fun vs H Q _ => ∃ (Z : List Addr) (way which k : Nat), vs = [.int (way : Int), .int (which : Int), .int (k : Int)] ∧ way < 5 ∧ which ≤ 1 ∧ 1 ≤ k ∧ k ≤ 5 ∧ (way ≠ 1 → k ≤ 3) ∧ (∀ z ∈ Z, H z ≠ none) ∧
  ∀ (p : NetP) (gs : List Gt) (ws : List Nat) (H' : Hp), Same H H' → (H p.x = none ∧ H p.lm = none ∧ H p.ld = none ∧ H p.dn = none) → NetAt C Z H' p (mfi way k) gs (nm85 ws) → Made85 way which k gs ws → Q (.ref p.x) H'
theorem ok__law_made (B : Bl mg) (L : LL K mg C za zl E_TooMuch I_TooMuch) : FnOk P w K mg base CX0 9 (za 39) (zl 39) ["_law_way", "_law_which", "_law_size"] (spMade C) := by
  have G_Net___init__ : FnOk P w K mg base CX0 7 (za 44) (zl 44) ["self", "many"] (spNetI C) := (ok_Net___init__ B L).mono (by decide)
  have G_is_less_wire : FnOk P w K mg base CX0 8 (za 27) (zl 27) ["net", "ones", "others"] (spLess K C) := (ok_is_less_wire B L).mono (by decide)
  have G_Net_other : FnOk P w K mg base CX0 8 (za 48) (zl 48) ["self", "a"] (spG1 C) := (ok_Net_other B L).mono (by decide)
  have G_sum_wires : FnOk P w K mg base CX0 8 (za 25) (zl 25) ["net", "ones", "others", "carry"] (spSum K C) := (ok_sum_wires B L).mono (by decide)
  have G_Net_fixed : FnOk P w K mg base CX0 8 (za 49) (zl 49) ["self", "bit"] (spFixed C) := (ok_Net_fixed B L).mono (by decide)
  have G_raise_wires : FnOk P w K mg base CX0 8 (za 29) (zl 29) ["net", "ones", "wire"] (spRai K C) := (ok_raise_wires B L).mono (by decide)
  have G_times_wires : FnOk P w K mg base CX0 8 (za 30) (zl 30) ["net", "ones", "others"] (spTim K C) := (ok_times_wires B L).mono (by decide)
  have G_chosen_wires : FnOk P w K mg base CX0 8 (za 26) (zl 26) ["net", "wire", "ones", "others"] (spChosen K C) := (ok_chosen_wires B L).mono (by decide)
  have G_Net_unlike : FnOk P w K mg base CX0 8 (za 47) (zl 47) ["self", "a", "b"] (spG2 C "unlike") := (ok_Net_unlike B L).mono (by decide)
  have G_Net_give : FnOk P w K mg base CX0 8 (za 53) (zl 53) ["self", "name", "wires"] (spGive K C) := (ok_Net_give B L).mono (by decide)
  refine L.F__law_made.ok sc__law_made (fun vs H Q E h => ?_) (fun cdv A outer s H vs Q E hr h => ?_)
  · obtain ⟨Z, way, which, k, rfl, _⟩ := h
    rfl
  obtain ⟨Z, way, which, k, rfl, w5, h1, k1, k5, k3, hZ, q⟩ := h
  refine ⟨_, (pss_cons (ps_set (i := 3) sc__law_made.nd rfl (.inl rfl) (pe_ix ix_list (pe_lst (pa_cons (pe_op op_mul pe_int (pv 2)) (pa_cons (pe_op op_add (pv 2) pe_int) (pa_cons (pe_op op_mul pe_int (pv 2)) (pa_cons (pe_op op_add (pe_op op_mul pe_int (pv 2)) pe_int) (pa_cons (pe_op op_mul pe_int (pv 2)) pa_nil)))))) (pv 0) (fun _ _ => rfl)))
    (pss_cons (ps_set (i := 4) sc__law_made.nd rfl (.inr rfl) (pe_make L.M G_Net___init__ hr (by rfl) L.T.mgC L.b_Net___init__ .nil pass0 (pa_cons (pv 3) pa_nil)))
    (pss_cons (ps_par (by rfl) sc__law_made.nd (i := 5) (j := 6) rfl rfl (by decide) rfl rfl (pa_cons (pe_listRg rfl (by rfl) B.list (prg_1 (by rfl) B.range (pv 2))) (pa_cons (pe_listRg rfl (by rfl) B.list (prg_2 (by rfl) B.range (pv 2) (pe_op op_mul pe_int (pv 2)))) pa_nil)) (by rfl))
    (pss_cons (ps_if (pt_cmpR op_eq (pv 0) pe_int (nomark _)) (pss_cons (ps_set (i := 7) sc__law_made.nd rfl (.inl rfl) (pe_lst (pa_cons (pe_call G_is_less_wire hr (by rfl) L.m_is_less_wire L.F_is_less_wire.kp L.b_is_less_wire .nil pass0 (pa_cons (pv 4) (pa_cons (pv 5) (pa_cons (pv 6) pa_nil)))) pa_nil)))
    (pss_one (ps_if (pt_cmpR op_eq (pv 1) pe_int (nomark _)) (pss_one (ps_set (i := 7) sc__law_made.nd rfl (.inl rfl) (pe_lst (pa_cons (pe_meth (pv 4) L.T.cl L.M_Net_other G_Net_other hr L.b_Net_other .nil pass0 (pa_cons (pe_ix ix_list (pe_call G_sum_wires hr (by rfl) L.m_sum_wires L.F_sum_wires.kp L.b_sum_wires .nil pass0 (pa_cons (pv 4) (pa_cons (pv 5) (pa_cons (pe_lc (own := [("_law_wire", 9)]) (by rfl) sc__law_made.nd (pi_list (pv 6)) (blkOk_by (own := [("_law_wire", 9)]) (N := ["_law_way", "_law_which", "_law_size", "_law_first", "_law_net_here", "_law_ones", "_law_others", "_law_told", "_law_noughts", "_law_wire"]) (sc := defScope s__law_made) (by decide +kernel)) (fun _ _ _ _ _ => pg_name (i := 9) sc__law_made.nd rfl (Or.inl rfl)) (fun _ _ _ _ _ => pts_nil) (fun _ _ _ _ _ => (pe_meth (pv 4) L.T.cl L.M_Net_other G_Net_other hr L.b_Net_other .nil pass0 (pa_cons (pv 9) pa_nil)))) (pa_cons (pe_meth (pv 4) L.T.cl L.M_Net_fixed G_Net_fixed hr L.b_Net_fixed .nil pass0 (pa_cons pe_int pa_nil)) pa_nil))))) pe_int (fun _ _ => rfl)) pa_nil)) pa_nil)))) pss_nil))) (pss_one (ps_if (pt_cmpR op_eq (pv 0) pe_int (nomark _)) (pss_cons (ps_setLc (i := 8) (own := [("_law_wire", 9)]) (by rfl) sc__law_made.nd rfl rfl (sw_true rfl rfl rfl (by decide +kernel)) (pi_list (pv 5)) (blkOk_by (own := [("_law_wire", 9)]) (N := ["_law_way", "_law_which", "_law_size", "_law_first", "_law_net_here", "_law_ones", "_law_others", "_law_told", "_law_noughts", "_law_wire"]) (sc := defScope s__law_made) (by decide +kernel)) (fun _ _ _ _ _ => pg_name (i := 9) sc__law_made.nd rfl (Or.inl rfl)) (fun _ _ _ _ _ => pts_nil) (fun _ _ _ _ _ => (pe_meth (pv 4) L.T.cl L.M_Net_fixed G_Net_fixed hr L.b_Net_fixed .nil pass0 (pa_cons pe_int pa_nil))))
    (pss_one (ps_set (i := 7) sc__law_made.nd rfl (.inl rfl) (pe_ifExp (pt_cmpR op_eq (pv 1) pe_int (nomark _)) (pe_call G_raise_wires hr (by rfl) L.m_raise_wires L.F_raise_wires.kp L.b_raise_wires .nil pass0 (pa_cons (pv 4) (pa_cons (pv 5) (pa_cons (pv 2) pa_nil)))) (pe_call G_sum_wires hr (by rfl) L.m_sum_wires L.F_sum_wires.kp L.b_sum_wires .nil pass0 (pa_cons (pv 4) (pa_cons (pv 8) (pa_cons (pv 5) (pa_cons (pv 2) pa_nil))))))))) (pss_one (ps_if (pt_cmpR op_eq (pv 0) pe_int (nomark _)) (pss_one (ps_set (i := 7) sc__law_made.nd rfl (.inl rfl) (pe_ifExp (pt_cmpR op_eq (pv 1) pe_int (nomark _)) (pe_call G_times_wires hr (by rfl) L.m_times_wires L.F_times_wires.kp L.b_times_wires .nil pass0 (pa_cons (pv 4) (pa_cons (pv 5) (pa_cons (pv 6) pa_nil)))) (pe_call G_times_wires hr (by rfl) L.m_times_wires L.F_times_wires.kp L.b_times_wires .nil pass0 (pa_cons (pv 4) (pa_cons (pv 6) (pa_cons (pv 5) pa_nil))))))) (pss_one (ps_if (pt_cmpR op_eq (pv 0) pe_int (nomark _)) (pss_cons (ps_set (i := 7) sc__law_made.nd rfl (.inl rfl) (pe_call G_chosen_wires hr (by rfl) L.m_chosen_wires L.F_chosen_wires.kp L.b_chosen_wires .nil pass0 (pa_cons (pv 4) (pa_cons (pe_op op_mul pe_int (pv 2)) (pa_cons (pv 5) (pa_cons (pv 6) pa_nil))))))
    (pss_one (ps_if (pt_cmpR op_eq (pv 1) pe_int (nomark _)) (pss_one (ps_set (i := 7) sc__law_made.nd rfl (.inl rfl) (pe_call G_chosen_wires hr (by rfl) L.m_chosen_wires L.F_chosen_wires.kp L.b_chosen_wires .nil pass0 (pa_cons (pv 4) (pa_cons (pe_meth (pv 4) L.T.cl L.M_Net_other G_Net_other hr L.b_Net_other .nil pass0 (pa_cons (pe_op op_mul pe_int (pv 2)) pa_nil)) (pa_cons (pv 6) (pa_cons (pv 5) pa_nil))))))) pss_nil))) (pss_one (ps_set (i := 7) sc__law_made.nd rfl (.inl rfl) (pe_op op_cat (pe_call G_sum_wires hr (by rfl) L.m_sum_wires L.F_sum_wires.kp L.b_sum_wires .nil pass0 (pa_cons (pv 4) (pa_cons (pv 5) (pa_cons (pv 6) (pa_cons (pe_meth (pv 4) L.T.cl L.M_Net_fixed G_Net_fixed hr L.b_Net_fixed .nil pass0 (pa_cons pe_int pa_nil)) pa_nil))))) (pe_lst (pa_cons (pe_meth (pv 4) L.T.cl L.M_Net_unlike G_Net_unlike hr L.b_Net_unlike .nil pass0 (pa_cons pe_int (pa_cons (pv 2) pa_nil))) pa_nil))))))))))))
    (pss_cons (ps_expr (pe_meth (pv 4) L.T.cl L.M_Net_give G_Net_give hr L.b_Net_give .nil pass0 (pa_cons pe_str (pa_cons (pv 7) pa_nil))))
    (pss_cons (ps_expr (pe_meth (pv 4) L.T.cl L.M_Net_give G_Net_give hr L.b_Net_give .nil pass0 (pa_cons pe_str (pa_cons (pe_slice sl_list (pv 7) po_none (po_some pe_int)) pa_nil))))
    (pss_one (ps_ret (pv 4))))))))), ?_⟩
  obtain ⟨m, em⟩ : ∃ m : Nat, m = mfi way k := ⟨_, rfl⟩
  refine ⟨_, rfl, _, _, rfl, rfl, .inl ⟨by decide, by decide⟩, _, rfl, _, _, rfl, rfl, _, rfl, _, _, rfl, rfl, .inl ⟨by decide, by decide⟩, _, rfl, _, _, rfl, rfl, .inl ⟨by decide, by decide⟩, _, _, rfl, rfl, _, rfl, _, _, rfl, rfl, .inl ⟨by decide, by decide⟩, (by show 5 ≤ sizeLine; decide), fun L0 nL0 => ?_⟩
  have s0 := same_upd (o := .lst [V.int (2 * (k : Int)), V.int ((k : Int) + 1), V.int (2 * (k : Int)), V.int (2 * (k : Int) + 1), V.int (2 * (k : Int))]) nL0
  have eL0 : (upd H L0 (.lst [V.int (2 * (k : Int)), V.int ((k : Int) + 1), V.int (2 * (k : Int)), V.int (2 * (k : Int) + 1), V.int (2 * (k : Int))])) L0 = some (.lst [V.int (2 * (k : Int)), V.int ((k : Int) + 1), V.int (2 * (k : Int)), V.int (2 * (k : Int) + 1), V.int (2 * (k : Int))]) := upd_same
  have hZ0 : ∀ z ∈ Z, (upd H L0 (.lst [V.int (2 * (k : Int)), V.int ((k : Int) + 1), V.int (2 * (k : Int)), V.int (2 * (k : Int) + 1), V.int (2 * (k : Int))])) z ≠ none := fun z hz => by
    cases e : H z with
    | none => exact absurd e (hZ z hz)
    | some o => rw [s0 _ _ e]; exact fun z => nomatch z
  have atm : atI [V.int (2 * (k : Int)), V.int ((k : Int) + 1), V.int (2 * (k : Int)), V.int (2 * (k : Int) + 1), V.int (2 * (k : Int))] (way : Int) = some (V.int (m : Int)) := by
    rw [em]
    have : way = 0 ∨ way = 1 ∨ way = 2 ∨ way = 3 ∨ way = 4 := by omega
    rcases this with h | h | h | h | h <;> subst h
    · exact congrArg (fun x => some (V.int x)) (show 2 * (k : Int) = ((2 * k : Nat) : Int) by omega)
    · rfl
    · exact congrArg (fun x => some (V.int x)) (show 2 * (k : Int) = ((2 * k : Nat) : Int) by omega)
    · exact congrArg (fun x => some (V.int x)) (show 2 * (k : Int) + 1 = ((2 * k + 1 : Nat) : Int) by omega)
    · exact congrArg (fun x => some (V.int x)) (show 2 * (k : Int) = ((2 * k : Nat) : Int) by omega)
  refine ⟨_, rfl, L0, _, _, _, rfl, rfl, SqL.of eL0, atm, ?_⟩
  dsimp only [gName]
  try simp only [L2.start, List.map_cons, List.map_nil, List.length_cons, List.length_nil, List.replicate_succ, List.replicate_zero, List.cons_append, List.nil_append, List.set_cons_succ, List.set_cons_zero, Nat.reduceAdd, Nat.reduceSub, Nat.zero_add]
  generalize upd H L0 _ = H0 at *
  have m11 : m ≤ 11 := by
    rw [em]
    unfold mfi
    split
    · omega
    · split
      · omega
      · split
        · omega
        · split <;> omega
  refine ⟨_, rfl, fun x dx nx ndx ne => ?_⟩
  refine ⟨x, dx, m, rfl, upd_same, by omega, fun p H1 px fr ⟨n1, n2, n3⟩ N0 => ⟨rfl, ?_⟩⟩
  have s1 : Same H0 H1 := made nx ndx ne fr
  subst px
  have up : ∀ {y : Addr}, (upd (upd H0 dx (.own p.x)) p.x (.ins C dx [])) y = none → H0 y = none := fun {y} e => by
    cases h : H0 y with
    | none => rfl
    | some o =>
      rw [upd_ne (ne_of_none h nx), upd_ne (ne_of_none h ndx), h] at e
      cases e
  have N1 := N0 Z (fun z hz => by
    have h := hZ0 z hz
    have a : z ≠ p.x := fun y => h (by rw [y]; exact nx)
    have b : z ≠ dx := fun y => h (by rw [y]; exact ndx)
    exact ⟨a, by rw [upd_ne a, upd_ne b]; exact h⟩)
  have fr0 : ∀ {y : Addr}, H0 y = none → H y = none := fun {y} n => by
    cases h : H y with
    | none => rfl
    | some o => rw [s0 _ _ h] at n; cases n
  have m1 := up n1
  have m2 := up n2
  have m3 := up n3
  dsimp only [gName]
  try simp only [L2.start, List.map_cons, List.map_nil, List.length_cons, List.length_nil, List.replicate_succ, List.replicate_zero, List.cons_append, List.nil_append, List.set_cons_succ, List.set_cons_zero, Nat.reduceAdd, Nat.reduceSub, Nat.zero_add]
  refine ⟨_, rfl, _, rfl, RgOk.of_le (by omega) (by omega) (by omega) (by omega), fun L1 nL1 => ?_⟩
  rw [rg_lo]
  have sL1 := same_upd (o := .lst (nts (List.range k))) nL1
  have eL1 : (upd H1 L1 (.lst (nts (List.range k)))) L1 = some (.lst (nts (List.range k))) := upd_same
  have N2 := N1.same sL1
  have s2 := s1.trans sL1
  have nl1 : L1 ∉ [p.lm, p.ld] := N1.nin nL1
  generalize upd H1 L1 _ = H2 at *
  refine ⟨_, rfl, _, rfl, _, _, rfl, rfl, .inl ⟨by decide, by decide⟩, _, _, rfl, rfl, RgOk.of_le (by omega) (by omega) (by omega) (by omega), fun L2' nL2 => ?_⟩
  rw [rg_hi]
  have sL2 := same_upd (o := .lst (nts ((List.range k).map (k + ·)))) nL2
  have eL2 : (upd H2 L2' (.lst (nts ((List.range k).map (k + ·))))) L2' = some (.lst (nts ((List.range k).map (k + ·)))) := upd_same
  have N3 := N2.same sL2
  have s3 := s2.trans sL2
  have eL1' := sL2 _ _ eL1
  have nl2 : L2' ∉ [p.lm, p.ld] := N2.nin nL2
  generalize upd H2 L2' _ = H3 at *
  refine ⟨_, _, rfl, ?_⟩
  try simp only [L2.start, List.map_cons, List.map_nil, List.length_cons, List.length_nil, List.replicate_succ, List.replicate_zero, List.cons_append, List.nil_append, List.set_cons_succ, List.set_cons_zero, Nat.reduceAdd, Nat.reduceSub, Nat.zero_add]
  have lo_ : (List.range k).length = k := List.length_range
  have lh : ((List.range k).map (k + ·)).length = k := by rw [List.length_map, lo_]
  have g0 : GsOk m [] := fun i g hi => by simp at hi
  refine ifS_cut (fun σ' H' => ∃ (D : Addr) (gs : List Gt) (ws : List Nat) (y8 y9 : Option V), σ' = [some (.int (way : Int)), some (.int (which : Int)), some (.int (k : Int)), some (.int (m : Int)), some (.ref p.x), some (.ref L1), some (.ref L2'), some (.ref D), y8, y9] ∧ KeepS [p.lm, p.ld] H3 H' ∧ NetAt C Z H' p m gs [] ∧ H' D = some (.lst (nts ws)) ∧ GsOk m gs ∧ (which = 1 → 1 ≤ gs.length) ∧ gs.length ≤ 200 ∧ ws.length = mwl way k ∧ ∀ w ∈ ws, w < m + gs.length) (fun D' hD => ?_) ?_
  · have hx : ∀ {a : Nat}, a < k → a < m + ([] : List Gt).length ∨ m = k + 1 ∨ True := fun _ => .inr (.inr trivial)
    have mk : k ≤ m := by
      rw [em]
      unfold mfi
      split
      · omega
      · split
        · omega
        · split
          · omega
          · split <;> omega
    have ho : ∀ w ∈ List.range k, w < m + ([] : List Gt).length := fun w hw => by have := List.mem_range.mp hw; show w < m + 0; omega
    have w5' : way = 0 ∨ way = 1 ∨ way = 2 ∨ way = 3 ∨ way = 4 := by omega
    have h1' : which = 0 ∨ which = 1 := by omega
    have two : 2 * k ≤ m → ∀ w ∈ (List.range k).map (k + ·), w < m + ([] : List Gt).length := fun h w hw => by
      obtain ⟨i, hi, rfl⟩ := List.mem_map.mp hw
      have := List.mem_range.mp hi
      show k + i < m + 0
      omega
    rcases w5' with w0 | w0 | w0 | w0 | w0 <;> subst w0
    · have em' : m = 2 * k := em
      have k3' : k ≤ 3 := k3 (by decide)
      have hh := two (by omega)
      refine ⟨_, rfl, rfl, true, rfl, iteT ?_⟩
      refine ⟨_, rfl, _, rfl, _, rfl, Z, p, m, [], [], L1, L2', false, false, List.range k, _, rfl, N3, SqL.of eL1', SqL.of eL2, by rw [lo_, lh], ho, hh, by omega, by show m + 0 ≤ _; omega, fun H4 k4 N4 => ?_⟩
      have W := lessW_ok (m := m) (gs := []) (by rw [lo_, lh]) ho hh
      have we := W.ext
      have wl := W.lt
      clear W
      rw [lo_] at we
      generalize (lessW m [] (List.range k) ((List.range k).map (k + ·))).1 = g1 at *
      generalize (lessW m [] (List.range k) ((List.range k).map (k + ·))).2 = w1 at *
      have gl := we.len
      simp only [List.length_nil] at gl
      refine ⟨(by show 1 ≤ sizeLine; decide), fun D nD => ?_⟩
      have sD := same_upd (o := .lst [V.int (w1 : Int)]) nD
      have eD : (upd H4 D (.lst [V.int (w1 : Int)])) D = some (.lst (nts [w1])) := upd_same
      have N5 := N4.same sD
      have k5 := k4.trans (.ofSame sD)
      generalize upd H4 D _ = H5 at *
      dsimp only [gName]
      try simp only [L2.start, List.map_cons, List.map_nil, List.length_cons, List.length_nil, List.replicate_succ, List.replicate_zero, List.cons_append, List.nil_append, List.set_cons_succ, List.set_cons_zero, Nat.reduceAdd, Nat.reduceSub, Nat.zero_add]
      rcases h1' with w0 | w0 <;> subst w0
      · refine ⟨_, rfl, rfl, false, rfl, iteF ?_⟩
        exact hD _ _ ⟨D, g1, [w1], _, _, rfl, k5, N5, eD, we.2 g0, (fun z => by cases z), by omega, rfl, fun w hw => by rw [List.mem_singleton.mp hw]; exact wl⟩
      · refine ⟨_, rfl, rfl, true, rfl, iteT ?_⟩
        obtain ⟨_, _, _, dx5, _, _, e5, _⟩ := id N5
        have eL15 := k5.1 _ _ eL1' nl1
        have eL25 := k5.1 _ _ eL2 nl2
        refine ⟨_, rfl, p.x, dx5, _, rfl, e5, rfl, _, rfl, _, rfl, _, rfl, L2', rfl, ⟨_, SqL.of eL25⟩, fun W nW => ?_⟩
        have nW2 := N5.nin nW
        refine lc_it (walk_list (K := K) (a := L2') (xs := nts ((List.range k).map (k + ·)))) (fun i G => KeepS [p.lm, p.ld] H5 G ∧ ∃ (gs' : List Gt) (us : List Nat), NetAt C (W :: Z) G p m gs' [] ∧ Ext m g1 gs' i ∧ us.length = i ∧ (∀ u ∈ us, u < m + gs'.length) ∧ G W = some (.lst (nts us))) ⟨KeepS.new nW, g1, [], N5.add nW, Ext.refl, rfl, (fun _ z => nomatch z), upd_same⟩ (fun i G _ ⟨kG, _⟩ => SqL.of (kG.1 _ _ eL25 nl2)) ?_ ?_
        · rintro i v G G' hi ⟨kG, gs', us, NG, ex, lu, hu, eW⟩ ⟨rfl, hz⟩
          obtain ⟨a, ha, rfl⟩ := nts_at hz
          have am := hh a (List.mem_of_getElem? ha)
          simp only [List.length_nil] at am
          rw [nts_len, lh] at hi
          have gl' := ex.len
          refine ⟨rfl, yesT ?_⟩
          try simp only [L2.start, List.map_cons, List.map_nil, List.length_cons, List.length_nil, List.replicate_succ, List.replicate_zero, List.cons_append, List.nil_append, List.set_cons_succ, List.set_cons_zero, Nat.reduceAdd, Nat.reduceSub, Nat.zero_add]
          obtain ⟨_, _, _, dx2, _, _, f1, _⟩ := id NG
          refine ⟨_, rfl, p.x, dx2, _, rfl, f1, rfl, _, rfl, W :: Z, p, m, gs', [], a, rfl, NG, by omega, by omega, fun G2 k2 N2' => ?_⟩
          refine ⟨_, k2.1 _ _ eW nW2, by rw [nts_len]; exact big_lt (by omega), ks_updN (kG.trans k2) nW, gs' ++ [.w "other" [a]], us ++ [m + gs'.length], N2'.put (by simp), ex.trans (Ext.other (by omega)), by rw [List.length_append, lu]; rfl, fun u hu' => ?_, ?_⟩
          · rw [List.length_append, List.length_singleton]
            rcases List.mem_append.mp hu' with h | h
            · have := hu u h
              omega
            · rw [List.mem_singleton.mp h]
              omega
          · rw [upd_same, nts_app]
            rfl
        rintro G ⟨kG, gs', us, NG, ex, lu, hu, eW⟩
        rw [nts_len, lh] at ex lu
        have gl' := ex.len
        obtain ⟨_, _, _, dx6, _, _, e6, _⟩ := id NG
        refine ⟨_, rfl, p.x, dx6, _, rfl, e6, rfl, W :: Z, p, m, gs', [], 1, rfl, NG, by omega, fun G2 k2 N6 => ?_⟩
        have kG2 := kG.trans k2
        have eL17 := kG2.1 _ _ eL15 nl1
        have eW7 := k2.1 _ _ eW nW2
        have ex2 := ex.trans (Ext.fixed (m := m) (gs := gs') (b := 1) (by decide))
        have lg2 : (gs' ++ [Gt.fi 1]).length = gs'.length + 1 := by rw [List.length_append]; rfl
        have ho2 : ∀ w ∈ List.range k, w < m + (gs' ++ [Gt.fi 1]).length := fun w hw => by have := List.mem_range.mp hw; omega
        have hu2 : ∀ u ∈ us, u < m + (gs' ++ [Gt.fi 1]).length := fun u h => by have := hu u h; omega
        have lu' : (List.range k).length = us.length := by rw [lo_, lu]
        have hc2 : m + gs'.length < m + (gs' ++ [Gt.fi 1]).length := by omega
        refine ⟨W :: Z, p, m, gs' ++ [.fi 1], [], L1, W, false, false, List.range k, us, m + gs'.length, rfl, N6, SqL.of eL17, SqL.of eW7, lu', ho2, hu2, hc2, by omega, by omega, fun D3 G3 k3' N7 nD3 eD3 => ?_⟩
        have S := sumW_ok lu' ho2 hu2 hc2
        have sl := sumW_len lu' ho2 hu2 hc2
        have se := S.ext
        have slt := S.lt
        clear S
        rw [lo_] at se sl
        generalize (sumW m (gs' ++ [Gt.fi 1]) (List.range k) us (m + gs'.length)).1 = g3 at *
        generalize (sumW m (gs' ++ [Gt.fi 1]) (List.range k) us (m + gs'.length)).2 = w3 at *
        have gl3 := se.len
        refine ⟨D3, _, _, _, rfl, rfl, SqL.of eD3, at_nts (a := 0) (by omega), ?_⟩
        have w30 : w3.getD 0 0 < m + g3.length := slt _ (by
          rw [List.getD, List.getElem?_eq_getElem (by omega)]
          exact List.getElem_mem _)
        refine ⟨W :: Z, p, m, g3, [], w3.getD 0 0, rfl, N7, w30, by omega, fun G4 k4' N8 => ?_⟩
        refine ⟨(by show 1 ≤ sizeLine; decide), fun D4 nD4 => ?_⟩
        have sD4 := same_upd (o := .lst [V.int ((m + g3.length : Nat) : Int)]) nD4
        have N9 := (N8.same sD4).less
        dsimp only [gName]
        refine hD _ _ ⟨D4, g3 ++ [.w "other" [w3.getD 0 0]], [m + g3.length], _, _, rfl, (((k5.trans kG2).trans k3').trans k4').trans (.ofSame sD4), N9, upd_same, (Ext.other w30).2 (se.2 (ex2.2 (we.2 g0))), fun _ => by rw [List.length_append, List.length_singleton]; omega, by rw [List.length_append, List.length_singleton]; omega, rfl, fun w hw => ?_⟩
        rw [List.mem_singleton.mp hw, List.length_append, List.length_singleton]
        omega
    · have em' : m = k + 1 := em
      refine ⟨_, rfl, rfl, false, rfl, iteF ?_⟩
      refine ⟨_, rfl, rfl, true, rfl, iteT ?_⟩
      refine ⟨_, rfl, L1, rfl, ⟨_, SqL.of eL1'⟩, fun W nW => ?_⟩
      have nW2 := N3.nin nW
      refine lc_it (walk_list (K := K) (a := L1) (xs := nts (List.range k))) (fun i G => KeepS [p.lm, p.ld] H3 G ∧ ∃ (gs' : List Gt) (us : List Nat), NetAt C (W :: Z) G p m gs' [] ∧ Ext m [] gs' i ∧ gs'.length = i ∧ us.length = i ∧ (∀ u ∈ us, u < m + gs'.length) ∧ G W = some (.lst (nts us))) ⟨KeepS.new nW, [], [], N3.add nW, Ext.refl, rfl, rfl, (fun _ z => nomatch z), upd_same⟩ (fun i G _ ⟨kG, _⟩ => SqL.of (kG.1 _ _ eL1' nl1)) ?_ ?_
      · rintro i v G G' hi ⟨kG, gs', us, NG, ex, lg, lu, hu, eW⟩ ⟨rfl, hz⟩
        obtain ⟨a, ha, rfl⟩ := nts_at hz
        rw [nts_len, lo_] at hi
        refine ⟨rfl, yesT ?_⟩
        try simp only [L2.start, List.map_cons, List.map_nil, List.length_cons, List.length_nil, List.replicate_succ, List.replicate_zero, List.cons_append, List.nil_append, List.set_cons_succ, List.set_cons_zero, Nat.reduceAdd, Nat.reduceSub, Nat.zero_add]
        obtain ⟨_, _, _, dx2, _, _, f1, _⟩ := id NG
        refine ⟨_, rfl, p.x, dx2, _, rfl, f1, rfl, W :: Z, p, m, gs', [], 0, rfl, NG, by omega, fun G2 k2 N2' => ?_⟩
        refine ⟨_, k2.1 _ _ eW nW2, by rw [nts_len]; exact big_lt (by omega), ks_updN (kG.trans k2) nW, gs' ++ [.fi 0], us ++ [m + gs'.length], N2'.put (by simp), ex.trans (Ext.fixed (by decide)), by rw [List.length_append, lg]; rfl, by rw [List.length_append, lu]; rfl, fun u hu' => ?_, ?_⟩
        · rw [List.length_append, List.length_singleton]
          rcases List.mem_append.mp hu' with h | h
          · have := hu u h
            omega
          · rw [List.mem_singleton.mp h]
            omega
        · rw [upd_same, nts_app]
          rfl
      rintro G ⟨kG, gs', us, NG, ex, lg, lu, hu, eW⟩
      rw [nts_len, lo_] at ex lg lu
      dsimp only [gName]
      try simp only [L2.start, List.map_cons, List.map_nil, List.length_cons, List.length_nil, List.replicate_succ, List.replicate_zero, List.cons_append, List.nil_append, List.set_cons_succ, List.set_cons_zero, Nat.reduceAdd, Nat.reduceSub, Nat.zero_add]
      have eL17 := kG.1 _ _ eL1' nl1
      have ho2 : ∀ w ∈ List.range k, w < m + gs'.length := fun w hw => by have := List.mem_range.mp hw; omega
      rcases h1' with w0 | w0 <;> subst w0
      · refine ⟨_, rfl, rfl, true, rfl, iteT ?_⟩
        refine ⟨_, rfl, _, rfl, _, rfl, W :: Z, p, m, gs', [], L1, false, List.range k, k, rfl, NG, SqL.of eL17, ho2, by omega, by omega, by omega, fun D G3 k3' N7 nD3 eD3 => ?_⟩
        have S := raiW_ok (m := m) (gs := gs') (os := List.range k) (c := k) ho2 (by omega)
        have sl := raiW_len (m := m) (gs := gs') (os := List.range k) (c := k) ho2 (by omega)
        have se := S.ext
        have slt := S.lt
        clear S
        rw [lo_] at se sl
        have gl3 := se.len
        dsimp only [gName]
        exact hD _ _ ⟨D, _, _, _, _, rfl, kG.trans k3', N7.less, eD3, se.2 (ex.2 g0), (fun z => by cases z), by omega, sl, slt⟩
      · refine ⟨_, rfl, rfl, false, rfl, iteF ?_⟩
        have lu' : us.length = (List.range k).length := by rw [lo_, lu]
        refine ⟨_, rfl, _, rfl, _, rfl, _, rfl, W :: Z, p, m, gs', [], W, L1, false, false, us, List.range k, k, rfl, NG, SqL.of eW, SqL.of eL17, lu', hu, ho2, by omega, by omega, by omega, fun D G3 k3' N7 nD3 eD3 => ?_⟩
        have S := sumW_ok (c := k) lu' hu ho2 (by omega)
        have sl := sumW_len (c := k) lu' hu ho2 (by omega)
        have se := S.ext
        have slt := S.lt
        clear S
        rw [lu] at se sl
        have gl3 := se.len
        dsimp only [gName]
        exact hD _ _ ⟨D, _, _, _, _, rfl, kG.trans k3', N7.less, eD3, se.2 (ex.2 g0), (fun _ => by omega), by omega, sl, slt⟩
    · have em' : m = 2 * k := em
      have k3' : k ≤ 3 := k3 (by decide)
      have hh := two (by omega)
      have k9 : 6 * k * k ≤ 54 := by
        have : k = 1 ∨ k = 2 ∨ k = 3 := by omega
        rcases this with z | z | z <;> subst z <;> decide
      refine ⟨_, rfl, rfl, false, rfl, iteF ?_⟩
      refine ⟨_, rfl, rfl, false, rfl, iteF ?_⟩
      refine ⟨_, rfl, rfl, true, rfl, iteT ?_⟩
      rcases h1' with w0 | w0 <;> subst w0
      · refine ⟨_, rfl, rfl, true, rfl, iteT ?_⟩
        refine ⟨_, rfl, _, rfl, _, rfl, Z, p, m, [], [], L1, L2', false, false, List.range k, _, rfl, N3, SqL.of eL1', SqL.of eL2, nl1, nl2, by omega, ho, hh, by omega, by omega, by show m + 0 ≤ _; omega, fun D G3 k3'' N7 nD3 eD3 => ?_⟩
        obtain ⟨se, sl, slt, _⟩ := timW_ok (m := m) (gs := []) ho hh (by omega)
        rw [lo_, lh] at se sl
        have gl3 := se.len
        simp only [List.length_nil] at gl3
        dsimp only [gName]
        exact hD _ _ ⟨D, _, _, _, _, rfl, k3'', N7, eD3, se.2 g0, (fun z => by cases z), by omega, by rw [sl]; show k + k = 2 * k; omega, slt⟩
      · refine ⟨_, rfl, rfl, false, rfl, iteF ?_⟩
        refine ⟨_, rfl, _, rfl, _, rfl, Z, p, m, [], [], L2', L1, false, false, _, List.range k, rfl, N3, SqL.of eL2, SqL.of eL1', nl2, nl1, by omega, hh, ho, by omega, by omega, by show m + 0 ≤ _; omega, fun D G3 k3'' N7 nD3 eD3 => ?_⟩
        obtain ⟨se, sl, slt, _⟩ := timW_ok (m := m) (gs := []) hh ho (by omega)
        have hg := (timF_ok (ts := (List.range k).reverse) hh (fun p hp => ho p (List.mem_reverse.mp hp)) (by omega) _ (Nat.le_refl _) _ rfl).2.1
        rw [List.take_length] at hg
        rw [lo_, lh] at se sl
        have gl3 := se.len
        simp only [List.length_nil] at gl3
        dsimp only [gName]
        exact hD _ _ ⟨D, _, _, _, _, rfl, k3'', N7, eD3, se.2 g0, (fun _ => hg), by omega, by rw [sl]; show k + k = 2 * k; omega, slt⟩
    · have em' : m = 2 * k + 1 := em
      have k3' : k ≤ 3 := k3 (by decide)
      have hh := two (by omega)
      have zl : ∀ {os ts : List Nat} {gs : List Gt} {w : Nat}, os.length = k → ts.length = k → (∀ a ∈ os, a < m + gs.length) → (∀ a ∈ ts, a < m + gs.length) → w < m + gs.length → Ext m gs (chosenW m gs w (os.zip ts)).1 (3 * k + 1) ∧ (∀ a ∈ (chosenW m gs w (os.zip ts)).2, a < m + (chosenW m gs w (os.zip ts)).1.length) ∧ (chosenW m gs w (os.zip ts)).2.length = k := fun {os ts gs w} l1 l2 a1 a2 a3 => by
        have lz : (os.zip ts).length = k := by rw [List.length_zip, l1, l2, Nat.min_self]
        have S := chosenW_ok (m := m) (gs := gs) (w := w) (ps := os.zip ts) a3 fun q hq => ⟨a1 _ (List.of_mem_zip hq).1, a2 _ (List.of_mem_zip hq).2⟩
        have := congrArg List.length (S.val (List.replicate m false) (by simp))
        rw [List.length_map, List.length_map, lz] at this
        have e := S.ext
        rw [lz] at e
        exact ⟨e, S.lt, this⟩
      refine ⟨_, rfl, rfl, false, rfl, iteF ?_⟩
      refine ⟨_, rfl, rfl, false, rfl, iteF ?_⟩
      refine ⟨_, rfl, rfl, false, rfl, iteF ?_⟩
      refine ⟨_, rfl, rfl, true, rfl, iteT ?_⟩
      have w2 : 2 * k < m + ([] : List Gt).length := by show 2 * k < m + 0; omega
      refine ⟨_, rfl, _, rfl, _, _, rfl, rfl, .inl ⟨by decide, by decide⟩, _, rfl, _, rfl, Z, p, m, [], [], L1, L2', 2 * k, List.range k, _, false, false, congrArg (fun y => [V.ref p.x, V.int y, .ref L1, .ref L2']) (by omega), N3, SqL.of eL1', SqL.of eL2, nl1, nl2, by rw [lo_, lh], w2, ho, hh, by show m + 0 + 3 * (List.range k).length ≤ _; omega, fun D G3 k3'' N7 nD3 eD3 => ?_⟩
      obtain ⟨se, slt, sl⟩ := zl lo_ lh ho hh w2
      generalize (chosenW m [] (2 * k) ((List.range k).zip ((List.range k).map (k + ·)))).1 = g3 at *
      generalize (chosenW m [] (2 * k) ((List.range k).zip ((List.range k).map (k + ·)))).2 = w3 at *
      have gl3 := se.len
      simp only [List.length_nil] at gl3
      dsimp only [gName]
      try simp only [L2.start, List.map_cons, List.map_nil, List.length_cons, List.length_nil, List.replicate_succ, List.replicate_zero, List.cons_append, List.nil_append, List.set_cons_succ, List.set_cons_zero, Nat.reduceAdd, Nat.reduceSub, Nat.zero_add]
      rcases h1' with w0 | w0 <;> subst w0
      · refine ⟨_, rfl, rfl, false, rfl, iteF ?_⟩
        exact hD _ _ ⟨D, _, _, _, _, rfl, k3'', N7, eD3, se.2 g0, (fun z => by cases z), by omega, sl, slt⟩
      · refine ⟨_, rfl, rfl, true, rfl, iteT ?_⟩
        obtain ⟨_, _, _, dx5, _, _, e5, _⟩ := id N7
        have eL15 := k3''.1 _ _ eL1' nl1
        have eL25 := k3''.1 _ _ eL2 nl2
        refine ⟨_, rfl, _, rfl, p.x, dx5, _, rfl, e5, rfl, _, rfl, _, _, rfl, rfl, .inl ⟨by decide, by decide⟩, Z, p, m, g3, [], 2 * k, congrArg (fun y => [V.ref p.x, V.int y]) (by omega), N7, by omega, by omega, fun G4 k4' N8 => ?_⟩
        have eL16 := k4'.1 _ _ eL15 nl1
        have eL26 := k4'.1 _ _ eL25 nl2
        have lg2 : (g3 ++ [Gt.w "other" [2 * k]]).length = g3.length + 1 := by rw [List.length_append]; rfl
        have ho2 : ∀ w ∈ List.range k, w < m + (g3 ++ [Gt.w "other" [2 * k]]).length := fun w hw => by have := List.mem_range.mp hw; omega
        have hh2 : ∀ w ∈ (List.range k).map (k + ·), w < m + (g3 ++ [Gt.w "other" [2 * k]]).length := fun w hw => by
          have h := hh w hw
          simp only [List.length_nil] at h
          omega
        have w32 : m + g3.length < m + (g3 ++ [Gt.w "other" [2 * k]]).length := by omega
        refine ⟨_, rfl, _, rfl, Z, p, m, g3 ++ [.w "other" [2 * k]], [], L2', L1, m + g3.length, _, List.range k, false, false, rfl, N8, SqL.of eL26, SqL.of eL16, nl2, nl1, by rw [lo_, lh], w32, hh2, ho2, by omega, fun D5 G5 k5' N9 nD5 eD5 => ?_⟩
        obtain ⟨te, tlt, tl⟩ := zl lh lo_ hh2 ho2 w32
        have gl5 := te.len
        dsimp only [gName]
        exact hD _ _ ⟨D5, _, _, _, _, rfl, (k3''.trans k4').trans k5', N9, eD5, te.2 ((Ext.other (by omega)).2 (se.2 g0)), (fun _ => by omega), by omega, tl, tlt⟩
    · have em' : m = 2 * k := em
      have k3' : k ≤ 3 := k3 (by decide)
      have hh := two (by omega)
      refine ⟨_, rfl, rfl, false, rfl, iteF ?_⟩
      refine ⟨_, rfl, rfl, false, rfl, iteF ?_⟩
      refine ⟨_, rfl, rfl, false, rfl, iteF ?_⟩
      refine ⟨_, rfl, rfl, false, rfl, iteF ?_⟩
      obtain ⟨_, _, _, dx3, _, _, e3, _⟩ := id N3
      refine ⟨_, rfl, _, rfl, _, rfl, _, rfl, p.x, dx3, _, rfl, e3, rfl, Z, p, m, [], [], 0, rfl, N3, by show m + 0 ≤ _; omega, fun G2 k2 N6 => ?_⟩
      have eL17 := k2.1 _ _ eL1' nl1
      have eL27 := k2.1 _ _ eL2 nl2
      have lg2 : ([] ++ [Gt.fi 0]).length = 1 := rfl
      have ho2 : ∀ w ∈ List.range k, w < m + ([] ++ [Gt.fi 0]).length := fun w hw => by have := List.mem_range.mp hw; omega
      have hh2 : ∀ w ∈ (List.range k).map (k + ·), w < m + ([] ++ [Gt.fi 0]).length := fun w hw => by
        have h := hh w hw
        simp only [List.length_nil] at h
        omega
      have lu' : (List.range k).length = ((List.range k).map (k + ·)).length := by rw [lo_, lh]
      have hc2 : m + ([] : List Gt).length < m + ([] ++ [Gt.fi 0]).length := by rw [lg2]; exact Nat.lt_succ_self _
      refine ⟨Z, p, m, [] ++ [.fi 0], [], L1, L2', false, false, List.range k, _, m + ([] : List Gt).length, rfl, N6, SqL.of eL17, SqL.of eL27, lu', ho2, hh2, hc2, by omega, by omega, fun D3 G3 k3'' N7 nD3 eD3 => ?_⟩
      have S := sumW_ok lu' ho2 hh2 hc2
      have sl := sumW_len lu' ho2 hh2 hc2
      have se := S.ext
      have slt := S.lt
      clear S
      rw [lo_] at se sl
      generalize (sumW m ([] ++ [Gt.fi 0]) (List.range k) ((List.range k).map (k + ·)) (m + ([] : List Gt).length)).1 = g3 at *
      generalize (sumW m ([] ++ [Gt.fi 0]) (List.range k) ((List.range k).map (k + ·)) (m + ([] : List Gt).length)).2 = w3 at *
      have gl3 := se.len
      obtain ⟨_, _, _, dx7, _, _, e7, _⟩ := id N7
      have nD3' : D3 ∉ [p.lm, p.ld] := fun z => by
        obtain ⟨_, _, _, _, _, _, _, a2, a3, _⟩ := id N6
        simp only [List.mem_cons, List.not_mem_nil, or_false] at z
        rcases z with z | z
        · rw [z, a2] at nD3; cases nD3
        · rw [z, a3] at nD3; cases nD3
      refine ⟨_, rfl, p.x, dx7, _, rfl, e7, rfl, _, rfl, Z, p, m, g3, [], 0, k, rfl, N7, by omega, by omega, by omega, fun G4 k4' N8 => ?_⟩
      refine ⟨(by show 1 ≤ sizeLine; decide), fun D4 nD4 => ?_⟩
      have sD4 := same_upd (o := .lst [V.int ((m + g3.length : Nat) : Int)]) nD4
      have eD4 : (upd G4 D4 (.lst [V.int ((m + g3.length : Nat) : Int)])) D4 = some (.lst (nts [m + g3.length])) := upd_same
      have eD34 := sD4 _ _ (k4'.1 _ _ eD3 nD3')
      have N9 := N8.same sD4
      change rCat _ _ (upd G4 D4 (.lst [V.int ((m + g3.length : Nat) : Int)])) _
      generalize upd G4 D4 _ = G5 at *
      refine ⟨D3, D4, _, _, rfl, rfl, eD34, eD4, by rw [nts_len, nts_len, sl]; exact Nat.le_of_lt (big_lt (by show k + 1 + 1 ≤ _; omega)), fun D5 nD5 => ?_⟩
      rw [← nts_app]
      have sD5 := same_upd (o := .lst (nts (w3 ++ [m + g3.length]))) nD5
      dsimp only [gName]
      refine hD _ _ ⟨D5, g3 ++ [.w "unlike" [0, k]], w3 ++ [m + g3.length], _, _, rfl, (((k2.trans k3'').trans k4').trans (.ofSame sD4)).trans (.ofSame sD5), N9.same sD5, upd_same, (Ext.unlike (by omega) (by omega)).2 (se.2 ((Ext.fixed (by decide)).2 g0)), fun _ => by rw [List.length_append, List.length_singleton]; omega, by rw [List.length_append, List.length_singleton]; omega, by rw [List.length_append, sl]; rfl, fun w hw => ?_⟩
      rw [List.length_append, List.length_singleton]
      rcases List.mem_append.mp hw with h | h
      · have := slt w h
        omega
      · rw [List.mem_singleton.mp h]
        omega
  rintro σ' H4 ⟨D, gs, ws, y8, y9, rfl, k4, N4, eD, ok, g1, gl, lw, wi⟩
  obtain ⟨_, _, _, dx4, _, kvs4, e4, _, _, edn, _⟩ := id N4
  have nDdn : D ≠ p.dn := fun z => by
    rw [z, edn] at eD
    cases eD
  dsimp only [tDrop]
  refine ⟨_, rfl, p.x, dx4, _, rfl, e4, rfl, _, rfl, Z, p, m, gs, [], _, D, ws, rfl, N4, (fun z => by cases z), .inl (SqL.of eD), wi, by decide, fun H5 k5 N5 => ?_⟩
  have eD5 := k5.1 _ _ eD (fun z => nDdn (List.mem_singleton.mp z))
  obtain ⟨_, _, _, dx5, _, _, e5, _⟩ := id N5
  have lw1 : 1 ≤ ws.length := by
    rw [lw]
    unfold mwl
    split
    · omega
    · split
      · omega
      · split
        · omega
        · split <;> omega
  dsimp only [tDrop]
  refine ⟨_, rfl, p.x, dx5, _, rfl, e5, rfl, _, rfl, (1 : Int), rfl, D, _, rfl, SqL.of eD5, fun D2 nD2 => ?_⟩
  rw [show (1 : Int) = ((1 : Nat) : Int) from rfl, cutN_to ws 1 lw1]
  have s6 := same_upd (o := .lst (nts (ws.take 1))) nD2
  have eD2 : (upd H5 D2 (.lst (nts (ws.take 1)))) D2 = some (.lst (nts (ws.take 1))) := upd_same
  have N6 := N5.same s6
  generalize upd H5 D2 _ = H6 at *
  refine ⟨Z, p, m, gs, [(Str.ofString "told", ws)], _, D2, ws.take 1, rfl, N6, ?_, .inl (SqL.of eD2), fun a ha => wi a (List.mem_of_mem_take ha), (by show 1 ≤ 900; decide), fun H7 k7 N7 => ?_⟩
  · intro z
    rw [List.map_cons, List.map_nil, List.mem_singleton] at z
    exact absurd (show Str.ofString "more" = Str.ofString "told" from z) (by decide +kernel)
  have k17 : Same H H7 := fun y o e => by
    have e0 := s0 _ _ e
    have e3 := s3 _ _ e0
    have ny : ∀ a, H0 a = none → y ≠ a := fun a ha z => by rw [z, ha] at e0; cases e0
    have hdn : y ∉ [p.dn] := fun z => ny _ m3 (List.mem_singleton.mp z)
    refine k7.1 _ _ (s6 _ _ (k5.1 _ _ (k4.1 _ _ e3 fun z => ?_) hdn)) hdn
    simp only [List.mem_cons, List.not_mem_nil, or_false] at z
    rcases z with z | z
    · exact ny _ m1 z
    · exact ny _ m2 z
  subst em
  exact ⟨_, rfl, q p gs ws H7 k17 ⟨fr0 nx, fr0 m1, fr0 m2, fr0 m3⟩ N7 ⟨ok, g1, gl, lw, wi⟩⟩
end
section
variable {P : Program} {w : World} {K : PySem.W.Frag} {mg : Str → Option Value} {base : Heap}
variable {C : Addr} {za : Nat → Addr} {zl : Nat → FuncData} {E_TooMuch I_TooMuch : Addr}
/-! ### how many looks are enough -/
def enq (ga gb : List Gt) (sa sb : List (Str × List Nat)) (m lim : Nat) : Bool := (dfs (lk ga gb sa sb) lim [List.replicate m 45] []).isSome
def spLA (C : Addr) : Sp := fun vs H Q _ => ∃ (pa pb : NetP) (m lim : Nat) (ga gb : List Gt) (na nb sa sb : List (Str × List Nat)), vs = [.ref pa.x, .ref pb.x, .int (lim : Int)] ∧ Two C H pa pb m ga gb na nb sa sb ∧ lim ≤ 3000 ∧ ∀ H', Same H H' → Q (.bl (enq ga gb sa sb m lim)) H'
theorem ok__law_looked_at (B : Bl mg) (L : LL K mg C za zl E_TooMuch I_TooMuch) : FnOk P w K mg base CX0 8 (za 40) (zl 40) ["_law_one", "_law_other", "_law_limit"] (spLA C) := by
  have GX_same : FnOk P w K mg base (L2.CX P w) 7 (za 19) (zl 19) ["one", "other", "most"] (spSameX C E_TooMuch) := (okX_same B L).mono (by decide)
  refine L.F__law_looked_at.ok sc__law_looked_at (fun vs H Q E h => ?_) (fun cdv A outer s H vs Q E hr h => ?_)
  · obtain ⟨pa, pb, m, lim, ga, gb, na, nb, sa, sb, rfl, _⟩ := h
    rfl
  obtain ⟨pa, pb, m, lim, ga, gb, na, nb, sa, sb, rfl, hT, hl, q⟩ := h
  refine ⟨_, (pss_cons (ps_set (i := 3) sc__law_looked_at.nd rfl (.inl rfl) pe_non)
    (pss_cons (ps_try_keep (i := 4) rfl rfl rfl sc__law_looked_at.nd rfl rfl ⟨rfl, by decide, Or.inl L.g_TooMuch⟩ (fun W pn xe tk _ => (pss_one (ps_expr (pe_callNS GX_same hr rfl L.m_same L.F_same.kp (L.kb_same_most).choose_spec (E := WE W) (fun σ => passAt tk σ) (pa_cons (pv 0) (pa_cons (pv 1) pa_nil)) (pk_cons (pv 2) pk_nil))))) (fun a oe cls d pn hz hf => pss_one (ps_set (i := 3) sc__law_looked_at.nd rfl (Or.inl rfl) (pv 4))))
    (pss_one (ps_ret (pe_cmpR op_isN (pv 3) pe_non (nomark _)))))), ?_⟩
  try simp only [L2.start, List.map_cons, List.map_nil, List.length_cons, List.length_nil, List.replicate_succ, List.replicate_zero, List.cons_append, List.nil_append, List.set_cons_succ, List.set_cons_zero, Nat.reduceAdd, Nat.reduceSub, Nat.zero_add]
  refine ⟨_, rfl, _, rfl, _, rfl, rfl, rfl, pa, pb, m, lim, ga, gb, na, nb, sa, sb, rfl, hT, hl, fun r U H2 hd s2 ht => ?_, fun hd dd H2 s2 nd => ?_⟩
  · refine ⟨_, rfl, rfl, ?_⟩
    have e : enq ga gb sa sb m lim = true := by
      unfold enq
      rw [hd]
      rfl
    have := q H2 s2
    rw [e] at this
    exact this
  · refine ⟨L.x_TooMuch, fun a' na => ?_⟩
    refine ⟨_, rfl, ?_⟩
    have s3 : Same H (upd (upd H2 dd (.xd [(("what" : Str), V.int (lim : Int))])) a' (Exk a' (.ref E_TooMuch) (some dd))) := s2.trans ((same_upd nd).trans (same_upd na))
    dsimp only [gName]
    generalize upd (upd H2 dd (HO.xd [(("what" : Str), V.int (lim : Int))])) a' (Exk a' (.ref E_TooMuch) (some dd)) = H3 at *
    try simp only [L2.start, List.map_cons, List.map_nil, List.length_cons, List.length_nil, List.replicate_succ, List.replicate_zero, List.cons_append, List.nil_append, List.set_cons_succ, List.set_cons_zero, Nat.reduceAdd, Nat.reduceSub, Nat.zero_add]
    refine ⟨_, rfl, rfl, ?_⟩
    have e : enq ga gb sa sb m lim = false := by
      unfold enq
      rw [hd]
      rfl
    have := q H3 s3
    rw [e] at this
    exact this
def spMostR (C : Addr) : Sp := fun vs H Q _ => ∃ (pa pb : NetP) (m : Nat) (ga gb : List Gt) (na nb sa sb : List (Str × List Nat)), vs = [.ref pa.x, .ref pb.x, .int (m : Int)] ∧ Two C H pa pb m ga gb na nb sa sb ∧ m ≤ 8 ∧ ∀ H', Same H H' → Q (.bl true) H'
theorem ok__law_most_right (B : Bl mg) (L : LL K mg C za zl E_TooMuch I_TooMuch) : FnOk P w K mg base CX0 9 (za 41) (zl 41) ["_law_one", "_law_other", "_law_first"] (spMostR C) := by
  have G__law_looked_at : FnOk P w K mg base CX0 8 (za 40) (zl 40) ["_law_one", "_law_other", "_law_limit"] (spLA C) := (ok__law_looked_at B L).mono (by decide)
  refine L.F__law_most_right.ok sc__law_most_right (fun vs H Q E h => ?_) (fun cdv A outer s H vs Q E hr h => ?_)
  · obtain ⟨pa, pb, m, ga, gb, na, nb, sa, sb, rfl, _⟩ := h
    rfl
  obtain ⟨pa, pb, m, ga, gb, na, nb, sa, sb, rfl, hT, m8, q⟩ := h
  refine ⟨_, (pss_cons (ps_par (by rfl) sc__law_most_right.nd (i := 3) (j := 4) rfl rfl (by decide) rfl rfl (pa_cons pe_int (pa_cons (pe_op op_oneShl pe_int (pe_op op_add (pv 2) pe_int)) pa_nil)) (by rfl))
    (pss_cons (ps_for PassesOwn.never rfl (pi_range1 (by rfl) B.range (pa_cons (pe_op op_add (pv 2) pe_int) pa_nil)) (pg_name (i := 5) sc__law_most_right.nd rfl (.inl rfl)) (pss_cons (ps_set (i := 6) sc__law_most_right.nd rfl (.inl rfl) (pe_op op_fdiv (pe_op op_add (pv 3) (pv 4)) pe_int))
    (pss_one (ps_asg (pe_ifExp (pt_val (pe_call G__law_looked_at hr (by rfl) L.m__law_looked_at L.F__law_looked_at.kp L.b__law_looked_at .nil pass0 (pa_cons (pv 0) (pa_cons (pv 1) (pa_cons (pv 6) pa_nil))))) (pe_tup (pa_cons (pv 3) (pa_cons (pv 6) pa_nil))) (pe_tup (pa_cons (pv 6) (pa_cons (pv 4) pa_nil)))) (pg_tup (by rfl) (pgs_cons (pg_name (i := 3) sc__law_most_right.nd rfl (.inl rfl)) (pgs_cons (pg_name (i := 4) sc__law_most_right.nd rfl (.inl rfl)) pgs_nil)))))))
    (pss_one (ps_ret (pe_and (pe_call G__law_looked_at hr (by rfl) L.m__law_looked_at L.F__law_looked_at.kp L.b__law_looked_at .nil pass0 (pa_cons (pv 0) (pa_cons (pv 1) (pa_cons (pv 4) pa_nil)))) (pe_one (pe_or (pe_cmpR op_eq (pv 4) pe_int (nomark _)) (pe_one (pe_not (pe_call G__law_looked_at hr (by rfl) L.m__law_looked_at L.F__law_looked_at.kp L.b__law_looked_at .nil pass0 (pa_cons (pv 0) (pa_cons (pv 1) (pa_cons (pe_op op_sub (pv 4) pe_int) pa_nil))))))))))))), ?_⟩
  have z0' : enq ga gb sa sb m 0 = false := rfl
  have zF : enq ga gb sa sb m (2 ^ (m + 1)) = true := by
    unfold enq
    have := dfs_full hT.p2.hop (Nat.le_refl (2 ^ (m + 1)))
    cases e : dfs (lk ga gb sa sb) (2 ^ (m + 1)) [List.replicate m 45] [] with
    | none => exact absurd e this
    | some r => rfl
  have b9 : (2 : Nat) ^ (m + 1) ≤ 512 := Nat.le_trans (Nat.pow_le_pow_right (by decide) (show m + 1 ≤ 9 by omega)) (by decide)
  have c12 : (2 : Int) ^ (m + 1) = ((2 ^ (m + 1) : Nat) : Int) := (PySem.W.kbt_cast _).symm
  refine ⟨_, rfl, _, _, rfl, rfl, m + 1, rfl, rfl, by omega, ?_⟩
  rw [c12]
  refine ⟨_, _, rfl, ?_⟩
  try simp only [L2.start, List.map_cons, List.map_nil, List.length_cons, List.length_nil, List.replicate_succ, List.replicate_zero, List.cons_append, List.nil_append, List.set_cons_succ, List.set_cons_zero, Nat.reduceAdd, Nat.reduceSub, Nat.zero_add]
  refine ⟨_, rfl, _, _, rfl, rfl, (m : Int) + 1, rfl, by omega, by omega, ?_⟩
  rw [show ((m : Int) + 1).toNat = m + 1 by omega]
  refine for_range (n := m + 1) (fun j σ G => ∃ (low high : Nat) (y5 y6 : Option V), σ = [some (.ref pa.x), some (.ref pb.x), some (.int (m : Int)), some (.int (low : Int)), some (.int (high : Int)), y5, y6] ∧ Same H G ∧ high = low + 2 ^ (m + 1 - j) ∧ enq ga gb sa sb m low = false ∧ enq ga gb sa sb m high = true ∧ high ≤ 2 ^ (m + 1)) ⟨0, 2 ^ (m + 1), _, _, rfl, Same.refl _, by simp, z0', zF, Nat.le_refl _⟩ ?_ ?_
  · rintro j σ G hj ⟨low, high, y5, y6, rfl, sG, eh, el, eH, hle⟩
    obtain ⟨d, ed⟩ : ∃ d : Nat, d = 2 ^ (m - j) := ⟨_, rfl⟩
    have e2 : 2 ^ (m + 1 - j) = d + d := by
      rw [ed, show m + 1 - j = (m - j) + 1 by omega, Nat.pow_succ]
      omega
    dsimp only [gName]
    try simp only [L2.start, List.map_cons, List.map_nil, List.length_cons, List.length_nil, List.replicate_succ, List.replicate_zero, List.cons_append, List.nil_append, List.set_cons_succ, List.set_cons_zero, Nat.reduceAdd, Nat.reduceSub, Nat.zero_add]
    have hTG := hT.same sG
    have emid : ((low : Int) + (high : Int)) / 2 = ((low + d : Nat) : Int) := by omega
    refine ⟨_, rfl, _, rfl, _, _, rfl, rfl, _, _, rfl, rfl, ⟨by decide, by decide⟩, ?_⟩
    dsimp only [gName]
    rw [emid]
    try simp only [L2.start, List.map_cons, List.map_nil, List.length_cons, List.length_nil, List.replicate_succ, List.replicate_zero, List.cons_append, List.nil_append, List.set_cons_succ, List.set_cons_zero, Nat.reduceAdd, Nat.reduceSub, Nat.zero_add]
    refine ⟨_, rfl, _, rfl, _, rfl, pa, pb, m, low + d, ga, gb, na, nb, sa, sb, rfl, hTG, by omega, fun G1 s1 => ?_⟩
    refine ⟨_, rfl, ite2 (fun z => ?_) (fun z => ?_)⟩
    · refine ⟨_, rfl, _, rfl, (by show 2 ≤ sizeLine; decide), fun T nT => ?_⟩
      have sT := same_upd (o := .tup [V.int (low : Int), V.int ((low + d : Nat) : Int)]) nT
      refine ⟨T, _, rfl, .inl (.inl upd_same), rfl, _, _, rfl, _, _, rfl, rfl, ?_⟩
      refine ⟨low, low + d, _, _, rfl, (sG.trans s1).trans sT, ?_, el, z, by omega⟩
      rw [ed, show m + 1 - (j + 1) = m - j by omega]
    · refine ⟨_, rfl, _, rfl, (by show 2 ≤ sizeLine; decide), fun T nT => ?_⟩
      have sT := same_upd (o := .tup [V.int ((low + d : Nat) : Int), V.int (high : Int)]) nT
      refine ⟨T, _, rfl, .inl (.inl upd_same), rfl, _, _, rfl, _, _, rfl, rfl, ?_⟩
      refine ⟨low + d, high, _, _, rfl, (sG.trans s1).trans sT, ?_, by simpa using z, eH, hle⟩
      rw [show m + 1 - (j + 1) = m - j by omega, ← ed]
      omega
  rintro σ G ⟨low, high, y5, y6, rfl, sG, eh, el, eH, hle⟩
  rw [Nat.sub_self, Nat.pow_zero] at eh
  have hTG := hT.same sG
  refine ⟨_, rfl, _, rfl, _, rfl, pa, pb, m, high, ga, gb, na, nb, sa, sb, rfl, hTG, by omega, fun G1 s1 => ?_⟩
  refine ⟨_, rfl, ite2 (fun _ => ?_) (fun z => absurd eH z)⟩
  refine ⟨_, rfl, rfl, _, rfl, ite2 (fun _ => q _ (sG.trans s1)) (fun z => ?_)⟩
  refine ⟨_, rfl, _, rfl, _, rfl, _, _, rfl, rfl, pa, pb, m, low, ga, gb, na, nb, sa, sb, congrArg (fun x => [V.ref pa.x, .ref pb.x, V.int x]) (by omega), hTG.same s1, by omega, fun G2 s2 => ?_⟩
  rw [el]
  exact ⟨_, rfl, q _ ((sG.trans s1).trans s2)⟩
end
section
variable {P : Program} {w : World} {K : PySem.W.Frag} {mg : Str → Option Value} {base : Heap}
variable {C : Addr} {za : Nat → Addr} {zl : Nat → FuncData} {E_TooMuch I_TooMuch : Addr}
/-! ### cubes apart, one left out -/
theorem zb_bc : ∀ m : Nat, m < 7 → ∀ k : Nat, k < 2 ^ (m + 1) → zb (k : Int) (m + 1) = SX.S (bc (m + 1) k) := by decide +kernel
theorem clash_iff {x y : List Nat} : clash x y = true ↔ ∃ (j a b : Nat), x[j]? = some a ∧ y[j]? = some b ∧ bad a b = true := by
  unfold clash
  rw [List.any_eq_true]
  constructor
  · rintro ⟨v, hv, e⟩
    obtain ⟨j, hj⟩ := List.getElem?_of_mem hv
    rw [List.getElem?_zipWith] at hj
    cases ha : x[j]? with
    | none => rw [ha] at hj; cases hj
    | some a =>
      cases hb : y[j]? with
      | none => rw [ha, hb] at hj; cases hj
      | some b =>
        rw [ha, hb] at hj
        refine ⟨j, a, b, ha, hb, ?_⟩
        have : bad a b = v := Option.some.inj hj
        rw [this]
        exact e
  · rintro ⟨j, a, b, ha, hb, e⟩
    refine ⟨bad a b, List.mem_of_getElem? (i := j) ?_, e⟩
    rw [List.getElem?_zipWith, ha, hb]
theorem bad_iff {a b : Nat} : bad a b = true ↔ a ≠ 45 ∧ b ≠ 45 ∧ b ≠ a := decide_eq_true_iff
theorem clash_sym {x y : List Nat} (h : clash x y = true) : clash y x = true := by
  obtain ⟨j, a, b, ha, hb, e⟩ := clash_iff.mp h
  obtain ⟨e1, e2, e3⟩ := bad_iff.mp e
  exact clash_iff.mpr ⟨j, b, a, hb, ha, bad_iff.mpr ⟨e2, e1, fun z => e3 z.symm⟩⟩
theorem clash_set {x y : List Nat} {i : Nat} (h : clash y x = true) (hi : x[i]? = some 45) (c : Nat) : clash y (x.set i c) = true := by
  obtain ⟨j, a, b, ha, hb, e⟩ := clash_iff.mp h
  have ji : i ≠ j := fun z => by
    subst z
    rw [hi] at hb
    cases hb
    exact (bad_iff.mp e).2.1 rfl
  exact clash_iff.mpr ⟨j, a, b, ha, by rw [List.getElem?_set_ne ji]; exact hb, e⟩
theorem dfs_pw {L : List Nat → Lk} {m : Nat} (hop : Hop L m) : ∀ (n : Nat) (st k ks : List (List Nat)), Cb m st → (k ++ st).Pairwise (fun x y => clash x y = true) → dfs L n st k = some (.sm ks) → ks.Pairwise (fun x y => clash x y = true)
  | n, [], k, ks, _, hp, h => by
    have e : some (Rs.sm k) = some (Rs.sm ks) := by
      rw [← h]
      cases n <;> rfl
    cases e
    rw [List.append_nil] at hp
    exact hp
  | 0, _ :: _, _, _, _, _, h => by cases h
  | n + 1, x :: st, k, ks, hst, hp, h => by
    obtain ⟨lx, sx⟩ := hst x List.mem_cons_self
    have hst' : Cb m st := fun y hy => hst y (List.mem_cons_of_mem _ hy)
    unfold dfs at h
    cases hl : L x with
    | un => rw [hl] at h; cases h
    | sm =>
      rw [hl] at h
      refine dfs_pw hop n st (k ++ [x]) ks hst' ?_ h
      rw [List.append_assoc]
      exact hp
    | op =>
      rw [hl] at h
      obtain ⟨_, _, ai⟩ := sidx (hop x lx sx hl)
      refine dfs_pw hop n _ k ks (fun y hy => ?_) ?_ h
      · rcases List.mem_cons.mp hy with w | w
        · rw [w]
          exact Cb.set ⟨lx, sx⟩ _ 48 (.inr (.inl rfl))
        · rcases List.mem_cons.mp w with w | w
          · rw [w]
            exact Cb.set ⟨lx, sx⟩ _ 49 (.inr (.inr rfl))
          · exact hst' y w
      · rw [List.pairwise_append] at hp ⊢
        obtain ⟨p1, p2, p3⟩ := hp
        rw [List.pairwise_cons] at p2
        have il : ix45 x < x.length := (List.getElem?_eq_some_iff.mp ai).1
        refine ⟨p1, ?_, fun y hy z hz => ?_⟩
        · rw [List.pairwise_cons, List.pairwise_cons]
          refine ⟨fun z hz => ?_, fun z hz => ?_, p2.2⟩
          · rcases List.mem_cons.mp hz with w | w
            · rw [w]
              exact clash_iff.mpr ⟨ix45 x, 48, 49, by rw [List.getElem?_set_self il], by rw [List.getElem?_set_self il], by decide⟩
            · exact clash_sym (clash_set (clash_sym (p2.1 z w)) ai 48)
          · exact clash_sym (clash_set (clash_sym (p2.1 z hz)) ai 49)
        · rcases List.mem_cons.mp hz with w | w
          · rw [w]
            exact clash_set (p3 y hy x List.mem_cons_self) ai 48
          · rcases List.mem_cons.mp w with w | w
            · rw [w]
              exact clash_set (p3 y hy x List.mem_cons_self) ai 49
            · exact p3 y hy z (List.mem_cons_of_mem _ w)
theorem cov_clash : ∀ (x b : List Nat), BtL b → cov x b = !clash b x
  | [], [], _ => rfl
  | [], _ :: _, _ => rfl
  | _ :: _, [], _ => rfl
  | c :: x, d :: b, h => by
    have ih := cov_clash x b fun z hz => h z (List.mem_cons_of_mem _ hz)
    have hd := h d List.mem_cons_self
    unfold cov clash at ih ⊢
    rw [List.zip_cons_cons, List.all_cons, ih, List.zipWith_cons_cons, List.any_cons, Bool.not_or]
    refine congrArg (· && _) ?_
    show decide (c = 45 ∨ c = d) = !bad d c
    unfold bad
    rw [← decide_not]
    refine decide_eq_decide.mpr ⟨fun z => ?_, fun z => ?_⟩
    · omega
    · omega
/-- what a cube is told, left out -/
structure Cubes (m : Nat) (ks : List (List Nat)) : Prop where
  sg : ∀ x ∈ ks, x.length = m ∧ SgL x
  pw : ks.Pairwise (fun x y => clash x y = true)
  al : ∀ c, c < 2 ^ m → (ks.any fun x => cov x (bc m c)) = true
theorem Cubes.one_le {m : Nat} {ks : List (List Nat)} (h : Cubes m ks) : 1 ≤ ks.length := by
  cases ks with
  | nil => exact absurd (h.al 0 (Nat.two_pow_pos m)) (by simp)
  | cons x l => rw [List.length_cons]; omega
theorem Cubes.without {m : Nat} {a b : List (List Nat)} {x : List Nat} (h : Cubes m (a ++ x :: b)) : holeV m (a ++ b) ≠ 0 ∧ ∀ c, c < 2 ^ m → tb (holeV m (a ++ b)) c = 1 → cov x (bc m c) = true := by
  have sg : ∀ y ∈ a ++ b, y.length = m ∧ SgL y := fun y hy => h.sg y (by
    rcases List.mem_append.mp hy with w | w
    · exact List.mem_append_left _ w
    · exact List.mem_append_right _ (List.mem_cons_of_mem _ w))
  obtain ⟨lx, sx⟩ := h.sg x (List.mem_append_right _ List.mem_cons_self)
  obtain ⟨b1, b2, b3⟩ := z0_bt sx
  have cl : ∀ y ∈ a ++ b, clash y x = true := fun y hy => by
    have p := List.pairwise_append.mp h.pw
    rcases List.mem_append.mp hy with w | w
    · exact p.2.2 y w x List.mem_cons_self
    · exact clash_sym ((List.pairwise_cons.mp p.2.1).1 y w)
  constructor
  · rw [Ne, hole_iff sg]
    intro al
    obtain ⟨c1, c2⟩ := cso_bc (z0 x) b1
    rw [b2, lx] at c1 c2
    have := al _ c1
    rw [c2, List.any_eq_true] at this
    obtain ⟨y, hy, cy⟩ := this
    rw [cov_clash y (z0 x) b1] at cy
    obtain ⟨j, p, r, hp, hr, e⟩ := clash_iff.mp (cl y hy)
    obtain ⟨e1, e2, e3⟩ := bad_iff.mp e
    have hz : (z0 x)[j]? = some r := by
      unfold z0
      rw [List.getElem?_map, hr]
      show some (if r = 45 then 48 else r) = some r
      rw [if_neg e2]
    have : clash (z0 x) y = true := clash_iff.mpr ⟨j, r, p, hz, hp, bad_iff.mpr ⟨e2, e1, fun z => e3 z.symm⟩⟩
    rw [this] at cy
    cases cy
  · intro c hc t
    have := tb_hole hc (a ++ b) (2 ^ 2 ^ m - 1) sg
    unfold holeV at t
    rw [t] at this
    have na : ((a ++ b).any fun x => cov x (bc m c)) = false := by
      by_cases z : ((a ++ b).any fun x => cov x (bc m c)) = true
      · rw [if_pos z] at this
        cases this
      · exact Bool.eq_false_iff.mpr z
    have ta := h.al c hc
    rw [List.any_append, List.any_cons] at ta
    rw [List.any_append] at na
    rcases Bool.or_eq_true_iff.mp ta with w | w
    · rw [w] at na
      cases na
    · rcases Bool.or_eq_true_iff.mp w with w | w
      · exact w
      · rw [w, Bool.or_true] at na
        cases na
theorem low_bit1 {h : Int} {k : Nat} (e : Builtin.bitAnd h (-h) = 2 ^ k) : tb h k = 1 := by
  have t : tb (Builtin.bitAnd h (-h)) k = 1 := by
    rw [e]
    have := tb_shl 1 k k
    rw [Int.one_mul, if_neg (Nat.lt_irrefl k), Nat.sub_self] at this
    rw [this]
    decide
  rw [tb_and] at t
  rcases tb_01 h k with z | z
  · rw [z] at t
    rcases tb_01 (-h) k with y | y <;> rw [y] at t <;> exact absurd t (by decide)
  · exact z
theorem cutC (xs : List V) (p : Nat) : cutV xs none (some (p : Int)) = xs.take p := by
  unfold cutV
  rw [HT.sIx_none, HT.sIx_nat, List.drop_zero, Nat.sub_zero]
  exact List.take_eq_take_min.symm
theorem cutD (xs : List V) (p : Nat) (h : p ≤ xs.length) : cutV xs (some (p : Int)) none = xs.drop p := by
  unfold cutV
  rw [HT.sIx_none, HT.sIx_nat, Nat.min_eq_left h, List.take_of_length_le (by rw [List.length_drop]; exact Nat.le_refl _)]
def spCubes85 (C : Addr) : Sp := fun vs H Q _ => ∃ (b : Addr) (c : Int) (pa pb : NetP) (m : Nat) (ga gb : List Gt) (na nb sa sb : List (Str × List Nat)) (t : Addr) (ks : List (List Nat)), vs = [.ref b, .ref pa.x, .ref pb.x, .int (m : Int), .ref t] ∧ BoxAt c H b ∧ c ≤ 800000000 ∧ (∀ H', Keep b H H' → H' b ≠ none → Two C H' pa pb m ga gb na nb sa sb) ∧ 1 ≤ m ∧ m ≤ 7 ∧ t ≠ b ∧ H t = some (.lst (cV ks)) ∧ Cubes m ks ∧ ks.length ≤ 512 ∧ ∀ H', Keep b H H' → H' b ≠ none → Q (.bl true) H'
theorem ok__law_cubes_right (B : Bl mg) (L : LL K mg C za zl E_TooMuch I_TooMuch) : FnOk P w K mg base CX0 8 (za 42) (zl 42) ["_law_box_here", "_law_one", "_law_other", "_law_first", "_law_cubes"] (spCubes85 C) := by
  have G_common : FnOk P w K mg base CX0 7 (za 9) (zl 9) ["one", "other"] spCm := (ok_common B L).mono (by decide)
  have G__law_take : FnOk P w K mg base CX0 7 (za 32) (zl 32) ["_law_box_here", "_law_size"] (spTake 1) := (ok_take L.F__law_take L.b__law_take L.m__law_take B 1).mono (by decide)
  have G_hole : FnOk P w K mg base CX0 7 (za 12) (zl 12) ["cubes", "many"] spHole := (ok_hole B L).mono (by decide)
  have G_lies_in : FnOk P w K mg base CX0 7 (za 8) (zl 8) ["bits", "cube"] spIn := (ok_lies_in B L).mono (by decide)
  have G_shows_same : FnOk P w K mg base CX0 7 (za 23) (zl 23) ["one", "other", "thing"] (spShS C) := (ok_shows_same B L).mono (by decide)
  refine L.F__law_cubes_right.ok sc__law_cubes_right (fun vs H Q E h => ?_) (fun cdv A outer s H vs Q E hr h => ?_)
  · obtain ⟨b, c, pa, pb, m, ga, gb, na, nb, sa, sb, t, ks, rfl, _⟩ := h
    rfl
  obtain ⟨b, c, pa, pb, m, ga, gb, na, nb, sa, sb, t, ks, rfl, hB, hc, hTk, m1, m7, ntb, et, hks, kl, q⟩ := h
  refine ⟨_, (pss_cons (ps_for PassesOwn.never rfl (pi_enum (by rfl) B.enumerate (pa_cons (pe_slice sl_list (pv 4) po_none (po_some pe_int)) pa_nil)) (pg_tup (by rfl) (pgs_cons (pg_name (i := 5) sc__law_cubes_right.nd rfl (.inl rfl)) (pgs_cons (pg_name (i := 6) sc__law_cubes_right.nd rfl (.inr rfl)) pgs_nil))) (pss_one (ps_if (pt_val (pe_callB (cr_any rfl) (by rfl) B.any boot_any (pa_cons (pe_lc (own := [("_law_before", 9)]) (by rfl) sc__law_cubes_right.nd (pi_list (pe_slice sl_list (pv 4) po_none (po_some (pv 5)))) (blkOk_by (own := [("_law_before", 9)]) (N := ["_law_box_here", "_law_one", "_law_other", "_law_first", "_law_cubes", "_law_at", "_law_cube", "_law_rest", "_law_found", "_law_before"]) (sc := defScope s__law_cubes_right) (by decide +kernel)) (fun _ _ _ _ _ => pg_name (i := 9) sc__law_cubes_right.nd rfl (Or.inl rfl)) (fun _ _ _ _ _ => pts_nil) (fun _ _ _ _ _ => (pe_cmpR op_notN (pe_call G_common hr (by rfl) L.m_common L.F_common.kp L.b_common .nil pass0 (pa_cons (pv 6) (pa_cons (pv 9) pa_nil))) pe_non (nomark _)))) pa_nil))) (pss_one (ps_ret pe_bl)) pss_nil)))
    (pss_cons (ps_set (i := 5) sc__law_cubes_right.nd rfl (.inl rfl) (pe_call G__law_take hr (by rfl) L.m__law_take L.F__law_take.kp L.b__law_take .nil pass0 (pa_cons (pv 0) (pa_cons (pe_callB call_len_seq (by rfl) B.len PySem.boot_len (pa_cons (pv 4) pa_nil)) pa_nil))))
    (pss_cons (ps_set (i := 7) sc__law_cubes_right.nd rfl (.inl rfl) (pe_op op_cat (pe_slice sl_list (pv 4) po_none (po_some (pv 5))) (pe_slice sl_list (pv 4) (po_some (pe_op op_add (pv 5) pe_int)) po_none)))
    (pss_cons (ps_set (i := 8) sc__law_cubes_right.nd rfl (.inl rfl) (pe_call G_hole hr (by rfl) L.m_hole L.F_hole.kp L.b_hole .nil pass0 (pa_cons (pv 7) (pa_cons (pv 3) pa_nil))))
    (pss_one (ps_ret (pe_and (pe_cmpR op_notN (pv 8) pe_non (nomark _)) (pe_and (pe_call G_lies_in hr (by rfl) L.m_lies_in L.F_lies_in.kp L.b_lies_in .nil pass0 (pa_cons (pv 8) (pa_cons (pe_ix ix_list (pv 4) (pv 5) (fun _ _ => rfl)) pa_nil))) (pe_one (pe_not (pe_call G_shows_same hr (by rfl) L.m_shows_same L.F_shows_same.kp L.b_shows_same .nil pass0 (pa_cons (pv 1) (pa_cons (pv 2) (pa_cons (pv 7) pa_nil)))))))))))))), ?_⟩
  have lcV : (cV ks).length = ks.length := cV_len ks
  refine ⟨_, rfl, (40 : Int), rfl, t, _, rfl, SqL.of et, fun T1 nT1 => ?_⟩
  have ec : cutV (cV ks) none (some (40 : Int)) = cV (ks.take 40) := by
    rw [show (40 : Int) = ((40 : Nat) : Int) from rfl, cutC]
    exact List.map_take.symm
  rw [ec]
  have s1 := same_upd (o := .lst (cV (ks.take 40))) nT1
  have eT1 : (upd H T1 (.lst (cV (ks.take 40)))) T1 = some (.lst (cV (ks.take 40))) := upd_same
  have et1 := s1 _ _ et
  generalize upd H T1 _ = H1 at *
  refine ⟨T1, _, rfl, SqL.of eT1, ?_⟩
  refine for_it (walk_enum (K := K) (a := T1) (xs := cV (ks.take 40))) (fun j σ G => ∃ (y5 y6 : Option V), σ = [some (.ref b), some (.ref pa.x), some (.ref pb.x), some (.int (m : Int)), some (.ref t), y5, y6, none, none, none] ∧ Same H1 G) ⟨_, _, rfl, Same.refl _⟩ (fun j σ G _ ⟨_, _, _, sG⟩ => SqL.of (sG _ _ eT1)) ?_ ?_
  · rintro j z σ G1 G2 hj ⟨y5, y6, rfl, sG⟩ ⟨T, u1, u2, rfl, nT, rfl, e1, e2⟩
    cases e1
    replace e2 : (cV (ks.take 40))[j]? = some u2 := e2
    unfold cV at e2
    rw [List.getElem?_map] at e2
    obtain ⟨x, hx, rfl⟩ := Option.map_eq_some_iff.mp e2
    have hx' : ks[j]? = some x := by
      rw [List.getElem?_take] at hx
      split at hx
      · exact hx
      · cases hx
    have jl := (List.getElem?_eq_some_iff.mp hx').1
    obtain ⟨lx, sx⟩ := hks.sg x (List.mem_of_getElem? hx')
    have sT := same_upd (o := .tup [.int (j : Int), .str (SX.S x)]) nT
    refine ⟨T, _, rfl, .inl (.inl upd_same), rfl, _, _, rfl, _, _, rfl, rfl, ?_⟩
    have s3 := sG.trans sT
    generalize upd G1 T (.tup [.int (j : Int), .str (SX.S x)]) = G3 at *
    dsimp only []
    try simp only [L2.start, List.map_cons, List.map_nil, List.length_cons, List.length_nil, List.replicate_succ, List.replicate_zero, List.cons_append, List.nil_append, List.set_cons_succ, List.set_cons_zero, Nat.reduceAdd, Nat.reduceSub, Nat.zero_add]
    have et3 := s3 _ _ et1
    refine ⟨_, rfl, _, rfl, (j : Int), rfl, t, _, rfl, SqL.of et3, fun T2 nT2 => ?_⟩
    rw [cutC, show (cV ks).take j = cV (ks.take j) from List.map_take.symm]
    have s4 := same_upd (o := .lst (cV (ks.take j))) nT2
    have eT2 : (upd G3 T2 (.lst (cV (ks.take j)))) T2 = some (.lst (cV (ks.take j))) := upd_same
    generalize upd G3 T2 _ = G4 at *
    refine ⟨T2, rfl, ⟨_, SqL.of eT2⟩, fun D nD => ?_⟩
    refine lc_it (walk_list (K := K) (a := T2) (xs := cV (ks.take j))) (fun i Ga => Same G4 Ga ∧ Ga D = some (.lst ((List.replicate i false).map V.bl))) ⟨same_upd nD, upd_same⟩ (fun i Ga _ ⟨sa, _⟩ => SqL.of (sa _ _ eT2)) ?_ ?_
    · rintro i v Ga Gb hi ⟨sa, eDa⟩ ⟨rfl, hz⟩
      unfold cV at hz
      rw [List.getElem?_map] at hz
      obtain ⟨y, hy, rfl⟩ := Option.map_eq_some_iff.mp hz
      have ij : i < j := by
        have h : i < (cV (ks.take j)).length := hi
        rw [cV_len, List.length_take] at h
        omega
      have hy' : ks[i]? = some y := by
        rw [List.getElem?_take, if_pos ij] at hy
        exact hy
      obtain ⟨ly, sy⟩ := hks.sg y (List.mem_of_getElem? hy')
      have cl : clash x y = true := by
        have h := List.pairwise_iff_getElem.mp hks.pw i j (by omega) jl ij
        have e1 : ks[i]'(by omega) = y := by
          have := List.getElem?_eq_getElem (l := ks) (i := i) (by omega)
          rw [hy'] at this
          exact (Option.some.inj this).symm
        have e2 : ks[j] = x := by
          have := List.getElem?_eq_getElem (l := ks) (i := j) jl
          rw [hx'] at this
          exact (Option.some.inj this).symm
        rw [e1, e2] at h
        exact clash_sym h
      refine ⟨rfl, yesT ?_⟩
      refine ⟨_, rfl, _, rfl, x, y, rfl, by omega, by omega, fun Gc sc => ?_⟩
      unfold cmV
      rw [if_pos cl]
      refine ⟨rfl, ?_⟩
      refine ⟨_, sc _ _ eDa, ?_, fun u o e => ?_, ?_⟩
      · rw [List.length_map, List.length_replicate]
        exact big_lt (by omega)
      · rw [upd_ne (ne_of_none e nD)]
        exact sc _ _ (sa _ _ e)
      · rw [upd_same, List.replicate_succ', List.map_append]
        rfl
    rintro Ga ⟨sa, eDa⟩
    refine ⟨D, _, rfl, SqL.of eDa, ?_⟩
    have an : ∀ n : Nat, (List.replicate n false).any id = false := fun n => by
      induction n with
      | zero => rfl
      | succ n ih => rw [List.replicate_succ, List.any_cons, ih]; rfl
    rw [an]
    refine ⟨false, rfl, iteF ?_⟩
    exact ⟨_, _, rfl, (s3.trans s4).trans sa⟩
  rintro σ G ⟨y5, y6, rfl, sG⟩
  have s0G := s1.trans sG
  have BG := hB.same s0G
  have etG := s0G _ _ et
  dsimp only []
  try simp only [L2.start, List.map_cons, List.map_nil, List.length_cons, List.length_nil, List.replicate_succ, List.replicate_zero, List.cons_append, List.nil_append, List.set_cons_succ, List.set_cons_zero, Nat.reduceAdd, Nat.reduceSub, Nat.zero_add]
  refine ⟨_, rfl, _, rfl, t, _, rfl, .inl (SqL.of etG), ?_⟩
  rw [lcV]
  have k1 := hks.one_le
  refine ⟨b, _, _, rfl, BG, by omega, by omega, by omega, by omega, by decide, fun r H2 u2 v2 B2 k2 => ?_⟩
  obtain ⟨r, rfl⟩ := Int.eq_ofNat_of_zero_le u2
  have rl : r < ks.length := by omega
  replace B2 := bx1 B2
  have et2 := k2 _ _ etG ntb
  have k02 := (Keep.ofSame s0G).trans k2
  have hT2 := hTk H2 k02 B2.some
  obtain ⟨a, x, b', ek, la⟩ : ∃ a x b', ks = a ++ x :: b' ∧ a.length = r := ⟨ks.take r, ks[r], ks.drop (r + 1), by rw [List.getElem_cons_drop]; exact (List.take_append_drop r ks).symm, by rw [List.length_take]; omega⟩
  subst ek
  have eA : (cV (a ++ x :: b')).take r = cV a := by
    rw [cV_app, List.take_left' (by rw [cV_len, la])]
  have eB : (cV (a ++ x :: b')).drop (r + 1) = cV b' := by
    rw [show a ++ x :: b' = (a ++ [x]) ++ b' by simp, cV_app, List.drop_left' (by rw [cV_len, List.length_append, la]; rfl)]
  dsimp only [gName]
  try simp only [L2.start, List.map_cons, List.map_nil, List.length_cons, List.length_nil, List.replicate_succ, List.replicate_zero, List.cons_append, List.nil_append, List.set_cons_succ, List.set_cons_zero, Nat.reduceAdd, Nat.reduceSub, Nat.zero_add]
  refine ⟨_, rfl, _, rfl, (r : Int), rfl, t, _, rfl, SqL.of et2, fun T1' nT1' => ?_⟩
  rw [cutC, eA]
  have s3 := same_upd (o := .lst (cV a)) nT1'
  have eT3 : (upd H2 T1' (.lst (cV a))) T1' = some (.lst (cV a)) := upd_same
  have et3 := s3 _ _ et2
  generalize upd H2 T1' _ = H3 at *
  refine ⟨_, rfl, _, rfl, _, _, rfl, rfl, (r : Int) + 1, rfl, t, _, rfl, SqL.of et3, fun T2 nT2 => ?_⟩
  rw [show ((r : Int) + 1) = ((r + 1 : Nat) : Int) by omega, cutD _ _ (by rw [cV_len]; omega), eB]
  have s4 := same_upd (o := .lst (cV b')) nT2
  have eT4 : (upd H3 T2 (.lst (cV b'))) T2 = some (.lst (cV b')) := upd_same
  have et4 := s4 _ _ et3
  have eT34 := s4 _ _ eT3
  generalize upd H3 T2 _ = H4 at *
  refine ⟨T1', T2, _, _, rfl, rfl, eT34, eT4, by
    rw [cV_len, cV_len]
    rw [List.length_append, List.length_cons] at kl
    exact Nat.le_of_lt (big_lt (by omega)), fun T3 nT3 => ?_⟩
  rw [← cV_app]
  have s5 := same_upd (o := .lst (cV (a ++ b'))) nT3
  have eT5 : (upd H4 T3 (.lst (cV (a ++ b')))) T3 = some (.lst (cV (a ++ b'))) := upd_same
  have et5 := s5 _ _ et4
  have s25 := (s3.trans s4).trans s5
  generalize upd H4 T3 _ = H5 at *
  dsimp only [gName]
  try simp only [L2.start, List.map_cons, List.map_nil, List.length_cons, List.length_nil, List.replicate_succ, List.replicate_zero, List.cons_append, List.nil_append, List.set_cons_succ, List.set_cons_zero, Nat.reduceAdd, Nat.reduceSub, Nat.zero_add]
  have sgR : ∀ y ∈ a ++ b', y.length = m ∧ SgL y := fun y hy => hks.sg y (by
    rcases List.mem_append.mp hy with w | w
    · exact List.mem_append_left _ w
    · exact List.mem_append_right _ (List.mem_cons_of_mem _ w))
  obtain ⟨hne, hlow⟩ := hks.without
  obtain ⟨lx, sx⟩ := hks.sg x (List.mem_append_right _ List.mem_cons_self)
  refine ⟨_, rfl, _, rfl, T3, m, a ++ b', rfl, eT5, by omega, fun y hy => by rw [(sgR y hy).1]; omega, fun z => absurd z hne, fun _ kk H6 s6 eb kkl => ?_⟩
  have cv := hlow kk kkl (low_bit1 eb)
  have ezb : zb (kk : Int) m = SX.S (bc m kk) := by
    obtain ⟨m', rfl⟩ : ∃ m', m = m' + 1 := ⟨m - 1, by omega⟩
    exact zb_bc m' (by omega) kk kkl
  rw [ezb]
  dsimp only [gName]
  try simp only [L2.start, List.map_cons, List.map_nil, List.length_cons, List.length_nil, List.replicate_succ, List.replicate_zero, List.cons_append, List.nil_append, List.set_cons_succ, List.set_cons_zero, Nat.reduceAdd, Nat.reduceSub, Nat.zero_add]
  have et6 := s6 _ _ et5
  have hT6 := hT2.same (s25.trans s6)
  have hx : (cV (a ++ x :: b'))[r]? = some (.str (SX.S x)) := by
    unfold cV
    rw [List.getElem?_map, List.getElem?_append_right (by omega), la, Nat.sub_self]
    rfl
  refine ⟨_, rfl, rfl, true, rfl, iteT ?_⟩
  refine ⟨_, rfl, _, rfl, _, rfl, t, _, _, _, rfl, rfl, SqL.of et6, atI_nat hx, bc m kk, x, rfl, by rw [bc_len, lx], by omega, bc_bt m kk, fun H7 s7 => ?_⟩
  rw [cov_clash x (bc m kk) (bc_bt m kk)] at cv
  rw [cv]
  refine ⟨true, rfl, iteT ?_⟩
  have hS : showsV m (lk ga gb sa sb) (some ((a ++ b').map some)) = false := by
    show (((a ++ b').map some).all _ && (covA m ((a ++ b').map some) && (((a ++ b').map some).all fun o => decide (lk ga gb sa sb (o.getD []) = .sm)))) = false
    have : covA m ((a ++ b').map some) = false := Bool.eq_false_iff.mpr fun z => hne ((covA_cs sgR).mp z)
    rw [this, Bool.false_and, Bool.and_false]
  have e57 := (s6.trans s7) _ _ eT5
  have htop : Top62 H7 (.ref T3) (some ((a ++ b').map some)) := by
    refine .lst e57 (by rw [cV_len, List.length_map]) (fun i v o hv ho => ?_) (by
      rw [List.length_map, List.length_append]
      rw [List.length_append, List.length_cons] at kl
      omega)
    unfold cV at hv
    rw [List.getElem?_map] at hv ho
    obtain ⟨y, hy, rfl⟩ := Option.map_eq_some_iff.mp hv
    rw [hy] at ho
    cases ho
    have := (sgR y (List.mem_of_getElem? hy)).1
    exact .str (by omega)
  refine ⟨_, rfl, _, rfl, _, rfl, pa, pb, m, ga, gb, na, nb, sa, sb, _, some ((a ++ b').map some), rfl, hT6.same s7, by omega, htop, fun H8 s8 => ?_⟩
  rw [hS]
  exact ⟨_, rfl, q H8 (k02.trans (.ofSame ((s25.trans s6).trans (s7.trans s8)))) (B2.same ((s25.trans s6).trans (s7.trans s8))).some⟩
end
section
variable {P : Program} {w : World} {K : PySem.W.Frag} {mg : Str → Option Value} {base : Heap}
variable {C : Addr} {za : Nat → Addr} {zl : Nat → FuncData} {E_TooMuch I_TooMuch : Addr}
/-! ### both ways of parts, a spoilt one -/
theorem lk_swap (ga gb : List Gt) (sa sb : List (Str × List Nat)) : lk ga gb sa sb = lk gb ga sb sa := funext fun x => by
  unfold lk
  by_cases h1 : (setR (sgs x ga) sa).any opn = true
  · rw [if_pos h1]
    by_cases h2 : (setR (sgs x gb) sb).any opn = true
    · rw [if_pos h2]
    · rw [if_neg h2, if_pos h1]
  · rw [if_neg h1]
    by_cases h2 : (setR (sgs x gb) sb).any opn = true
    · rw [if_pos h2, if_pos h2]
    · rw [if_neg h2, if_neg h2, if_neg h1]
      by_cases e : PyData.eqv (rwD (setR (sgs x ga) sa)) (rwD (setR (sgs x gb) sb)) = true
      · rw [if_pos e]
        have := eqv_rw _ _ e
        rw [this] at e ⊢
        rw [if_pos e]
      · rw [if_neg e]
        by_cases e2 : PyData.eqv (rwD (setR (sgs x gb) sb)) (rwD (setR (sgs x ga) sa)) = true
        · have := eqv_rw _ _ e2
          rw [this] at e e2
          exact absurd e2 e
        · rw [if_neg e2]
theorem dep_strs : ∀ l : List Str, PyData.depthAll (l.map PyData.str) = 0
  | [] => rfl
  | _ :: l => by
    rw [List.map_cons, PyData.depthAll, dep_strs l]
    rfl
theorem res_self (r : Rs) : (!PyData.eqv (resD r) (resD r)) = false ∧ (resD r).plain = true ∧ (resD r).depth ≤ 64 := by
  cases r with
  | sm ks =>
    have h := eqv_strs (ks.map SX.S) (ks.map SX.S)
    rw [decide_eq_true rfl] at h
    obtain ⟨p1, p2⟩ := pl_strs (ks.map SX.S)
    unfold resD
    refine ⟨?_, ?_, ?_⟩
    · rw [PyData.eqv, PyData.eqvAll, PyData.eqvAll, PyData.eqvAll, h]
      simp [PyData.eqv]
    · simp only [PyData.plain, PyData.plainAll, Bool.and_true, Bool.true_and] at p1 ⊢
      exact p1
    · simp only [PyData.depth, PyData.depthAll, dep_strs]
      decide
  | un x =>
    unfold resD
    refine ⟨?_, rfl, ?_⟩
    · simp [PyData.eqv, PyData.eqvAll]
    · simp [PyData.depth, PyData.depthAll]
theorem firstD_nil : ∀ {a b : List (Str × List Nat)}, a.map (fun x => x.2.length) = b.map (fun x => x.2.length) → firstD a b = none
  | [], _, _ => by unfold firstD; rfl
  | _ :: _, [], h => by cases h
  | x :: a, y :: b, h => by
    rw [List.map_cons, List.map_cons, List.cons.injEq] at h
    unfold firstD
    rw [if_pos h.1]
    exact firstD_nil h.2
theorem two_of {C : Addr} {H : Hp} {Z Z' : List Addr} {p p' : NetP} {m : Nat} {ga gb : List Gt} {na nb sa sb : List (Str × List Nat)} (NA : NetAt C Z H p m ga na) (NB : NetAt C Z' H p' m gb nb) (oa : GsOk m ga) (ob : GsOk m gb) (wa : GvW (m + ga.length) na) (wb' : GvW (m + gb.length) nb) (m20 : m ≤ 20) (la : ga.length ≤ 300) (lb : gb.length ≤ 300) (na4 : na.length ≤ 4) (sA : SoOf sa na) (sB : SoOf sb nb) (en : sa.map (·.1) = sb.map (·.1)) (el : sa.map (fun x => x.2.length) = sb.map (fun x => x.2.length)) : Two C H p p' m ga gb na nb sa sb := by
  have e1 := sA.1.length_eq
  have e2 := sB.1.length_eq
  have e3 := congrArg List.length en
  rw [List.length_map, List.length_map] at e3
  refine ⟨⟨⟨Z, NA⟩, oa, wa, m20, la, na4⟩, ⟨⟨Z', NB⟩, ob, wb', m20, lb, by omega⟩, sA, sB, ?_⟩
  unfold dueL
  rw [if_pos rfl, if_pos en]
  exact firstD_nil el
theorem TolAt.B {H0 H : Hp} {T : Addr} {r : Rs} (h : TolAt H0 H T r) : TolB H T r := by
  cases r with
  | sm ks =>
    obtain ⟨k0, a, b, _⟩ := h
    exact ⟨k0, a, b⟩
  | un x => exact h
def sa85 (ws : List Nat) : List (Str × List Nat) := [(Str.ofString "more", ws.take 1), (Str.ofString "told", ws)]
theorem so85 (ws : List Nat) : SoOf (sa85 ws) (nm85 ws) := ⟨List.Perm.swap _ _ _, by
  show List.Pairwise (fun x y : Str => x.cps.toList ≤ y.cps.toList) [Str.ofString "more", Str.ofString "told"]
  decide +kernel⟩
theorem gw85 {M : Nat} {ws : List Nat} (l : ws.length ≤ 8) (h : ∀ w ∈ ws, w < M) : GvW M (nm85 ws) := by
  refine ⟨inj_of (by show [Str.ofString "told", Str.ofString "more"].Nodup; decide +kernel), fun x hx => ?_⟩
  rcases List.mem_cons.mp hx with w | w
  · rw [w]
    exact ⟨l, h⟩
  · rw [List.mem_singleton.mp w]
    exact ⟨by show (ws.take 1).length ≤ 8; rw [List.length_take]; omega, fun a ha => h a (List.mem_of_mem_take ha)⟩
theorem mwl_le {way k : Nat} (h : way ≠ 1 → k ≤ 3) (k5 : k ≤ 5) (k1 : 1 ≤ k) : 1 ≤ mwl way k ∧ mwl way k ≤ 6 ∧ 1 ≤ mfi way k ∧ mfi way k ≤ 7 := by
  unfold mwl mfi
  by_cases w0 : way = 0
  · subst w0
    have := h (by decide)
    simp
    omega
  · by_cases w1 : way = 1
    · subst w1
      simp
      omega
    · have := h w1
      rw [if_neg w0, if_neg w0, if_neg w1, if_neg w1]
      by_cases w2 : way = 2
      · rw [if_pos w2, if_pos w2]
        omega
      · rw [if_neg w2, if_neg w2]
        by_cases w3 : way = 3
        · rw [if_pos w3, if_pos w3]
          omega
        · rw [if_neg w3, if_neg w3]
          omega
def spRight85 : Sp := fun vs H Q _ => ∃ (b : Addr) (c : Int), vs = [.ref b] ∧ BoxAt c H b ∧ c ≤ 100 ∧ ∀ H', Keep b H H' → Q (.bl true) H'
theorem ok__law_right (B : Bl mg) (L : LL K mg C za zl E_TooMuch I_TooMuch) : FnOk P w K mg base CX0 10 (za 43) (zl 43) ["_law_box_here"] spRight85 := by
  have G__law_take : FnOk P w K mg base CX0 9 (za 32) (zl 32) ["_law_box_here", "_law_size"] (spTake 1) := (ok_take L.F__law_take L.b__law_take L.m__law_take B 1).mono (by decide)
  have G__law_made : FnOk P w K mg base CX0 9 (za 39) (zl 39) ["_law_way", "_law_which", "_law_size"] (spMade C) := (ok__law_made B L).mono (by decide)
  have G_Net_inputs : FnOk P w K mg base CX0 9 (za 56) (zl 56) ["self"] (spInputs C) := (ok_Net_inputs B L).mono (by decide)
  have G__law_spoilt : FnOk P w K mg base CX0 9 (za 37) (zl 37) ["_law_box_here", "_law_first", "_law_net_here"] (spSpoilt C) := (ok__law_spoilt B L).mono (by decide)
  have G_same : FnOk P w K mg base CX0 9 (za 19) (zl 19) ["one", "other", "most"] (spSame91 C) := (ok_sameP B L).mono (by decide)
  have G__law_paper_right : FnOk P w K mg base CX0 9 (za 38) (zl 38) ["_law_one", "_law_other", "_law_first", "_law_told"] (spPaper C) := (ok__law_paper_right B L).mono (by decide)
  have G__law_cubes_right : FnOk P w K mg base CX0 9 (za 42) (zl 42) ["_law_box_here", "_law_one", "_law_other", "_law_first", "_law_cubes"] (spCubes85 C) := (ok__law_cubes_right B L).mono (by decide)
  have G__law_most_right : FnOk P w K mg base CX0 9 (za 41) (zl 41) ["_law_one", "_law_other", "_law_first"] (spMostR C) := (ok__law_most_right B L).mono (by decide)
  refine L.F__law_right.ok sc__law_right (fun vs H Q E h => ?_) (fun cdv A outer s H vs Q E hr h => ?_)
  · obtain ⟨b, c, rfl, _⟩ := h
    rfl
  obtain ⟨b, c, rfl, hB, hc, q⟩ := h
  refine ⟨_, (pss_cons (ps_set (i := 1) sc__law_right.nd rfl (.inl rfl) (pe_call G__law_take hr (by rfl) L.m__law_take L.F__law_take.kp L.b__law_take .nil pass0 (pa_cons (pv 0) (pa_cons pe_int pa_nil))))
    (pss_cons (ps_set (i := 2) sc__law_right.nd rfl (.inl rfl) (pe_op op_add pe_int (pe_call G__law_take hr (by rfl) L.m__law_take L.F__law_take.kp L.b__law_take .nil pass0 (pa_cons (pv 0) (pa_cons (pe_ix ix_list (pe_lst (pa_cons pe_int (pa_cons pe_int (pa_cons pe_int (pa_cons pe_int (pa_cons pe_int pa_nil)))))) (pv 1) (fun _ _ => rfl)) pa_nil)))))
    (pss_cons (ps_par (by rfl) sc__law_right.nd (i := 3) (j := 4) rfl rfl (by decide) rfl rfl (pa_cons (pe_call G__law_made hr (by rfl) L.m__law_made L.F__law_made.kp L.b__law_made .nil pass0 (pa_cons (pv 1) (pa_cons pe_int (pa_cons (pv 2) pa_nil)))) (pa_cons (pe_call G__law_made hr (by rfl) L.m__law_made L.F__law_made.kp L.b__law_made .nil pass0 (pa_cons (pv 1) (pa_cons pe_int (pa_cons (pv 2) pa_nil)))) pa_nil)) (by rfl))
    (pss_cons (ps_set (i := 5) sc__law_right.nd rfl (.inl rfl) (pe_meth0 (pv 3) L.T.cl L.M_Net_inputs G_Net_inputs hr L.b_Net_inputs .nil pass0))
    (pss_cons (ps_if (pt_cmpR op_gt (pe_call G__law_take hr (by rfl) L.m__law_take L.F__law_take.kp L.b__law_take .nil pass0 (pa_cons (pv 0) (pa_cons pe_int pa_nil))) pe_int (nomark _)) (pss_one (ps_set (i := 4) sc__law_right.nd rfl (.inl rfl) (pe_call G__law_spoilt hr (by rfl) L.m__law_spoilt L.F__law_spoilt.kp L.b__law_spoilt .nil pass0 (pa_cons (pv 0) (pa_cons (pv 5) (pa_cons (pv 4) pa_nil)))))) pss_nil)
    (pss_cons (ps_set (i := 6) sc__law_right.nd rfl (.inl rfl) (pe_callN G_same hr (by rfl) L.m_same L.F_same.kp (L.kb_same_most).choose_spec pass0 (pa_cons (pv 3) (pa_cons (pv 4) pa_nil)) (pk_cons pe_int pk_nil)))
    (pss_cons (ps_if (PW.pt (pw_or (pt_not (pt_val (pe_call G__law_paper_right hr (by rfl) L.m__law_paper_right L.F__law_paper_right.kp L.b__law_paper_right .nil pass0 (pa_cons (pv 3) (pa_cons (pv 4) (pa_cons (pv 5) (pa_cons (pv 6) pa_nil))))))) (pw_or1 (pt_cmpR (op_nePl hr.units) (pe_callN G_same hr (by rfl) L.m_same L.F_same.kp (L.kb_same_most).choose_spec pass0 (pa_cons (pv 4) (pa_cons (pv 3) pa_nil)) (pk_cons pe_int pk_nil)) (pv 6) (nomark _))))) (pss_one (ps_ret pe_bl)) pss_nil)
    (pss_cons (ps_if (PW.pt (pw_and (pt_cmpR op_eq (pe_ix ix_tup (pv 6) pe_int (fun _ _ => rfl)) pe_str (nomark _)) (pw_and1 (pt_not (pt_val (pe_call G__law_cubes_right hr (by rfl) L.m__law_cubes_right L.F__law_cubes_right.kp L.b__law_cubes_right .nil pass0 (pa_cons (pv 0) (pa_cons (pv 3) (pa_cons (pv 4) (pa_cons (pv 5) (pa_cons (pe_ix ix_tup (pv 6) pe_int (fun _ _ => rfl)) pa_nil))))))))))) (pss_one (ps_ret pe_bl)) pss_nil)
    (pss_one (ps_ret (pe_ifExp (pt_cmpR op_lt (pv 5) pe_int (nomark _)) (pe_call G__law_most_right hr (by rfl) L.m__law_most_right L.F__law_most_right.kp L.b__law_most_right .nil pass0 (pa_cons (pv 3) (pa_cons (pv 4) (pa_cons (pv 5) pa_nil)))) pe_bl))))))))))), ?_⟩
  refine ⟨_, rfl, b, _, _, rfl, hB, by decide, by decide, by decide, by omega, by decide, fun r1 H1 u1 v1 B1 k1 => ?_⟩
  replace B1 := bx1 B1
  obtain ⟨way, rfl⟩ := Int.eq_ofNat_of_zero_le u1
  dsimp only [gName]
  try simp only [L2.start, List.map_cons, List.map_nil, List.length_cons, List.length_nil, List.replicate_succ, List.replicate_zero, List.cons_append, List.nil_append, List.set_cons_succ, List.set_cons_zero, Nat.reduceAdd, Nat.reduceSub, Nat.zero_add]
  refine ⟨_, rfl, (by show 5 ≤ sizeLine; decide), fun L1 nL1 => ?_⟩
  have s2 := same_upd (o := .lst [V.int 3, V.int 5, V.int 3, V.int 3, V.int 3]) nL1
  have eL1 : (upd H1 L1 (.lst [V.int 3, V.int 5, V.int 3, V.int 3, V.int 3])) L1 = some (.lst [V.int 3, V.int 5, V.int 3, V.int 3, V.int 3]) := upd_same
  have B2 := B1.same s2
  have w5 : way < 5 := by omega
  obtain ⟨N, eN, N3, N5, Nw⟩ : ∃ N : Int, atI [V.int 3, V.int 5, V.int 3, V.int 3, V.int 3] (way : Int) = some (V.int N) ∧ 3 ≤ N ∧ N ≤ 5 ∧ (way ≠ 1 → N = 3) := by
    have : way = 0 ∨ way = 1 ∨ way = 2 ∨ way = 3 ∨ way = 4 := by omega
    rcases this with h | h | h | h | h <;> subst h
    · exact ⟨3, rfl, by decide, by decide, fun _ => rfl⟩
    · exact ⟨5, rfl, by decide, by decide, fun z => absurd rfl z⟩
    · exact ⟨3, rfl, by decide, by decide, fun _ => rfl⟩
    · exact ⟨3, rfl, by decide, by decide, fun _ => rfl⟩
    · exact ⟨3, rfl, by decide, by decide, fun _ => rfl⟩
  generalize upd H1 L1 _ = H2 at *
  refine ⟨_, rfl, L1, _, _, _, rfl, rfl, SqL.of eL1, eN, ?_⟩
  refine ⟨b, _, _, rfl, B2, by omega, by omega, by omega, by omega, by decide, fun r3 H3 u3 v3 B3 k3 => ?_⟩
  replace B3 := bx1 B3
  refine ⟨_, _, rfl, rfl, ?_⟩
  obtain ⟨k, ek, k1', k5', kw⟩ : ∃ k : Nat, 1 + r3 = (k : Int) ∧ 1 ≤ k ∧ k ≤ 5 ∧ (way ≠ 1 → k ≤ 3) := ⟨(1 + r3).toNat, by omega, by omega, by omega, fun z => by have := Nw z; omega⟩
  dsimp only [gName]
  rw [ek]
  have k03 := (k1.trans (.ofSame s2)).trans k3
  try simp only [L2.start, List.map_cons, List.map_nil, List.length_cons, List.length_nil, List.replicate_succ, List.replicate_zero, List.cons_append, List.nil_append, List.set_cons_succ, List.set_cons_zero, Nat.reduceAdd, Nat.reduceSub, Nat.zero_add]
  have bm : b ∈ [b] := List.mem_singleton.mpr rfl
  obtain ⟨mw1, mw6, mf1, mf7⟩ := mwl_le kw k5' k1'
  refine ⟨_, rfl, _, rfl, [b], way, 0, k, rfl, w5, by decide, k1', k5', kw, fun z hz => by rw [List.mem_singleton.mp hz]; exact B3.some, fun p gs ws H4 s4 fr NA mA => ?_⟩
  have B4 := B3.same s4
  refine ⟨_, rfl, _, rfl, [b], way, 1, k, rfl, w5, by decide, k1', k5', kw, fun z hz => by rw [List.mem_singleton.mp hz]; exact B4.some, fun p' gs' ws' H5 s5 fr' NB mB => ?_⟩
  have B5 := B4.same s5
  have NA5 := NA.same s5
  refine ⟨_, _, rfl, ?_⟩
  try simp only [L2.start, List.map_cons, List.map_nil, List.length_cons, List.length_nil, List.replicate_succ, List.replicate_zero, List.cons_append, List.nil_append, List.set_cons_succ, List.set_cons_zero, Nat.reduceAdd, Nat.reduceSub, Nat.zero_add]
  obtain ⟨okA, _, lgA, lwA, wiA⟩ := mA
  obtain ⟨okB, g1B, lgB, lwB, wiB⟩ := mB
  generalize mfi way k = m at *
  obtain ⟨_, _, _, dx5, _, _, e5, _⟩ := id NA5
  refine ⟨_, rfl, p.x, dx5, _, rfl, e5, rfl, [b], p, m, gs, _, rfl, NA5, ?_⟩
  dsimp only [gName]
  try simp only [L2.start, List.map_cons, List.map_nil, List.length_cons, List.length_nil, List.replicate_succ, List.replicate_zero, List.cons_append, List.nil_append, List.set_cons_succ, List.set_cons_zero, Nat.reduceAdd, Nat.reduceSub, Nat.zero_add]
  have k05 := k03.trans (.ofSame (s4.trans s5))
  have gwA : GvW (m + gs.length) (nm85 ws) := gw85 (by omega) wiA
  have gwB : GvW (m + gs'.length) (nm85 ws') := gw85 (by omega) wiB
  refine ifS_cut (fun σ' H' => ∃ (p2 : NetP) (gs2 : List Gt) (nm2 sa2 : List (Str × List Nat)), σ' = [some (.ref b), some (.int (way : Int)), some (.int (k : Int)), some (.ref p.x), some (.ref p2.x), some (.int (m : Int)), none] ∧ Keep b H5 H' ∧ BoxAt (c + 30) H' b ∧ NetAt C [b] H' p2 m gs2 nm2 ∧ GsOk m gs2 ∧ GvW (m + gs2.length) nm2 ∧ SoOf sa2 nm2 ∧ (sa85 ws).map (·.1) = sa2.map (·.1) ∧ (sa85 ws).map (fun x => x.2.length) = sa2.map (fun x => x.2.length) ∧ gs2.length ≤ 200) (fun D' hD => ?_) ?_
  · refine ⟨_, rfl, b, _, _, rfl, B5, by decide, by decide, by decide, by omega, by decide, fun r6 H6 u6 v6 B6 k6 => ?_⟩
    replace B6 := bx1 B6
    refine ⟨_, _, rfl, rfl, _, rfl, ite2 (fun z => ?_) (fun z => ?_)⟩
    · refine ⟨_, rfl, _, rfl, _, rfl, [b], [b], b, _, p', m, gs', nm85 ws', sa85 ws', rfl, B6, by omega, NB.keepB k6 B6.some bm, bm, okB, gwB, (by show 1 ≤ 2; decide), (by show 2 ≤ 3; decide), fun x hx z => ?_, g1B rfl, lgB, by omega, by omega, so85 ws', fun z hz => by rw [List.mem_singleton.mp hz]; exact B6.some, fun p3 gs3 nm3 H7 k7 B7 N3 ok3 l3 gw3 en el _ => ?_⟩
      · have h1 : 1 ≤ ws'.length := by omega
        rcases List.mem_cons.mp hx with w | w
        · rw [w] at z
          have : ws' = [] := z
          rw [this] at h1
          cases h1
        · rw [List.mem_singleton.mp w] at z
          have : (ws'.take 1).length = 0 := congrArg List.length z
          rw [List.length_take] at this
          omega
      dsimp only [gName]
      refine hD _ _ ⟨p3, gs3, nm3, nm3, rfl, k6.trans k7, B7.mono (by omega), N3, ok3, by rw [l3]; exact gw3, ⟨.refl _, ?_⟩, ?_, ?_, by omega⟩
      · show (nm3.map (·.1)).Pairwise _
        rw [en]
        exact (so85 ws').2
      · rw [en]
        rfl
      · rw [el]
        show [(ws.take 1).length, ws.length] = [(ws'.take 1).length, ws'.length]
        rw [List.length_take, List.length_take, lwA, lwB]
    · exact hD _ _ ⟨p', gs', nm85 ws', sa85 ws', rfl, k6, B6.mono (by omega), NB.keepB k6 B6.some bm, okB, gwB, so85 ws', rfl, by
        show [(ws.take 1).length, ws.length] = [(ws'.take 1).length, ws'.length]
        rw [List.length_take, List.length_take, lwA, lwB], lgB⟩
  rintro σ' H6 ⟨p2, gs2, nm2, sa2, rfl, k6, B6, NB6, ok2, gw2, so2, en, el, lg2⟩
  have NA6 := NA5.keepB k6 B6.some bm
  have k06 := k05.trans k6
  have mkT : ∀ {G : Hp}, NetAt C [b] G p m gs (nm85 ws) → NetAt C [b] G p2 m gs2 nm2 → Two C G p p2 m gs gs2 (nm85 ws) nm2 (sa85 ws) sa2 := fun {G} n1 n2 => two_of n1 n2 okA ok2 gwA gw2 (by omega) (by omega) (by omega) (by show 2 ≤ 4; decide) (so85 ws) so2 en el
  have mkS : ∀ {G : Hp}, NetAt C [b] G p m gs (nm85 ws) → NetAt C [b] G p2 m gs2 nm2 → Two C G p2 p m gs2 gs nm2 (nm85 ws) sa2 (sa85 ws) := fun {G} n1 n2 => by
    have l2 : nm2.length ≤ 4 := by
      have e1 := congrArg List.length en
      rw [List.length_map, List.length_map] at e1
      have e2 := so2.1.length_eq
      have : (sa85 ws).length = 2 := rfl
      omega
    exact two_of n2 n1 ok2 okA gw2 gwA (by omega) (by omega) (by omega) l2 so2 (so85 ws) en.symm el.symm
  have T6 := mkT NA6 NB6
  have b9 : (2 : Nat) ^ (m + 1) ≤ 2000 := Nat.le_trans (Nat.pow_le_pow_right (by decide) (show m + 1 ≤ 8 by omega)) (by decide)
  dsimp only []
  try simp only [L2.start, List.map_cons, List.map_nil, List.length_cons, List.length_nil, List.replicate_succ, List.replicate_zero, List.cons_append, List.nil_append, List.set_cons_succ, List.set_cons_zero, Nat.reduceAdd, Nat.reduceSub, Nat.zero_add]
  refine ⟨_, rfl, _, rfl, rfl, rfl, p, p2, m, 2000, gs, gs2, _, _, _, _, rfl, T6, by decide, dfs_full T6.p2.hop b9, fun r T H7 er s7 tol => ?_⟩
  have res := T6.p2.res er
  dsimp only [gName]
  try simp only [L2.start, List.map_cons, List.map_nil, List.length_cons, List.length_nil, List.replicate_succ, List.replicate_zero, List.cons_append, List.nil_append, List.set_cons_succ, List.set_cons_zero, Nat.reduceAdd, Nat.reduceSub, Nat.zero_add]
  refine ⟨_, rfl, _, rfl, _, rfl, _, rfl, p, p2, m, gs, gs2, _, _, _, _, T, r, rfl, T6.same s7, by omega, by omega, res, tol.B, fun H8 s8 => ?_⟩
  refine ⟨true, rfl, iteF ?_⟩
  have s68 := s7.trans s8
  have S8 := mkS (NA6.same s68) (NB6.same s68)
  refine ⟨_, rfl, _, rfl, rfl, rfl, p2, p, m, 2000, gs2, gs, _, _, _, _, rfl, S8, by decide, dfs_full S8.p2.hop b9, fun r' T' H9 er' s9 tol' => ?_⟩
  rw [lk_swap] at er'
  obtain rfl : r = r' := Option.some.inj (er.symm.trans er')
  obtain ⟨rs1, rs2, rs3⟩ := res_self r
  refine ⟨_, rfl, resD r, resD r, tol'.dp (Same.refl _), tol.dp (s8.trans s9), rs2, rs2, rs3, _, rfl, ?_⟩
  rw [rs1]
  refine iteF ?_
  dsimp only [tNext]
  have s69 := s68.trans s9
  have NA9 := NA6.same s69
  have NB9 := NB6.same s69
  have B9 := B6.same s69
  have k09 := k06.trans (.ofSame s69)
  try simp only [L2.start, List.map_cons, List.map_nil, List.length_cons, List.length_nil, List.replicate_succ, List.replicate_zero, List.cons_append, List.nil_append, List.set_cons_succ, List.set_cons_zero, Nat.reduceAdd, Nat.reduceSub, Nat.zero_add]
  refine ifS_cut (fun σ' H' => σ' = [some (.ref b), some (.int (way : Int)), some (.int (k : Int)), some (.ref p.x), some (.ref p2.x), some (.int (m : Int)), some (.ref T)] ∧ Keep b H9 H' ∧ H' b ≠ none) (fun D' hD => ?_) ?_
  · cases r with
    | un x =>
      have eT9 : H9 T = some (.tup [.str (Str.ofString "unlike"), .str (SX.S (z0 x))]) := (s8.trans s9) _ _ tol
      refine ⟨_, rfl, T, _, _, _, rfl, rfl, .inl (.inl eT9), rfl, rfl, false, rfl, iteF ?_⟩
      exact hD _ _ ⟨rfl, Keep.refl b H9, B9.some⟩
    | sm ks =>
      obtain ⟨k0, eT, ek, nk⟩ := tol
      have eT9 := (s8.trans s9) _ _ eT
      have ek9 := (s8.trans s9) _ _ ek
      obtain ⟨hks, _, hcv, hwk⟩ := res
      have cb : Cb m [List.replicate m 45] := fun x hx => by
        rw [List.mem_singleton.mp hx]
        exact ⟨List.length_replicate, fun a ha => .inl (List.eq_of_mem_replicate ha)⟩
      have cu : Cubes m ks := ⟨fun x hx => (hks x hx).2, dfs_pw T6.p2.hop _ _ [] ks cb (List.pairwise_singleton _ _) er, hcv⟩
      have b8 : (2 : Nat) ^ m ≤ 512 := Nat.le_trans (Nat.pow_le_pow_right (by decide) (show m ≤ 9 by omega)) (by decide)
      refine ⟨_, rfl, T, _, _, _, rfl, rfl, .inl (.inl eT9), rfl, rfl, true, rfl, iteT ?_⟩
      refine ⟨_, rfl, _, rfl, _, rfl, _, rfl, _, rfl, T, _, _, _, rfl, rfl, .inl (.inl eT9), (atI_nat (j := 1) rfl), b, _, p, p2, m, gs, gs2, _, _, _, _, k0, ks, rfl, B9, by omega, fun G kG hb => mkT (NA9.keepB kG hb bm) (NB9.keepB kG hb bm), by omega, by omega, fun z => B6.some (by rw [← z]; exact nk), ek9, cu, Nat.le_trans (wk_len ks) (by rw [hwk]; exact b8), fun H10 k10 b10 => ?_⟩
      refine ⟨true, rfl, iteF ?_⟩
      exact hD _ _ ⟨rfl, k10, b10⟩
  rintro σ' H10 ⟨rfl, k10, b10⟩
  have T10 := mkT (NA9.keepB k10 b10 bm) (NB9.keepB k10 b10 bm)
  refine ⟨_, rfl, _, _, rfl, rfl, _, rfl, ite2 (fun z => ?_) (fun z => q _ (k09.trans k10))⟩
  exact ⟨_, rfl, _, rfl, _, rfl, p, p2, m, gs, gs2, _, _, _, _, rfl, T10, by omega, fun H11 s11 => q _ ((k09.trans k10).trans (.ofSame s11))⟩
end
section
variable {P : Program} {w : World} {K : PySem.W.Frag} {mg : Str → Option Value} {base : Heap}
variable {C : Addr} {za : Nat → Addr} {zl : Nat → FuncData} {E_TooMuch I_TooMuch : Addr}
def spLaw (K : PySem.W.Frag) : Sp := fun vs H Q _ => ∃ (a : Addr) (ns : List Int), vs = [.ref a] ∧ SqL K H a (ns.map V.int) ∧ ns.length ≤ 63 ∧ ∀ H', Q (.bl true) H'
theorem ok_law {f : Addr} {fd : FuncData} (F : Fun K "law" "law" s_law f fd) (B : Bl mg) (L : LL K mg C za zl E_TooMuch I_TooMuch) : FnOk P w K mg base CX0 11 f fd ["_law_script"] (spLaw K) := by
  have G__law_folded : FnOk P w K mg base CX0 10 (za 33) (zl 33) ["_law_script", "_law_size"] (spFolded K) := ok_folded L.F__law_folded B
  have G__law_box : FnOk P w K mg base CX0 10 (za 31) (zl 31) ["_law_script", "_law_k"] (spBox K) := ok_box L.F__law_box B
  have G__law_right : FnOk P w K mg base CX0 10 (za 43) (zl 43) ["_law_box_here"] spRight85 := (ok__law_right B L).mono (by decide)
  refine F.ok sc_law (fun vs H Q E h => ?_) (fun cdv A outer s H vs Q E hr h => ?_)
  · obtain ⟨a, ns, rfl, _⟩ := h
    rfl
  obtain ⟨a, ns, rfl, hS, h63, q⟩ := h
  refine ⟨_, (pss_cons (ps_set (i := 1) sc_law.nd rfl (.inr rfl) (pe_call G__law_folded hr (by rfl) L.m__law_folded L.F__law_folded.kp L.b__law_folded .nil pass0 (pa_cons (pv 0) (pa_cons pe_int pa_nil))))
    (pss_one (ps_ret (pe_callB (cr_all rfl) (by rfl) B.all boot_all (pa_cons (pe_lc (own := [("_law_k", 2)]) (by rfl) sc_law.nd (pi_range1 (by rfl) B.range (pa_cons (pe_callB (call_max2 rfl) (by rfl) B.max boot_max (pa_cons pe_int (pa_cons (pe_callB call_len_seq (by rfl) B.len PySem.boot_len (pa_cons (pv 1) pa_nil)) pa_nil))) pa_nil)) (blkOk_by (own := [("_law_k", 2)]) (N := ["_law_script", "_law_cells", "_law_k"]) (sc := defScope s_law) (by decide +kernel)) (fun _ _ _ _ _ => pg_name (i := 2) sc_law.nd rfl (Or.inl rfl)) (fun _ _ _ _ _ => pts_nil) (fun _ _ _ _ _ => (pe_call G__law_right hr (by rfl) L.m__law_right L.F__law_right.kp L.b__law_right .nil pass0 (pa_cons (pe_call G__law_box hr (by rfl) L.m__law_box L.F__law_box.kp L.b__law_box .nil pass0 (pa_cons (pv 1) (pa_cons (pv 2) pa_nil))) pa_nil)))) pa_nil))))), ?_⟩
  refine ⟨_, rfl, a, ns, 2, rfl, hS, h63, by decide, by decide, fun p H1 zs np s1 ep lz => ?_⟩
  have lz2 : zs.length ≤ 2 := by omega
  refine ⟨_, rfl, p, _, rfl, .inl (SqL.of ep), _, _, rfl, ?_⟩
  obtain ⟨n, en, hn⟩ : ∃ n : Nat, (if (((zs.map V.int).length : Nat) : Int) > 1 then (((zs.map V.int).length : Nat) : Int) else 1) = (n : Int) ∧ n ≤ 2 := by
    rw [List.length_map]
    split
    · exact ⟨zs.length, rfl, lz2⟩
    · exact ⟨1, rfl, by decide⟩
  rw [en]
  refine ⟨_, rfl, by omega, by omega, fun D nD => ?_⟩
  rw [Int.toNat_natCast]
  refine lc_range (n := n) (fun j H7 => Same H1 H7 ∧ H7 D = some (.lst (List.replicate j (.bl true)))) ⟨same_upd nD, upd_same⟩ ?_ ?_
  · rintro j H7 hj ⟨s7, eD⟩
    refine ⟨rfl, yesT ?_⟩
    refine ⟨_, rfl, _, rfl, p, zs, _, rfl, SqL.of (s7 _ _ ep), by omega, by omega, fun b H8 nb s8 B8 => ?_⟩
    refine ⟨b, _, rfl, B8, by omega, fun H9 k9 => ?_⟩
    have nDb : D ≠ b := ne_of_none eD nb
    refine ⟨_, k9 _ _ (s8 _ _ eD) nDb, ?_, fun x u e => ?_, ?_⟩
    · rw [List.length_replicate]
      exact big_lt (by omega)
    · rw [upd_ne (ne_of_none e nD)]
      exact k9 _ _ (s8 _ _ (s7 _ _ e)) (ne_of_none (s7 _ _ e) nb)
    · rw [upd_same, repl_snoc]
  · rintro H7 ⟨s7, eD⟩
    refine ⟨D, List.replicate n true, rfl, .inl (.inl (by rw [List.map_replicate]; exact eD)), ?_⟩
    rw [all_repl]
    exact q _
end
theorem all_mk {l : PySem.W.OpenLaw} {w : World} {K : PySem.W.Frag} {h : Heap} {mg : Str → Option Value} {fa f1 f2 f3 f4 f5 f6 f7 f8 f9 f10 f11 f12 f13 f14 f15 f16 f17 f18 f19 f20 f21 f22 f23 f24 f25 f26 f27 f28 f29 f30 f31 f32 f33 f34 f35 f36 f37 f38 f39 f40 f41 f42 f43 f44 f45 f46 f47 f48 f49 f50 f51 f52 f53 f54 f55 f56 f57 f58 C : Addr} (X : K.In h) (G : h.Ns mainGlobals mg) (hfa : mg "law" = some (.ref fa))
    {od1 an1 od2 an2 od3 an3 od4 an4 od5 an5 od6 an6 od7 an7 od8 an8 od9 an9 od10 an10 od11 an11 od12 an12 od13 an13 od14 an14 od15 an15 od16 an16 od17 an17 od18 an18 od19 an19 od20 an20 od21 an21 od22 an22 od23 an23 od24 an24 od25 an25 od26 an26 od27 an27 od28 an28 od29 an29 od30 an30 od31 an31 od32 an32 od33 an33 od34 an34 od35 an35 od36 an36 od37 an37 od38 an38 od39 an39 od40 an40 od41 an41 od42 an42 od43 an43 od44 an44 od45 an45 od46 an46 od47 an47 od48 an48 od49 an49 od50 an50 od51 an51 od52 an52 od53 an53 od54 an54 od55 an55 od56 an56 od57 an57 od58 an58 : Option Addr} {sl1 sl2 sl3 sl4 sl5 sl6 sl7 sl8 sl9 sl10 sl11 sl12 sl13 sl14 sl15 sl16 sl17 sl18 sl19 sl20 sl21 sl22 sl23 sl24 sl25 sl26 sl27 sl28 sl29 sl30 sl31 sl32 sl33 sl34 sl35 sl36 sl37 sl38 sl39 sl40 sl41 sl42 sl43 sl44 sl45 sl46 sl47 sl48 sl49 sl50 sl51 sl52 sl53 sl54 sl55 sl56 sl57 sl58 : Array (Option Value)} {oc1 kV1 dc1 pm1 cd1 ct1 oc2 dc2 pm2 cd2 ct2 oc3 kV3 dc3 pm3 cd3 ct3 oc4 kV4 dc4 pm4 cd4 ct4 oc5 kV5 dc5 pm5 cd5 ct5 oc6 kV6 dc6 pm6 cd6 ct6 oc7 kV7 dc7 pm7 cd7 ct7 oc8 kV8 dc8 pm8 cd8 ct8 oc9 kV9 dc9 pm9 cd9 ct9 oc10 kV10 dc10 pm10 cd10 ct10 oc11 kV11 dc11 pm11 cd11 ct11 oc12 kV12 dc12 pm12 cd12 ct12 oc13 kV13 dc13 pm13 cd13 ct13 oc14 kV14 dc14 pm14 cd14 ct14 oc15 kV15 dc15 pm15 cd15 ct15 oc16 kV16 dc16 pm16 cd16 ct16 oc17 kV17 dc17 pm17 cd17 ct17 oc18 kV18 dc18 pm18 cd18 ct18 oc19 dc19 pm19 cd19 ct19 oc20 kV20 dc20 pm20 cd20 ct20 oc21 kV21 dc21 pm21 cd21 ct21 oc22 kV22 dc22 pm22 cd22 ct22 oc23 kV23 dc23 pm23 cd23 ct23 oc24 kV24 dc24 pm24 cd24 ct24 oc25 kV25 dc25 pm25 cd25 ct25 oc26 kV26 dc26 pm26 cd26 ct26 oc27 kV27 dc27 pm27 cd27 ct27 oc28 kV28 dc28 pm28 cd28 ct28 oc29 kV29 dc29 pm29 cd29 ct29 oc30 kV30 dc30 pm30 cd30 ct30 oc31 kV31 dc31 pm31 cd31 ct31 oc32 kV32 dc32 pm32 cd32 ct32 oc33 kV33 dc33 pm33 cd33 ct33 oc34 kV34 dc34 pm34 cd34 ct34 oc35 kV35 dc35 pm35 cd35 ct35 oc36 kV36 dc36 pm36 cd36 ct36 oc37 kV37 dc37 pm37 cd37 ct37 oc38 kV38 dc38 pm38 cd38 ct38 oc39 kV39 dc39 pm39 cd39 ct39 oc40 kV40 dc40 pm40 cd40 ct40 oc41 kV41 dc41 pm41 cd41 ct41 oc42 kV42 dc42 pm42 cd42 ct42 oc43 kV43 dc43 pm43 cd43 ct43 oc44 kV44 dc44 pm44 cd44 ct44 oc45 kV45 dc45 pm45 cd45 ct45 oc46 kV46 dc46 pm46 cd46 ct46 oc47 kV47 dc47 pm47 cd47 ct47 oc48 kV48 dc48 pm48 cd48 ct48 oc49 kV49 dc49 pm49 cd49 ct49 oc50 kV50 dc50 pm50 cd50 ct50 oc51 kV51 dc51 pm51 cd51 ct51 oc52 kV52 dc52 pm52 cd52 ct52 oc53 kV53 dc53 pm53 cd53 ct53 oc54 kV54 dc54 pm54 cd54 ct54 oc55 kV55 dc55 pm55 cd55 ct55 oc56 kV56 dc56 pm56 cd56 ct56 oc57 kV57 dc57 pm57 cd57 ct57 oc58 kV58 dc58 pm58 cd58 ct58 : Value}
     {ETooMuch ITooMuch NTooMuch : Addr} {nmTooMuch qqTooMuch : Str} {bsTooMuch sbTooMuch : List Value} {snTooMuch : List Str} {abTooMuch : Bool} {coTooMuch : Option Bool} {ddTooMuch odITooMuch anITooMuch : Option Addr} {kaTooMuch kbTooMuch kcTooMuch kdTooMuch keTooMuch : Option Value} {ocITooMuch dcITooMuch pmITooMuch cdITooMuch ctITooMuch : Value} {slITooMuch : Array (Option Value)} {p1TooMuch p2TooMuch q1TooMuch q2TooMuch q3TooMuch q4TooMuch : Pos}
    {Dk2 : Addr} {tk2_0 : Tok}
    {Dk19 : Addr} {tk19_0 : Tok}
    (a1 : PySem.W.nsIn K mainGlobals "worth_of" = some (some (.ref f1))) (l1 : K.lookup f1 = some ⟨oc1, od1, .func (PySem.W.fnOf "worth_of" "worth_of" (defArgs s_worth_of) (defBody s_worth_of) (defScope s_worth_of) .none kV1 dc1 pm1 an1 cd1 ct1), sl1⟩) (c1 : PySem.W.codeIn K cd1 "worth_of" = true) (k1 : PySem.W.keepIn K (.ref f1) = true)
    (a2 : PySem.W.nsIn K mainGlobals "ran" = some (some (.ref f2))) (l2 : K.lookup f2 = some ⟨oc2, od2, .func (PySem.W.fnOf "ran" "ran" (defArgs s_ran) (defBody s_ran) (defScope s_ran) .none (.ref Dk2) dc2 pm2 an2 cd2 ct2), sl2⟩) (c2 : PySem.W.codeIn K cd2 "ran" = true) (k2 : PySem.W.keepIn K (.ref f2) = true)
    (w2_0 : PySem.W.nsIn K Dk2 "many" = some (some (.int 1 tk2_0)))
    (a3 : PySem.W.nsIn K mainGlobals "gate_bits" = some (some (.ref f3))) (l3 : K.lookup f3 = some ⟨oc3, od3, .func (PySem.W.fnOf "gate_bits" "gate_bits" (defArgs s_gate_bits) (defBody s_gate_bits) (defScope s_gate_bits) .none kV3 dc3 pm3 an3 cd3 ct3), sl3⟩) (c3 : PySem.W.codeIn K cd3 "gate_bits" = true) (k3 : PySem.W.keepIn K (.ref f3) = true)
    (a4 : PySem.W.nsIn K mainGlobals "all_cases" = some (some (.ref f4))) (l4 : K.lookup f4 = some ⟨oc4, od4, .func (PySem.W.fnOf "all_cases" "all_cases" (defArgs s_all_cases) (defBody s_all_cases) (defScope s_all_cases) .none kV4 dc4 pm4 an4 cd4 ct4), sl4⟩) (c4 : PySem.W.codeIn K cd4 "all_cases" = true) (k4 : PySem.W.keepIn K (.ref f4) = true)
    (a5 : PySem.W.nsIn K mainGlobals "place_in_cases" = some (some (.ref f5))) (l5 : K.lookup f5 = some ⟨oc5, od5, .func (PySem.W.fnOf "place_in_cases" "place_in_cases" (defArgs s_place_in_cases) (defBody s_place_in_cases) (defScope s_place_in_cases) .none kV5 dc5 pm5 an5 cd5 ct5), sl5⟩) (c5 : PySem.W.codeIn K cd5 "place_in_cases" = true) (k5 : PySem.W.keepIn K (.ref f5) = true)
    (a6 : PySem.W.nsIn K mainGlobals "one_case" = some (some (.ref f6))) (l6 : K.lookup f6 = some ⟨oc6, od6, .func (PySem.W.fnOf "one_case" "one_case" (defArgs s_one_case) (defBody s_one_case) (defScope s_one_case) .none kV6 dc6 pm6 an6 cd6 ct6), sl6⟩) (c6 : PySem.W.codeIn K cd6 "one_case" = true) (k6 : PySem.W.keepIn K (.ref f6) = true)
    (a7 : PySem.W.nsIn K mainGlobals "bits_text" = some (some (.ref f7))) (l7 : K.lookup f7 = some ⟨oc7, od7, .func (PySem.W.fnOf "bits_text" "bits_text" (defArgs s_bits_text) (defBody s_bits_text) (defScope s_bits_text) .none kV7 dc7 pm7 an7 cd7 ct7), sl7⟩) (c7 : PySem.W.codeIn K cd7 "bits_text" = true) (k7 : PySem.W.keepIn K (.ref f7) = true)
    (a8 : PySem.W.nsIn K mainGlobals "lies_in" = some (some (.ref f8))) (l8 : K.lookup f8 = some ⟨oc8, od8, .func (PySem.W.fnOf "lies_in" "lies_in" (defArgs s_lies_in) (defBody s_lies_in) (defScope s_lies_in) .none kV8 dc8 pm8 an8 cd8 ct8), sl8⟩) (c8 : PySem.W.codeIn K cd8 "lies_in" = true) (k8 : PySem.W.keepIn K (.ref f8) = true)
    (a9 : PySem.W.nsIn K mainGlobals "common" = some (some (.ref f9))) (l9 : K.lookup f9 = some ⟨oc9, od9, .func (PySem.W.fnOf "common" "common" (defArgs s_common) (defBody s_common) (defScope s_common) .none kV9 dc9 pm9 an9 cd9 ct9), sl9⟩) (c9 : PySem.W.codeIn K cd9 "common" = true) (k9 : PySem.W.keepIn K (.ref f9) = true)
    (a10 : PySem.W.nsIn K mainGlobals "common_sign" = some (some (.ref f10))) (l10 : K.lookup f10 = some ⟨oc10, od10, .func (PySem.W.fnOf "common_sign" "common_sign" (defArgs s_common_sign) (defBody s_common_sign) (defScope s_common_sign) .none kV10 dc10 pm10 an10 cd10 ct10), sl10⟩) (c10 : PySem.W.codeIn K cd10 "common_sign" = true) (k10 : PySem.W.keepIn K (.ref f10) = true)
    (a11 : PySem.W.nsIn K mainGlobals "split" = some (some (.ref f11))) (l11 : K.lookup f11 = some ⟨oc11, od11, .func (PySem.W.fnOf "split" "split" (defArgs s_split) (defBody s_split) (defScope s_split) .none kV11 dc11 pm11 an11 cd11 ct11), sl11⟩) (c11 : PySem.W.codeIn K cd11 "split" = true) (k11 : PySem.W.keepIn K (.ref f11) = true)
    (a12 : PySem.W.nsIn K mainGlobals "hole" = some (some (.ref f12))) (l12 : K.lookup f12 = some ⟨oc12, od12, .func (PySem.W.fnOf "hole" "hole" (defArgs s_hole) (defBody s_hole) (defScope s_hole) .none kV12 dc12 pm12 an12 cd12 ct12), sl12⟩) (c12 : PySem.W.codeIn K cd12 "hole" = true) (k12 : PySem.W.keepIn K (.ref f12) = true)
    (a13 : PySem.W.nsIn K mainGlobals "cases_in" = some (some (.ref f13))) (l13 : K.lookup f13 = some ⟨oc13, od13, .func (PySem.W.fnOf "cases_in" "cases_in" (defArgs s_cases_in) (defBody s_cases_in) (defScope s_cases_in) .none kV13 dc13 pm13 an13 cd13 ct13), sl13⟩) (c13 : PySem.W.codeIn K cd13 "cases_in" = true) (k13 : PySem.W.keepIn K (.ref f13) = true)
    (a14 : PySem.W.nsIn K mainGlobals "is_text_of" = some (some (.ref f14))) (l14 : K.lookup f14 = some ⟨oc14, od14, .func (PySem.W.fnOf "is_text_of" "is_text_of" (defArgs s_is_text_of) (defBody s_is_text_of) (defScope s_is_text_of) .none kV14 dc14 pm14 an14 cd14 ct14), sl14⟩) (c14 : PySem.W.codeIn K cd14 "is_text_of" = true) (k14 : PySem.W.keepIn K (.ref f14) = true)
    (a15 : PySem.W.nsIn K mainGlobals "settled" = some (some (.ref f15))) (l15 : K.lookup f15 = some ⟨oc15, od15, .func (PySem.W.fnOf "settled" "settled" (defArgs s_settled) (defBody s_settled) (defScope s_settled) .none kV15 dc15 pm15 an15 cd15 ct15), sl15⟩) (c15 : PySem.W.codeIn K cd15 "settled" = true) (k15 : PySem.W.keepIn K (.ref f15) = true)
    (a16 : PySem.W.nsIn K mainGlobals "gate_sign" = some (some (.ref f16))) (l16 : K.lookup f16 = some ⟨oc16, od16, .func (PySem.W.fnOf "gate_sign" "gate_sign" (defArgs s_gate_sign) (defBody s_gate_sign) (defScope s_gate_sign) .none kV16 dc16 pm16 an16 cd16 ct16), sl16⟩) (c16 : PySem.W.codeIn K cd16 "gate_sign" = true) (k16 : PySem.W.keepIn K (.ref f16) = true)
    (a17 : PySem.W.nsIn K mainGlobals "turned_sign" = some (some (.ref f17))) (l17 : K.lookup f17 = some ⟨oc17, od17, .func (PySem.W.fnOf "turned_sign" "turned_sign" (defArgs s_turned_sign) (defBody s_turned_sign) (defScope s_turned_sign) .none kV17 dc17 pm17 an17 cd17 ct17), sl17⟩) (c17 : PySem.W.codeIn K cd17 "turned_sign" = true) (k17 : PySem.W.keepIn K (.ref f17) = true)
    (a18 : PySem.W.nsIn K mainGlobals "ruled_sign" = some (some (.ref f18))) (l18 : K.lookup f18 = some ⟨oc18, od18, .func (PySem.W.fnOf "ruled_sign" "ruled_sign" (defArgs s_ruled_sign) (defBody s_ruled_sign) (defScope s_ruled_sign) .none kV18 dc18 pm18 an18 cd18 ct18), sl18⟩) (c18 : PySem.W.codeIn K cd18 "ruled_sign" = true) (k18 : PySem.W.keepIn K (.ref f18) = true)
    (a19 : PySem.W.nsIn K mainGlobals "same" = some (some (.ref f19))) (l19 : K.lookup f19 = some ⟨oc19, od19, .func (PySem.W.fnOf "same" "same" (defArgs s_same) (defBody s_same) (defScope s_same) .none (.ref Dk19) dc19 pm19 an19 cd19 ct19), sl19⟩) (c19 : PySem.W.codeIn K cd19 "same" = true) (k19 : PySem.W.keepIn K (.ref f19) = true)
    (w19_0 : PySem.W.nsIn K Dk19 "most" = some (some (.int 400 tk19_0)))
    (a20 : PySem.W.nsIn K mainGlobals "looked" = some (some (.ref f20))) (l20 : K.lookup f20 = some ⟨oc20, od20, .func (PySem.W.fnOf "looked" "looked" (defArgs s_looked) (defBody s_looked) (defScope s_looked) .none kV20 dc20 pm20 an20 cd20 ct20), sl20⟩) (c20 : PySem.W.codeIn K cd20 "looked" = true) (k20 : PySem.W.keepIn K (.ref f20) = true)
    (a21 : PySem.W.nsIn K mainGlobals "has_open" = some (some (.ref f21))) (l21 : K.lookup f21 = some ⟨oc21, od21, .func (PySem.W.fnOf "has_open" "has_open" (defArgs s_has_open) (defBody s_has_open) (defScope s_has_open) .none kV21 dc21 pm21 an21 cd21 ct21), sl21⟩) (c21 : PySem.W.codeIn K cd21 "has_open" = true) (k21 : PySem.W.keepIn K (.ref f21) = true)
    (a22 : PySem.W.nsIn K mainGlobals "need_fit" = some (some (.ref f22))) (l22 : K.lookup f22 = some ⟨oc22, od22, .func (PySem.W.fnOf "need_fit" "need_fit" (defArgs s_need_fit) (defBody s_need_fit) (defScope s_need_fit) .none kV22 dc22 pm22 an22 cd22 ct22), sl22⟩) (c22 : PySem.W.codeIn K cd22 "need_fit" = true) (k22 : PySem.W.keepIn K (.ref f22) = true)
    (a23 : PySem.W.nsIn K mainGlobals "shows_same" = some (some (.ref f23))) (l23 : K.lookup f23 = some ⟨oc23, od23, .func (PySem.W.fnOf "shows_same" "shows_same" (defArgs s_shows_same) (defBody s_shows_same) (defScope s_shows_same) .none kV23 dc23 pm23 an23 cd23 ct23), sl23⟩) (c23 : PySem.W.codeIn K cd23 "shows_same" = true) (k23 : PySem.W.keepIn K (.ref f23) = true)
    (a24 : PySem.W.nsIn K mainGlobals "shows_unlike" = some (some (.ref f24))) (l24 : K.lookup f24 = some ⟨oc24, od24, .func (PySem.W.fnOf "shows_unlike" "shows_unlike" (defArgs s_shows_unlike) (defBody s_shows_unlike) (defScope s_shows_unlike) .none kV24 dc24 pm24 an24 cd24 ct24), sl24⟩) (c24 : PySem.W.codeIn K cd24 "shows_unlike" = true) (k24 : PySem.W.keepIn K (.ref f24) = true)
    (a25 : PySem.W.nsIn K mainGlobals "sum_wires" = some (some (.ref f25))) (l25 : K.lookup f25 = some ⟨oc25, od25, .func (PySem.W.fnOf "sum_wires" "sum_wires" (defArgs s_sum_wires) (defBody s_sum_wires) (defScope s_sum_wires) .none kV25 dc25 pm25 an25 cd25 ct25), sl25⟩) (c25 : PySem.W.codeIn K cd25 "sum_wires" = true) (k25 : PySem.W.keepIn K (.ref f25) = true)
    (a26 : PySem.W.nsIn K mainGlobals "chosen_wires" = some (some (.ref f26))) (l26 : K.lookup f26 = some ⟨oc26, od26, .func (PySem.W.fnOf "chosen_wires" "chosen_wires" (defArgs s_chosen_wires) (defBody s_chosen_wires) (defScope s_chosen_wires) .none kV26 dc26 pm26 an26 cd26 ct26), sl26⟩) (c26 : PySem.W.codeIn K cd26 "chosen_wires" = true) (k26 : PySem.W.keepIn K (.ref f26) = true)
    (a27 : PySem.W.nsIn K mainGlobals "is_less_wire" = some (some (.ref f27))) (l27 : K.lookup f27 = some ⟨oc27, od27, .func (PySem.W.fnOf "is_less_wire" "is_less_wire" (defArgs s_is_less_wire) (defBody s_is_less_wire) (defScope s_is_less_wire) .none kV27 dc27 pm27 an27 cd27 ct27), sl27⟩) (c27 : PySem.W.codeIn K cd27 "is_less_wire" = true) (k27 : PySem.W.keepIn K (.ref f27) = true)
    (a28 : PySem.W.nsIn K mainGlobals "lengthened" = some (some (.ref f28))) (l28 : K.lookup f28 = some ⟨oc28, od28, .func (PySem.W.fnOf "lengthened" "lengthened" (defArgs s_lengthened) (defBody s_lengthened) (defScope s_lengthened) .none kV28 dc28 pm28 an28 cd28 ct28), sl28⟩) (c28 : PySem.W.codeIn K cd28 "lengthened" = true) (k28 : PySem.W.keepIn K (.ref f28) = true)
    (a29 : PySem.W.nsIn K mainGlobals "raise_wires" = some (some (.ref f29))) (l29 : K.lookup f29 = some ⟨oc29, od29, .func (PySem.W.fnOf "raise_wires" "raise_wires" (defArgs s_raise_wires) (defBody s_raise_wires) (defScope s_raise_wires) .none kV29 dc29 pm29 an29 cd29 ct29), sl29⟩) (c29 : PySem.W.codeIn K cd29 "raise_wires" = true) (k29 : PySem.W.keepIn K (.ref f29) = true)
    (a30 : PySem.W.nsIn K mainGlobals "times_wires" = some (some (.ref f30))) (l30 : K.lookup f30 = some ⟨oc30, od30, .func (PySem.W.fnOf "times_wires" "times_wires" (defArgs s_times_wires) (defBody s_times_wires) (defScope s_times_wires) .none kV30 dc30 pm30 an30 cd30 ct30), sl30⟩) (c30 : PySem.W.codeIn K cd30 "times_wires" = true) (k30 : PySem.W.keepIn K (.ref f30) = true)
    (a31 : PySem.W.nsIn K mainGlobals "_law_box" = some (some (.ref f31))) (l31 : K.lookup f31 = some ⟨oc31, od31, .func (PySem.W.fnOf "_law_box" "_law_box" (defArgs sBox) (defBody sBox) (defScope sBox) .none kV31 dc31 pm31 an31 cd31 ct31), sl31⟩) (c31 : PySem.W.codeIn K cd31 "_law_box" = true) (k31 : PySem.W.keepIn K (.ref f31) = true)
    (a32 : PySem.W.nsIn K mainGlobals "_law_take" = some (some (.ref f32))) (l32 : K.lookup f32 = some ⟨oc32, od32, .func (PySem.W.fnOf "_law_take" "_law_take" (defArgs sTake) (defBody sTake) (defScope sTake) .none kV32 dc32 pm32 an32 cd32 ct32), sl32⟩) (c32 : PySem.W.codeIn K cd32 "_law_take" = true) (k32 : PySem.W.keepIn K (.ref f32) = true)
    (a33 : PySem.W.nsIn K mainGlobals "_law_folded" = some (some (.ref f33))) (l33 : K.lookup f33 = some ⟨oc33, od33, .func (PySem.W.fnOf "_law_folded" "_law_folded" (defArgs sFolded) (defBody sFolded) (defScope sFolded) .none kV33 dc33 pm33 an33 cd33 ct33), sl33⟩) (c33 : PySem.W.codeIn K cd33 "_law_folded" = true) (k33 : PySem.W.keepIn K (.ref f33) = true)
    (a34 : PySem.W.nsIn K mainGlobals "_law_net" = some (some (.ref f34))) (l34 : K.lookup f34 = some ⟨oc34, od34, .func (PySem.W.fnOf "_law_net" "_law_net" (defArgs s__law_net) (defBody s__law_net) (defScope s__law_net) .none kV34 dc34 pm34 an34 cd34 ct34), sl34⟩) (c34 : PySem.W.codeIn K cd34 "_law_net" = true) (k34 : PySem.W.keepIn K (.ref f34) = true)
    (a35 : PySem.W.nsIn K mainGlobals "_law_bent_rows" = some (some (.ref f35))) (l35 : K.lookup f35 = some ⟨oc35, od35, .func (PySem.W.fnOf "_law_bent_rows" "_law_bent_rows" (defArgs s__law_bent_rows) (defBody s__law_bent_rows) (defScope s__law_bent_rows) .none kV35 dc35 pm35 an35 cd35 ct35), sl35⟩) (c35 : PySem.W.codeIn K cd35 "_law_bent_rows" = true) (k35 : PySem.W.keepIn K (.ref f35) = true)
    (a36 : PySem.W.nsIn K mainGlobals "_law_rows_of" = some (some (.ref f36))) (l36 : K.lookup f36 = some ⟨oc36, od36, .func (PySem.W.fnOf "_law_rows_of" "_law_rows_of" (defArgs s__law_rows_of) (defBody s__law_rows_of) (defScope s__law_rows_of) .none kV36 dc36 pm36 an36 cd36 ct36), sl36⟩) (c36 : PySem.W.codeIn K cd36 "_law_rows_of" = true) (k36 : PySem.W.keepIn K (.ref f36) = true)
    (a37 : PySem.W.nsIn K mainGlobals "_law_spoilt" = some (some (.ref f37))) (l37 : K.lookup f37 = some ⟨oc37, od37, .func (PySem.W.fnOf "_law_spoilt" "_law_spoilt" (defArgs s__law_spoilt) (defBody s__law_spoilt) (defScope s__law_spoilt) .none kV37 dc37 pm37 an37 cd37 ct37), sl37⟩) (c37 : PySem.W.codeIn K cd37 "_law_spoilt" = true) (k37 : PySem.W.keepIn K (.ref f37) = true)
    (a38 : PySem.W.nsIn K mainGlobals "_law_paper_right" = some (some (.ref f38))) (l38 : K.lookup f38 = some ⟨oc38, od38, .func (PySem.W.fnOf "_law_paper_right" "_law_paper_right" (defArgs s__law_paper_right) (defBody s__law_paper_right) (defScope s__law_paper_right) .none kV38 dc38 pm38 an38 cd38 ct38), sl38⟩) (c38 : PySem.W.codeIn K cd38 "_law_paper_right" = true) (k38 : PySem.W.keepIn K (.ref f38) = true)
    (a39 : PySem.W.nsIn K mainGlobals "_law_made" = some (some (.ref f39))) (l39 : K.lookup f39 = some ⟨oc39, od39, .func (PySem.W.fnOf "_law_made" "_law_made" (defArgs s__law_made) (defBody s__law_made) (defScope s__law_made) .none kV39 dc39 pm39 an39 cd39 ct39), sl39⟩) (c39 : PySem.W.codeIn K cd39 "_law_made" = true) (k39 : PySem.W.keepIn K (.ref f39) = true)
    (a40 : PySem.W.nsIn K mainGlobals "_law_looked_at" = some (some (.ref f40))) (l40 : K.lookup f40 = some ⟨oc40, od40, .func (PySem.W.fnOf "_law_looked_at" "_law_looked_at" (defArgs s__law_looked_at) (defBody s__law_looked_at) (defScope s__law_looked_at) .none kV40 dc40 pm40 an40 cd40 ct40), sl40⟩) (c40 : PySem.W.codeIn K cd40 "_law_looked_at" = true) (k40 : PySem.W.keepIn K (.ref f40) = true)
    (a41 : PySem.W.nsIn K mainGlobals "_law_most_right" = some (some (.ref f41))) (l41 : K.lookup f41 = some ⟨oc41, od41, .func (PySem.W.fnOf "_law_most_right" "_law_most_right" (defArgs s__law_most_right) (defBody s__law_most_right) (defScope s__law_most_right) .none kV41 dc41 pm41 an41 cd41 ct41), sl41⟩) (c41 : PySem.W.codeIn K cd41 "_law_most_right" = true) (k41 : PySem.W.keepIn K (.ref f41) = true)
    (a42 : PySem.W.nsIn K mainGlobals "_law_cubes_right" = some (some (.ref f42))) (l42 : K.lookup f42 = some ⟨oc42, od42, .func (PySem.W.fnOf "_law_cubes_right" "_law_cubes_right" (defArgs s__law_cubes_right) (defBody s__law_cubes_right) (defScope s__law_cubes_right) .none kV42 dc42 pm42 an42 cd42 ct42), sl42⟩) (c42 : PySem.W.codeIn K cd42 "_law_cubes_right" = true) (k42 : PySem.W.keepIn K (.ref f42) = true)
    (a43 : PySem.W.nsIn K mainGlobals "_law_right" = some (some (.ref f43))) (l43 : K.lookup f43 = some ⟨oc43, od43, .func (PySem.W.fnOf "_law_right" "_law_right" (defArgs s__law_right) (defBody s__law_right) (defScope s__law_right) .none kV43 dc43 pm43 an43 cd43 ct43), sl43⟩) (c43 : PySem.W.codeIn K cd43 "_law_right" = true) (k43 : PySem.W.keepIn K (.ref f43) = true)
    (a44 : PySem.W.nsIn K mainGlobals "law" = some (some (.ref f44))) (l44 : K.lookup f44 = some ⟨oc44, od44, .func (PySem.W.fnOf "law" "law" (defArgs s_law) (defBody s_law) (defScope s_law) .none kV44 dc44 pm44 an44 cd44 ct44), sl44⟩) (c44 : PySem.W.codeIn K cd44 "law" = true) (k44 : PySem.W.keepIn K (.ref f44) = true)
    (aC : PySem.W.nsIn K mainGlobals "Net" = some (some (.ref C)))
    (pgC : PySem.W.plainGet K C Str.empty = true) (hdC : PySem.W.hasDictIn K C = true) (poC : PySem.W.plainOver K C = true) (saC : PySem.W.findIn K (.ref C) "__setattr__" = some (some (.builtin "object.__setattr__"))) (mkC : PySem.W.makesIn K C = true) (kcC : PySem.W.keepIn K (.ref C) = true)
    (naC0 : PySem.W.findIn K (.ref C) "input_count" = some none)
    (naC1 : PySem.W.findIn K (.ref C) "made" = some none)
    (naC2 : PySem.W.findIn K (.ref C) "depths" = some none)
    (naC3 : PySem.W.findIn K (.ref C) "by_name" = some none)
    (a45 : PySem.W.findIn K (.ref C) "__init__" = some (some (.ref f45))) (i45 : PySem.W.isFn K (.ref f45) = true) (l45 : K.lookup f45 = some ⟨oc45, od45, .func (PySem.W.fnOf "__init__" "Net.__init__" (defArgs s_Net___init__) (defBody s_Net___init__) (defScope s_Net___init__) .none kV45 dc45 pm45 an45 cd45 ct45), sl45⟩) (c45 : PySem.W.codeIn K cd45 "Net.__init__" = true) (k45 : PySem.W.keepIn K (.ref f45) = true)
    (a46 : PySem.W.findIn K (.ref C) "both" = some (some (.ref f46))) (i46 : PySem.W.isFn K (.ref f46) = true) (l46 : K.lookup f46 = some ⟨oc46, od46, .func (PySem.W.fnOf "both" "Net.both" (defArgs s_Net_both) (defBody s_Net_both) (defScope s_Net_both) .none kV46 dc46 pm46 an46 cd46 ct46), sl46⟩) (c46 : PySem.W.codeIn K cd46 "Net.both" = true) (k46 : PySem.W.keepIn K (.ref f46) = true)
    (a47 : PySem.W.findIn K (.ref C) "either" = some (some (.ref f47))) (i47 : PySem.W.isFn K (.ref f47) = true) (l47 : K.lookup f47 = some ⟨oc47, od47, .func (PySem.W.fnOf "either" "Net.either" (defArgs s_Net_either) (defBody s_Net_either) (defScope s_Net_either) .none kV47 dc47 pm47 an47 cd47 ct47), sl47⟩) (c47 : PySem.W.codeIn K cd47 "Net.either" = true) (k47 : PySem.W.keepIn K (.ref f47) = true)
    (a48 : PySem.W.findIn K (.ref C) "unlike" = some (some (.ref f48))) (i48 : PySem.W.isFn K (.ref f48) = true) (l48 : K.lookup f48 = some ⟨oc48, od48, .func (PySem.W.fnOf "unlike" "Net.unlike" (defArgs s_Net_unlike) (defBody s_Net_unlike) (defScope s_Net_unlike) .none kV48 dc48 pm48 an48 cd48 ct48), sl48⟩) (c48 : PySem.W.codeIn K cd48 "Net.unlike" = true) (k48 : PySem.W.keepIn K (.ref f48) = true)
    (a49 : PySem.W.findIn K (.ref C) "other" = some (some (.ref f49))) (i49 : PySem.W.isFn K (.ref f49) = true) (l49 : K.lookup f49 = some ⟨oc49, od49, .func (PySem.W.fnOf "other" "Net.other" (defArgs s_Net_other) (defBody s_Net_other) (defScope s_Net_other) .none kV49 dc49 pm49 an49 cd49 ct49), sl49⟩) (c49 : PySem.W.codeIn K cd49 "Net.other" = true) (k49 : PySem.W.keepIn K (.ref f49) = true)
    (a50 : PySem.W.findIn K (.ref C) "fixed" = some (some (.ref f50))) (i50 : PySem.W.isFn K (.ref f50) = true) (l50 : K.lookup f50 = some ⟨oc50, od50, .func (PySem.W.fnOf "fixed" "Net.fixed" (defArgs s_Net_fixed) (defBody s_Net_fixed) (defScope s_Net_fixed) .none kV50 dc50 pm50 an50 cd50 ct50), sl50⟩) (c50 : PySem.W.codeIn K cd50 "Net.fixed" = true) (k50 : PySem.W.keepIn K (.ref f50) = true)
    (a51 : PySem.W.findIn K (.ref C) "put" = some (some (.ref f51))) (i51 : PySem.W.isFn K (.ref f51) = true) (l51 : K.lookup f51 = some ⟨oc51, od51, .func (PySem.W.fnOf "put" "Net.put" (defArgs s_Net_put) (defBody s_Net_put) (defScope s_Net_put) .none kV51 dc51 pm51 an51 cd51 ct51), sl51⟩) (c51 : PySem.W.codeIn K cd51 "Net.put" = true) (k51 : PySem.W.keepIn K (.ref f51) = true)
    (a52 : PySem.W.findIn K (.ref C) "put_gate" = some (some (.ref f52))) (i52 : PySem.W.isFn K (.ref f52) = true) (l52 : K.lookup f52 = some ⟨oc52, od52, .func (PySem.W.fnOf "put_gate" "Net.put_gate" (defArgs s_Net_put_gate) (defBody s_Net_put_gate) (defScope s_Net_put_gate) .none kV52 dc52 pm52 an52 cd52 ct52), sl52⟩) (c52 : PySem.W.codeIn K cd52 "Net.put_gate" = true) (k52 : PySem.W.keepIn K (.ref f52) = true)
    (a53 : PySem.W.findIn K (.ref C) "need" = some (some (.ref f53))) (i53 : PySem.W.isFn K (.ref f53) = true) (l53 : K.lookup f53 = some ⟨oc53, od53, .func (PySem.W.fnOf "need" "Net.need" (defArgs s_Net_need) (defBody s_Net_need) (defScope s_Net_need) .none kV53 dc53 pm53 an53 cd53 ct53), sl53⟩) (c53 : PySem.W.codeIn K cd53 "Net.need" = true) (k53 : PySem.W.keepIn K (.ref f53) = true)
    (a54 : PySem.W.findIn K (.ref C) "give" = some (some (.ref f54))) (i54 : PySem.W.isFn K (.ref f54) = true) (l54 : K.lookup f54 = some ⟨oc54, od54, .func (PySem.W.fnOf "give" "Net.give" (defArgs s_Net_give) (defBody s_Net_give) (defScope s_Net_give) .none kV54 dc54 pm54 an54 cd54 ct54), sl54⟩) (c54 : PySem.W.codeIn K cd54 "Net.give" = true) (k54 : PySem.W.keepIn K (.ref f54) = true)
    (a55 : PySem.W.findIn K (.ref C) "given" = some (some (.ref f55))) (i55 : PySem.W.isFn K (.ref f55) = true) (l55 : K.lookup f55 = some ⟨oc55, od55, .func (PySem.W.fnOf "given" "Net.given" (defArgs s_Net_given) (defBody s_Net_given) (defScope s_Net_given) .none kV55 dc55 pm55 an55 cd55 ct55), sl55⟩) (c55 : PySem.W.codeIn K cd55 "Net.given" = true) (k55 : PySem.W.keepIn K (.ref f55) = true)
    (a56 : PySem.W.findIn K (.ref C) "names" = some (some (.ref f56))) (i56 : PySem.W.isFn K (.ref f56) = true) (l56 : K.lookup f56 = some ⟨oc56, od56, .func (PySem.W.fnOf "names" "Net.names" (defArgs s_Net_names) (defBody s_Net_names) (defScope s_Net_names) .none kV56 dc56 pm56 an56 cd56 ct56), sl56⟩) (c56 : PySem.W.codeIn K cd56 "Net.names" = true) (k56 : PySem.W.keepIn K (.ref f56) = true)
    (a57 : PySem.W.findIn K (.ref C) "inputs" = some (some (.ref f57))) (i57 : PySem.W.isFn K (.ref f57) = true) (l57 : K.lookup f57 = some ⟨oc57, od57, .func (PySem.W.fnOf "inputs" "Net.inputs" (defArgs s_Net_inputs) (defBody s_Net_inputs) (defScope s_Net_inputs) .none kV57 dc57 pm57 an57 cd57 ct57), sl57⟩) (c57 : PySem.W.codeIn K cd57 "Net.inputs" = true) (k57 : PySem.W.keepIn K (.ref f57) = true)
    (a58 : PySem.W.findIn K (.ref C) "gates" = some (some (.ref f58))) (i58 : PySem.W.isFn K (.ref f58) = true) (l58 : K.lookup f58 = some ⟨oc58, od58, .func (PySem.W.fnOf "gates" "Net.gates" (defArgs s_Net_gates) (defBody s_Net_gates) (defScope s_Net_gates) .none kV58 dc58 pm58 an58 cd58 ct58), sl58⟩) (c58 : PySem.W.codeIn K cd58 "Net.gates" = true) (k58 : PySem.W.keepIn K (.ref f58) = true)
    (z1 : PySem.W.nsIn K mainGlobals "len" = some none)
    (z2 : PySem.W.nsIn K mainGlobals "abs" = some none)
    (z3 : PySem.W.nsIn K mainGlobals "int" = some none)
    (z4 : PySem.W.nsIn K mainGlobals "divmod" = some none)
    (z5 : PySem.W.nsIn K mainGlobals "list" = some none)
    (z6 : PySem.W.nsIn K mainGlobals "enumerate" = some none)
    (z7 : PySem.W.nsIn K mainGlobals "isinstance" = some none)
    (z8 : PySem.W.nsIn K mainGlobals "tuple" = some none)
    (z9 : PySem.W.nsIn K mainGlobals "str" = some none)
    (z10 : PySem.W.nsIn K mainGlobals "bool" = some none)
    (z11 : PySem.W.nsIn K mainGlobals "zip" = some none)
    (z12 : PySem.W.nsIn K mainGlobals "all" = some none)
    (z13 : PySem.W.nsIn K mainGlobals "range" = some none)
    (z14 : PySem.W.nsIn K mainGlobals "max" = some none)
    (z15 : PySem.W.nsIn K mainGlobals "any" = some none)
    (z16 : PySem.W.nsIn K mainGlobals "min" = some none)
    (z17 : PySem.W.nsIn K mainGlobals "sum" = some none)
    (zsorted : PySem.W.nsIn K mainGlobals "sorted" = some none)
    (zdict : PySem.W.nsIn K mainGlobals "dict" = some none)
    (aETooMuch : PySem.W.nsIn K mainGlobals "TooMuch" = some (some (.ref ETooMuch)))
    (cETooMuch : K.lookup ETooMuch = some (excClassObj nmTooMuch qqTooMuch ETooMuch NTooMuch bsTooMuch [.type "OverflowError", .type "ArithmeticError", .type "Exception", .type "BaseException", .type "object"] true snTooMuch sbTooMuch abTooMuch coTooMuch ddTooMuch kaTooMuch kbTooMuch kcTooMuch kdTooMuch keTooMuch "OverflowError.__new__"))
    (saETooMuch : PySem.W.findIn K (.ref ETooMuch) "__setattr__" = some (some (.builtin "object.__setattr__")))
    (gaETooMuch : PySem.W.findIn K (.ref ETooMuch) "__getattribute__" = some (some (.builtin "BaseException.__getattribute__")))
    (ggETooMuch : PySem.W.findIn K (.ref ETooMuch) "__getattr__" = some none)
    (nwETooMuch : PySem.W.findIn K (.ref ETooMuch) "what" = some none)
    (inETooMuch : PySem.W.findIn K (.ref ETooMuch) "__init__" = some (some (.ref ITooMuch)))
    (tiETooMuch : PySem.W.typeIn K (.ref ITooMuch) = some (.type "function"))
    (liETooMuch : K.lookup ITooMuch = some ⟨ocITooMuch, odITooMuch, .func (PySem.W.fnOf "__init__" "TooMuch.__init__" (PySem.WhX.whA p1TooMuch p2TooMuch) (PySem.WhX.whB q1TooMuch q2TooMuch q3TooMuch q4TooMuch) PySem.WhX.whS .none .none dcITooMuch pmITooMuch anITooMuch cdITooMuch ctITooMuch), slITooMuch⟩)
    (ciETooMuch : PySem.W.codeIn K cdITooMuch "TooMuch.__init__" = true)
    (kcETooMuch : PySem.W.keepIn K (.ref ETooMuch) = true)
    (exETooMuch : PySem.W.subIn K (.ref ETooMuch) (.type "BaseException") = some true)
    (tyETooMuch : PySem.W.typeIn K (.ref ETooMuch) = some (.type "type"))
    (hdETooMuch : PySem.W.hasDictIn K ETooMuch = true)
    (clETooMuch : PySem.W.findIn K (.ref ETooMuch) "__class__" = some (some (.builtin "object.__class__")))
    (spETooMuch : PySem.W.specialIn K (.builtin "object.__class__") "__get__" = some (some (.builtin "getset_descriptor.__get__")))
    (tkETooMuch : PySem.W.takesIn K (.builtin "object.__class__") = some true)
    (mrETooMuch : PySem.W.mroIn K ETooMuch (.type "object") = some true)
    (suETooMuch : PySem.W.subIn K (.ref ETooMuch) (.ref ETooMuch) = some true)
    : ∃ fd : FuncData, (∀ (s : Shared) (v : Value), BindsTo s fd ⟨[v], []⟩ [("_law_script", v)]) ∧ ∀ base : Heap, K.In base → base.Ns mainGlobals mg → FnOk l.prog w K mg base CX0 11 fa fd ["_law_script"] (spLaw K) := by
  have e := hfa.symm.trans (PySem.W.mg_of X G a44)
  cases e
  have F1 := fun_mk (st := s_worth_of) l1 c1 k1
  have b1 := F1.binds (ps := ["digits"]) fun _ _ _ _ _ _ us hl => match us, hl with | [_], _ => rfl
  have m1 := PySem.W.mg_of X G a1
  have F2 := fun_mk (st := s_ran) l2 c2 k2
  have m2 := PySem.W.mg_of X G a2
  have F3 := fun_mk (st := s_gate_bits) l3 c3 k3
  have b3 := F3.binds (ps := ["gate", "wires", "full"]) fun _ _ _ _ _ _ us hl => match us, hl with | [_, _, _], _ => rfl
  have m3 := PySem.W.mg_of X G a3
  have F4 := fun_mk (st := s_all_cases) l4 c4 k4
  have b4 := F4.binds (ps := ["many"]) fun _ _ _ _ _ _ us hl => match us, hl with | [_], _ => rfl
  have m4 := PySem.W.mg_of X G a4
  have F5 := fun_mk (st := s_place_in_cases) l5 c5 k5
  have b5 := F5.binds (ps := ["place", "many"]) fun _ _ _ _ _ _ us hl => match us, hl with | [_, _], _ => rfl
  have m5 := PySem.W.mg_of X G a5
  have F6 := fun_mk (st := s_one_case) l6 c6 k6
  have b6 := F6.binds (ps := ["net", "word"]) fun _ _ _ _ _ _ us hl => match us, hl with | [_, _], _ => rfl
  have m6 := PySem.W.mg_of X G a6
  have F7 := fun_mk (st := s_bits_text) l7 c7 k7
  have b7 := F7.binds (ps := ["number", "many"]) fun _ _ _ _ _ _ us hl => match us, hl with | [_, _], _ => rfl
  have m7 := PySem.W.mg_of X G a7
  have F8 := fun_mk (st := s_lies_in) l8 c8 k8
  have b8 := F8.binds (ps := ["bits", "cube"]) fun _ _ _ _ _ _ us hl => match us, hl with | [_, _], _ => rfl
  have m8 := PySem.W.mg_of X G a8
  have F9 := fun_mk (st := s_common) l9 c9 k9
  have b9 := F9.binds (ps := ["one", "other"]) fun _ _ _ _ _ _ us hl => match us, hl with | [_, _], _ => rfl
  have m9 := PySem.W.mg_of X G a9
  have F10 := fun_mk (st := s_common_sign) l10 c10 k10
  have b10 := F10.binds (ps := ["sign", "other_sign"]) fun _ _ _ _ _ _ us hl => match us, hl with | [_, _], _ => rfl
  have m10 := PySem.W.mg_of X G a10
  have F11 := fun_mk (st := s_split) l11 c11 k11
  have b11 := F11.binds (ps := ["cube", "place"]) fun _ _ _ _ _ _ us hl => match us, hl with | [_, _], _ => rfl
  have m11 := PySem.W.mg_of X G a11
  have F12 := fun_mk (st := s_hole) l12 c12 k12
  have b12 := F12.binds (ps := ["cubes", "many"]) fun _ _ _ _ _ _ us hl => match us, hl with | [_, _], _ => rfl
  have m12 := PySem.W.mg_of X G a12
  have F13 := fun_mk (st := s_cases_in) l13 c13 k13
  have b13 := F13.binds (ps := ["cube", "values", "many"]) fun _ _ _ _ _ _ us hl => match us, hl with | [_, _, _], _ => rfl
  have m13 := PySem.W.mg_of X G a13
  have F14 := fun_mk (st := s_is_text_of) l14 c14 k14
  have b14 := F14.binds (ps := ["signs", "many", "thing"]) fun _ _ _ _ _ _ us hl => match us, hl with | [_, _, _], _ => rfl
  have m14 := PySem.W.mg_of X G a14
  have F15 := fun_mk (st := s_settled) l15 c15 k15
  have b15 := F15.binds (ps := ["net", "cube"]) fun _ _ _ _ _ _ us hl => match us, hl with | [_, _], _ => rfl
  have m15 := PySem.W.mg_of X G a15
  have F16 := fun_mk (st := s_gate_sign) l16 c16 k16
  have b16 := F16.binds (ps := ["gate", "signs"]) fun _ _ _ _ _ _ us hl => match us, hl with | [_, _], _ => rfl
  have m16 := PySem.W.mg_of X G a16
  have F17 := fun_mk (st := s_turned_sign) l17 c17 k17
  have b17 := F17.binds (ps := ["sign"]) fun _ _ _ _ _ _ us hl => match us, hl with | [_], _ => rfl
  have m17 := PySem.W.mg_of X G a17
  have F18 := fun_mk (st := s_ruled_sign) l18 c18 k18
  have b18 := F18.binds (ps := ["one", "other", "ruling"]) fun _ _ _ _ _ _ us hl => match us, hl with | [_, _, _], _ => rfl
  have m18 := PySem.W.mg_of X G a18
  have F19 := fun_mk (st := s_same) l19 c19 k19
  have m19 := PySem.W.mg_of X G a19
  have F20 := fun_mk (st := s_looked) l20 c20 k20
  have b20 := F20.binds (ps := ["one", "other", "cube"]) fun _ _ _ _ _ _ us hl => match us, hl with | [_, _, _], _ => rfl
  have m20 := PySem.W.mg_of X G a20
  have F21 := fun_mk (st := s_has_open) l21 c21 k21
  have b21 := F21.binds (ps := ["told"]) fun _ _ _ _ _ _ us hl => match us, hl with | [_], _ => rfl
  have m21 := PySem.W.mg_of X G a21
  have F22 := fun_mk (st := s_need_fit) l22 c22 k22
  have b22 := F22.binds (ps := ["one", "other"]) fun _ _ _ _ _ _ us hl => match us, hl with | [_, _], _ => rfl
  have m22 := PySem.W.mg_of X G a22
  have F23 := fun_mk (st := s_shows_same) l23 c23 k23
  have b23 := F23.binds (ps := ["one", "other", "thing"]) fun _ _ _ _ _ _ us hl => match us, hl with | [_, _, _], _ => rfl
  have m23 := PySem.W.mg_of X G a23
  have F24 := fun_mk (st := s_shows_unlike) l24 c24 k24
  have b24 := F24.binds (ps := ["one", "other", "thing"]) fun _ _ _ _ _ _ us hl => match us, hl with | [_, _, _], _ => rfl
  have m24 := PySem.W.mg_of X G a24
  have F25 := fun_mk (st := s_sum_wires) l25 c25 k25
  have b25 := F25.binds (ps := ["net", "ones", "others", "carry"]) fun _ _ _ _ _ _ us hl => match us, hl with | [_, _, _, _], _ => rfl
  have m25 := PySem.W.mg_of X G a25
  have F26 := fun_mk (st := s_chosen_wires) l26 c26 k26
  have b26 := F26.binds (ps := ["net", "wire", "ones", "others"]) fun _ _ _ _ _ _ us hl => match us, hl with | [_, _, _, _], _ => rfl
  have m26 := PySem.W.mg_of X G a26
  have F27 := fun_mk (st := s_is_less_wire) l27 c27 k27
  have b27 := F27.binds (ps := ["net", "ones", "others"]) fun _ _ _ _ _ _ us hl => match us, hl with | [_, _, _], _ => rfl
  have m27 := PySem.W.mg_of X G a27
  have F28 := fun_mk (st := s_lengthened) l28 c28 k28
  have b28 := F28.binds (ps := ["net", "wires", "many"]) fun _ _ _ _ _ _ us hl => match us, hl with | [_, _, _], _ => rfl
  have m28 := PySem.W.mg_of X G a28
  have F29 := fun_mk (st := s_raise_wires) l29 c29 k29
  have b29 := F29.binds (ps := ["net", "ones", "wire"]) fun _ _ _ _ _ _ us hl => match us, hl with | [_, _, _], _ => rfl
  have m29 := PySem.W.mg_of X G a29
  have F30 := fun_mk (st := s_times_wires) l30 c30 k30
  have b30 := F30.binds (ps := ["net", "ones", "others"]) fun _ _ _ _ _ _ us hl => match us, hl with | [_, _, _], _ => rfl
  have m30 := PySem.W.mg_of X G a30
  have F31 := fun_mk (st := sBox) l31 c31 k31
  have b31 := F31.binds (ps := ["_law_script", "_law_k"]) fun _ _ _ _ _ _ us hl => match us, hl with | [_, _], _ => rfl
  have m31 := PySem.W.mg_of X G a31
  have F32 := fun_mk (st := sTake) l32 c32 k32
  have b32 := F32.binds (ps := ["_law_box_here", "_law_size"]) fun _ _ _ _ _ _ us hl => match us, hl with | [_, _], _ => rfl
  have m32 := PySem.W.mg_of X G a32
  have F33 := fun_mk (st := sFolded) l33 c33 k33
  have b33 := F33.binds (ps := ["_law_script", "_law_size"]) fun _ _ _ _ _ _ us hl => match us, hl with | [_, _], _ => rfl
  have m33 := PySem.W.mg_of X G a33
  have F34 := fun_mk (st := s__law_net) l34 c34 k34
  have b34 := F34.binds (ps := ["_law_first", "_law_rows", "_law_given"]) fun _ _ _ _ _ _ us hl => match us, hl with | [_, _, _], _ => rfl
  have m34 := PySem.W.mg_of X G a34
  have F35 := fun_mk (st := s__law_bent_rows) l35 c35 k35
  have b35 := F35.binds (ps := ["_law_box_here", "_law_first", "_law_rows"]) fun _ _ _ _ _ _ us hl => match us, hl with | [_, _, _], _ => rfl
  have m35 := PySem.W.mg_of X G a35
  have F36 := fun_mk (st := s__law_rows_of) l36 c36 k36
  have b36 := F36.binds (ps := ["_law_net_here"]) fun _ _ _ _ _ _ us hl => match us, hl with | [_], _ => rfl
  have m36 := PySem.W.mg_of X G a36
  have F37 := fun_mk (st := s__law_spoilt) l37 c37 k37
  have b37 := F37.binds (ps := ["_law_box_here", "_law_first", "_law_net_here"]) fun _ _ _ _ _ _ us hl => match us, hl with | [_, _, _], _ => rfl
  have m37 := PySem.W.mg_of X G a37
  have F38 := fun_mk (st := s__law_paper_right) l38 c38 k38
  have b38 := F38.binds (ps := ["_law_one", "_law_other", "_law_first", "_law_told"]) fun _ _ _ _ _ _ us hl => match us, hl with | [_, _, _, _], _ => rfl
  have m38 := PySem.W.mg_of X G a38
  have F39 := fun_mk (st := s__law_made) l39 c39 k39
  have b39 := F39.binds (ps := ["_law_way", "_law_which", "_law_size"]) fun _ _ _ _ _ _ us hl => match us, hl with | [_, _, _], _ => rfl
  have m39 := PySem.W.mg_of X G a39
  have F40 := fun_mk (st := s__law_looked_at) l40 c40 k40
  have b40 := F40.binds (ps := ["_law_one", "_law_other", "_law_limit"]) fun _ _ _ _ _ _ us hl => match us, hl with | [_, _, _], _ => rfl
  have m40 := PySem.W.mg_of X G a40
  have F41 := fun_mk (st := s__law_most_right) l41 c41 k41
  have b41 := F41.binds (ps := ["_law_one", "_law_other", "_law_first"]) fun _ _ _ _ _ _ us hl => match us, hl with | [_, _, _], _ => rfl
  have m41 := PySem.W.mg_of X G a41
  have F42 := fun_mk (st := s__law_cubes_right) l42 c42 k42
  have b42 := F42.binds (ps := ["_law_box_here", "_law_one", "_law_other", "_law_first", "_law_cubes"]) fun _ _ _ _ _ _ us hl => match us, hl with | [_, _, _, _, _], _ => rfl
  have m42 := PySem.W.mg_of X G a42
  have F43 := fun_mk (st := s__law_right) l43 c43 k43
  have b43 := F43.binds (ps := ["_law_box_here"]) fun _ _ _ _ _ _ us hl => match us, hl with | [_], _ => rfl
  have m43 := PySem.W.mg_of X G a43
  have F44 := fun_mk (st := s_law) l44 c44 k44
  have F45 := fun_mk (st := s_Net___init__) l45 c45 k45
  have b45 := F45.binds (ps := ["self", "many"]) fun _ _ _ _ _ _ us hl => match us, hl with | [_, _], _ => rfl
  have M45 : Meth K C "__init__" f45 := ⟨a45, i45, k45⟩
  have F46 := fun_mk (st := s_Net_both) l46 c46 k46
  have b46 := F46.binds (ps := ["self", "a", "b"]) fun _ _ _ _ _ _ us hl => match us, hl with | [_, _, _], _ => rfl
  have M46 : Meth K C "both" f46 := ⟨a46, i46, k46⟩
  have F47 := fun_mk (st := s_Net_either) l47 c47 k47
  have b47 := F47.binds (ps := ["self", "a", "b"]) fun _ _ _ _ _ _ us hl => match us, hl with | [_, _, _], _ => rfl
  have M47 : Meth K C "either" f47 := ⟨a47, i47, k47⟩
  have F48 := fun_mk (st := s_Net_unlike) l48 c48 k48
  have b48 := F48.binds (ps := ["self", "a", "b"]) fun _ _ _ _ _ _ us hl => match us, hl with | [_, _, _], _ => rfl
  have M48 : Meth K C "unlike" f48 := ⟨a48, i48, k48⟩
  have F49 := fun_mk (st := s_Net_other) l49 c49 k49
  have b49 := F49.binds (ps := ["self", "a"]) fun _ _ _ _ _ _ us hl => match us, hl with | [_, _], _ => rfl
  have M49 : Meth K C "other" f49 := ⟨a49, i49, k49⟩
  have F50 := fun_mk (st := s_Net_fixed) l50 c50 k50
  have b50 := F50.binds (ps := ["self", "bit"]) fun _ _ _ _ _ _ us hl => match us, hl with | [_, _], _ => rfl
  have M50 : Meth K C "fixed" f50 := ⟨a50, i50, k50⟩
  have F51 := fun_mk (st := s_Net_put) l51 c51 k51
  have b51 := F51.binds (ps := ["self", "kind", "wires"]) fun _ _ _ _ _ _ us hl => match us, hl with | [_, _, _], _ => rfl
  have M51 : Meth K C "put" f51 := ⟨a51, i51, k51⟩
  have F52 := fun_mk (st := s_Net_put_gate) l52 c52 k52
  have b52 := F52.binds (ps := ["self", "gate", "depth"]) fun _ _ _ _ _ _ us hl => match us, hl with | [_, _, _], _ => rfl
  have M52 : Meth K C "put_gate" f52 := ⟨a52, i52, k52⟩
  have F53 := fun_mk (st := s_Net_need) l53 c53 k53
  have b53 := F53.binds (ps := ["self", "wires"]) fun _ _ _ _ _ _ us hl => match us, hl with | [_, _], _ => rfl
  have M53 : Meth K C "need" f53 := ⟨a53, i53, k53⟩
  have F54 := fun_mk (st := s_Net_give) l54 c54 k54
  have b54 := F54.binds (ps := ["self", "name", "wires"]) fun _ _ _ _ _ _ us hl => match us, hl with | [_, _, _], _ => rfl
  have M54 : Meth K C "give" f54 := ⟨a54, i54, k54⟩
  have F55 := fun_mk (st := s_Net_given) l55 c55 k55
  have b55 := F55.binds (ps := ["self", "name"]) fun _ _ _ _ _ _ us hl => match us, hl with | [_, _], _ => rfl
  have M55 : Meth K C "given" f55 := ⟨a55, i55, k55⟩
  have F56 := fun_mk (st := s_Net_names) l56 c56 k56
  have b56 := F56.binds (ps := ["self"]) fun _ _ _ _ _ _ us hl => match us, hl with | [_], _ => rfl
  have M56 : Meth K C "names" f56 := ⟨a56, i56, k56⟩
  have F57 := fun_mk (st := s_Net_inputs) l57 c57 k57
  have b57 := F57.binds (ps := ["self"]) fun _ _ _ _ _ _ us hl => match us, hl with | [_], _ => rfl
  have M57 : Meth K C "inputs" f57 := ⟨a57, i57, k57⟩
  have F58 := fun_mk (st := s_Net_gates) l58 c58 k58
  have b58 := F58.binds (ps := ["self"]) fun _ _ _ _ _ _ us hl => match us, hl with | [_], _ => rfl
  have M58 : Meth K C "gates" f58 := ⟨a58, i58, k58⟩
  have clC : Cls K C := ⟨pgC, hdC, poC, saC⟩
  have mgC := PySem.W.mg_of X G aC
  have B : Bl mg := ⟨PySem.W.mg_none_of X G z1, PySem.W.mg_none_of X G z2, PySem.W.mg_none_of X G z3, PySem.W.mg_none_of X G z4, PySem.W.mg_none_of X G z5, PySem.W.mg_none_of X G z6, PySem.W.mg_none_of X G z7, PySem.W.mg_none_of X G z8, PySem.W.mg_none_of X G z9, PySem.W.mg_none_of X G z10, PySem.W.mg_none_of X G z11, PySem.W.mg_none_of X G z12, PySem.W.mg_none_of X G z13, PySem.W.mg_none_of X G z14, PySem.W.mg_none_of X G z15, PySem.W.mg_none_of X G z16, PySem.W.mg_none_of X G z17⟩
  refine ⟨PySem.W.fnOf "law" "law" (defArgs s_law) (defBody s_law) (defScope s_law) .none kV44 dc44 pm44 an44 cd44 ct44, fun s v => .of_eq rfl, fun base _ _ => ?_⟩
  have kb2_ : ∃ ds, Vals [.int 1] ds ∧ Binds K (PySem.W.fnOf "ran" "ran" (defArgs s_ran) (defBody s_ran) (defScope s_ran) .none (.ref Dk2) dc2 pm2 an2 cd2 ct2) ["net", "values", "many"] ds := ⟨_, (.cons ⟨_, rfl⟩ .nil), bnd_of (st := s_ran) (ml := [("many", .int 1 tk2_0)]) (ds := [.int 1 tk2_0]) (fun q hq => by rcases List.mem_cons.mp hq with rfl | hq; exact w2_0; exact nomatch hq) (fun us l1 => match us, l1 with | [_, _], _ => ⟨_, _, _, _, _, _, rfl, rfl, (show _ = pure _ from rfl)⟩)⟩
  have kb2_many : ∃ g, KBn K (PySem.W.fnOf "ran" "ran" (defArgs s_ran) (defBody s_ran) (defScope s_ran) .none (.ref Dk2) dc2 pm2 an2 cd2 ct2) ["net", "values", "many"] 2 ["many"] g (fun vs zs => vs ++ zs) := ⟨fun vs zs => vs ++ zs, ⟨kbn_of (st := s_ran) (ml := []) (gV := fun vs zs => vs ++ zs) (fun q hq => nomatch hq) (fun us ws l1 l2 => match us, ws, l1, l2 with | [_, _], [_], _, _ => (show _ = pure _ from rfl)) (fun _ _ r1 r2 => r1.append r2), fun r1 r2 => r1.append r2⟩⟩
  have kb19_most : ∃ g, KBn K (PySem.W.fnOf "same" "same" (defArgs s_same) (defBody s_same) (defScope s_same) .none (.ref Dk19) dc19 pm19 an19 cd19 ct19) ["one", "other", "most"] 2 ["most"] g (fun vs zs => vs ++ zs) := ⟨fun vs zs => vs ++ zs, ⟨kbn_of (st := s_same) (ml := []) (gV := fun vs zs => vs ++ zs) (fun q hq => nomatch hq) (fun us ws l1 l2 => match us, ws, l1, l2 with | [_, _], [_], _, _ => (show _ = pure _ from rfl)) (fun _ _ r1 r2 => r1.append r2), fun r1 r2 => r1.append r2⟩⟩
  have L : LL K mg C (pkz f1 [f2, f3, f4, f5, f6, f7, f8, f9, f10, f11, f12, f13, f14, f15, f16, f17, f18, f19, f20, f21, f22, f23, f24, f25, f26, f27, f28, f29, f30, f31, f32, f33, f34, f35, f36, f37, f38, f39, f40, f41, f42, f43, f45, f46, f47, f48, f49, f50, f51, f52, f53, f54, f55, f56, f57, f58]) (pkz _ [_, _, _, _, _, _, _, _, _, _, _, _, _, _, _, _, _, _, _, _, _, _, _, _, _, _, _, _, _, _, _, _, _, _, _, _, _, _, _, _, _, _, _, _, _, _, _, _, _, _, _, _, _, _, _, _])  ETooMuch ITooMuch := ⟨F1, m1, b1, F2, m2, kb2_, kb2_many, F3, m3, b3, F4, m4, b4, F5, m5, b5, F6, m6, b6, F7, m7, b7, F8, m8, b8, F9, m9, b9, F10, m10, b10, F11, m11, b11, F12, m12, b12, F13, m13, b13, F14, m14, b14, F15, m15, b15, F16, m16, b16, F17, m17, b17, F18, m18, b18, F19, m19, kb19_most, F20, m20, b20, F21, m21, b21, F22, m22, b22, F23, m23, b23, F24, m24, b24, F25, m25, b25, F26, m26, b26, F27, m27, b27, F28, m28, b28, F29, m29, b29, F30, m30, b30, F31, m31, b31, F32, m32, b32, F33, m33, b33, F34, m34, b34, F35, m35, b35, F36, m36, b36, F37, m37, b37, F38, m38, b38, F39, m39, b39, F40, m40, b40, F41, m41, b41, F42, m42, b42, F43, m43, b43, ⟨clC, naC0, naC1, naC2, naC3, mgC⟩, ⟨mkC, a45, i45, kcC⟩, F45, b45, F46, b46, M46, F47, b47, M47, F48, b48, M48, F49, b49, M49, F50, b50, M50, F51, b51, M51, F52, b52, M52, F53, b53, M53, F54, b54, M54, F55, b55, M55, F56, b56, M56, F57, b57, M57, F58, b58, M58, PySem.W.mg_none_of X G zsorted, PySem.W.mg_none_of X G zdict, PySem.W.mg_of X G aETooMuch, ⟨⟨gaETooMuch, ggETooMuch, nwETooMuch, kcETooMuch, exETooMuch, tyETooMuch, hdETooMuch, clETooMuch, spETooMuch, tkETooMuch, mrETooMuch⟩, ⟨_, _, _, _, _, _, _, _, _, _, _, _, _, _, _, _, _, _, PySem.F.excBase_OverflowError, cETooMuch, by decide +kernel, PySem.F.store_OverflowError.passes⟩, saETooMuch, inETooMuch, tiETooMuch, ⟨_, _, _, _, _, _, _, _, _, _, _, _, _, _, _, liETooMuch, ciETooMuch⟩⟩, PySem.W.exm_ref exETooMuch hdETooMuch tyETooMuch suETooMuch⟩
  exact ok_law F44 B L
end GZ
open PySem PySem.W PyProof.Rows
set_option maxRecDepth 100000 in
set_option maxHeartbeats 0 in
theorem PySem.Challenge.cw_guessedzeros_k85_whole_papers_both_ways_holds : PySem.Challenge.rw_guessedzeros_k85_whole_papers_both_ways.Holds := by
  w_on; o_law; k_head; (case hw => w_witness2)
  k_fill
  refine L2.walk_of (l := PySem.Challenge.rw_guessedzeros_k85_whole_papers_both_ways) (n := 63) (k := 11) (x := "_law_script") (CX := fun _ => L2.CX0) (sp := fun w => GZ.spLaw _) rfl (by decide) rfl ⟨rfl, by decide, by decide⟩ (fun w h Y => PySem.W.kIn_of Y) ?F (fun _ _ a ns hl _ hS => ⟨a, ns, rfl, hS, hl, fun _ => rfl⟩) (fun _ _ _ _ _ h => h)
  case F =>
    intro w mg fa h KX G hmg
    refine' GZ.all_mk KX G hmg ?a1 ?l1 ?c1 ?k1 ?a2 ?l2 ?c2 ?k2 ?w2_0 ?a3 ?l3 ?c3 ?k3 ?a4 ?l4 ?c4 ?k4 ?a5 ?l5 ?c5 ?k5 ?a6 ?l6 ?c6 ?k6 ?a7 ?l7 ?c7 ?k7 ?a8 ?l8 ?c8 ?k8 ?a9 ?l9 ?c9 ?k9 ?a10 ?l10 ?c10 ?k10 ?a11 ?l11 ?c11 ?k11 ?a12 ?l12 ?c12 ?k12 ?a13 ?l13 ?c13 ?k13 ?a14 ?l14 ?c14 ?k14 ?a15 ?l15 ?c15 ?k15 ?a16 ?l16 ?c16 ?k16 ?a17 ?l17 ?c17 ?k17 ?a18 ?l18 ?c18 ?k18 ?a19 ?l19 ?c19 ?k19 ?w19_0 ?a20 ?l20 ?c20 ?k20 ?a21 ?l21 ?c21 ?k21 ?a22 ?l22 ?c22 ?k22 ?a23 ?l23 ?c23 ?k23 ?a24 ?l24 ?c24 ?k24 ?a25 ?l25 ?c25 ?k25 ?a26 ?l26 ?c26 ?k26 ?a27 ?l27 ?c27 ?k27 ?a28 ?l28 ?c28 ?k28 ?a29 ?l29 ?c29 ?k29 ?a30 ?l30 ?c30 ?k30 ?a31 ?l31 ?c31 ?k31 ?a32 ?l32 ?c32 ?k32 ?a33 ?l33 ?c33 ?k33 ?a34 ?l34 ?c34 ?k34 ?a35 ?l35 ?c35 ?k35 ?a36 ?l36 ?c36 ?k36 ?a37 ?l37 ?c37 ?k37 ?a38 ?l38 ?c38 ?k38 ?a39 ?l39 ?c39 ?k39 ?a40 ?l40 ?c40 ?k40 ?a41 ?l41 ?c41 ?k41 ?a42 ?l42 ?c42 ?k42 ?a43 ?l43 ?c43 ?k43 ?a44 ?l44 ?c44 ?k44 ?aC ?pgC ?hdC ?poC ?saC ?mkC ?kcC ?naC0 ?naC1 ?naC2 ?naC3 ?a45 ?i45 ?l45 ?c45 ?k45 ?a46 ?i46 ?l46 ?c46 ?k46 ?a47 ?i47 ?l47 ?c47 ?k47 ?a48 ?i48 ?l48 ?c48 ?k48 ?a49 ?i49 ?l49 ?c49 ?k49 ?a50 ?i50 ?l50 ?c50 ?k50 ?a51 ?i51 ?l51 ?c51 ?k51 ?a52 ?i52 ?l52 ?c52 ?k52 ?a53 ?i53 ?l53 ?c53 ?k53 ?a54 ?i54 ?l54 ?c54 ?k54 ?a55 ?i55 ?l55 ?c55 ?k55 ?a56 ?i56 ?l56 ?c56 ?k56 ?a57 ?i57 ?l57 ?c57 ?k57 ?a58 ?i58 ?l58 ?c58 ?k58 ?z1 ?z2 ?z3 ?z4 ?z5 ?z6 ?z7 ?z8 ?z9 ?z10 ?z11 ?z12 ?z13 ?z14 ?z15 ?z16 ?z17 ?zsorted ?zdict ?aETooMuch ?cETooMuch ?saETooMuch ?gaETooMuch ?ggETooMuch ?nwETooMuch ?inETooMuch ?tiETooMuch ?liETooMuch ?ciETooMuch ?kcETooMuch ?exETooMuch ?tyETooMuch ?hdETooMuch ?clETooMuch ?spETooMuch ?tkETooMuch ?mrETooMuch ?suETooMuch
    (case a1 => k_is)
    (case l1 => k_is)
    (case c1 => k_is)
    (case k1 => k_is)
    (case a2 => k_is)
    (case l2 => k_is)
    (case c2 => k_is)
    (case k2 => k_is)
    (case w2_0 => k_is)
    (case a3 => k_is)
    (case l3 => k_is)
    (case c3 => k_is)
    (case k3 => k_is)
    (case a4 => k_is)
    (case l4 => k_is)
    (case c4 => k_is)
    (case k4 => k_is)
    (case a5 => k_is)
    (case l5 => k_is)
    (case c5 => k_is)
    (case k5 => k_is)
    (case a6 => k_is)
    (case l6 => k_is)
    (case c6 => k_is)
    (case k6 => k_is)
    (case a7 => k_is)
    (case l7 => k_is)
    (case c7 => k_is)
    (case k7 => k_is)
    (case a8 => k_is)
    (case l8 => k_is)
    (case c8 => k_is)
    (case k8 => k_is)
    (case a9 => k_is)
    (case l9 => k_is)
    (case c9 => k_is)
    (case k9 => k_is)
    (case a10 => k_is)
    (case l10 => k_is)
    (case c10 => k_is)
    (case k10 => k_is)
    (case a11 => k_is)
    (case l11 => k_is)
    (case c11 => k_is)
    (case k11 => k_is)
    (case a12 => k_is)
    (case l12 => k_is)
    (case c12 => k_is)
    (case k12 => k_is)
    (case a13 => k_is)
    (case l13 => k_is)
    (case c13 => k_is)
    (case k13 => k_is)
    (case a14 => k_is)
    (case l14 => k_is)
    (case c14 => k_is)
    (case k14 => k_is)
    (case a15 => k_is)
    (case l15 => k_is)
    (case c15 => k_is)
    (case k15 => k_is)
    (case a16 => k_is)
    (case l16 => k_is)
    (case c16 => k_is)
    (case k16 => k_is)
    (case a17 => k_is)
    (case l17 => k_is)
    (case c17 => k_is)
    (case k17 => k_is)
    (case a18 => k_is)
    (case l18 => k_is)
    (case c18 => k_is)
    (case k18 => k_is)
    (case a19 => k_is)
    (case l19 => k_is)
    (case c19 => k_is)
    (case k19 => k_is)
    (case w19_0 => k_is)
    (case a20 => k_is)
    (case l20 => k_is)
    (case c20 => k_is)
    (case k20 => k_is)
    (case a21 => k_is)
    (case l21 => k_is)
    (case c21 => k_is)
    (case k21 => k_is)
    (case a22 => k_is)
    (case l22 => k_is)
    (case c22 => k_is)
    (case k22 => k_is)
    (case a23 => k_is)
    (case l23 => k_is)
    (case c23 => k_is)
    (case k23 => k_is)
    (case a24 => k_is)
    (case l24 => k_is)
    (case c24 => k_is)
    (case k24 => k_is)
    (case a25 => k_is)
    (case l25 => k_is)
    (case c25 => k_is)
    (case k25 => k_is)
    (case a26 => k_is)
    (case l26 => k_is)
    (case c26 => k_is)
    (case k26 => k_is)
    (case a27 => k_is)
    (case l27 => k_is)
    (case c27 => k_is)
    (case k27 => k_is)
    (case a28 => k_is)
    (case l28 => k_is)
    (case c28 => k_is)
    (case k28 => k_is)
    (case a29 => k_is)
    (case l29 => k_is)
    (case c29 => k_is)
    (case k29 => k_is)
    (case a30 => k_is)
    (case l30 => k_is)
    (case c30 => k_is)
    (case k30 => k_is)
    (case a31 => k_is)
    (case l31 => k_is)
    (case c31 => k_is)
    (case k31 => k_is)
    (case a32 => k_is)
    (case l32 => k_is)
    (case c32 => k_is)
    (case k32 => k_is)
    (case a33 => k_is)
    (case l33 => k_is)
    (case c33 => k_is)
    (case k33 => k_is)
    (case a34 => k_is)
    (case l34 => k_is)
    (case c34 => k_is)
    (case k34 => k_is)
    (case a35 => k_is)
    (case l35 => k_is)
    (case c35 => k_is)
    (case k35 => k_is)
    (case a36 => k_is)
    (case l36 => k_is)
    (case c36 => k_is)
    (case k36 => k_is)
    (case a37 => k_is)
    (case l37 => k_is)
    (case c37 => k_is)
    (case k37 => k_is)
    (case a38 => k_is)
    (case l38 => k_is)
    (case c38 => k_is)
    (case k38 => k_is)
    (case a39 => k_is)
    (case l39 => k_is)
    (case c39 => k_is)
    (case k39 => k_is)
    (case a40 => k_is)
    (case l40 => k_is)
    (case c40 => k_is)
    (case k40 => k_is)
    (case a41 => k_is)
    (case l41 => k_is)
    (case c41 => k_is)
    (case k41 => k_is)
    (case a42 => k_is)
    (case l42 => k_is)
    (case c42 => k_is)
    (case k42 => k_is)
    (case a43 => k_is)
    (case l43 => k_is)
    (case c43 => k_is)
    (case k43 => k_is)
    (case a44 => k_is)
    (case l44 => k_is)
    (case c44 => k_is)
    (case k44 => k_is)
    (case aC => k_is)
    (case pgC => k_is)
    (case hdC => k_is)
    (case poC => k_is)
    (case saC => k_is)
    (case mkC => k_is)
    (case kcC => k_is)
    (case naC0 => k_is)
    (case naC1 => k_is)
    (case naC2 => k_is)
    (case naC3 => k_is)
    (case a45 => k_is)
    (case i45 => k_is)
    (case l45 => k_is)
    (case c45 => k_is)
    (case k45 => k_is)
    (case a46 => k_is)
    (case i46 => k_is)
    (case l46 => k_is)
    (case c46 => k_is)
    (case k46 => k_is)
    (case a47 => k_is)
    (case i47 => k_is)
    (case l47 => k_is)
    (case c47 => k_is)
    (case k47 => k_is)
    (case a48 => k_is)
    (case i48 => k_is)
    (case l48 => k_is)
    (case c48 => k_is)
    (case k48 => k_is)
    (case a49 => k_is)
    (case i49 => k_is)
    (case l49 => k_is)
    (case c49 => k_is)
    (case k49 => k_is)
    (case a50 => k_is)
    (case i50 => k_is)
    (case l50 => k_is)
    (case c50 => k_is)
    (case k50 => k_is)
    (case a51 => k_is)
    (case i51 => k_is)
    (case l51 => k_is)
    (case c51 => k_is)
    (case k51 => k_is)
    (case a52 => k_is)
    (case i52 => k_is)
    (case l52 => k_is)
    (case c52 => k_is)
    (case k52 => k_is)
    (case a53 => k_is)
    (case i53 => k_is)
    (case l53 => k_is)
    (case c53 => k_is)
    (case k53 => k_is)
    (case a54 => k_is)
    (case i54 => k_is)
    (case l54 => k_is)
    (case c54 => k_is)
    (case k54 => k_is)
    (case a55 => k_is)
    (case i55 => k_is)
    (case l55 => k_is)
    (case c55 => k_is)
    (case k55 => k_is)
    (case a56 => k_is)
    (case i56 => k_is)
    (case l56 => k_is)
    (case c56 => k_is)
    (case k56 => k_is)
    (case a57 => k_is)
    (case i57 => k_is)
    (case l57 => k_is)
    (case c57 => k_is)
    (case k57 => k_is)
    (case a58 => k_is)
    (case i58 => k_is)
    (case l58 => k_is)
    (case c58 => k_is)
    (case k58 => k_is)
    (case z1 => k_is)
    (case z2 => k_is)
    (case z3 => k_is)
    (case z4 => k_is)
    (case z5 => k_is)
    (case z6 => k_is)
    (case z7 => k_is)
    (case z8 => k_is)
    (case z9 => k_is)
    (case z10 => k_is)
    (case z11 => k_is)
    (case z12 => k_is)
    (case z13 => k_is)
    (case z14 => k_is)
    (case z15 => k_is)
    (case z16 => k_is)
    (case z17 => k_is)
    (case zsorted => k_is)
    (case zdict => k_is)
    (case aETooMuch => k_is)
    (case cETooMuch => k_is)
    (case saETooMuch => k_is)
    (case gaETooMuch => k_is)
    (case ggETooMuch => k_is)
    (case nwETooMuch => k_is)
    (case inETooMuch => k_is)
    (case tiETooMuch => k_is)
    (case liETooMuch => k_is)
    (case ciETooMuch => k_is)
    (case kcETooMuch => k_is)
    (case exETooMuch => k_is)
    (case tyETooMuch => k_is)
    (case hdETooMuch => k_is)
    (case clETooMuch => k_is)
    (case spETooMuch => k_is)
    (case tkETooMuch => k_is)
    (case mrETooMuch => k_is)
    (case suETooMuch => first | rfl | k_is)

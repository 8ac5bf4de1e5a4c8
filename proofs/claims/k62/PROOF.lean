import PyProof.Rows.All
import Wide.All
import OpenK.AllK
import Wide.FinOn
import HandS.ForMost
import HandS.Walk
import HandS.Zip
import HandS.WideBits
import HandS.IsInst
import OpenK.KEqL
import HandS.More
import HandS.Flow
import HandS.NoneIn
import HandS.Defaults
import HandS.Wide
import HandS.Style
import HandS.Dict
import HandS.Star
import HandS.Conv
import HandS.Small
import HandS.Codes
import HandS.Text
import HandS.WordsDict
import KE.OsRunLaw
import HandS.Deep
import HandS.Set
import HandS.SetFor
import HandS.Strs
import HandS.Text
import PyProof.Rows.SortShellAny
import PyProof.ReprRoads
import PyProof.ReprBulk
import HandS.OwnEq
import PyProof.Rows.FactsT3
import KE.DataEq
import KE.GoesZip
import KE.GoesMore
import KE.GoesEnum
import PyProof.Rows.ListStrD
import HandS.SortRule
import HandS.SortOrd
import KE.KSortTup
import PyProof.Rows.SortKeyStr
import HandS.FStr
import HandS.StrMore
import HandS.ReplaceLit
import HandS.ReplaceList
import KE.KUnpackStar
import KE.KRevSl
import HandS.ExcIs
import KE.KExcInit
import KE.KExcIs
import KE.KTryMore
import HandS.Exc
import HandS.ExcInit
import HandS.WordsExc
import HandS.ExcValue
import HandS.ExcOwn
import HandS.IsInst
import HandS.ForSpec
import PySem.Challenge.RW_guessedzeros_k62_papers_shown
set_option Elab.async false
set_option linter.all false
set_option maxRecDepth 100000
set_option maxHeartbeats 40000000
namespace GZ
open PySem PySem.Spec PyProof.Rows L2
/-! ### the text by places -/
def topS (i : Nat) : Stmt := PySem.Challenge.pw_guessedzeros_k62_papers_shown.main.body.getD i (.Pass ⟨0, 0, 0, 0⟩)
abbrev s_all_cases : Stmt := topS 7
theorem sc_all_cases : FnScope ["many", "place"] ["many"] (defScope s_all_cases) := ⟨rfl, rfl, rfl, by decide +kernel, rfl, by decide +kernel, by decide +kernel⟩
abbrev s_place_in_cases : Stmt := topS 8
theorem sc_place_in_cases : FnScope ["place", "many", "size", "number", "doubled"] ["place", "many"] (defScope s_place_in_cases) := ⟨rfl, rfl, rfl, by decide +kernel, rfl, by decide +kernel, by decide +kernel⟩
abbrev s_bits_text : Stmt := topS 10
theorem sc_bits_text : FnScope ["number", "many"] ["number", "many"] (defScope s_bits_text) := ⟨rfl, rfl, rfl, by decide +kernel, rfl, by decide +kernel, by decide +kernel⟩
abbrev s_hole : Stmt := topS 12
theorem sc_hole : FnScope ["cubes", "many", "values", "left", "cube"] ["cubes", "many"] (defScope s_hole) := ⟨rfl, rfl, rfl, by decide +kernel, rfl, by decide +kernel, by decide +kernel⟩
abbrev s_cases_in : Stmt := topS 13
theorem sc_cases_in : FnScope ["cube", "values", "many", "found", "sign", "value"] ["cube", "values", "many"] (defScope s_cases_in) := ⟨rfl, rfl, rfl, by decide +kernel, rfl, by decide +kernel, by decide +kernel⟩
abbrev s_is_text_of : Stmt := topS 15
theorem sc_is_text_of : FnScope ["signs", "many", "thing", "sign"] ["signs", "many", "thing"] (defScope s_is_text_of) := ⟨rfl, rfl, rfl, by decide +kernel, rfl, by decide +kernel, by decide +kernel⟩
abbrev s_settled : Stmt := topS 17
theorem sc_settled : FnScope ["net", "cube", "signs", "gate", "name", "wire"] ["net", "cube"] (defScope s_settled) := ⟨rfl, rfl, rfl, by decide +kernel, rfl, by decide +kernel, by decide +kernel⟩
abbrev s_gate_sign : Stmt := topS 18
theorem sc_gate_sign : FnScope ["gate", "signs", "kind", "one", "other"] ["gate", "signs"] (defScope s_gate_sign) := ⟨rfl, rfl, rfl, by decide +kernel, rfl, by decide +kernel, by decide +kernel⟩
abbrev s_turned_sign : Stmt := topS 19
theorem sc_turned_sign : FnScope ["sign"] ["sign"] (defScope s_turned_sign) := ⟨rfl, rfl, rfl, by decide +kernel, rfl, by decide +kernel, by decide +kernel⟩
abbrev s_ruled_sign : Stmt := topS 20
theorem sc_ruled_sign : FnScope ["one", "other", "ruling"] ["one", "other", "ruling"] (defScope s_ruled_sign) := ⟨rfl, rfl, rfl, by decide +kernel, rfl, by decide +kernel, by decide +kernel⟩
abbrev s_looked : Stmt := topS 22
theorem sc_looked : FnScope ["one", "other", "cube", "told", "told_other"] ["one", "other", "cube"] (defScope s_looked) := ⟨rfl, rfl, rfl, by decide +kernel, rfl, by decide +kernel, by decide +kernel⟩
abbrev s_has_open : Stmt := topS 23
theorem sc_has_open : FnScope ["told", "name", "signs"] ["told"] (defScope s_has_open) := ⟨rfl, rfl, rfl, by decide +kernel, rfl, by decide +kernel, by decide +kernel⟩
abbrev s_need_fit : Stmt := topS 24
theorem sc_need_fit : FnScope ["one", "other", "name"] ["one", "other"] (defScope s_need_fit) := ⟨rfl, rfl, rfl, by decide +kernel, rfl, by decide +kernel, by decide +kernel⟩
abbrev s_shows_same : Stmt := topS 25
theorem sc_shows_same : FnScope ["one", "other", "thing", "many", "cube"] ["one", "other", "thing"] (defScope s_shows_same) := ⟨rfl, rfl, rfl, by decide +kernel, rfl, by decide +kernel, by decide +kernel⟩
abbrev s_shows_unlike : Stmt := topS 26
theorem sc_shows_unlike : FnScope ["one", "other", "thing"] ["one", "other", "thing"] (defScope s_shows_unlike) := ⟨rfl, rfl, rfl, by decide +kernel, rfl, by decide +kernel, by decide +kernel⟩
abbrev s_Net___init__ : Stmt := inClass (topS 28) 0
theorem sc_Net___init__ : FnScope ["self", "many"] ["self", "many"] (defScope s_Net___init__) := ⟨rfl, rfl, rfl, by decide +kernel, rfl, by decide +kernel, by decide +kernel⟩
abbrev s_Net_both : Stmt := inClass (topS 28) 1
theorem sc_Net_both : FnScope ["self", "a", "b"] ["self", "a", "b"] (defScope s_Net_both) := ⟨rfl, rfl, rfl, by decide +kernel, rfl, by decide +kernel, by decide +kernel⟩
abbrev s_Net_either : Stmt := inClass (topS 28) 2
theorem sc_Net_either : FnScope ["self", "a", "b"] ["self", "a", "b"] (defScope s_Net_either) := ⟨rfl, rfl, rfl, by decide +kernel, rfl, by decide +kernel, by decide +kernel⟩
abbrev s_Net_unlike : Stmt := inClass (topS 28) 3
theorem sc_Net_unlike : FnScope ["self", "a", "b"] ["self", "a", "b"] (defScope s_Net_unlike) := ⟨rfl, rfl, rfl, by decide +kernel, rfl, by decide +kernel, by decide +kernel⟩
abbrev s_Net_other : Stmt := inClass (topS 28) 4
theorem sc_Net_other : FnScope ["self", "a"] ["self", "a"] (defScope s_Net_other) := ⟨rfl, rfl, rfl, by decide +kernel, rfl, by decide +kernel, by decide +kernel⟩
abbrev s_Net_fixed : Stmt := inClass (topS 28) 5
theorem sc_Net_fixed : FnScope ["self", "bit"] ["self", "bit"] (defScope s_Net_fixed) := ⟨rfl, rfl, rfl, by decide +kernel, rfl, by decide +kernel, by decide +kernel⟩
abbrev s_Net_put : Stmt := inClass (topS 28) 6
theorem sc_Net_put : FnScope ["self", "kind", "wires", "depth", "wire"] ["self", "kind", "wires"] (defScope s_Net_put) := ⟨rfl, rfl, rfl, by decide +kernel, rfl, by decide +kernel, by decide +kernel⟩
abbrev s_Net_put_gate : Stmt := inClass (topS 28) 7
theorem sc_Net_put_gate : FnScope ["self", "gate", "depth"] ["self", "gate", "depth"] (defScope s_Net_put_gate) := ⟨rfl, rfl, rfl, by decide +kernel, rfl, by decide +kernel, by decide +kernel⟩
abbrev s_Net_need : Stmt := inClass (topS 28) 8
theorem sc_Net_need : FnScope ["self", "wires", "wire"] ["self", "wires"] (defScope s_Net_need) := ⟨rfl, rfl, rfl, by decide +kernel, rfl, by decide +kernel, by decide +kernel⟩
abbrev s_Net_give : Stmt := inClass (topS 28) 9
theorem sc_Net_give : FnScope ["self", "name", "wires"] ["self", "name", "wires"] (defScope s_Net_give) := ⟨rfl, rfl, rfl, by decide +kernel, rfl, by decide +kernel, by decide +kernel⟩
abbrev s_Net_given : Stmt := inClass (topS 28) 10
theorem sc_Net_given : FnScope ["self", "name"] ["self", "name"] (defScope s_Net_given) := ⟨rfl, rfl, rfl, by decide +kernel, rfl, by decide +kernel, by decide +kernel⟩
abbrev s_Net_names : Stmt := inClass (topS 28) 11
theorem sc_Net_names : FnScope ["self"] ["self"] (defScope s_Net_names) := ⟨rfl, rfl, rfl, by decide +kernel, rfl, by decide +kernel, by decide +kernel⟩
abbrev s_Net_inputs : Stmt := inClass (topS 28) 12
theorem sc_Net_inputs : FnScope ["self"] ["self"] (defScope s_Net_inputs) := ⟨rfl, rfl, rfl, by decide +kernel, rfl, by decide +kernel, by decide +kernel⟩
abbrev s_Net_gates : Stmt := inClass (topS 28) 13
theorem sc_Net_gates : FnScope ["self"] ["self"] (defScope s_Net_gates) := ⟨rfl, rfl, rfl, by decide +kernel, rfl, by decide +kernel, by decide +kernel⟩
abbrev sBox : Stmt := topS 30
abbrev sTake : Stmt := topS 31
abbrev sFolded : Stmt := topS 32
abbrev sSame : Stmt := topS 33
abbrev s__law_gate_rows : Stmt := topS 34
theorem sc__law_gate_rows : FnScope ["_law_box_here", "_law_first", "_law_many", "_law_rows", "_law_turn", "_law_far", "_law_kind", "_law_one", "_law_two"] ["_law_box_here", "_law_first", "_law_many"] (defScope s__law_gate_rows) := ⟨rfl, rfl, rfl, by decide +kernel, rfl, by decide +kernel, by decide +kernel⟩
abbrev s__law_net : Stmt := topS 35
theorem sc__law_net : FnScope ["_law_first", "_law_rows", "_law_given_here", "_law_net_here", "_law_row", "_law_name", "_law_wires"] ["_law_first", "_law_rows", "_law_given_here"] (defScope s__law_net) := ⟨rfl, rfl, rfl, by decide +kernel, rfl, by decide +kernel, by decide +kernel⟩
abbrev s__law_settled : Stmt := topS 36
theorem sc__law_settled : FnScope ["_law_rows", "_law_given_here", "_law_cube", "_law_wires", "_law_row", "_law_one", "_law_two", "_law_signs", "_law_sign", "_law_wire", "_law_name", "_law_some"] ["_law_rows", "_law_given_here", "_law_cube"] (defScope s__law_settled) := ⟨rfl, rfl, rfl, by decide +kernel, rfl, by decide +kernel, by decide +kernel⟩
abbrev s__law_is_open : Stmt := topS 37
theorem sc__law_is_open : FnScope ["_law_told", "_law_name", "_law_text"] ["_law_told"] (defScope s__law_is_open) := ⟨rfl, rfl, rfl, by decide +kernel, rfl, by decide +kernel, by decide +kernel⟩
abbrev s__law_looked : Stmt := topS 38
theorem sc__law_looked : FnScope ["_law_first", "_law_one", "_law_other", "_law_limit", "_law_waiting", "_law_kept", "_law_turn", "_law_cube", "_law_mine", "_law_its", "_law_at", "_law_sign"] ["_law_first", "_law_one", "_law_other", "_law_limit"] (defScope s__law_looked) := ⟨rfl, rfl, rfl, by decide +kernel, rfl, by decide +kernel, by decide +kernel⟩
abbrev s__law_word_of : Stmt := topS 39
theorem sc__law_word_of : FnScope ["_law_box_here", "_law_some"] ["_law_box_here", "_law_some"] (defScope s__law_word_of) := ⟨rfl, rfl, rfl, by decide +kernel, rfl, by decide +kernel, by decide +kernel⟩
abbrev s__law_given : Stmt := topS 40
theorem sc__law_given : FnScope ["_law_box_here", "_law_far", "_law_found", "_law_k", "_law_wires", "_law_turn"] ["_law_box_here", "_law_far"] (defScope s__law_given) := ⟨rfl, rfl, rfl, by decide +kernel, rfl, by decide +kernel, by decide +kernel⟩
abbrev s__law_bent_rows : Stmt := topS 41
theorem sc__law_bent_rows : FnScope ["_law_box_here", "_law_first", "_law_rows", "_law_made", "_law_at", "_law_row", "_law_way", "_law_some", "_law_kinds"] ["_law_box_here", "_law_first", "_law_rows"] (defScope s__law_bent_rows) := ⟨rfl, rfl, rfl, by decide +kernel, rfl, by decide +kernel, by decide +kernel⟩
abbrev s__law_all_bits : Stmt := topS 42
theorem sc__law_all_bits : FnScope ["_law_many", "_law_number", "_law_place"] ["_law_many"] (defScope s__law_all_bits) := ⟨rfl, rfl, rfl, by decide +kernel, rfl, by decide +kernel, by decide +kernel⟩
abbrev s__law_is_cube : Stmt := topS 43
theorem sc__law_is_cube : FnScope ["_law_thing", "_law_signs", "_law_many", "_law_sign"] ["_law_thing", "_law_signs", "_law_many"] (defScope s__law_is_cube) := ⟨rfl, rfl, rfl, by decide +kernel, rfl, by decide +kernel, by decide +kernel⟩
abbrev s__law_same_due : Stmt := topS 44
theorem sc__law_same_due : FnScope ["_law_first", "_law_one", "_law_other", "_law_thing", "_law_cube", "_law_told", "_law_bits", "_law_sign", "_law_bit"] ["_law_first", "_law_one", "_law_other", "_law_thing"] (defScope s__law_same_due) := ⟨rfl, rfl, rfl, by decide +kernel, rfl, by decide +kernel, by decide +kernel⟩
abbrev s__law_unlike_due : Stmt := topS 45
theorem sc__law_unlike_due : FnScope ["_law_first", "_law_one", "_law_other", "_law_thing"] ["_law_first", "_law_one", "_law_other", "_law_thing"] (defScope s__law_unlike_due) := ⟨rfl, rfl, rfl, by decide +kernel, rfl, by decide +kernel, by decide +kernel⟩
abbrev s__law_bent : Stmt := topS 46
theorem sc__law_bent : FnScope ["_law_box_here", "_law_cubes", "_law_first", "_law_made", "_law_way", "_law_odd", "_law_at", "_law_place", "_law_sign", "_law_cube", "_law_turn"] ["_law_box_here", "_law_cubes", "_law_first"] (defScope s__law_bent) := ⟨rfl, rfl, rfl, by decide +kernel, rfl, by decide +kernel, by decide +kernel⟩
abbrev s__law_right : Stmt := topS 47
theorem sc__law_right : FnScope ["_law_box_here", "_law_first", "_law_rows", "_law_given_here", "_law_others", "_law_turn", "_law_one", "_law_other", "_law_nets", "_law_told", "_law_cubes", "_law_thing", "_law_kept", "_law_found", "_law_some", "_law_a", "_law_b", "_law_texts", "_law_bits"] ["_law_box_here"] (defScope s__law_right) := ⟨rfl, rfl, rfl, by decide +kernel, rfl, by decide +kernel, by decide +kernel⟩
abbrev s_law : Stmt := topS 48
theorem sc_law : FnScope ["_law_script", "_law_cells", "_law_k"] ["_law_script"] (defScope s_law) := ⟨rfl, rfl, rfl, by decide +kernel, rfl, by decide +kernel, by decide +kernel⟩
/-! ### built-in names that the text leaves alone -/
structure Bl (mg : Str → Option Value) : Prop where
  len : mg "len" = none
  abs : mg "abs" = none
  int : mg "int" = none
  divmod : mg "divmod" = none
  list : mg "list" = none
  enumerate : mg "enumerate" = none
  isinstance : mg "isinstance" = none
  tuple : mg "tuple" = none
  str : mg "str" = none
  bool : mg "bool" = none
  zip : mg "zip" = none
  all : mg "all" = none
  range : mg "range" = none
  max : mg "max" = none
  any : mg "any" = none
  min : mg "min" = none
  sum : mg "sum" = none
/-! ### rules with the written part told (for the blocks of comprehensions) -/
section
variable {X : Cx} {K : PySem.W.Frag}
theorem call_len_seqK (h : X.K = K := by rfl) : CallR X (.builtin "len") (fun xs H Q => ∃ p ys, xs = [.ref p] ∧ (SqL K H p ys ∨ SqT K H p ys) ∧ Q (.int ys.length) H) := by subst h; exact call_len_seq
theorem call_list_ofK (h : X.K = K := by rfl) : CallR X (.type "list") (fun xs H Q => ∃ p ys, xs = [.ref p] ∧ (SqL K H p ys ∨ SqT K H p ys) ∧ ∀ l, H l = none → Q (.ref l) (upd H l (.lst ys))) := by subst h; exact call_list_of
theorem call_tuple_ofK (h : X.K = K := by rfl) : CallR X (.type "tuple") (fun xs H Q => ∃ p ys, xs = [.ref p] ∧ ((SqL K H p ys ∧ ∀ l, H l = none → Q (.ref l) (upd H l (.tup ys))) ∨ (SqT K H p ys ∧ Q (.ref p) H))) := by subst h; exact call_tuple_of
theorem ix_listK (h : X.K = K := by rfl) : IxR X (rIxL K) := by subst h; exact ix_list
theorem ix_tupK (h : X.K = K := by rfl) : IxR X (rIxT K) := by subst h; exact ix_tup
theorem ix_seqK (h : X.K = K := by rfl) : IxR X (rIx K) := by subst h; exact ix_seq
theorem op_in_seqK (h : X.K = K := by rfl) : OpR X (compareOp .In) (rIn K false) := by subst h; exact op_in_seq
theorem op_notIn_seqK (h : X.K = K := by rfl) : OpR X (compareOp .NotIn) (rIn K true) := by subst h; exact op_notIn_seq
theorem sl_listK (h : X.K = K := by rfl) : SlR X (rSlL K) := by subst h; exact sl_list
theorem cr_sumK (hc : X.calm = true) (h : X.K = K := by rfl) : CallR X (.builtin "sum") (rSum K) := by subst h; exact cr_sum hc
theorem cr_allK (hc : X.calm = true) (h : X.K = K := by rfl) : CallR X (.builtin "all") (rAll K) := by subst h; exact cr_all hc
theorem cr_anyK (hc : X.calm = true) (h : X.K = K := by rfl) : CallR X (.builtin "any") (rAny K) := by subst h; exact cr_any hc
theorem call_isiK' (h : X.K = K := by rfl) : CallR X (.builtin "isinstance") (rIsi K) := by subst h; exact call_isi
theorem pi_listK {tg l : Expr} {tl : TE} (hl : PE X l tl) (h : X.K = K := by rfl) : PI X tg l (iList K tl) := by subst h; exact pi_list hl
theorem pi_tupK {tg l : Expr} {tl : TE} (hl : PE X l tl) (h : X.K = K := by rfl) : PI X tg l (iTup K tl) := by subst h; exact pi_tup hl
theorem pe_fldK {e : Expr} {ta : TE} {f : Str} {pos : Pos} (he : PE X e ta) (hb : attributeBase e f X.env (eval e X.env) = eval e X.env) (h : X.K = K := by rfl) : PE X (.Attribute e f pos) (tFld K ta f) := by subst h; exact pe_fld he hb
end
/-! ### heaps -/
theorem same_upd {H : Hp} {p : Addr} {o : HO} (h : H p = none) : Same H (upd H p o) := fun b x e => by
  rw [upd_ne (ne_of_none e h)]
  exact e
/-- all but what stands at b is as it was -/
def Keep (b : Addr) (H H' : Hp) : Prop := ∀ p o, H p = some o → p ≠ b → H' p = some o
theorem Keep.refl (b : Addr) (H : Hp) : Keep b H H := fun _ _ h _ => h
theorem Keep.trans {b : Addr} {H H1 H2 : Hp} (x : Keep b H H1) (y : Keep b H1 H2) : Keep b H H2 := fun p o h n => y p o (x p o h n) n
theorem Keep.ofSame {b : Addr} {H H1 : Hp} (x : Same H H1) : Keep b H H1 := fun p o h _ => x p o h
theorem Keep.upd {b : Addr} {H : Hp} {o : HO} : Keep b H (upd H b o) := fun p x h n => by
  rw [upd_ne n]
  exact h
theorem Keep.new {b p : Addr} {H : Hp} {o : HO} (h : H p = none) : Keep b H (L2.upd H p o) := .ofSame (same_upd h)
theorem Keep.seq {K : PySem.W.Frag} {b a : Addr} {H H' : Hp} {xs : List V} (e : Keep b H H') (n : a ≠ b) (h : SqL K H a xs) : SqL K H' a xs := by
  rcases h with (h | ⟨o, h⟩) | h
  · exact .inl (.inl (e _ _ h n))
  · exact .inl (.inr ⟨o, e _ _ h n⟩)
  · exact .inr h
theorem Keep.seqT {K : PySem.W.Frag} {b a : Addr} {H H' : Hp} {xs : List V} (e : Keep b H H') (n : a ≠ b) (h : SqT K H a xs) : SqT K H' a xs := by
  rcases h with (h | ⟨o, h⟩) | h
  · exact .inl (.inl (e _ _ h n))
  · exact .inl (.inr ⟨o, e _ _ h n⟩)
  · exact .inr h
theorem Same.seqT {K : PySem.W.Frag} {a : Addr} {H H' : Hp} {xs : List V} (e : Same H H') (h : SqT K H a xs) : SqT K H' a xs := by
  rcases h with (h | ⟨o, h⟩) | h
  · exact .inl (.inl (e _ _ h))
  · exact .inl (.inr ⟨o, e _ _ h⟩)
  · exact .inr h
/-- a drawing box: three ints, the last at most c -/
def BoxAt (c : Int) (H : Hp) (b : Addr) : Prop := ∃ x0 x1 x2 : Int, H b = some (.lst [.int x0, .int x1, .int x2]) ∧ 0 ≤ x0 ∧ 0 ≤ x1 ∧ x1 < 2147483647 ∧ 0 ≤ x2 ∧ x2 ≤ c
theorem BoxAt.mono {c d : Int} {H : Hp} {b : Addr} (h : BoxAt c H b) (l : c ≤ d) : BoxAt d H b := by
  obtain ⟨x0, x1, x2, e, a1, a2, a3, a4, a5⟩ := h
  exact ⟨x0, x1, x2, e, a1, a2, a3, a4, by omega⟩
theorem BoxAt.same {c : Int} {H H' : Hp} {b : Addr} (h : BoxAt c H b) (s : Same H H') : BoxAt c H' b := by
  obtain ⟨x0, x1, x2, e, r⟩ := h
  exact ⟨x0, x1, x2, s _ _ e, r⟩
theorem BoxAt.at {c : Int} {H H' : Hp} {b : Addr} (h : BoxAt c H b) (s : H' b = H b) : BoxAt c H' b := by
  obtain ⟨x0, x1, x2, e, r⟩ := h
  exact ⟨x0, x1, x2, by rw [s]; exact e, r⟩
theorem BoxAt.ne {c : Int} {H : Hp} {b p : Addr} (h : BoxAt c H b) (n : H p = none) : b ≠ p := by
  obtain ⟨x0, x1, x2, e, r⟩ := h
  exact ne_of_none e n
theorem e7 : (10 : Int) ^ ((7 : Int).toNat) = 10000000 := by decide
theorem e18 : (10 : Int) ^ ((18 : Int).toNat) = 1000000000000000000 := by decide
theorem divp_small {i j : Int} (h0 : 0 < j) (h1 : j < 2 ^ 250) : CDivP i j := by
  refine ⟨h0, ?_⟩
  show (decide ((if j == 0 then 0 else j.natAbs.log2 / 30 + 1) > 300) && _) = false
  rw [if_neg (show ¬ (j == 0) = true by simpa using (show j ≠ 0 by omega))]
  have hl : j.natAbs.log2 < 250 := PySem.Flt.log2_lt_of (by decide) (by omega)
  rw [decide_eq_false (show ¬ (j.natAbs.log2 / 30 + 1 > 300) by omega), Bool.false_and]
section
variable {P : Program} {w : World} {K : PySem.W.Frag} {mg : Str → Option Value} {base : Heap}
/-! ### _law_take -/
theorem scTake : FnScope ["_law_box_here", "_law_size", "_law_found", "_law_step", "_law_once", "_law_twice"] ["_law_box_here", "_law_size"] (defScope sTake) := ⟨rfl, rfl, rfl, by decide +kernel, rfl, by decide +kernel, by decide +kernel⟩
def spTake (k : Nat) : Sp := fun vs H Q _ => ∃ (b : Addr) (n c : Int), vs = [.ref b, .int n] ∧ BoxAt c H b ∧ 1 ≤ n ∧ n ≤ 10000000 ^ k ∧ n < 2 ^ 250 ∧ c + 2 ^ k ≤ 1000000000 ∧ 0 < k ∧
  ∀ (r : Int) (H' : Hp), 0 ≤ r → r < n → BoxAt (c + 2 ^ (k - 1)) H' b → Keep b H H' → Q (.int r) H'
theorem take_none {f : Addr} {fd : FuncData} : FnOk P w K mg base CX0 0 f fd ["_law_box_here", "_law_size"] (spTake 0) := by
  have no : ∀ vs H Q E, ¬ spTake 0 vs H Q E := fun vs H Q E h => by
    obtain ⟨b, n, c, _, _, _, _, _, _, h0, _⟩ := h
    omega
  exact ⟨fun vs H Q E h => absurd h (no vs H Q E), fun A outer s H args us vs Q E _ _ _ _ h => absurd h (no vs H Q E)⟩
theorem ok_take1 {f : Addr} {fd : FuncData} {k : Nat} (F : Fun K "_law_take" "_law_take" sTake f fd) (G : FnOk P w K mg base CX0 k f fd ["_law_box_here", "_law_size"] (spTake k)) (bf : Binds K fd ["_law_box_here", "_law_size"] []) (mf : mg "_law_take" = some (.ref f)) (B : Bl mg) :
    FnOk P w K mg base CX0 (k + 1) f fd ["_law_box_here", "_law_size"] (spTake (k + 1)) := by
  refine F.ok scTake (fun vs H Q E h => ?_) (fun cdv A outer s H vs Q E hr h => ?_)
  · obtain ⟨b, n, c, rfl, _⟩ := h
    rfl
  obtain ⟨b, n, c, rfl, hB, hn1, hnk, hn60, hc, _, q⟩ := h
  obtain ⟨x0, x1, x2, hb, h0, h1, h1', h2, h2'⟩ := hB
  have hp : (0 : Int) < 2 ^ k := Int.pow_pos (by decide)
  have hk2 : (2 : Int) ^ (k + 1) = 2 ^ k * 2 := Int.pow_succ 2 k
  refine ⟨_, pss_cons (ps_if (pt_cmpR op_gt (pe_ix ix_list (pv 0) pe_int (fun _ _ => rfl)) pe_int (nomark _))
      (pss_cons (ps_asg (pe_callB call_divmodW (by rfl) B.divmod boot_divmod (pa_cons (pe_ix ix_list (pv 0) pe_int (fun _ _ => rfl)) (pa_cons (pv 1) pa_nil)))
          (pg_tup (by rfl) (pgs_cons (pg_sub (pv 0) pe_int set_list) (pgs_cons (pg_name (i := 2) scTake.nd rfl (.inl rfl)) pgs_nil))))
        (pss_one (ps_ret (pv 2)))) pss_nil)
    (pss_cons (ps_if (pt_cmpR op_gt (pv 1) (pe_op op_pow pe_int pe_int) (nomark _))
      (pss_one (ps_ret (pe_op op_mod (pe_op op_add (pe_call G hr (by rfl) mf F.kp bf .nil pass0 (pa_cons (pv 0) (pa_cons (pe_op op_pow pe_int pe_int) pa_nil)))
          (pe_op op_mul (pe_op op_pow pe_int pe_int) (pe_call G hr (by rfl) mf F.kp bf .nil pass0 (pa_cons (pv 0) (pa_cons (pe_op op_add (pe_op op_fdiv (pe_op op_sub (pv 1) pe_int) (pe_op op_pow pe_int pe_int)) pe_int) pa_nil))))) (pv 1)))) pss_nil)
    (pss_cons (ps_asg (pe_op op_add (pe_ix ix_list (pv 0) pe_int (fun _ _ => rfl)) pe_int) (pg_sub (pv 0) pe_int set_list))
    (pss_cons (ps_set (i := 3) scTake.nd rfl (.inl rfl) (pe_op op_add pe_int (pe_op op_mul (pe_ix ix_list (pv 0) pe_int (fun _ _ => rfl)) (pe_ix ix_list (pv 0) pe_int (fun _ _ => rfl)))))
    (pss_cons (ps_set (i := 4) scTake.nd rfl (.inl rfl) (pe_op op_mod (pe_op op_mul (pe_op op_add (pe_ix ix_list (pv 0) pe_int (fun _ _ => rfl)) (pe_op op_mul pe_int (pe_ix ix_list (pv 0) pe_int (fun _ _ => rfl)))) (pv 3)) pe_int))
    (pss_cons (ps_set (i := 5) scTake.nd rfl (.inl rfl) (pe_op op_mod (pe_op op_add (pe_op op_mul (pv 4) (pe_op op_add (pe_op op_mod (pv 4) pe_int) pe_int)) (pe_ix ix_list (pv 0) pe_int (fun _ _ => rfl))) pe_int))
    (pss_one (ps_ret (pe_op op_mod (pe_op op_fdiv (pe_op op_mod (pe_op op_mul (pv 5) (pe_op op_add (pe_op op_mod (pv 5) pe_int) pe_int)) pe_int) pe_int) (pv 1))))))))), ?_⟩
  refine ⟨_, rfl, b, _, _, _, rfl, rfl, SqL.of hb, rfl, _, _, rfl, rfl, _, rfl, ite2 (fun cc => ?_) (fun cc => ?_)⟩
  · -- the great number's own digits
    refine ⟨_, rfl, b, _, _, _, rfl, rfl, SqL.of hb, rfl, _, rfl, _, _, rfl, divp_small (by omega) (by omega), fun p np => ?_⟩
    have nbp : b ≠ p := ne_of_none hb np
    refine ⟨p, _, rfl, .inl (.inl upd_same), rfl, _, _, rfl, _, rfl, b, _, _, 0, rfl, rfl, (by rw [upd_ne nbp]; exact hb), rfl, _, _, rfl, rfl, _, rfl, ?_⟩
    refine q _ _ (Int.emod_nonneg _ (by omega)) (Int.emod_lt_of_pos _ (by omega)) ⟨x0 / n, x1, x2, upd_same, Int.ediv_nonneg h0 (by omega), h1, h1', h2, by show x2 ≤ c + 2 ^ k; omega⟩ ?_
    exact Keep.trans (Keep.new np) Keep.upd
  · refine ⟨_, rfl, _, _, rfl, rfl, ⟨by decide, by decide, by decide⟩, _, _, rfl, rfl, _, rfl, ite2 (fun c2 => ?_) (fun c2 => ?_)⟩
    · -- two lesser draws
      have c3 : (10 : Int) ^ ((7 : Int).toNat) < n := of_decide_eq_true c2
      rw [e7] at c3
      have hk : 0 < k := by
        rcases Nat.eq_zero_or_pos k with z | z
        · subst z
          rw [show (10000000 : Int) ^ (0 + 1) = 10000000 by decide] at hnk
          omega
        · exact z
      obtain ⟨j, rfl⟩ : ∃ j, k = j + 1 := ⟨k - 1, by omega⟩
      have hj2 : (2 : Int) ^ (j + 1) = 2 ^ j * 2 := Int.pow_succ 2 j
      have hjp : (0 : Int) < 2 ^ j := Int.pow_pos (by decide)
      have h10 : (10000000 : Int) ≤ 10000000 ^ (j + 1) := by
        rw [Int.pow_succ]
        have : (0 : Int) < 10000000 ^ j := Int.pow_pos (by decide)
        omega
      have hdiv : (n - 1) / 10000000 + 1 ≤ 10000000 ^ (j + 1) := by
        rw [Int.pow_succ] at hnk
        have : n - 1 < 10000000 ^ (j + 1) * 10000000 := by omega
        have := Int.ediv_lt_of_lt_mul (by decide) this
        omega
      refine ⟨_, rfl, _, _, rfl, rfl, ⟨by decide, by decide, by decide⟩, b, _, c, rfl, ⟨x0, x1, x2, hb, h0, h1, h1', h2, h2'⟩, (by rw [e7]; decide), (by rw [e7]; exact h10), (by rw [e7]; decide), by omega, by omega, fun r1 H1 a1 a2 B1 k1 => ?_⟩
      refine ⟨_, _, rfl, rfl, ⟨by decide, by decide, by decide⟩, _, rfl, _, rfl, _, _, rfl, rfl, _, _, rfl, rfl, ⟨by decide, by decide, by decide⟩, _, _, rfl, rfl, (by rw [e7]; exact ⟨by decide, by decide⟩), _, _, rfl, rfl, ?_⟩
      rw [e7]
      refine ⟨b, _, c + 2 ^ j, rfl, B1, by omega, hdiv, by omega, by omega, by omega, fun r2 H2 a3 a4 B2 k2 => ?_⟩
      refine ⟨_, _, rfl, rfl, .inl ⟨by decide, by decide⟩, _, _, rfl, rfl, _, rfl, _, _, rfl, rfl, (by show (0 : Int) < n; omega), ?_⟩
      refine q _ _ (Int.emod_nonneg _ (by omega)) (Int.emod_lt_of_pos _ (by omega)) (B2.mono ?_) (k1.trans k2)
      show c + 2 ^ j + 2 ^ j ≤ c + 2 ^ (j + 1)
      omega
    · -- a turn of the wheel
      refine ⟨_, rfl, b, _, _, _, rfl, rfl, SqL.of hb, rfl, _, _, rfl, rfl, _, rfl, b, _, _, 2, rfl, rfl, hb, rfl, ?_⟩
      have hb2 : (upd H b (.lst [.int x0, .int x1, .int (x2 + 1)])) b = some (.lst [.int x0, .int x1, .int (x2 + 1)]) := upd_same
      refine ⟨_, rfl, b, _, _, _, rfl, rfl, SqL.of hb2, rfl, _, rfl, b, _, _, _, rfl, rfl, SqL.of hb2, rfl, _, _, rfl, rfl, .inl ⟨by omega, by omega⟩, _, _, rfl, rfl, ?_⟩
      refine ⟨_, rfl, b, _, _, _, rfl, rfl, SqL.of hb2, rfl, _, rfl, b, _, _, _, rfl, rfl, SqL.of hb2, rfl, _, _, rfl, rfl, .inl ⟨by omega, by omega⟩, _, _, rfl, rfl, _, rfl, _, _, rfl, rfl, .inl ⟨by omega, by omega⟩, _, _, rfl, rfl, (by show (0 : Int) < 2147483587; decide), ?_⟩
      generalize (x1 + 39373 * (x2 + 1)) * (69621 + (x2 + 1) * (x2 + 1)) = y
      have y1 := Int.emod_nonneg y (show (2147483587 : Int) ≠ 0 by decide)
      have y2 := Int.emod_lt_of_pos y (show (0 : Int) < 2147483587 by decide)
      refine ⟨_, rfl, _, rfl, _, _, rfl, rfl, (by show (0 : Int) < 30011; decide), _, _, rfl, rfl, _, _, rfl, rfl, .inl ⟨by omega, by omega⟩, _, rfl, b, _, _, _, rfl, rfl, SqL.of hb2, rfl, _, _, rfl, rfl, _, _, rfl, rfl, (by show (0 : Int) < 2147483563; decide), ?_⟩
      generalize (y % 2147483587 * (y % 2147483587 % 30011 + 5) + (x2 + 1)) = z
      have z1 := Int.emod_nonneg z (show (2147483563 : Int) ≠ 0 by decide)
      have z2 := Int.emod_lt_of_pos z (show (0 : Int) < 2147483563 by decide)
      refine ⟨_, rfl, _, rfl, _, _, rfl, rfl, (by show (0 : Int) < 1013; decide), _, _, rfl, rfl, _, _, rfl, rfl, .inl ⟨by omega, by omega⟩, _, _, rfl, rfl, (by show (0 : Int) < 998244353; decide), _, _, rfl, rfl, ⟨by decide, by decide⟩, _, rfl, _, _, rfl, rfl, (by show (0 : Int) < n; omega), ?_⟩
      refine q _ _ (Int.emod_nonneg _ (by omega)) (Int.emod_lt_of_pos _ (by omega)) ⟨x0, x1, x2 + 1, hb2, h0, h1, h1', by omega, by show x2 + 1 ≤ c + 2 ^ k; omega⟩ Keep.upd
theorem ok_take {f : Addr} {fd : FuncData} (F : Fun K "_law_take" "_law_take" sTake f fd) (bf : Binds K fd ["_law_box_here", "_law_size"] []) (mf : mg "_law_take" = some (.ref f)) (B : Bl mg) : ∀ k : Nat, FnOk P w K mg base CX0 k f fd ["_law_box_here", "_law_size"] (spTake k)
  | 0 => take_none
  | k + 1 => ok_take1 F (ok_take F bf mf B k) bf mf B
/-! ### _law_box -/
theorem scBox : FnScope ["_law_script", "_law_k", "_law_cell"] ["_law_script", "_law_k"] (defScope sBox) := ⟨rfl, rfl, rfl, by decide +kernel, rfl, by decide +kernel, by decide +kernel⟩
def spBox (K : PySem.W.Frag) : Sp := fun vs H Q _ => ∃ (a : Addr) (zs : List Int) (k : Int), vs = [.ref a, .int k] ∧ SqL K H a (zs.map V.int) ∧ 0 ≤ k ∧ k ≤ 1000 ∧
  ∀ (p : Addr) (H' : Hp), H p = none → Same H H' → BoxAt 0 H' p → Q (.ref p) H'
theorem b01 (b : Bool) : (-(2 ^ 64) < (if b = true then (1 : Int) else 0)) ∧ (if b = true then (1 : Int) else 0) < 2 ^ 64 := by cases b <;> decide
theorem b01n (b : Bool) : 0 ≤ (if b = true then (1 : Int) else 0) := by cases b <;> decide
theorem abs_nn (i : Int) : 0 ≤ (if i < 0 then -i else i) := by
  split <;> omega
theorem at_int {zs : List Int} {k : Int} (h0 : 0 ≤ k) (h : k < (zs.length : Int)) : ∃ v : Int, atI (zs.map V.int) k = some (.int v) ∧ zs[k.toNat]? = some v := by
  have hk : k.toNat < zs.length := by omega
  have ek : k = ((k.toNat : Nat) : Int) := by omega
  have q : atI (zs.map V.int) ((k.toNat : Nat) : Int) = some (.int zs[k.toNat]) := atI_nat (by rw [List.getElem?_map, List.getElem?_eq_getElem hk] <;> rfl)
  rw [← ek] at q
  exact ⟨zs[k.toNat], q, List.getElem?_eq_getElem hk⟩
theorem ok_box {f : Addr} {fd : FuncData} {k : Nat} (F : Fun K "_law_box" "_law_box" sBox f fd) (B : Bl mg) : FnOk P w K mg base CX0 (k + 1) f fd ["_law_script", "_law_k"] (spBox K) := by
  refine F.ok scBox (fun vs H Q E h => ?_) (fun cdv A outer s H vs Q E hr h => ?_)
  · obtain ⟨a, zs, k, rfl, _⟩ := h
    rfl
  obtain ⟨a, zs, k, rfl, hS, h0, h1, q⟩ := h
  refine ⟨_, pss_cons (ps_set (i := 2) scBox.nd rfl (.inl rfl) (pe_ifExp (pt_cmpR op_lt (pv 1) (pe_callB call_len_seq (by rfl) B.len PySem.boot_len (pa_cons (pv 0) pa_nil)) (nomark _)) (pe_ix ix_list (pv 0) (pv 1) (fun _ _ => rfl)) pe_int))
    (pss_one (ps_ret (pe_lst (pa_cons (pe_op op_mul (pe_callB call_abs (by rfl) B.abs boot_abs (pa_cons (pv 2) pa_nil)) (pe_callTy call_int1 (by rfl) B.int PyProof.Rows.boot_int (pa_cons (pe_cmpR op_ge (pe_callB call_abs (by rfl) B.abs boot_abs (pa_cons (pv 2) pa_nil)) (pe_op op_pow pe_int pe_int) (nomark _)) pa_nil)))
      (pa_cons (pe_op op_mod (pe_op op_mul (pe_op op_add (pe_op op_add (pe_op op_mod (pv 2) pe_int) (pe_op op_mul pe_int (pv 1))) pe_int) pe_int) pe_int) (pa_cons pe_int pa_nil)))))), ?_⟩
  refine ⟨_, rfl, _, rfl, a, _, rfl, .inl hS, _, _, rfl, rfl, _, rfl, ite2 (fun cc => ?_) (fun cc => ?_)⟩
  · have c1 : k < (((zs.map V.int).length : Nat) : Int) := of_decide_eq_true cc
    rw [List.length_map] at c1
    obtain ⟨v, hv, _⟩ := at_int h0 c1
    refine ⟨_, rfl, _, rfl, a, _, _, _, rfl, rfl, hS, hv, ?_⟩
    refine ⟨_, rfl, _, rfl, _, rfl, _, rfl, _, _, rfl, rfl, ⟨by decide, by decide, by decide⟩, _, _, rfl, rfl, .inr ⟨_, rfl, ?_⟩⟩
    refine ⟨_, _, rfl, rfl, .inr (b01 _), _, rfl, _, _, rfl, rfl, (by show (0 : Int) < 2147483629; decide), _, rfl, _, _, rfl, rfl, .inl ⟨by decide, by decide⟩, _, _, rfl, rfl, _, _, rfl, rfl, _, _, rfl, rfl, .inr ⟨by decide, by decide⟩, _, _, rfl, rfl, (by show (0 : Int) < 2147483647; decide), (by show 3 ≤ sizeLine; decide), fun p np => ?_⟩
    refine q p _ np (same_upd np) ⟨_, _, _, upd_same, Int.mul_nonneg (abs_nn v) (b01n _), Int.emod_nonneg _ (by decide), Int.emod_lt_of_pos _ (by decide), by decide, by decide⟩
  · refine ⟨_, rfl, _, rfl, _, rfl, _, rfl, _, _, rfl, rfl, ⟨by decide, by decide, by decide⟩, _, _, rfl, rfl, .inr ⟨_, rfl, ?_⟩⟩
    refine ⟨_, _, rfl, rfl, .inr (b01 _), _, rfl, _, _, rfl, rfl, (by show (0 : Int) < 2147483629; decide), _, rfl, _, _, rfl, rfl, .inl ⟨by decide, by decide⟩, _, _, rfl, rfl, _, _, rfl, rfl, _, _, rfl, rfl, .inr ⟨by decide, by decide⟩, _, _, rfl, rfl, (by show (0 : Int) < 2147483647; decide), (by show 3 ≤ sizeLine; decide), fun p np => ?_⟩
    refine q p _ np (same_upd np) ⟨_, _, _, upd_same, Int.mul_nonneg (abs_nn 0) (b01n _), Int.emod_nonneg _ (by decide), Int.emod_lt_of_pos _ (by decide), by decide, by decide⟩
/-! ### _law_folded -/
theorem scFolded : FnScope ["_law_script", "_law_size", "_law_cells", "_law_k", "_law_cell"] ["_law_script", "_law_size"] (defScope sFolded) := ⟨rfl, rfl, rfl, by decide +kernel, rfl, by decide +kernel, by decide +kernel⟩
def spFolded (K : PySem.W.Frag) : Sp := fun vs H Q _ => ∃ (a : Addr) (ns : List Int) (m : Nat), vs = [.ref a, .int (m : Int)] ∧ SqL K H a (ns.map V.int) ∧ ns.length ≤ 63 ∧ 1 ≤ m ∧ m ≤ 63 ∧
  ∀ (p : Addr) (H' : Hp) (zs : List Int), H p = none → Same H H' → H' p = some (.lst (zs.map V.int)) → zs.length = min ns.length m → Q (.ref p) H'
theorem cut_lo (ns : List Int) (m : Nat) : cutV (ns.map V.int) none (some (m : Int)) = (ns.take m).map V.int := by
  unfold cutV
  rw [HT.sIx_none, HT.sIx_nat, List.drop_zero, Nat.sub_zero, List.length_map, ← List.map_take]
  congr 1
  rw [List.take_eq_take_iff]
  omega
theorem cut_mid (ns : List Int) (m j : Nat) : ∃ ws : List Int, cutV (ns.map V.int) (some (m : Int)) (some (j : Int)) = ws.map V.int ∧ ws.length ≤ ns.length - m := by
  unfold cutV
  rw [HT.sIx_nat, HT.sIx_nat, List.length_map, ← List.map_drop, ← List.map_take]
  refine ⟨_, rfl, ?_⟩
  rw [List.length_take, List.length_drop]
  omega
theorem int_at {ws : List Int} {i : Nat} {x : V} (h : (ws.map V.int)[i]? = some x) : ∃ z, ws[i]? = some z ∧ x = .int z := by
  rw [List.getElem?_map] at h
  cases e : ws[i]? with
  | none =>
    rw [e] at h
    cases h
  | some z =>
    rw [e] at h
    exact ⟨z, rfl, (Option.some.inj h).symm⟩
theorem map_set (zs : List Int) (j : Nat) (v : Int) : (zs.map V.int).set j (.int v) = (zs.set j v).map V.int := List.map_set.symm
theorem ixN_nat {n j : Nat} (h : j < n) : ixN n (j : Int) = some j := by
  unfold ixN
  rw [if_pos (Int.natCast_nonneg j), if_pos (by omega), Int.toNat_natCast]
theorem ok_folded {f : Addr} {fd : FuncData} {k : Nat} (F : Fun K "_law_folded" "_law_folded" sFolded f fd) (B : Bl mg) : FnOk P w K mg base CX0 (k + 1) f fd ["_law_script", "_law_size"] (spFolded K) := by
  refine F.ok scFolded (fun vs H Q E h => ?_) (fun cdv A outer s H vs Q E hr h => ?_)
  · obtain ⟨a, ns, m, rfl, _⟩ := h
    rfl
  obtain ⟨a, ns, m, rfl, hS, h63, hm1, hm2, q⟩ := h
  refine ⟨_, pss_cons (ps_set (i := 2) scFolded.nd rfl (.inl rfl) (pe_callTy call_list_of (by rfl) B.list PyProof.Rows.boot_list (pa_cons (pe_slice sl_list (pv 0) po_none (po_some (pv 1))) pa_nil)))
    (pss_cons (ps_for PassesOwn.never rfl (pi_enum (by rfl) B.enumerate (pa_cons (pe_slice sl_list (pv 0) (po_some (pv 1)) (po_some pe_int)) pa_nil))
        (pg_tup rfl (pgs_cons (pg_name (i := 3) scFolded.nd rfl (.inl rfl)) (pgs_cons (pg_name (i := 4) scFolded.nd rfl (.inl rfl)) pgs_nil)))
      (pss_one (ps_asg (pe_op op_add (pe_ix ix_list (pv 2) (pe_op op_mod (pv 3) (pv 1)) (fun _ _ => rfl)) (pe_op op_mul (pv 4) (pe_op op_add (pv 3) pe_int))) (pg_sub (pv 2) (pe_op op_mod (pv 3) (pv 1)) set_list))))
    (pss_one (ps_ret (pv 2)))), ?_⟩
  refine ⟨_, rfl, _, rfl, _, rfl, a, _, rfl, hS, fun c0 nc0 => ?_⟩
  rw [cut_lo]
  have s0 : Same H (upd H c0 (.lst ((ns.take m).map V.int))) := same_upd nc0
  refine ⟨c0, _, rfl, .inl (.inl (.inl upd_same)), fun p np => ?_⟩
  have npH : H p = none := s0.free np
  have ne0 : c0 ≠ p := fun e => by
    subst e
    rw [upd_same] at np
    cases np
  have s1 := s0.trans (same_upd (o := .lst ((ns.take m).map V.int)) np)
  refine ⟨_, rfl, _, rfl, _, rfl, _, rfl, a, _, rfl, s1.seq hS, fun c nc => ?_⟩
  obtain ⟨ws, ew, lw⟩ := cut_mid ns m 63
  rw [show ((63 : Nat) : Int) = (63 : Int) from rfl] at ew
  rw [ew]
  have s2 := s1.trans (same_upd (o := .lst (ws.map V.int)) nc)
  have nec : c ≠ p := fun e => by
    subst e
    rw [upd_same] at nc
    cases nc
  refine ⟨c, _, rfl, .inl (.inl upd_same), ?_⟩
  refine for_it (walk_enum (K := K) (a := c) (xs := ws.map V.int)) (fun i σ H3 => ∃ (y3 y4 : Option V) (zs : List Int), σ = [some (.ref a), some (.int (m : Int)), some (.ref p), y3, y4] ∧ Same H H3 ∧ H3 c = some (.lst (ws.map V.int)) ∧ H3 p = some (.lst (zs.map V.int)) ∧ zs.length = min ns.length m)
    ⟨none, none, ns.take m, rfl, s2, upd_same, ?_, ?_⟩ (fun i σ H3 _ ⟨_, _, _, _, _, e, _⟩ => .inl (.inl e)) ?_ ?_
  · rw [upd_ne nec.symm]
    exact upd_same
  · rw [List.length_take, Nat.min_comm]
  · rintro i v σ H3 H4 hi ⟨y3, y4, zs, rfl, s3, ec, ep, el⟩ ⟨T, x, y, rfl, nT, rfl, e1, e2⟩
    cases e1
    obtain ⟨z, _, rfl⟩ := int_at e2
    rw [List.length_map] at hi
    have npT : p ≠ T := ne_of_none ep nT
    have ncT : c ≠ T := ne_of_none ec nT
    have sT : Same H3 (upd H3 T (.tup [.int (i : Nat), .int z])) := same_upd nT
    refine ⟨T, _, rfl, .inl (.inl upd_same), rfl, _, _, rfl, _, _, rfl, rfl, ?_⟩
    have lm : (i : Int) % (m : Int) = ((i % m : Nat) : Int) := rfl
    have hl : i % m < zs.length := by
      have := Nat.mod_lt i (show 0 < m by omega)
      omega
    have ev : (zs.map V.int)[i % m]? = some (.int zs[i % m]) := by
      rw [List.getElem?_map, List.getElem?_eq_getElem hl]
      rfl
    refine ⟨_, rfl, _, rfl, _, rfl, _, _, rfl, rfl, (by show (0 : Int) < (m : Int); omega), p, _, _, _, rfl, rfl, SqL.of (sT _ _ ep), (by rw [lm]; exact atI_nat ev), _, rfl, _, rfl, _, _, rfl, rfl, _, _, rfl, rfl, .inr ⟨by omega, by omega⟩, _, _, rfl, rfl, ?_⟩
    refine ⟨_, rfl, _, rfl, _, rfl, _, _, rfl, rfl, (by show (0 : Int) < (m : Int); omega), p, _, _, i % m, rfl, rfl, sT _ _ ep, (by rw [lm, List.length_map]; exact ixN_nat hl), ?_⟩
    refine ⟨_, _, zs.set (i % m) (zs[i % m] + z * ((i : Int) + 2)), rfl, fun b o e => ?_, ?_, ?_, ?_⟩
    · rw [upd_ne (ne_of_none e npH)]
      exact sT _ _ (s3 _ _ e)
    · rw [upd_ne nec]
      exact sT _ _ ec
    · rw [upd_same, map_set]
    · rw [List.length_set]
      exact el
  · rintro σ H3 ⟨y3, y4, zs, rfl, s3, ec, ep, el⟩
    exact ⟨_, rfl, q p H3 zs npH s3 ep el⟩
/-! ### _law_same: of two things of one kind and worth -/
theorem scSame : FnScope ["_law_found", "_law_due", "_law_one", "_law_other"] ["_law_found", "_law_due"] (defScope sSame) := ⟨rfl, rfl, rfl, by decide +kernel, rfl, by decide +kernel, by decide +kernel⟩
def Lv : Nat → PyData → Prop
  | _, .none => True
  | _, .bool _ => True
  | _, .int _ => True
  | _, .str _ => True
  | n + 1, .list ds => ds.length ≤ 1000000 ∧ ∀ d ∈ ds, Lv n d
  | n + 1, .tuple ds => ds.length ≤ 1000000 ∧ ∀ d ∈ ds, Lv n d
  | _, _ => False
mutual
theorem Dp.same {H H' : Hp} (s : Same H H') : ∀ (d : PyData) (v : V), Dp K H v d → Dp K H' v d
  | .none, _, h => by
    cases h
    exact .non
  | .bool b, _, h => by
    cases h
    exact .bl b
  | .int i, _, h => by
    cases h
    exact .int i
  | .str x, _, h => by
    cases h
    exact .str x
  | .list ds, _, h => by
    cases h with
    | lst hs ha => exact .lst (s.seq hs) (Dp.sameAll s ds _ ha)
  | .tuple ds, _, h => by
    cases h with
    | tup hs ha => exact .tup (Same.seqT s hs) (Dp.sameAll s ds _ ha)
  | .dict _, _, h => by cases h
theorem Dp.sameAll {H H' : Hp} (s : Same H H') : ∀ (ds : List PyData) (vs : List V), DpAll K H vs ds → DpAll K H' vs ds
  | [], _, h => by
    cases h
    exact .nil
  | d :: ds, _, h => by
    cases h with
    | cons h1 h2 => exact .cons (Dp.same s d _ h1) (Dp.sameAll s ds _ h2)
end
theorem DpAll.len {H : Hp} : ∀ {ds : List PyData} {vs : List V}, DpAll K H vs ds → vs.length = ds.length
  | [], _, h => by
    cases h
    rfl
  | d :: ds, _, h => by
    cases h with
    | cons h1 h2 => rw [List.length_cons, List.length_cons, DpAll.len h2]
theorem DpAll.get {H : Hp} : ∀ {ds : List PyData} {vs : List V} {i : Nat} {x : V}, DpAll K H vs ds → vs[i]? = some x → ∃ d, ds[i]? = some d ∧ Dp K H x d
  | [], _, i, x, h, e => by
    cases h
    cases e
  | d :: ds, _, 0, x, h, e => by
    cases h with
    | cons h1 h2 =>
      cases e
      exact ⟨d, rfl, h1⟩
  | d :: ds, _, i + 1, x, h, e => by
    cases h with
    | @cons _ vs _ _ h1 h2 => exact DpAll.get (ds := ds) (vs := vs) h2 (show vs[i]? = some x from e)
theorem walk_zipT {a b : Addr} {xs ys : List V} {n : Nat} (hn : n = min xs.length ys.length) : Walk (RZ.ItzT K a b) n (fun H => SqT K H a xs ∧ SqT K H b ys) (YPair (fun i => xs[i]?) (fun i => ys[i]?)) := by
  subst hn
  refine ⟨fun i _ hi q => ?_, fun _ q => ⟨xs, ys, q.1, q.2, by omega⟩, fun i H v H' _ q y => ?_⟩
  · have h1 : i < xs.length := by omega
    have h2 : i < ys.length := by omega
    exact ⟨xs, ys, xs[i], ys[i], q.1, q.2, by simp [h1], by simp [h2]⟩
  · obtain ⟨T, x, z, h1, h2, h3, h4, h5⟩ := y
    exact ⟨T, x, z, h1, h2, h3, h4 xs q.1, h5 ys q.2⟩
theorem ty_lst {H : Hp} {a : Addr} {xs : List V} (h : SqL K H a xs) : TyX K H (.ref a) (.type "list") := by
  rcases h with (h | ⟨o, h⟩) | ⟨o, its, n, h1, h2, _⟩
  · exact .base (.lst h)
  · exact .base (.frz h)
  · exact .kList h1 h2
theorem ty_tup {H : Hp} {a : Addr} {xs : List V} (h : SqT K H a xs) : TyX K H (.ref a) (.type "tuple") := by
  rcases h with (h | ⟨o, h⟩) | ⟨o, its, n, h1, h2, _⟩
  · exact .base (.tup h)
  · exact .fTuple h
  · exact .kTuple h1 h2
def spSame (K : PySem.W.Frag) (k : Nat) : Sp := fun vs H Q _ => ∃ (x y : V) (d : PyData) (j : Nat), vs = [x, y] ∧ k = j + 1 ∧ Lv j d ∧ Dp K H x d ∧ Dp K H y d ∧ ∀ H', Same H H' → Q (.bl true) H'
theorem same_none {f : Addr} {fd : FuncData} : FnOk P w K mg base CX0 0 f fd ["_law_found", "_law_due"] (spSame K 0) := by
  have no : ∀ vs H Q E, ¬ spSame K 0 vs H Q E := fun vs H Q E h => by
    obtain ⟨x, y, d, j, _, h0, _⟩ := h
    omega
  exact ⟨fun vs H Q E h => absurd h (no vs H Q E), fun A outer s H args us vs Q E _ _ _ _ h => absurd h (no vs H Q E)⟩
theorem yesT {σ : L2.St} {H : Hp} {R S : Hp → Prop} (h : R H) : tYes σ H fun b H3 => if b = true then R H3 else S H3 := h
theorem repl_snoc {α : Type} (i : Nat) (x : α) : List.replicate i x ++ [x] = List.replicate (i + 1) x := List.replicate_succ'.symm
theorem all_repl (n : Nat) : (List.replicate n true).all id = true := by
  rw [List.all_eq_true]
  intro x hx
  rw [List.eq_of_mem_replicate hx]
  rfl
theorem kitLT {t : String} {r1 r2 : Bool} (h1 : kitB t "list" = some r1) (h2 : kitB t "tuple" = some r2) : PySem.W.kitAny K (.type t) [.type "list", .type "tuple"] = some (r1 || r2) := by
  refine kitAny_cons (kit_ty h1) (fun e => ?_) (fun e => by rw [e]; rfl)
  rw [e, Bool.false_or]
  refine kitAny_cons (kit_ty h2) (fun e => ?_) (fun e => e)
  rw [e]
  rfl
theorem ok_same1 {f : Addr} {fd : FuncData} {k : Nat} (F : Fun K "_law_same" "_law_same" sSame f fd) (G : FnOk P w K mg base CX0 k f fd ["_law_found", "_law_due"] (spSame K k)) (bf : Binds K fd ["_law_found", "_law_due"] []) (mf : mg "_law_same" = some (.ref f)) (B : Bl mg) :
    FnOk P w K mg base CX0 (k + 1) f fd ["_law_found", "_law_due"] (spSame K (k + 1)) := by
  refine F.ok scSame (fun vs H Q E h => ?_) (fun cdv A outer s H vs Q E hr h => ?_)
  · obtain ⟨x, y, d, j, rfl, _⟩ := h
    rfl
  obtain ⟨x, y, d, j, rfl, ej, lv, dx, dy, q⟩ := h
  obtain rfl : k = j := by omega
  refine ⟨_, pss_cons (ps_if (pt_val (pe_callB call_isiT (by rfl) B.isinstance boot_isinstance (pa_cons (pv 1) (pa_cons (pe_tup (pa_cons (pe_bltn (v := .ty "list") (by rfl) B.list PyProof.Rows.boot_list rfl) (pa_cons (pe_bltn (v := .ty "tuple") (by rfl) B.tuple PyProof.Rows.boot_tuple rfl) pa_nil))) pa_nil))))
      (pss_cons (ps_if (PW.pt (pw_or (pt_cmpR op_ne (pe_callB call_isi (by rfl) B.isinstance boot_isinstance (pa_cons (pv 0) (pa_cons (pe_bltn (v := .ty "list") (by rfl) B.list PyProof.Rows.boot_list rfl) pa_nil))) (pe_callB call_isi (by rfl) B.isinstance boot_isinstance (pa_cons (pv 1) (pa_cons (pe_bltn (v := .ty "list") (by rfl) B.list PyProof.Rows.boot_list rfl) pa_nil))) (nomark _))
          (pw_or1 (pt_cmpR op_ne (pe_callB call_isi (by rfl) B.isinstance boot_isinstance (pa_cons (pv 0) (pa_cons (pe_bltn (v := .ty "tuple") (by rfl) B.tuple PyProof.Rows.boot_tuple rfl) pa_nil))) (pe_callB call_isi (by rfl) B.isinstance boot_isinstance (pa_cons (pv 1) (pa_cons (pe_bltn (v := .ty "tuple") (by rfl) B.tuple PyProof.Rows.boot_tuple rfl) pa_nil))) (nomark _)))))
          (pss_one (ps_ret pe_bl)) pss_nil)
        (pss_one (ps_ret (pe_and (pe_cmpR op_eq (pe_callB call_len_seq (by rfl) B.len PySem.boot_len (pa_cons (pv 0) pa_nil)) (pe_callB call_len_seq (by rfl) B.len PySem.boot_len (pa_cons (pv 1) pa_nil)) (nomark _))
          (pe_one (pe_callB (cr_all rfl) (by rfl) B.all boot_all (pa_cons (pe_lc (own := [("_law_one", 2), ("_law_other", 3)]) (g := gTup K 2 (gCons (gName 2) (gCons (gName 3) gNil))) (by rfl) scSame.nd (RZ.pi_zipA (by rfl) B.zip (pa_cons (pv 0) (pa_cons (pv 1) pa_nil)))
            (blkOk_by (own := [("_law_one", 2), ("_law_other", 3)]) (N := ["_law_found", "_law_due", "_law_one", "_law_other"]) (sc := defScope sSame) (by decide +kernel))
            (fun _ _ _ _ _ => pg_tup rfl (pgs_cons (pg_name (i := 2) scSame.nd rfl (Or.inl rfl) (.inr rfl)) (pgs_cons (pg_name (i := 3) scSame.nd rfl (Or.inl rfl) (.inr rfl)) pgs_nil))) (fun _ _ _ _ _ => pts_nil)
            (fun _ _ _ _ _ => pe_call G hr (by rfl) mf F.kp bf .nil pass0 (pa_cons (pv 2) (pa_cons (pv 3) pa_nil)))) pa_nil))))))) pss_nil)
    (pss_cons (ps_if (PW.pt (pw_or (pt_cmpR op_isN (pv 1) pe_non (nomark _)) (pw_or1 (pt_val (pe_callB call_isi (by rfl) B.isinstance boot_isinstance (pa_cons (pv 1) (pa_cons (pe_bltn (v := .ty "str") (by rfl) B.str PyProof.Rows.boot_str rfl) pa_nil)))))))
      (pss_one (ps_ret (pe_and (pe_cmpR op_eq (pv 0) (pv 1) (nomark _)) (pe_one (pe_cmpR op_eq (pe_callB call_isi (by rfl) B.isinstance boot_isinstance (pa_cons (pv 0) (pa_cons (pe_bltn (v := .ty "str") (by rfl) B.str PyProof.Rows.boot_str rfl) pa_nil))) (pe_callB call_isi (by rfl) B.isinstance boot_isinstance (pa_cons (pv 1) (pa_cons (pe_bltn (v := .ty "str") (by rfl) B.str PyProof.Rows.boot_str rfl) pa_nil))) (nomark _)))))) pss_nil)
    (pss_one (ps_ret (pe_and (pe_callB call_isi (by rfl) B.isinstance boot_isinstance (pa_cons (pv 0) (pa_cons (pe_bltn (v := .ty "int") (by rfl) B.int PyProof.Rows.boot_int rfl) pa_nil))) (pe_and (pe_cmpR op_eq (pe_callB call_isi (by rfl) B.isinstance boot_isinstance (pa_cons (pv 0) (pa_cons (pe_bltn (v := .ty "bool") (by rfl) B.bool PyProof.Rows.boot_bool rfl) pa_nil))) (pe_callB call_isi (by rfl) B.isinstance boot_isinstance (pa_cons (pv 1) (pa_cons (pe_bltn (v := .ty "bool") (by rfl) B.bool PyProof.Rows.boot_bool rfl) pa_nil))) (nomark _))
      (pe_one (pe_cmpR op_eq (pv 0) (pv 1) (nomark _)))))))), ?_⟩
  have pr : Paired ClsV [.ty "list", .ty "tuple"] [.type "list", .type "tuple"] := .cons (.ty _) (.cons (.ty _) .nil)
  refine ⟨_, rfl, (by show 2 ≤ sizeLine; decide), fun tp ntp => ?_⟩
  have s0 : Same H (upd H tp (.tup [.ty "list", .ty "tuple"])) := same_upd ntp
  cases d with
  | none =>
    cases dx
    cases dy
    refine ⟨_, tp, _, _, _, _, rfl, upd_same, pr, .base .non, kitLT (t := "NoneType") (r1 := false) (r2 := false) (by decide +kernel) (by decide +kernel), _, rfl, iteF ?_⟩
    refine ⟨_, rfl, rfl, _, rfl, iteT (iteT ?_)⟩
    refine ⟨_, rfl, _, rfl, rfl, _, rfl, iteT ?_⟩
    refine ⟨_, rfl, _, _, _, _, _, rfl, .ty _, .base .non, kit_ty (by decide +kernel : kitB "NoneType" "str" = some false), _, rfl, _, _, _, _, _, rfl, .ty _, .base .non, kit_ty (by decide +kernel : kitB "NoneType" "str" = some false), rfl, q _ s0⟩
  | bool b =>
    cases dx
    cases dy
    refine ⟨_, tp, _, _, _, _, rfl, upd_same, pr, .base (.bl _), kitLT (t := "bool") (r1 := false) (r2 := false) (by decide +kernel) (by decide +kernel), _, rfl, iteF ?_⟩
    refine ⟨_, rfl, rfl, _, rfl, iteF ?_⟩
    refine ⟨_, rfl, _, _, _, _, _, rfl, .ty _, .base (.bl _), kit_ty (by decide +kernel : kitB "bool" "str" = some false), _, rfl, iteF ?_⟩
    refine ⟨_, rfl, _, _, _, _, _, rfl, .ty _, .base (.bl _), kit_ty (by decide +kernel : kitB "bool" "int" = some true), _, rfl, iteT ?_⟩
    refine ⟨_, rfl, _, _, _, _, _, rfl, .ty _, .base (.bl _), kit_ty (by decide +kernel : kitB "bool" "bool" = some true), _, rfl, _, _, _, _, _, rfl, .ty _, .base (.bl _), kit_ty (by decide +kernel : kitB "bool" "bool" = some true), rfl, _, rfl, iteT ?_⟩
    refine ⟨_, rfl, _, rfl, rfl, ?_⟩
    rw [decide_eq_true rfl]
    exact q _ s0
  | int i =>
    cases dx
    cases dy
    refine ⟨_, tp, _, _, _, _, rfl, upd_same, pr, .base (.int _), kitLT (t := "int") (r1 := false) (r2 := false) (by decide +kernel) (by decide +kernel), _, rfl, iteF ?_⟩
    refine ⟨_, rfl, rfl, _, rfl, iteF ?_⟩
    refine ⟨_, rfl, _, _, _, _, _, rfl, .ty _, .base (.int _), kit_ty (by decide +kernel : kitB "int" "str" = some false), _, rfl, iteF ?_⟩
    refine ⟨_, rfl, _, _, _, _, _, rfl, .ty _, .base (.int _), kit_ty (by decide +kernel : kitB "int" "int" = some true), _, rfl, iteT ?_⟩
    refine ⟨_, rfl, _, _, _, _, _, rfl, .ty _, .base (.int _), kit_ty (by decide +kernel : kitB "int" "bool" = some false), _, rfl, _, _, _, _, _, rfl, .ty _, .base (.int _), kit_ty (by decide +kernel : kitB "int" "bool" = some false), rfl, _, rfl, iteT ?_⟩
    refine ⟨_, rfl, _, rfl, rfl, ?_⟩
    rw [decide_eq_true rfl]
    exact q _ s0
  | str z =>
    cases dx
    cases dy
    refine ⟨_, tp, _, _, _, _, rfl, upd_same, pr, .base (.str _), kitLT (t := "str") (r1 := false) (r2 := false) (by decide +kernel) (by decide +kernel), _, rfl, iteF ?_⟩
    refine ⟨_, rfl, rfl, _, rfl, iteF ?_⟩
    refine ⟨_, rfl, _, _, _, _, _, rfl, .ty _, .base (.str _), kit_ty (by decide +kernel : kitB "str" "str" = some true), _, rfl, iteT ?_⟩
    refine ⟨_, rfl, _, rfl, rfl, ?_⟩
    rw [decide_eq_true rfl]
    refine ⟨_, rfl, iteT ?_⟩
    exact ⟨_, rfl, _, _, _, _, _, rfl, .ty _, .base (.str _), kit_ty (by decide +kernel : kitB "str" "str" = some true), _, rfl, _, _, _, _, _, rfl, .ty _, .base (.str _), kit_ty (by decide +kernel : kitB "str" "str" = some true), rfl, q _ s0⟩
  | list ds =>
    cases dx with
    | @lst a xs _ hx ax =>
    cases dy with
    | @lst b ys _ hy ay =>
    obtain ⟨i, rfl⟩ : ∃ i, k = i + 1 := by
      cases k with
      | zero => exact absurd lv id
      | succ i => exact ⟨i, rfl⟩
    have lx := DpAll.len ax
    have ly := DpAll.len ay
    have hx1 := s0.seq hx
    have hy1 := s0.seq hy
    refine ⟨_, tp, _, _, _, _, rfl, upd_same, pr, ty_lst hy1, kitLT (t := "list") (r1 := true) (r2 := false) (by decide +kernel) (by decide +kernel), _, rfl, iteT ?_⟩
    refine ⟨_, rfl, _, _, _, _, _, rfl, .ty _, ty_lst hx1, kit_ty (by decide +kernel : kitB "list" "list" = some true), _, rfl, _, _, _, _, _, rfl, .ty _, ty_lst hy1, kit_ty (by decide +kernel : kitB "list" "list" = some true), rfl, _, rfl, iteF ?_⟩
    refine ⟨_, rfl, _, _, _, _, _, rfl, .ty _, ty_lst hx1, kit_ty (by decide +kernel : kitB "list" "tuple" = some false), _, rfl, _, _, _, _, _, rfl, .ty _, ty_lst hy1, kit_ty (by decide +kernel : kitB "list" "tuple" = some false), rfl, _, rfl, iteF ?_⟩
    refine ⟨_, rfl, a, _, rfl, .inl hx1, _, rfl, b, _, rfl, .inl hy1, rfl, ?_⟩
    rw [decide_eq_true (by rw [lx, ly])]
    refine ⟨_, rfl, iteT ?_⟩
    refine ⟨_, rfl, _, rfl, a, b, xs, ys, rfl, .inl ⟨hx1, hy1, fun D nD => ?_⟩⟩
    have sD := s0.trans (same_upd (o := .lst []) nD)
    refine lc_it (walk_zip (K := K) (a := a) (b := b) (xs := xs) (ys := ys) rfl) (fun i H3 => Same H H3 ∧ H3 D = some (.lst (List.replicate i (.bl true)))) ⟨sD, upd_same⟩ (fun i H3 _ ⟨s3, _⟩ => ⟨s3.seq hx, s3.seq hy⟩) ?_ ?_
    · rintro i v H3 H4 hi ⟨s3, eD⟩ ⟨T, x, y, rfl, nT, rfl, e1, e2⟩
      obtain ⟨d1, g1, p1⟩ := DpAll.get ax e1
      obtain ⟨d2, g2, p2⟩ := DpAll.get ay e2
      obtain rfl : d1 = d2 := Option.some.inj (g1.symm.trans g2)
      have s4 := s3.trans (same_upd (o := .tup [x, y]) nT)
      refine ⟨T, _, rfl, .inl (.inl upd_same), rfl, _, _, rfl, _, _, rfl, rfl, rfl, ?_⟩
      refine yesT ?_
      refine ⟨_, rfl, _, rfl, x, y, d1, _, rfl, rfl, lv.2 d1 (List.mem_of_getElem? g1), Dp.same s4 _ _ p1, Dp.same s4 _ _ p2, fun H5 s5 => ?_⟩
      refine ⟨_, s5 _ _ (by rw [upd_ne (ne_of_none eD nT)]; exact eD), ?_, fun p o e => ?_, ?_⟩
      · rw [List.length_replicate]
        have := lv.1
        refine Nat.lt_of_lt_of_le (show i < 1000000 by omega) (by decide)
      · rw [upd_ne (ne_of_none e (s0.free nD))]
        exact s5 _ _ (s4 _ _ e)
      · rw [upd_same, repl_snoc]
    · rintro H3 ⟨s3, eD⟩
      refine ⟨D, List.replicate (min xs.length ys.length) true, rfl, .inl (.inl (by rw [List.map_replicate]; exact eD)), ?_⟩
      rw [all_repl]
      exact q _ s3
  | tuple ds =>
    cases dx with
    | @tup a xs _ hx ax =>
    cases dy with
    | @tup b ys _ hy ay =>
    obtain ⟨i, rfl⟩ : ∃ i, k = i + 1 := by
      cases k with
      | zero => exact absurd lv id
      | succ i => exact ⟨i, rfl⟩
    have lx := DpAll.len ax
    have ly := DpAll.len ay
    have hx1 := Same.seqT s0 hx
    have hy1 := Same.seqT s0 hy
    refine ⟨_, tp, _, _, _, _, rfl, upd_same, pr, ty_tup hy1, kitLT (t := "tuple") (r1 := false) (r2 := true) (by decide +kernel) (by decide +kernel), _, rfl, iteT ?_⟩
    refine ⟨_, rfl, _, _, _, _, _, rfl, .ty _, ty_tup hx1, kit_ty (by decide +kernel : kitB "tuple" "list" = some false), _, rfl, _, _, _, _, _, rfl, .ty _, ty_tup hy1, kit_ty (by decide +kernel : kitB "tuple" "list" = some false), rfl, _, rfl, iteF ?_⟩
    refine ⟨_, rfl, _, _, _, _, _, rfl, .ty _, ty_tup hx1, kit_ty (by decide +kernel : kitB "tuple" "tuple" = some true), _, rfl, _, _, _, _, _, rfl, .ty _, ty_tup hy1, kit_ty (by decide +kernel : kitB "tuple" "tuple" = some true), rfl, _, rfl, iteF ?_⟩
    refine ⟨_, rfl, a, _, rfl, .inr hx1, _, rfl, b, _, rfl, .inr hy1, rfl, ?_⟩
    rw [decide_eq_true (by rw [lx, ly])]
    refine ⟨_, rfl, iteT ?_⟩
    refine ⟨_, rfl, _, rfl, a, b, xs, ys, rfl, .inr ⟨hx1, hy1, fun D nD => ?_⟩⟩
    have sD := s0.trans (same_upd (o := .lst []) nD)
    refine lc_it (walk_zipT (K := K) (a := a) (b := b) (xs := xs) (ys := ys) rfl) (fun i H3 => Same H H3 ∧ H3 D = some (.lst (List.replicate i (.bl true)))) ⟨sD, upd_same⟩ (fun i H3 _ ⟨s3, _⟩ => ⟨Same.seqT s3 hx, Same.seqT s3 hy⟩) ?_ ?_
    · rintro i v H3 H4 hi ⟨s3, eD⟩ ⟨T, x, y, rfl, nT, rfl, e1, e2⟩
      obtain ⟨d1, g1, p1⟩ := DpAll.get ax e1
      obtain ⟨d2, g2, p2⟩ := DpAll.get ay e2
      obtain rfl : d1 = d2 := Option.some.inj (g1.symm.trans g2)
      have s4 := s3.trans (same_upd (o := .tup [x, y]) nT)
      refine ⟨T, _, rfl, .inl (.inl upd_same), rfl, _, _, rfl, _, _, rfl, rfl, rfl, ?_⟩
      refine yesT ?_
      refine ⟨_, rfl, _, rfl, x, y, d1, _, rfl, rfl, lv.2 d1 (List.mem_of_getElem? g1), Dp.same s4 _ _ p1, Dp.same s4 _ _ p2, fun H5 s5 => ?_⟩
      refine ⟨_, s5 _ _ (by rw [upd_ne (ne_of_none eD nT)]; exact eD), ?_, fun p o e => ?_, ?_⟩
      · rw [List.length_replicate]
        have := lv.1
        refine Nat.lt_of_lt_of_le (show i < 1000000 by omega) (by decide)
      · rw [upd_ne (ne_of_none e (s0.free nD))]
        exact s5 _ _ (s4 _ _ e)
      · rw [upd_same, repl_snoc]
    · rintro H3 ⟨s3, eD⟩
      refine ⟨D, List.replicate (min xs.length ys.length) true, rfl, .inl (.inl (by rw [List.map_replicate]; exact eD)), ?_⟩
      rw [all_repl]
      exact q _ s3
  | dict _ => cases dx
theorem ok_same {f : Addr} {fd : FuncData} (F : Fun K "_law_same" "_law_same" sSame f fd) (bf : Binds K fd ["_law_found", "_law_due"] []) (mf : mg "_law_same" = some (.ref f)) (B : Bl mg) : ∀ k : Nat, FnOk P w K mg base CX0 k f fd ["_law_found", "_law_due"] (spSame K k)
  | 0 => same_none
  | k + 1 => ok_same1 F (ok_same F bf mf B k) bf mf B
end
end GZ
namespace GM
theorem pow_pos' (n : Nat) : (0 : Int) < 2 ^ n := Int.pow_pos (by decide)
theorem pow_s (n : Nat) : (2 : Int) ^ (n + 1) = 2 ^ n * 2 := Int.pow_succ 2 n
theorem pow_le' {m n : Nat} (h : m ≤ n) : (2 : Int) ^ m ≤ 2 ^ n := by
  induction n with
  | zero =>
    have : m = 0 := by omega
    rw [this]
    exact Int.le_refl _
  | succ n ih =>
    by_cases e : m = n + 1
    · rw [e]
      exact Int.le_refl _
    · have := ih (by omega)
      have := pow_s n
      have := pow_pos' n
      omega
theorem pow_add' (m n : Nat) : (2 : Int) ^ (m + n) = 2 ^ m * 2 ^ n := Int.pow_add 2 m n
theorem bits_pow {x : Nat} {e : Nat} (h : x < 2 ^ e) : PySem.Builtin.Int.intBits (x : Int) ≤ e := PyProof.Rows.intBits_le (by rw [Int.natAbs_natCast]; exact h)
theorem bits_le_pow {x : Nat} {e : Nat} (h : 2 ^ e ≤ x) : e + 1 ≤ PySem.Builtin.Int.intBits (x : Int) := by
  have hx : x ≠ 0 := by
    have := Nat.two_pow_pos e
    omega
  unfold PySem.Builtin.Int.intBits
  rw [if_neg (by simpa using hx), Int.natAbs_natCast]
  have := (Nat.le_log2 hx).mpr h
  omega
theorem bits_unique {x e : Nat} (h1 : 2 ^ e ≤ x) (h2 : x < 2 ^ (e + 1)) : PySem.Builtin.Int.intBits (x : Int) = e + 1 := by
  have := bits_pow h2
  have := bits_le_pow h1
  omega
theorem bits_ex {x : Nat} (h : 0 < x) : ∃ e, 2 ^ e ≤ x ∧ x < 2 ^ (e + 1) := ⟨x.log2, Nat.log2_self_le (by omega), Nat.lt_log2_self⟩
theorem bits_half {x : Nat} (h : 0 < x) : PySem.Builtin.Int.intBits (x : Int) = PySem.Builtin.Int.intBits ((x / 2 : Nat) : Int) + 1 := by
  obtain ⟨e, h1, h2⟩ := bits_ex h
  rw [bits_unique h1 h2]
  cases e with
  | zero =>
    have : x = 1 := by
      simp at h1 h2
      omega
    rw [this]
    rfl
  | succ e =>
    rw [bits_unique (x := x / 2) (e := e)]
    · rw [Nat.pow_succ] at h1
      omega
    · rw [Nat.pow_succ] at h2
      omega
theorem bits_double {x m : Nat} (h : 0 < x) (hm : m ≤ 1) : PySem.Builtin.Int.intBits ((2 * x + m : Nat) : Int) = PySem.Builtin.Int.intBits (x : Int) + 1 := by
  rw [bits_half (x := 2 * x + m) (by omega), show (2 * x + m) / 2 = x by omega]
theorem shr_lt {x : Int} {a b : Nat} (h0 : 0 ≤ x) (h : x < 2 ^ (a + b)) : 0 ≤ x / 2 ^ b ∧ x / 2 ^ b < 2 ^ a := by
  have hb := pow_pos' b
  refine ⟨Int.ediv_nonneg h0 (by omega), ?_⟩
  rw [pow_add'] at h
  exact Int.ediv_lt_of_lt_mul hb h
end GM
namespace GM
/-! ### words: a sign, a scale of m bits, a tail of t bits -/
def bit (a : Int) (n : Nat) : Int := a / 2 ^ n % 2
def blr (a : Int) : Nat → List Int
  | 0 => []
  | n + 1 => bit a n :: blr a n
def wv : List Int → Int
  | [] => 0
  | d :: r => d * 2 ^ r.length + wv r
theorem blr_len (a : Int) : ∀ n, (blr a n).length = n
  | 0 => rfl
  | n + 1 => by
    show (blr a n).length + 1 = n + 1
    rw [blr_len a n]
theorem div_div (w : Int) (t m : Nat) : w / 2 ^ t / 2 ^ m = w / 2 ^ (t + m) := by
  rw [pow_add', Int.ediv_ediv_of_nonneg (Int.le_of_lt (pow_pos' t))]
theorem bit_div (w : Int) (t m : Nat) : bit (w / 2 ^ t) m = bit w (m + t) := by
  unfold bit
  rw [div_div, Nat.add_comm t m]
theorem blr_take (w : Int) (t : Nat) : ∀ m, (blr w (m + t)).take m = blr (w / 2 ^ t) m
  | 0 => rfl
  | m + 1 => by
    show (blr w ((m + 1) + t)).take (m + 1) = bit (w / 2 ^ t) m :: blr (w / 2 ^ t) m
    rw [show m + 1 + t = (m + t) + 1 by omega]
    show bit w (m + t) :: (blr w (m + t)).take m = _
    rw [blr_take w t m, bit_div]
theorem blr_drop (w : Int) (t : Nat) : ∀ m, (blr w (m + t)).drop m = blr w t
  | 0 => by rw [Nat.zero_add]; rfl
  | m + 1 => by
    rw [show m + 1 + t = (m + t) + 1 by omega]
    show (blr w (m + t)).drop m = _
    exact blr_drop w t m
theorem mod_step (a : Int) (n : Nat) : bit a n * 2 ^ n + a % 2 ^ n = a % 2 ^ (n + 1) := by
  unfold bit
  have hp := pow_pos' n
  have e1 := Int.emod_add_mul_ediv a (2 ^ n)
  have e2 := Int.emod_add_mul_ediv (a / 2 ^ n) 2
  have h1 := Int.emod_nonneg a (show (2 : Int) ^ n ≠ 0 by omega)
  have h2 := Int.emod_lt_of_pos a hp
  have e3 : 2 ^ n * (a / 2 ^ n) = a / 2 ^ n % 2 * 2 ^ n + a / 2 ^ n / 2 * (2 ^ n * 2) := by
    conv => lhs; rw [← e2]
    rw [Int.mul_add, Int.mul_comm (2 ^ n) (a / 2 ^ n % 2), ← Int.mul_assoc, Int.mul_comm (2 ^ n * 2) _]
  have key : (a / 2 ^ n % 2 * 2 ^ n + a % 2 ^ n) + a / 2 ^ n / 2 * 2 ^ (n + 1) = a := by
    rw [pow_s]
    omega
  have hb : 0 ≤ a / 2 ^ n % 2 * 2 ^ n + a % 2 ^ n ∧ a / 2 ^ n % 2 * 2 ^ n + a % 2 ^ n < 2 ^ (n + 1) := by
    rw [pow_s]
    have : a / 2 ^ n % 2 = 0 ∨ a / 2 ^ n % 2 = 1 := by omega
    rcases this with z | z <;> rw [z] <;> omega
  have em := Int.add_mul_emod_self_right (a / 2 ^ n % 2 * 2 ^ n + a % 2 ^ n) (a / 2 ^ n / 2) (2 ^ (n + 1))
  rw [key, Int.emod_eq_of_lt hb.1 hb.2] at em
  exact em.symm
theorem wv_blr (a : Int) : ∀ n, wv (blr a n) = a % 2 ^ n
  | 0 => by
    show (0 : Int) = a % 1
    omega
  | n + 1 => by
    show bit a n * 2 ^ (blr a n).length + wv (blr a n) = _
    rw [blr_len, wv_blr a n, ← mod_step a n]
theorem fold2 : ∀ (ds : List Int) (w : Int), ds.foldl (fun a b => a * 2 + b) w = w * 2 ^ ds.length + wv ds
  | [], w => by
    show w = w * 2 ^ 0 + 0
    rw [Int.pow_zero]
    omega
  | d :: r, w => by
    show r.foldl (fun a b => a * 2 + b) (w * 2 + d) = w * 2 ^ (r.length + 1) + (d * 2 ^ r.length + wv r)
    rw [fold2 r, pow_s, Int.add_mul, Int.mul_assoc, Int.mul_comm 2 (2 ^ r.length)]
    omega
theorem wv_ones : ∀ k, wv (List.replicate k 1) = 2 ^ k - 1
  | 0 => rfl
  | k + 1 => by
    rw [List.replicate_succ]
    show 1 * 2 ^ (List.replicate k (1 : Int)).length + wv (List.replicate k 1) = _
    rw [List.length_replicate, wv_ones k, pow_s]
    omega
/-- sign, scale, tail of a word -/
def sgn (m t : Nat) (w : Int) : Int := w / 2 ^ (m + t) % 2
def scl (m t : Nat) (w : Int) : Int := w / 2 ^ t % 2 ^ m
def tlp (t : Nat) (w : Int) : Int := w % 2 ^ t
theorem scl_tlp (m t : Nat) (w : Int) : scl m t w * 2 ^ t + tlp t w = w % 2 ^ (m + t) := by
  induction m with
  | zero =>
    unfold scl tlp
    rw [Int.pow_zero, Int.emod_one, Int.zero_mul, Int.zero_add, Nat.zero_add]
  | succ m ih =>
    have e := mod_step (w / 2 ^ t) m
    have e2 := mod_step w (m + t)
    rw [bit_div] at e
    unfold scl at ih ⊢
    rw [← e, Int.add_mul, show m + 1 + t = (m + t) + 1 by omega, ← e2, ← ih, Int.mul_assoc, ← pow_add']
    omega
theorem sgn_01 {m t : Nat} {w : Int} : sgn m t w = 0 ∨ sgn m t w = 1 := by
  unfold sgn
  omega
theorem word_eq {m t : Nat} {w : Int} (h0 : 0 ≤ w) (h1 : w < 2 ^ (1 + m + t)) : sgn m t w * 2 ^ (m + t) + w % 2 ^ (m + t) = w := by
  have e := mod_step w (m + t)
  rw [show m + t + 1 = 1 + m + t by omega, Int.emod_eq_of_lt h0 h1] at e
  exact e
theorem scl_nn (m t : Nat) (w : Int) : 0 ≤ scl m t w ∧ scl m t w < 2 ^ m := ⟨Int.emod_nonneg _ (by have := pow_pos' m; omega), Int.emod_lt_of_pos _ (pow_pos' m)⟩
theorem tlp_nn (t : Nat) (w : Int) : 0 ≤ tlp t w ∧ tlp t w < 2 ^ t := ⟨Int.emod_nonneg _ (by have := pow_pos' t; omega), Int.emod_lt_of_pos _ (pow_pos' t)⟩
/-- with the other sign -/
def trn (m t : Nat) (w : Int) : Int := (1 - sgn m t w) * 2 ^ (m + t) + w % 2 ^ (m + t)
theorem mk_parts {m t : Nat} {s r : Int} (hs : s = 0 ∨ s = 1) (h0 : 0 ≤ r) (h1 : r < 2 ^ (m + t)) : 0 ≤ s * 2 ^ (m + t) + r ∧ s * 2 ^ (m + t) + r < 2 ^ (1 + m + t) ∧ sgn m t (s * 2 ^ (m + t) + r) = s ∧ (s * 2 ^ (m + t) + r) % 2 ^ (m + t) = r := by
  have hp := pow_pos' (m + t)
  have e : (2 : Int) ^ (1 + m + t) = 2 ^ (m + t) * 2 := by rw [← pow_s]; congr 1; omega
  have em : (s * 2 ^ (m + t) + r) % 2 ^ (m + t) = r := by
    rw [Int.add_comm, Int.add_mul_emod_self_right, Int.emod_eq_of_lt h0 h1]
  have ed : (s * 2 ^ (m + t) + r) / 2 ^ (m + t) = s := by
    rw [Int.add_comm, Int.add_mul_ediv_right _ _ (by omega), Int.ediv_eq_zero_of_lt h0 h1, Int.zero_add]
  refine ⟨?_, ?_, ?_, em⟩
  · rcases hs with z | z <;> subst z <;> omega
  · rw [e]
    rcases hs with z | z <;> subst z <;> omega
  · unfold sgn
    rw [ed]
    omega
theorem trn_trn {m t : Nat} {w : Int} (h0 : 0 ≤ w) (h1 : w < 2 ^ (1 + m + t)) : trn m t (trn m t w) = w ∧ 0 ≤ trn m t w ∧ trn m t w < 2 ^ (1 + m + t) := by
  have hp := pow_pos' (m + t)
  have hs : 1 - sgn m t w = 0 ∨ 1 - sgn m t w = 1 := by
    have := sgn_01 (m := m) (t := t) (w := w)
    omega
  obtain ⟨a, b, c, d⟩ := mk_parts (m := m) (t := t) hs (Int.emod_nonneg w (show (2 : Int) ^ (m + t) ≠ 0 by omega)) (Int.emod_lt_of_pos w hp)
  refine ⟨?_, a, b⟩
  show (1 - sgn m t (trn m t w)) * 2 ^ (m + t) + trn m t w % 2 ^ (m + t) = w
  rw [show sgn m t (trn m t w) = 1 - sgn m t w from c, show trn m t w % 2 ^ (m + t) = w % 2 ^ (m + t) from d, show 1 - (1 - sgn m t w) = sgn m t w by omega]
  exact word_eq h0 h1
end GM
namespace GZ
open PySem PySem.Spec PyProof.Rows L2
end GZ
namespace L2
open PySem PySem.Spec PyProof.Rows
/-! ### defs that tell lists as texts: around them no text of a list is under way -/
structure FnOkG (P : Program) (w : World) (K : PySem.W.Frag) (mg : Str → Option Value) (base : Heap) (CX : CXT) (k : Nat) (f : Addr) (fd : FuncData) (ps : List Str) (sp : Sp) : Prop where
  lenG : ∀ vs H Q E, sp vs H Q E → vs.length = ps.length
  runG : ∀ (B : Around) (ou : List Env) (u : Shared) (H : Hp) (ar : Args) (us : List Value) (vs : List V) (Q : VK) (E : XK), B.guards = some [] → Room k B → Env0 P w K mg base B ou u H → BindsTo u fd ar (ps.zip us) → Vals vs us → sp vs H Q E → codeAny (model P w) B (.call (.ref f) ar) (CR CX ou P w H u Q E) u
section
variable {P : Program} {w : World} {K : PySem.W.Frag} {mg : Str → Option Value} {base : Heap} {CX : CXT} {f : Addr} {fd : FuncData} {ps : List Str} {sp sq : Sp}
theorem FnOk.toG {k : Nat} (F : FnOk P w K mg base CX k f fd ps sp) : FnOkG P w K mg base CX k f fd ps sp := ⟨F.len, fun B ou u H ar us vs Q E _ r e b v h => F.run B ou u H ar us vs Q E r e b v h⟩
theorem FnOkG.mono {j k : Nat} (F : FnOkG P w K mg base CX j f fd ps sp) (l : j ≤ k) : FnOkG P w K mg base CX k f fd ps sp := ⟨F.lenG, fun B ou u H ar us vs Q E g r => F.runG B ou u H ar us vs Q E g (r.mono l)⟩
theorem FnOkG.imp {k : Nat} (F : FnOkG P w K mg base CX k f fd ps sp) (h : ∀ vs H Q E, sq vs H Q E → sp vs H Q E) : FnOkG P w K mg base CX k f fd ps sq := ⟨fun vs H Q E q => F.lenG vs H Q E (h vs H Q E q), fun B ou u H ar us vs Q E g r e b v z => F.runG B ou u H ar us vs Q E g r e b v (h vs H Q E z)⟩
end
theorem fnG_of {CX : CXT} {P : Program} {w : World} {K : PySem.W.Frag} {mg : Str → Option Value} {base : Heap} {k : Nat} {f : Addr} {nm qu : Str} {pr : Arguments} {bd : List Stmt} {sc : Scope} {dV kV doc pm cdv ct oc : Value} {an od : Option Addr}
    {osl : Array (Option Value)} {N ps : List Str} {sp : Sp} (lk : K.lookup f = some ⟨oc, od, .func (PySem.W.fnOf nm qu pr bd sc dV kV doc pm an cdv ct), osl⟩) (hcd : PySem.W.codeIn K cdv qu = true) (S : FnScope N ps sc)
    (ln : ∀ vs H Q E, sp vs H Q E → vs.length = ps.length)
    (hb : ∀ (B : Around) (ou : List Env) (u : Shared) (H : Hp) (vs : List V) (Q : VK) (E : XK), (B.deeper (envOfC qu sc u.heap.objs.size f cdv)).guards = some [] → Room k (B.deeper (envOfC qu sc u.heap.objs.size f cdv)) → sp vs H Q E →
      ∃ t, PSs (cxOf CX P w K mg base N qu sc f cdv B ou u H E) bd t ∧ t { nx := fun _ G => Q .non G, rt := Q } (start N vs) H) :
    FnOkG P w K mg base CX (k + 1) f (PySem.W.fnOf nm qu pr bd sc dV kV doc pm an cdv ct) ps sp := by
  refine ⟨ln, fun B ou u H ar us vs Q E hg rm e0 bi rv hs => ?_⟩
  have lv := ln _ _ _ _ hs
  have XK : K.In u.heap := e0.mod.kin.keeps fun b o e => (e0.bs b o e).1
  have NL : u.heap.NoLimit := e0.mod.nolimit.keeps fun b o e => (e0.bs b o e).1
  have kd : ∀ y ∈ ps.zip us, sc.names.lookup y.1 = some .local ∨ (sc.names.lookup y.1 = some .cell ∧ ((cellsFrom (u.heap.objs.size + 1) sc.names []).lookup y.1).isSome = true) := fun ⟨n, v⟩ hy => (S.par n (List.of_mem_zip hy).1).elim .inl fun q => .inr ⟨q, PySem.W.cellsFrom_some _ _ _ (.inl q)⟩
  refine codeAny_call_function rm.depth (XK _ _ lk) rfl S.co S.gen rfl (PySem.W.codeRec_of XK hcd) (bi _ _ _ _ ?_)
  refine wpAny_newFunctionEnv_cells S.kind kd fun en he t1 xc => ?_
  subst he
  refine ⟨NL.keeps xc.toInCall.keep, codeAny_func ?_⟩
  obtain ⟨t, ht, hq⟩ := hb B ou u H vs Q E hg (rm.deeper _) hs
  have J0 : Inv (cxOf CX P w K mg base N qu sc f cdv B ou u H E) [] (start N vs) H t1 := inv_start S rm.hd e0 lv rv xc
  refine wpAny_mono (ht.run [] t1 (start N vs) H _ J0 hq) (fun fl t2 z => ?_) fun _ _ z => z
  have done : ∀ {σ2 : St} {H2 : Hp} {v : V} {y : Value}, Inv (cxOf CX P w K mg base N qu sc f cdv B ou u H E) [] σ2 H2 t2 → RelV v y → Q v H2 → CE ou P w H u Q y t2 := fun {σ2 H2 v y} J rl q => ⟨v, H2, J.os, J.bare, J.base, J.hok, rl, q⟩
  match fl, z with
  | .ret y, ⟨v, σ2, H2, J, rl, q⟩ => exact done J rl q
  | .next, ⟨σ2, H2, J, q⟩ => exact done (v := V.non) (y := Value.none) J rfl q
  | .brk, ⟨_, _, _, q⟩ => exact q.elim
  | .cont, ⟨_, _, _, q⟩ => exact q.elim
theorem Fun.okG {P : Program} {w : World} {K : PySem.W.Frag} {mg : Str → Option Value} {base : Heap} {x qu : Str} {st : Stmt} {f : Addr} {fd : FuncData} {N ps : List Str} {k : Nat} {sp : Sp} (F : Fun K x qu st f fd) (S : FnScope N ps (defScope st)) (ln : ∀ vs H Q E, sp vs H Q E → vs.length = ps.length)
    (hb : ∀ (cdv : Value) (B : Around) (ou : List Env) (u : Shared) (H : Hp) (vs : List V) (Q : VK) (E : XK), (B.deeper (envOfC qu (defScope st) u.heap.objs.size f cdv)).guards = some [] → Room k (B.deeper (envOfC qu (defScope st) u.heap.objs.size f cdv)) → sp vs H Q E →
      ∃ t, PSs (cxOf CX0 P w K mg base N qu (defScope st) f cdv B ou u H E).nox (defBody st) t ∧ t { nx := fun _ G => Q .non G, rt := Q } (start N vs) H) : FnOkG P w K mg base CX0 (k + 1) f fd ps sp := by
  obtain ⟨oc, od, kV, doc, pm, an, cdv, ct, osl, rfl, lk, hc⟩ := F.ex
  refine fnG_of lk hc S ln fun B ou u H vs Q E hg rm hs => ?_
  obtain ⟨t, h, q⟩ := hb cdv B ou u H vs Q E hg rm hs
  exact ⟨t, h.nox, q⟩
section
variable {X : Cx} {CX : CXT} {k : Nat} {f : Addr} {fd : FuncData} {ps : List Str} {sp : Sp} {dvs : List V} {ds : List Value} {E : XK} {x : Str} {p pos : Pos} {e : Expr} {es : List Expr} {t : TA}
theorem runG_fn {pz : List (Addr × Obj)} {τ : St} {H : Hp} {u0 : Shared} {Q : VK} {us : List Value} {vs : List V} (F : FnOkG X.prog X.w X.K X.mg X.base CX k f fd ps sp) (gd : X.A.guards = some []) (hr : Room k X.A) (hb : Binds X.K fd ps ds) (hd : Vals dvs ds) (hx : Passes CX X E)
    (I : Inv X pz τ H u0) (r : Vals vs us) (h : sp (vs ++ dvs) H Q E) : wpAny (model X.prog X.w) X.A (call (.ref f) us) (EP X pz τ Q) X.xe u0 := by
  have ra : Vals (vs ++ dvs) (us ++ ds) := r.append hd
  have la : (us ++ ds).length = ps.length := ra.length.symm.trans (F.lenG _ _ _ _ h)
  refine wpAny_call (codeAny_mono (F.runG X.A X.stack u0 H ⟨us, []⟩ (us ++ ds) (vs ++ dvs) Q E gd hr I.env0 (hb u0 us I.kIn la) ra h) fun r1 t1 z => ?_)
  match r1 with
  | .error er => exact hx pz τ H u0 er t1 I z
  | .ok (.ret y) => exact I.after z
  | .ok .next => exact z.elim
  | .ok .brk => exact z.elim
  | .ok .cont => exact z.elim
theorem pe_callG (F : FnOkG X.prog X.w X.K X.mg X.base CX k f fd ps sp) (gd : X.A.guards = some []) (hr : Room k X.A) (hg : Gl X x) (hm : X.mg x = some (.ref f)) (hk : PySem.W.keepIn X.K (.ref f) = true) (hb : Binds X.K fd ps ds) (hd : Vals dvs ds) (hx : Passes CX X E)
    (ha : PA X (e :: es) t) (hdb : (x == ("__debug__" : Str)) = false := by decide) (he : starEach (e :: es) X.env = (false, eval e X.env) :: starEach es X.env := by rfl) (hpl : (backTo pos (starEach es X.env)).any (·.1) = false := by rfl) :
    PE X (.Call (.Name x p) (e :: es) [] pos) (tCall sp dvs E t) := by
  constructor
  intro pz u0 τ H Q I h
  refine wpAny_Call_Name_kw (ld_glob I hg hm (PySem.W.callWith_K (h₀ := X.base) I.ok.mod.kin hk (thn (ha.run pos pz u0 τ H _ I h) fun us t1 z => ?_) he hpl) hdb)
  obtain ⟨vs, H1, I1, r, q⟩ := z
  exact ⟨I1.kIn, runG_fn F gd hr hb hd hx I1 r q⟩
/-- str of a list or tuple -/
theorem call_strD (gd : X.A.guards = some []) (hu : X.A.units + 100 < cLine) : CallR X (.type "str") (fun xs H Q => ∃ (a : Addr) (d : PyData), xs = [.ref a] ∧ Dp X.K H (.ref a) d ∧ d.showable = true ∧ d.hasDict = false ∧ d.shown.length ≤ sizeLine ∧ d.depth ≤ 60 ∧ Q (.str d.shown) H) := by
  intro pz u0 τ H xs us Q I r h
  obtain ⟨a, d, rfl, hd, h1, h2, h3, h4, q⟩ := h
  obtain ⟨u, rfl, rv⟩ := vals1 r
  obtain ⟨as, rd⟩ := Dp.reads I d (.ref a) u hd rv
  cases (show u = Value.ref a from rv)
  exact str_of_reads rd h1 (fun z => by rw [h2] at z; cases z) gd (by omega) (fun b o e => e) (fun h' y tk k => ⟨.str _, H, I.kept k, ⟨_, rfl⟩, q⟩) h3
end
/-! ### the head for such a law -/
theorem law_callG {P : Program} {w : World} {K : PySem.W.Frag} {mg mb : Str → Option Value} {CX : CXT} {k : Nat} {fa sa : Addr} {fd : FuncData} {x : Str} {sp : Sp} {t1 : Shared} {vs : List Value} {ns : List Int}
    (XK : K.In t1.heap) (hn : t1.heap.Ns mainGlobals mg) (hb : t1.heap.Ns builtinsNs mb) (hbb : ∀ y : Str, y ≠ "__name__" → mb y = bootBuiltins y) (nl : t1.heap.NoLimit) (ge : t1.gens = #[])
    (ha : t1.heap.get? sa = some { cls := .type "list", data := .seq vs.toArray }) (hi : IntsAre vs ns) (hl : ns.length ≤ sizeLine) (rm : Room k callerA)
    (F : ∀ base : Heap, K.In base → base.Ns mainGlobals mg → FnOkG P w K mg base CX k fa fd [x] sp) (bi : ∀ (u : Shared) (v : Value), BindsTo u fd ⟨[v], []⟩ [(x, v)])
    (hsp : ∀ H : Hp, Only H → SqL K H sa (ns.map V.int) → sp [.ref sa] H (fun v _ => v = .bl true) fun _ _ _ => False)
    (hX : ∀ H e t2, CX [] H t1 (fun _ _ _ => False) e t2 → False) :
    codeAny (model P w) callerA (.call (.ref fa) ⟨[.ref sa], []⟩) (fun r t2 => r = .ok (.ret (.bool true)) ∧ OldK t1.heap t2.heap ∧ t2.os = t1.os ∧ AllBare t2.gens) t1 := by
  have rv := vals_ints hi
  have lv := hi.length
  have main : ∀ H : Hp, Only H → SqL K H sa (ns.map V.int) → HOk P w H t1.heap → (∀ b, H b ≠ none → b = sa) → (H sa ≠ none → K.lookup sa = none) → codeAny (model P w) callerA (.call (.ref fa) ⟨[.ref sa], []⟩) (fun r t2 => r = .ok (.ret (.bool true)) ∧ OldK t1.heap t2.heap ∧ t2.os = t1.os ∧ AllBare t2.gens) t1 := by
    intro H hO hS ok only notK
    have there : ∀ {b : Addr} {o : Obj}, t1.heap.get? b = some o → H b = none → (hidT t1.heap H).get? b = some o := fun e n => hidT_get e n
    have dicts : ∀ {b : Addr} {o : Obj} {es : Array DictEntry} {ep : Nat}, t1.heap.get? b = some o → o.data = .dict es ep → H b = none := fun {b o es ep} e d => by
      cases z : H b with
      | none => rfl
      | some y =>
        have eb : b = sa := only b (fun q => by rw [z] at q; cases q)
        rw [eb, ha] at e
        cases e
        exact absurd (show Data.seq vs.toArray _ = Data.dict es ep from d) (fun q => by cases q)
    have nsk : ∀ {b : Addr} {m : Str → Option Value}, t1.heap.Ns b m → (hidT t1.heap H).Ns b m := fun {b m} z => by
      obtain ⟨o, es, ep, e, d, r⟩ := z
      exact ⟨o, es, ep, there e (dicts e d), d, r⟩
    have inK : K.In (hidT t1.heap H) := fun b o e => there (XK b o e) (by
      cases z : H b with
      | none => rfl
      | some y =>
        have ny : H b ≠ none := fun q => by rw [z] at q; cases q
        have eb : b = sa := only b ny
        subst eb
        rw [notK ny] at e
        cases e)
    have md : Mod K mg (hidT t1.heap H) := ⟨inK, nsk hn, ⟨mb, nsk hb, hbb⟩, by obtain ⟨mc, z1, z2⟩ := nl; exact ⟨mc, nsk z1, z2⟩⟩
    have en : Env0 P w K mg (hidT t1.heap H) callerA [] t1 H := ⟨rfl, md, fun b o e => of_hidT e, Nat.le_of_eq (hidT_size _ _), trivial, fun b hb => absurd (show b ∈ ([] : List Addr) from hb) (by simp), ok, .of_eq ge⟩
    refine codeAny_mono ((F _ inK (nsk hn)).runG callerA [] t1 H ⟨[.ref sa], []⟩ [.ref sa] [.ref sa] _ _ rfl rm en (bi t1 (.ref sa)) (.cons rfl .nil) (hsp H hO hS)) fun r t2 z => ?_
    match r, z with
    | .error e, z => exact (hX H e t2 z).elim
    | .ok .next, z => exact z.elim
    | .ok .brk, z => exact z.elim
    | .ok .cont, z => exact z.elim
    | .ok (.ret y), z =>
      obtain ⟨v, H2, os, br, un, ok2, rl, q⟩ := z
      cases (show v = .bl true from q)
      cases (show y = Value.bool true from rl)
      refine ⟨rfl, OldK.of_keep fun b o e => ?_, os, br⟩
      cases z : H b with
      | none => exact un.keep b o e z (fun z => absurd (show b ∈ ([] : List Addr) from z) (by simp)) (by simp)
      | some y =>
        rcases hO b with n | ⟨ob, xs, n⟩
        · rw [z] at n
          cases n
        · obtain ⟨e1, _⟩ := ok b _ n
          obtain ⟨e2, _⟩ := ok2 b _ (un.frzs b ob _ n)
          rw [e] at e1
          cases e1
          exact e2
  cases hk : K.lookup sa with
  | some o =>
    have e := XK sa o hk
    rw [ha] at e
    cases e
    exact main (fun _ => none) (fun _ => .inl rfl) (.inr ⟨_, vs.toArray, _, hk, rfl, rfl, rfl, by rw [List.size_toArray, lv]; exact hl, by simpa using rv⟩) (fun b y z => absurd (show (none : Option HO) = some y from z) (fun q => by cases q)) (fun b z => absurd rfl z) fun z => absurd rfl z
  | none =>
    refine main (fun b => if b = sa then some (.frz { cls := .type "list", data := .seq vs.toArray } (.lst (ns.map V.int))) else none) (fun b => ?_) (.inl (.inr ⟨{ cls := .type "list", data := .seq vs.toArray }, if_pos rfl⟩)) (fun b y z => ?_) (fun b z => ?_) fun _ => hk
    · by_cases c : b = sa
      · exact .inr ⟨_, _, if_pos c⟩
      · exact .inl (if_neg c)
    · by_cases c : b = sa
      · cases ((if_pos c).symm.trans z)
        subst c
        exact ⟨ha, by rw [List.length_map]; exact hl, vs, _, rv, ha⟩
      · cases ((if_neg c).symm.trans z)
    · by_cases c : b = sa
      · exact c
      · exact absurd (if_neg c) z
theorem walkG {l : PySem.W.OpenLaw} {n k : Nat} {q : Program} {lo : List Str} {XP : (Str → Option Value) → Heap → Prop} {YP : World → Heap → Prop} {d : DefRec} {K : Params → PySem.W.Frag} {CX : World → CXT} {sp : World → Sp} {x : Str}
    (hn : l.most = some n) (hs : n ≤ sizeLine) (hdf : d.params.defaults = []) (rm : Room k callerA) (hY : ∀ (w : World) (h : Heap), YP w h → (K w.params).In h)
    (F : ∀ (w : World) (mg : Str → Option Value) (fa : Addr) (h : Heap), (K w.params).In h → h.Ns mainGlobals mg → mg d.name = some (.ref fa) → ∃ fd : FuncData, (∀ (u : Shared) (v : Value), BindsTo u fd ⟨[v], []⟩ [(x, v)]) ∧ ∀ base : Heap, (K w.params).In base → base.Ns mainGlobals mg → FnOkG l.prog w (K w.params) mg base (CX w) k fa fd [x] (sp w))
    (hsp : ∀ (w : World) (H : Hp) (a : Addr) (ns : List Int), ns.length ≤ n → Only H → SqL (K w.params) H a (ns.map V.int) → sp w [.ref a] H (fun v _ => v = .bl true) fun _ _ _ => False)
    (hX : ∀ (w : World) (H : Hp) (u : Shared) (e : Value) (u' : Shared), CX w [] H u (fun _ _ _ => False) e u' → False) : PySem.W.WalkO q lo XP YP l.row.toRowW d [] (fun f vs => PySem.call f vs) := by
  refine Att.attach_call hn hdf fun w t0 t1 mg mb fa o pm cd doc a vs ns G Y ho hd hc hm hobj hi hlen hg => ?_
  obtain ⟨fd, hb, hF⟩ := F w mg fa _ (hY w _ Y) G.T.g hm
  exact law_callG (hY w _ Y) G.T.g G.T.b G.T.builtins G.T.nolimit hg hobj hi (Nat.le_trans hlen hs) rm hF hb (fun H hO hS => hsp w H a ns hlen hO hS) fun H e t2 => hX w H t1 e t2
end L2
namespace L2
open PySem PySem.Spec PyProof.Rows
/-! ### data that can be told as a text: n leaves and lists at most, m deep -/
structure Shw (n m : Nat) (d : PyData) : Prop where
  sh : d.showable = true
  nd : d.hasDict = false
  ls : d.leavesShort 110 = true
  bk : d.bulk ≤ n
  dp : d.depth ≤ m
structure ShwA (n m : Nat) (ds : List PyData) : Prop where
  sh : PyData.showableAll ds = true
  nd : PyData.hasDictAll ds = false
  ls : PyData.leavesShortAll 110 ds = true
  bk : PyData.bulkAll ds ≤ n
  dp : PyData.depthAll ds ≤ m
theorem Shw.mono {n m n' m' : Nat} {d : PyData} (h : Shw n m d) (a : n ≤ n') (b : m ≤ m') : Shw n' m' d := ⟨h.sh, h.nd, h.ls, Nat.le_trans h.bk a, Nat.le_trans h.dp b⟩
theorem ShwA.mono {n m n' m' : Nat} {ds : List PyData} (h : ShwA n m ds) (a : n ≤ n') (b : m ≤ m') : ShwA n' m' ds := ⟨h.sh, h.nd, h.ls, Nat.le_trans h.bk a, Nat.le_trans h.dp b⟩
theorem Shw.non : Shw 0 0 .none := ⟨rfl, rfl, rfl, Nat.le_refl _, Nat.le_refl _⟩
theorem Shw.bl (b : Bool) : Shw 0 0 (.bool b) := ⟨rfl, rfl, rfl, Nat.le_refl _, Nat.le_refl _⟩
theorem Shw.int {i : Int} (h0 : -(2 ^ 100) < i) (h1 : i < 2 ^ 100) : Shw 0 0 (.int i) := by
  have hl : i.natAbs.log2 < 100 := by
    by_cases c : i.natAbs = 0
    · rw [c]
      decide
    · refine (Nat.log2_lt c).mpr ?_
      have : ((2 ^ 100 : Nat) : Int) = 2 ^ 100 := by decide
      omega
  refine ⟨decide_eq_true (by omega), rfl, decide_eq_true ?_, Nat.le_refl _, Nat.le_refl _⟩
  show (Str.ofString (toString i)).length ≤ 110
  rw [PySem.ofString_length]
  have := int_text_length_le (k := 100) (by decide) hl
  omega
theorem Shw.str {x : Str} (h : ∀ c ∈ x.cps.toList, c < 16 ^ 8) : Shw x.length 0 (.str x) := ⟨rfl, rfl, by simpa only [PyData.leavesShort, List.all_eq_true, decide_eq_true_eq] using h, Nat.le_refl _, Nat.le_refl _⟩
theorem ShwA.nil : ShwA 0 0 [] := ⟨rfl, rfl, rfl, Nat.le_refl _, Nat.le_refl _⟩
theorem ShwA.cons {n k m : Nat} {d : PyData} {ds : List PyData} (h : Shw n m d) (r : ShwA k m ds) : ShwA (n + 1 + k) m (d :: ds) :=
  ⟨by unfold PyData.showableAll; rw [h.sh, r.sh]; rfl, by unfold PyData.hasDictAll; rw [h.nd, r.nd]; rfl, by unfold PyData.leavesShortAll; rw [h.ls, r.ls]; rfl, by unfold PyData.bulkAll; have := h.bk; have := r.bk; omega, by unfold PyData.depthAll; exact Nat.max_le.mpr ⟨h.dp, r.dp⟩⟩
theorem Shw.lst {n m : Nat} {ds : List PyData} (h : ShwA n m ds) : Shw n (m + 1) (.list ds) := ⟨by unfold PyData.showable; exact h.sh, by unfold PyData.hasDict; exact h.nd, by unfold PyData.leavesShort; exact h.ls, by unfold PyData.bulk; exact h.bk, by unfold PyData.depth; exact Nat.succ_le_succ h.dp⟩
theorem Shw.tup {n m : Nat} {ds : List PyData} (h : ShwA n m ds) : Shw n (m + 1) (.tuple ds) := ⟨by unfold PyData.showable; exact h.sh, by unfold PyData.hasDict; exact h.nd, by unfold PyData.leavesShort; exact h.ls, by unfold PyData.bulk; exact h.bk, by unfold PyData.depth; exact Nat.succ_le_succ h.dp⟩
theorem ShwA.ints : ∀ ds : List Int, (∀ d ∈ ds, -(2 ^ 100) < d ∧ d < 2 ^ 100) → ShwA ds.length 0 (ds.map PyData.int)
  | [], _ => .nil
  | d :: ds, h => by
    have r := ShwA.ints ds fun e he => h e (List.mem_cons_of_mem _ he)
    have a := h d List.mem_cons_self
    exact (ShwA.cons (Shw.int a.1 a.2) r).mono (by rw [List.length_cons]; omega) (Nat.le_refl _)
theorem Shw.fits {n m : Nat} {d : PyData} (h : Shw n m d) (hn : n ≤ 100000) : d.shown.length ≤ sizeLine := by
  have a := PyData.shown_le_bulk 110 (by decide) d h.ls
  have b := h.bk
  rw [sizeLine_eq]
  omega
theorem roomS {k : Nat} {A : Around} (r : Room k A) : A.units + 100 < cLine := by
  have := r.un
  omega
def rStrL (K : PySem.W.Frag) : List V → Hp → VK → Prop := fun xs H Q => ∃ (a : Addr) (d : PyData) (n m : Nat), xs = [.ref a] ∧ Dp K H (.ref a) d ∧ Shw n m d ∧ n ≤ 100000 ∧ m ≤ 60 ∧ Q (.str d.shown) H
theorem call_strL {X : Cx} (gd : X.A.guards = some []) (hu : X.A.units + 100 < cLine) : CallR X (.type "str") (rStrL X.K) := by
  intro pz u0 τ H xs us Q I r h
  obtain ⟨a, d, n, m, rfl, hd, s, hn, hm, q⟩ := h
  exact call_strD gd hu pz u0 τ H [.ref a] us Q I r ⟨a, d, rfl, hd, s.sh, s.nd, s.fits hn, Nat.le_trans s.dp hm, q⟩
end L2
namespace L2
open PySem PySem.Spec PyProof.Rows
/-- repr of a list or tuple -/
theorem call_reprL {X : Cx} (gd : X.A.guards = some []) (hu : X.A.units + 100 < cLine) : CallR X (.builtin "repr") (rStrL X.K) := by
  intro pz u0 τ H xs us Q I r h
  obtain ⟨a, d, n, m, rfl, hd, s, hn, hm, q⟩ := h
  obtain ⟨u, rfl, rv⟩ := vals1 r
  obtain ⟨as, rd⟩ := Dp.reads I d (.ref a) u hd rv
  cases (show u = Value.ref a from rv)
  have := s.dp
  exact repr_of_reads' rd s.sh (fun z => by rw [s.nd] at z; cases z) gd (by omega) (fun b o e => e) (fun h' y tk k => ⟨.str _, H, I.kept k, ⟨_, rfl⟩, q⟩) (s.fits hn)
end L2
namespace L2
open PySem PySem.Spec PyProof.Rows
/-- repr of a thing that reads as data, a text, a number, None or a truth -/
def rReprA (K : PySem.W.Frag) : List V → Hp → VK → Prop := fun xs H Q => ∃ (v : V) (d : PyData) (n m : Nat), xs = [v] ∧ Dp K H v d ∧ Shw n m d ∧ n ≤ 100000 ∧ m ≤ 60 ∧ Q (.str d.shown) H
theorem call_reprA {X : Cx} (gd : X.A.guards = some []) (hu : X.A.units + 100 < cLine) : CallR X (.builtin "repr") (rReprA X.K) := by
  intro pz u0 τ H xs us Q I r h
  obtain ⟨v, d, n, m, rfl, hd, s, hn, hm, q⟩ := h
  obtain ⟨u, rfl, rv⟩ := vals1 r
  cases v with
  | ref a => exact call_reprL gd hu pz u0 τ H [.ref a] _ Q I r ⟨a, d, n, m, rfl, hd, s, hn, hm, q⟩
  | non =>
    cases hd
    cases (show u = Value.none from rv)
    exact PySem.P.repr_of_none ⟨.str _, H, I.tok _, ⟨_, rfl⟩, q⟩
  | bl b =>
    cases hd
    cases (show u = Value.bool b from rv)
    exact PySem.P.repr_of_bool ⟨.str _, H, I.tok _, ⟨_, rfl⟩, q⟩
  | int i =>
    cases hd
    obtain ⟨t, rfl⟩ := (show ∃ t, u = Value.int i t from rv)
    exact PySem.P.repr_of_int (of_decide_eq_true s.sh) ⟨.str _, H, I.tok _, ⟨_, rfl⟩, q⟩
  | str x =>
    cases hd
    obtain ⟨t, rfl⟩ := (show ∃ t, u = Value.str x t from rv)
    exact PySem.P.repr_of_str ⟨.str _, H, I.tok _, ⟨_, rfl⟩, q⟩ (s.fits hn)
  | _ => cases hd
end L2
/-! ### list(text) -/
namespace L2
open PySem PySem.Spec PyProof.Rows
theorem vals_at : ∀ {xs : List V} {us : List Value}, xs.length = us.length → (∀ (j : Nat) (x : V) (u : Value), xs[j]? = some x → us[j]? = some u → RelV x u) → Vals xs us
  | [], [], _, _ => .nil
  | [], _ :: _, h, _ => nomatch h
  | _ :: _, [], h, _ => nomatch h
  | x :: xs, u :: us, h, f => .cons (f 0 x u rfl rfl) (vals_at (Nat.succ.inj h) fun j a b => f (j + 1) a b)
theorem call_listTx {X : Cx} (calm : X.calm = true) : CallR X (.type "list") (fun xs H Q => ∃ z : Str, xs = [.str z] ∧ z.length ≤ sizeLine ∧ ∀ l, H l = none → Q (.ref l) (upd H l (.lst (z.cps.toList.map fun c => V.str ⟨#[c]⟩)))) := by
  intro pz u0 τ H xs us Q I r h
  obtain ⟨z, rfl, hz, q⟩ := h
  obtain ⟨u, rfl, t, rfl⟩ := vals1 r
  refine call_list_str (I.ok.hd calm) z t (fun h' tk acc c' kp e it => ?_) hz
  have ln : acc.size = z.cps.size := it.1
  have va : Vals (z.cps.toList.map fun c => V.str ⟨#[c]⟩) acc.toList := vals_at (by rw [List.length_map, Array.length_toList, Array.length_toList, ln]) fun j x v hx hv => by
    obtain ⟨c, u, hc, rfl⟩ := it.2 j v (by simpa using hv)
    rw [List.getElem?_map, Array.getElem?_toList, hc] at hx
    cases hx
    exact ⟨u, rfl⟩
  refine ⟨.ref u0.heap.objs.size, _, I.laid (t' := tk) kp (Nat.le_refl _) (show ObjOk X.prog X.w _ h' _ (.lst _) from ⟨?_, acc.toList, c', va, e⟩), rfl, q _ (I.hok.fresh (Nat.le_refl _))⟩
  rw [List.length_map, Array.length_toList]
  exact hz
end L2
/-! ### a built-in method in a comprehension's block -/
namespace L2
open PySem PySem.Spec PyProof.Rows
theorem pe_bmKX {X : Cx} {K : PySem.W.Frag} {o e : Expr} {es : List Expr} {to : TE} {t : TA} {name : Str} {apos cpos : Pos} {T id : String} {r : V → List V → Hp → VK → Prop}
    (pa : PlainAttrs T) (slot : Slot T name id) (hty : typeOf (.builtin id) = pure (.type "method_descriptor")) (hm : MtR X id r) (ho : PE X o to) (ha : PA X (e :: es) t)
    (h : X.K = K := by rfl) (hbase : attributeBase o name X.env (eval o X.env) = eval o X.env := by rfl)
    (hfew : ((backTo cpos (starEach (e :: es) X.env)).all (fun x => !x.1) && (backToKw cpos (keywordEach [] X.env)).all (fun x => x.1.isSome)
      && decide ((e :: es).length + ([] : List Keyword).length + (if ([] : List Keyword).isEmpty then 0 else 1) < 30)) = true := by rfl)
    (hline : (apos.endLine == cpos.line) = true := by rfl) (hs : starEach (e :: es) X.env = (false, eval e X.env) :: starEach es X.env := by rfl) (hplain : (backTo cpos (starEach es X.env)).any (·.1) = false := by rfl) :
    PE X (.Call (.Attribute o name apos) (e :: es) [] cpos) (tBM K T r to t) := by
  subst h
  exact pe_bm pa slot hty hm ho ha hbase hfew hline hs hplain
def rJoin (K : PySem.W.Frag) : V → List V → Hp → VK → Prop := fun x xs H Q => ∃ a p, ∃ ys : List Str, x = .str a ∧ xs = [.ref p] ∧ (SqL K H p (ys.map V.str) ∨ SqT K H p (ys.map V.str)) ∧
    (ys.map (·.length)).sum + ys.length * a.length ≤ 16777216 ∧ Q (.str (Txt.join a ys)) H
theorem mt_joinKX {X : Cx} {K : PySem.W.Frag} (h : X.K = K := by rfl) : MtR X "str.join" (rJoin K) := by
  subst h
  exact mt_join
end L2
/-! ### a display of a dict with tuples as keys -/
namespace L2
open PySem PySem.Spec PyProof.Rows
theorem d_dictSetT {X : Cx} {pins : List (Addr × Obj)} {σ : St} {H : Hp} {s : Shared} {E : Value → Shared → Prop} {A : Around} {D b : Addr} {kvs : List (List Key × V)} {k : List Key} {v : V} {r : Value} {Q : Unit → Shared → Prop}
    (hu : A.units < cLine) (I : Inv X pins σ H s) (hD : H D = some (.dT kvs)) (eb : H b = some (.tup (k.map kV))) (hz : kvs.length < sizeLine) (rv : RelV v r)
    (h : ∀ s', Inv X pins σ (upd H D (.dT (putK kvs k v))) s' → Q () s') : wpAny (model X.prog X.w) A (dictSet D (.ref b) r) Q E s := by
  obtain ⟨z, hd, xs, rel, dd⟩ := dt_of I.hok hD
  have hz2 : xs.length ≤ sizeLine := by rw [← Paired.length rel]; exact z
  have hl : (putK kvs k v).length ≤ sizeLine := by have := length_putK kvs k v; omega
  refine wpAny_dictSet_heap (hsz := hz2) hu (key_of I.hok eb) dd fun h' dd' hs => h _ ?_
  obtain ⟨q, es, ep, hq, h2, h3, h4, _, h5⟩ := dd'
  refine d_write I (by rw [hD]; exact True.intro) hs ⟨q, hq⟩ ⟨hl, hd, _, (rel.put k eb rv).keeps fun c ys ec => ?_, q, es, ep, hq, h2, h3, h4, h5⟩
  rw [upd_ne (ne_of ec hD (fun z => nomatch z))]
  exact ec
def mergeT (kvs more : List (List Key × V)) : List (List Key × V) := more.foldl (fun acc kv => putK acc kv.1 kv.2) kvs
def PsT (H : Hp) : List (V × V) → List (List Key × V) → Prop
  | [], [] => True
  | p :: ps, kv :: kvs => (∃ b, p.1 = .ref b ∧ H b = some (.tup (kv.1.map kV)) ∧ p.2 = kv.2) ∧ PsT H ps kvs
  | _, _ => False
theorem PsT.mono {H H' : Hp} (f : ∀ b xs, H b = some (.tup xs) → H' b = some (.tup xs)) : ∀ {ps : List (V × V)} {kvs : List (List Key × V)}, PsT H ps kvs → PsT H' ps kvs
  | [], [], _ => True.intro
  | _ :: _, _ :: _, ⟨⟨b, e1, e2, e3⟩, r⟩ => ⟨⟨b, e1, f _ _ e2, e3⟩, PsT.mono f r⟩
  | [], _ :: _, h => h.elim
  | _ :: _, [], h => h.elim
theorem upd_self {H : Hp} {D : Addr} {o : HO} (e : H D = some o) : upd H D o = H := by
  funext y
  by_cases c : y = D
  · rw [c, upd_same, e]
  · rw [upd_ne c]
theorem upd_two {H : Hp} {D : Addr} {o u : HO} : upd (upd H D o) D u = upd H D u := by
  funext y
  by_cases c : y = D
  · rw [c, upd_same, upd_same]
  · rw [upd_ne c, upd_ne c, upd_ne c]
theorem d_storeAllT {X : Cx} {pins : List (Addr × Obj)} {σ : St} {E : Value → Shared → Prop} {A : Around} {D : Addr} {Q : PUnit → Shared → Prop} (hu : A.units < cLine) :
    ∀ (vs : List (Value × Value)) (ps : List (V × V)) (more acc : List (List Key × V)) (H : Hp) (s : Shared), VV ps vs → PsT H ps more → H D = some (.dT acc) → acc.length + more.length ≤ 100 → Inv X pins σ H s →
    (∀ s', Inv X pins σ (upd H D (.dT (mergeT acc more))) s' → Q PUnit.unit s') →
    wpAny (model X.prog X.w) A (forIn vs PUnit.unit fun (x : Value × Value) (_ : PUnit) => (do dictSet D x.1 x.2; pure (ForInStep.yield PUnit.unit) : Sem (ForInStep PUnit))) Q E s
  | [], [], [], acc, H, s, _, _, hD, _, I, h => by
    rw [List.forIn_nil]
    have h := h s
    rw [show mergeT acc [] = acc from rfl, upd_self hD] at h
    exact wpAny_pure (h I)
  | (u, w) :: vs, (x, y) :: ps, (k, v) :: more, acc, H, s, r, pt, hD, hl, I, h => by
    cases r with
    | @cons _ _ _ _ r0 r1 =>
      obtain ⟨⟨b, e1, e2, e3⟩, pt⟩ := pt
      dsimp only at e1 e2 e3
      subst e1 e3
      obtain rfl : u = Value.ref b := r0.1
      rw [List.length_cons] at hl
      rw [List.forIn_cons]
      refine wpAny_bind (wpAny_bind (d_dictSetT hu I hD e2 (Nat.lt_of_le_of_lt (show acc.length ≤ 100 by omega) (by decide)) r0.2 fun s1 I1 => wpAny_pure ?_))
      have lp := length_putK acc k y
      refine d_storeAllT hu vs ps more (putK acc k y) _ s1 r1 (pt.mono fun c xs ec => ?_) upd_same (by omega) I1 fun s' I' => h s' ?_
      · rw [upd_ne (fun z => by rw [z, hD] at ec; cases ec)]
        exact ec
      · rw [upd_two] at I'
        exact I'
  | [], _ :: _, _, _, _, _, r, _, _, _, _, _ => nomatch r
  | _ :: _, [], _, _, _, _, r, _, _, _, _, _ => nomatch r
  | [], [], _ :: _, _, _, _, _, pt, _, _, _, _ => pt.elim
  | _ :: _, _ :: _, [], _, _, _, _, pt, _, _, _, _ => pt.elim
/-- {(a, ..): v, ..}; the new dict stands empty while the pairs are made -/
def tDispT (trs : List (TE × TE)) : TE := fun σ H Q => ∀ p, H p = none → tPairs trs σ (upd H p (.dT [])) fun ps H2 => H2 p = some (.dT []) ∧ ∃ kvs : List (List Key × V), PsT H2 ps kvs ∧ kvs.length ≤ 15 ∧ Q (.ref p) (upd H2 p (.dT (mergeT [] kvs)))
theorem pe_dispT {X : Cx} {pos : Pos} {keys : List (Option Expr)} {values : List Expr} {trs : List (TE × TE)} (hu : X.A.units + 1 < cLine) (h : PPs X pos keys values trs) (hall : keys.all (·.isSome) = true) (hl : keys.length = values.length) (h0 : keys ≠ [])
    (h15 : keys.length ≤ 15) : PE X (.Dict keys values pos) (tDispT trs) := by
  refine ⟨fun pins s σ H Q I q => ?_⟩
  have hf := I.hok.fresh (Nat.le_refl s.heap.objs.size)
  have I1 := I.laid (a := s.heap.objs.size) (o := .dT []) (h' := s.heap.push { cls := .type "dict", data := .dict #[] }) (t' := s.toks) (fun _ _ q => Heap.get?_push_of_some _ q) (Nat.le_refl _) (dt_empty s.heap I.big)
  have hn := pairTrees_length keys values X.env pos hall hl
  have hne : pairTrees keys values X.env pos ≠ [] := fun he => by
    rw [he] at hn
    exact h0 (List.length_eq_zero_iff.mp hn.symm)
  rw [arm_eval_Dict, zip_pairTrees keys values X.env pos hall hl, dictDisplay_pairs _ hne (by omega)]
  refine wpAny_bind (wpAny_standAt (wpAny_bind ?_))
  unfold subDict
  refine wpAny_bind (wpAny_alloc ?_)
  refine wpAny_bind (wpAny_holding ?_)
  rw [if_pos (by omega)]
  refine wpAny_bind (wpAny_mono (h.run pins _ σ _ _ I1 (q _ hf)) (fun vs s1 h1 => ?_) fun _ _ e => e)
  obtain ⟨ps, H2, I2, rel, e, kvs, pt, lk, q2⟩ := h1
  refine wpAny_holding ?_
  exact wpAny_bind (d_storeAllT (by omega) vs ps kvs [] H2 s1 rel pt e (by show 0 + kvs.length ≤ 100; omega) I2 fun s' I' => wpAny_pure (wpAny_pure (wpAny_pure ⟨.ref s.heap.objs.size, _, I', rfl, q2⟩)))
end L2
/-! ### sorted of pairs of an unlike text and one thing more -/
namespace PySem.SortNm
open PySem SrtO PySem.W PySem.Calls PyProof.Rows Srt
def nmB (x y : Str) : Bool := decide (x.cps.toList < y.cps.toList)
def IsNm (h : Heap) (v : Value) (n : Str) : Prop := ∃ (a : Addr) (o : Obj) (t : Tok) (r : Value) (m : Nat), v = .ref a ∧ h.get? a = some o ∧ o.cls = .type "tuple" ∧ o.data = .seq #[.str n t, r] m
theorem IsNm.to {h h' : Heap} {v : Value} {n : Str} (z : IsNm h v n) (k : ∀ b o, h.get? b = some o → o.cls = .type "tuple" → h'.get? b = some o) : IsNm h' v n := by
  obtain ⟨a, o, t, r, m, e, ho, hc, hd⟩ := z
  exact ⟨a, o, t, r, m, e, k a o ho hc, hc, hd⟩
theorem nmB_swo {α : Type} (k : α → Str) : Swo fun v u => nmB (k v) (k u) := by
  refine ⟨fun x y h => ?_, fun x y z h1 h2 => ?_⟩
  · exact decide_eq_false fun g => List.lt_asymm (of_decide_eq_true h) g
  · have a := of_decide_eq_false h1
    have b := of_decide_eq_false h2
    exact decide_eq_false fun g => by
      rw [List.not_lt] at a b
      exact List.not_lt.mpr (List.le_trans a b) g
section
variable {prog : Program} {w : World} {A : Around} {E : Value → Shared → Prop} {s : Shared}
theorem nm_cmp {vs : List Value} {k : Value → Str} (hp : ∀ v ∈ vs, IsNm s.heap v (k v)) (inj : ∀ v ∈ vs, ∀ u ∈ vs, k v = k u → v = u) : Cmp prog w A s (tuples' true) (fun p => p.1 ∈ vs) (lt2 fun v u => nmB (k v) (k u)) := by
  intro p q hm hm'
  have same : k p.1 = k q.1 → p.1 = q.1 := inj _ hm _ hm'
  have one := hp _ hm
  have two := hp _ hm'
  show wpAny (model prog w) A (keyLt' (tuples' true) p.1 q.1) (fun r s' => s' = s ∧ r = nmB (k p.1) (k q.1)) (fun _ _ => False) s
  generalize k p.1 = x at same one ⊢
  generalize k q.1 = y at same two ⊢
  generalize p.1 = v at same one ⊢
  generalize q.1 = u at same two ⊢
  obtain ⟨a, o, t, r, n, rfl, ho, hc, hd⟩ := one
  obtain ⟨a', o', t', r', n', rfl, ho', hc', hd'⟩ := two
  refine kat_lt ho hd ho' hd' ?_
  show KatLex prog w A true (decide (2 < 2)) _ [(.str x t, .str y t'), (r, r')] 0 s
  refine kat_cons (SeqAt.EqAt.str_str x t y t' prog w _ _ ?_)
  refine kat_go (fun e1 => ?_) (fun e1 => ?_)
  · have ex : x = y := by simpa using e1
    have ea : Value.ref a = Value.ref a' := same ex
    cases ea
    rw [ho] at ho'
    cases ho'
    rw [hd] at hd'
    have er : r = r' := by
      injection hd' with h1 _
      injection h1 with h1
      injection h1 with _ h1
      injection h1 with h1 _
    subst er
    refine kat_yes (kat_cons (SeqAt.EqAt.same r prog w _ _ ?_))
    refine kat_go (fun _ => kat_yes (kat_nil ⟨rfl, ?_⟩)) (fun e2 => by cases e2)
    rw [ex]
    exact (decide_eq_false (List.lt_irrefl _)).symm
  · exact kat_no (PyProof.Rows.oneLt_str ⟨rfl, rfl⟩)
theorem nm_firsts {h : Heap} {k : Value → Str} : ∀ {vs : List Value}, (∀ v ∈ vs, IsNm h v (k v)) → ∃ fs : List Value, KatTups h vs fs ∧ fs.length = vs.length ∧ ∀ f ∈ fs, ∃ x t, f = Value.str x t
  | [], _ => ⟨[], KatTups.nil, rfl, fun _ hm => nomatch hm⟩
  | v :: vs, hp => by
    obtain ⟨fs, h1, h2, h3⟩ := nm_firsts (vs := vs) fun u hu => hp u (List.mem_cons_of_mem _ hu)
    obtain ⟨a, o, t, r, n, e, ho, hc, hd⟩ := hp v (List.mem_cons_self ..)
    rw [e]
    refine ⟨.str (k v) t :: fs, KatTups.cons ho hc hd rfl h1, congrArg (· + 1) h2, fun f hm => ?_⟩
    rcases List.mem_cons.mp hm with z | z
    · exact ⟨_, _, z⟩
    · exact h3 f z
theorem nm_sortable {a : Addr} {vs : List Value} {k : Value → Str} (h0 : 0 < vs.length) (hp : ∀ v ∈ vs, IsNm s.heap v (k v)) (inj : ∀ v ∈ vs, ∀ u ∈ vs, k v = k u → v = u) (ha : ∀ o, s.heap.get? a = some o → o.cls ≠ .type "tuple") : SortableO prog w A s a vs fun v u => nmB (k v) (k u) := by
  intro h' keep
  have there : ∀ v ∈ vs, IsNm h' v (k v) := fun v hm => (hp v hm).to fun b o e c => keep b o (fun z => by rw [z] at e; exact ha o e c) e
  obtain ⟨fs, h1, h2, h3⟩ := nm_firsts there
  refine ⟨tuples' true, fun Q E hq => ?_, nm_cmp there inj⟩
  refine kat_kind (T := .type "str") h1 (by omega) (fun f hm => ?_) (by rfl) ?_
  · obtain ⟨x, t, rfl⟩ := h3 f hm
    exact Looks.now
  · have e : (Value.type "str" != Value.type "tuple") = true := by decide +kernel
    rw [e]
    exact hq
theorem nm_sorted {l : Addr} {vs : List Value} {k : Value → Str} {Q : Value → Shared → Prop} (hl : s.heap.IsList l vs.toArray) (hz : vs.length ≤ sizeLine) (hp : ∀ v ∈ vs, IsNm s.heap v (k v)) (inj : ∀ v ∈ vs, ∀ u ∈ vs, k v = k u → v = u)
    (h : ∀ (h' : Heap) (d : Addr) (out : List Value), Srtd (fun v u => nmB (k v) (k u)) out → Stb (fun v u => nmB (k v) (k u)) out vs → (∀ b o, s.heap.get? b = some o → h'.get? b = some o) → s.heap.objs.size ≤ d → (∃ n, h'.get? d = some (seqObj "list" out.toArray n)) → Q (.ref d) { s with heap := h' }) :
    wpAny (model prog w) A (call (.builtin "sorted") [.ref l]) Q E s := by
  refine sorted_ord (nmB_swo k) hl hz (fun h2 h₁ a ha kk => ?_) fun out hs hb => h _ _ out hs hb (fun b o e => sortedAll_old e) (Nat.le_succ _) (sortedAll_at s.heap vs out.toArray)
  refine nm_sortable (s := { s with heap := h₁ }) (by omega) (fun v hm => (hp v hm).to fun b o e _ => (kk b o e).2) inj fun o e c => ?_
  have e' : some o = some (seqObj "list" vs.toArray 0) := e.symm.trans ha
  cases e'
  exact absurd (Value.type.inj c) (by decide)
end
end PySem.SortNm
namespace L2
open PySem PySem.Spec PyProof.Rows
def rSortedNm (K : PySem.W.Frag) : List V → Hp → VK → Prop := fun vs H Q => ∃ (a : Addr) (xs : List V) (k : V → Str), vs = [V.ref a] ∧ SqL K H a xs ∧ (∀ x ∈ xs, ∃ t y, x = V.ref t ∧ H t = some (.tup [.str (k x), y])) ∧ (∀ x ∈ xs, ∀ y ∈ xs, k x = k y → x = y) ∧
  ∀ ys p, ys.Perm xs → ys.Pairwise (fun x y => (k x).cps.toList ≤ (k y).cps.toList) → H p = none → Q (.ref p) (upd H p (.lst ys))
theorem cr_sortedNm {X : Cx} : CallR X (.builtin "sorted") (rSortedNm X.K) := by
  intro pz u0 τ H vs us Q I r h
  obtain ⟨a, xs, k, rfl, hs, hx, inj, q⟩ := h
  obtain ⟨its, rv, hl, hz⟩ := I.list hs
  obtain ⟨u, rfl, ru⟩ := vals1 r
  obtain rfl : u = Value.ref a := ru
  obtain ⟨e1, e2⟩ := refs_back rv fun x m => by
    obtain ⟨t, _, e, _⟩ := hx x m
    exact ⟨t, e⟩
  have inX : ∀ v ∈ its, backV v ∈ xs := fun v hv => by rw [e1]; exact List.mem_map.mpr ⟨_, hv, rfl⟩
  refine PySem.SortNm.nm_sorted (k := fun u => k (backV u)) hl.isList (by rw [← rv.length]; exact hz) (fun v hv => ?_) (fun v hv u hu e => ?_) fun h' d out h1 h2 kp hd hn => ?_
  · obtain ⟨t, rfl⟩ := e2 v hv
    obtain ⟨t', y, e, ht⟩ := hx _ (inX _ hv)
    cases e
    obtain ⟨_, its2, r2, o, ho, hc, n, hd⟩ := I.hok _ _ ht
    obtain ⟨u1, u2, rfl, ri, rj⟩ := vals2 r2
    obtain ⟨t1, rfl⟩ := ri
    exact ⟨t, o, t1, u2, n, rfl, ho, hc, hd⟩
  · have := inj _ (inX v hv) _ (inX u hu) e
    obtain ⟨t, rfl⟩ := e2 v hv
    obtain ⟨t', rfl⟩ := e2 u hu
    cases this
    rfl
  · have h3 : ∀ u ∈ out, ∃ a, u = Value.ref a := fun u hu => e2 u (h2.perm.mem_iff.mp hu)
    obtain ⟨n, hn⟩ := hn
    have hp : (out.map backV).Perm xs := by
      rw [e1]
      exact h2.perm.map _
    refine ⟨.ref d, upd H d (.lst (out.map backV)), I.laid (t' := u0.toks) kp hd ⟨by rw [hp.length_eq]; exact hz, out, n, vals_back h3, hn⟩, rfl, q _ d hp ?_ (I.hok.fresh hd)⟩
    refine List.pairwise_map.mpr (h1.imp fun {x y} e => ?_)
    exact List.not_lt.mp (of_decide_eq_false e)
end L2
namespace GZ
open PySem PySem.Spec PyProof.Rows L2
def pkz {α : Type} : α → List α → Nat → α
  | a, _, 0 => a
  | a, _, 1 => a
  | a, [], _ => a
  | _, b :: xs, n + 2 => pkz b xs (n + 1)
theorem val0 (t : Tok) : Vals [V.int 0] [Value.int 0 t] := .cons ⟨_, rfl⟩ .nil
/-! ### keyword-only parameters -/
theorem kbn_of {K : PySem.W.Frag} {x qual : Str} {st : Stmt} {D : Addr} {an : Option Addr} {doc pm cdv ct : Value} {ps ks : List Str} {n : Nat} {ml : List (Str × Value)} {g : List Value → List Value → List Value} {gV : List V → List V → List V} (hml : ∀ q ∈ ml, PySem.W.nsIn K D q.1 = some (some q.2))
    (h : ∀ us ws : List Value, us.length = n → ws.length = ks.length → KwChain D ml (bindArgs (PySem.W.fnOf x qual (defArgs st) (defBody st) (defScope st) .none (.ref D) doc pm an cdv ct) ⟨us, ks.zip ws⟩) (ps.zip (g us ws)))
    (rel : ∀ {vs : List V} {us : List Value} {zs : List V} {ws : List Value}, vs.length = n → zs.length = ks.length → Vals vs us → Vals zs ws → Vals (gV vs zs) (g us ws)) :
    ∀ (s : Shared) (us ws : List Value), K.In s.heap → us.length = n → ws.length = ks.length → BindsTo s (PySem.W.fnOf x qual (defArgs st) (defBody st) (defScope st) .none (.ref D) doc pm an cdv ct) ⟨us, ks.zip ws⟩ (ps.zip (g us ws)) :=
  fun s us ws X l1 l2 => BindsTo.of_looks fun M => KwChain.looks X hml (h us ws l1 l2)
theorem bnd_of {K : PySem.W.Frag} {x qual : Str} {st : Stmt} {D : Addr} {an : Option Addr} {doc pm cdv ct : Value} {ps : List Str} {ml : List (Str × Value)} {ds : List Value} (hml : ∀ q ∈ ml, PySem.W.nsIn K D q.1 = some (some q.2))
    (h : ∀ us : List Value, us.length + ds.length = ps.length → KwChain D ml (bindArgs (PySem.W.fnOf x qual (defArgs st) (defBody st) (defScope st) .none (.ref D) doc pm an cdv ct) ⟨us, []⟩) (ps.zip (us ++ ds))) :
    Binds K (PySem.W.fnOf x qual (defArgs st) (defBody st) (defScope st) .none (.ref D) doc pm an cdv ct) ps ds := fun s us X hl => by
  rw [List.length_append] at hl
  exact BindsTo.of_looks fun M => KwChain.looks X hml (h us hl)
/-! ### a def whose defaults aren't asked for -/
structure FunA (K : PySem.W.Frag) (x qual : Str) (st : Stmt) (f : Addr) (fd : FuncData) : Prop where
  ex : ∃ (oc : Value) (od : Option Addr) (dV kV doc pm : Value) (an : Option Addr) (cdv ct : Value) (osl : Array (Option Value)),
    fd = PySem.W.fnOf x qual (defArgs st) (defBody st) (defScope st) dV kV doc pm an cdv ct ∧ K.lookup f = some ⟨oc, od, .func fd, osl⟩ ∧ PySem.W.codeIn K cdv qual = true
  kp : PySem.W.keepIn K (.ref f) = true
theorem FunA.ok {P : Program} {w : World} {K : PySem.W.Frag} {mg : Str → Option Value} {base : Heap} {x qual : Str} {st : Stmt} {f : Addr} {fd : FuncData} {N ps : List Str} {k : Nat} {sp : Sp} (F : FunA K x qual st f fd) (S : FnScope N ps (defScope st)) (len : ∀ vs H Q E, sp vs H Q E → vs.length = ps.length)
    (hbody : ∀ (cdv : Value) (A : Around) (outer : List Env) (s : Shared) (H : Hp) (vs : List V) (Q : VK) (E : XK), Room k (A.deeper (envOfC qual (defScope st) s.heap.objs.size f cdv)) → sp vs H Q E →
      ∃ t, PSs (cxOf CX0 P w K mg base N qual (defScope st) f cdv A outer s H E).nox (defBody st) t ∧ t { nx := fun _ H' => Q .non H', rt := Q } (start N vs) H) : FnOk P w K mg base CX0 (k + 1) f fd ps sp := by
  obtain ⟨oc, od, dV, kV, doc, pm, an, cdv, ct, osl, rfl, lk, hcd⟩ := F.ex
  refine fn_of lk hcd S len fun A outer s H vs Q E hr hsp => ?_
  obtain ⟨t, h, q⟩ := hbody cdv A outer s H vs Q E hr hsp
  exact ⟨t, h.nox, q⟩
theorem bindsA {K : PySem.W.Frag} {x qual : Str} {st : Stmt} {f T : Addr} {oc oT vT : Value} {od an dT : Option Addr} {osl sT : Array (Option Value)} {kV doc pm cdv ct : Value} {nT : Nat} {ps : List Str} (l : K.lookup f = some ⟨oc, od, .func (PySem.W.fnOf x qual (defArgs st) (defBody st) (defScope st) (.ref T) kV doc pm an cdv ct), osl⟩)
    (lT : K.lookup T = some ⟨oT, dT, .seq #[vT] nT, sT⟩)
    (h : ∀ (kV doc pm : Value) (an : Option Addr) (cdv ct : Value) (us : List Value), us.length = ps.length → ∃ k, bindArgs (PySem.W.fnOf x qual (defArgs st) (defBody st) (defScope st) (.ref T) kV doc pm an cdv ct) ⟨us, []⟩ = seqItems? (.ref T) >>= k ∧ k (some #[vT]) = pure (ps.zip us)) : Binds K (PySem.W.fnOf x qual (defArgs st) (defBody st) (defScope st) (.ref T) kV doc pm an cdv ct) ps [] := by
  intro s us X hl
  rw [List.append_nil] at hl ⊢
  obtain ⟨k, e1, e2⟩ := h kV doc pm an cdv ct us hl
  refine BindsTo.of_looks fun M => ?_
  rw [e1]
  exact looks_items X lT rfl (.of_pure e2)
theorem bindsAD {K : PySem.W.Frag} {x qual : Str} {st : Stmt} {f T : Addr} {oc oT vT : Value} {od an dT : Option Addr} {osl sT : Array (Option Value)} {kV doc pm cdv ct : Value} {nT : Nat} {ps : List Str} (l : K.lookup f = some ⟨oc, od, .func (PySem.W.fnOf x qual (defArgs st) (defBody st) (defScope st) (.ref T) kV doc pm an cdv ct), osl⟩)
    (lT : K.lookup T = some ⟨oT, dT, .seq #[vT] nT, sT⟩)
    (h : ∀ (kV doc pm : Value) (an : Option Addr) (cdv ct : Value) (us : List Value), us.length + 1 = ps.length → ∃ k, bindArgs (PySem.W.fnOf x qual (defArgs st) (defBody st) (defScope st) (.ref T) kV doc pm an cdv ct) ⟨us, []⟩ = seqItems? (.ref T) >>= k ∧ k (some #[vT]) = pure (ps.zip (us ++ [vT]))) : Binds K (PySem.W.fnOf x qual (defArgs st) (defBody st) (defScope st) (.ref T) kV doc pm an cdv ct) ps [vT] := by
  intro s us X hl
  rw [List.length_append] at hl
  obtain ⟨k, e1, e2⟩ := h kV doc pm an cdv ct us hl
  refine BindsTo.of_looks fun M => ?_
  rw [e1]
  exact looks_items X lT rfl (.of_pure e2)
theorem kbindsA {x1 : Str} {K : PySem.W.Frag} {x qual : Str} {st : Stmt} {f T : Addr} {oc oT vT : Value} {od an dT : Option Addr} {osl sT : Array (Option Value)} {kV doc pm cdv ct : Value} {nT : Nat} {ps : List Str} (l : K.lookup f = some ⟨oc, od, .func (PySem.W.fnOf x qual (defArgs st) (defBody st) (defScope st) (.ref T) kV doc pm an cdv ct), osl⟩)
    (lT : K.lookup T = some ⟨oT, dT, .seq #[vT] nT, sT⟩)
    (h : ∀ (kV doc pm : Value) (an : Option Addr) (cdv ct u w : Value), ∃ k, bindArgs (PySem.W.fnOf x qual (defArgs st) (defBody st) (defScope st) (.ref T) kV doc pm an cdv ct) ⟨[u], [(x1, w)]⟩ = seqItems? (.ref T) >>= k ∧ k (some #[vT]) = pure (ps.zip [u, w])) : KBn K (PySem.W.fnOf x qual (defArgs st) (defBody st) (defScope st) (.ref T) kV doc pm an cdv ct) ps 1 [x1] (fun us ws => us ++ ws) (fun us ws => us ++ ws) := by
  refine ⟨fun s us ws X l1 l2 => ?_, fun r1 r2 => r1.append r2⟩
  match us, ws, l1, l2 with
  | [u], [w], _, _ =>
    obtain ⟨k, e1, e2⟩ := h kV doc pm an cdv ct u w
    refine BindsTo.of_looks fun M => ?_
    show PySem.W.Looks M s.heap (bindArgs (PySem.W.fnOf x qual (defArgs st) (defBody st) (defScope st) (.ref T) kV doc pm an cdv ct) ⟨[u], [(x1, w)]⟩) (ps.zip [u, w])
    rw [e1]
    exact looks_items X lT rfl (.of_pure e2)
theorem funA_mk {K : PySem.W.Frag} {x qual : Str} {st : Stmt} {f : Addr} {oc : Value} {od an : Option Addr} {osl : Array (Option Value)} {dV kV doc pm cdv ct : Value} (l : K.lookup f = some ⟨oc, od, .func (PySem.W.fnOf x qual (defArgs st) (defBody st) (defScope st) dV kV doc pm an cdv ct), osl⟩)
    (c : PySem.W.codeIn K cdv qual = true) (k : PySem.W.keepIn K (.ref f) = true) : FunA K x qual st f (PySem.W.fnOf x qual (defArgs st) (defBody st) (defScope st) dV kV doc pm an cdv ct) := ⟨⟨oc, od, dV, kV, doc, pm, an, cdv, ct, osl, rfl, l, c⟩, k⟩
section
variable {P : Program} {w : World} {K : PySem.W.Frag} {mg : Str → Option Value} {base : Heap}
theorem cutG {Cd A : Int → Int → Hp → Prop} {B : Prop} (h1 : ∀ n p H, Cd n p H → A n p H) (h2 : (∀ n p H, Cd n p H → A n p H) → B) : B := h2 h1
theorem cutA {Cd A : Addr → Hp → Prop} {B : Prop} (h1 : ∀ a H, Cd a H → A a H) (h2 : (∀ a H, Cd a H → A a H) → B) : B := h2 h1
theorem cutH {H : Hp} {A : Hp → Prop} {B : Prop} (h1 : ∀ H', Same H H' → A H') (h2 : (∀ H', Same H H' → A H') → B) : B := h2 h1
theorem cutP {A B : Prop} (h1 : A) (h2 : A → B) : B := h2 h1
theorem gB {i : Nat} {v u : Bool} {σ : L2.St} {H : Hp} {D : L2.St → Hp → Prop} (e : v = u) (h : gName i (V.bl u) σ H D) : gName i (V.bl v) σ H D := e ▸ h
theorem gI {i : Nat} {v u : Int} {σ : L2.St} {H : Hp} {D : L2.St → Hp → Prop} (e : v = u) (h : gName i (V.int u) σ H D) : gName i (V.int v) σ H D := e ▸ h
theorem dvi (a b : Int) : decide (V.int a = V.int b) = decide (a = b) := by
  by_cases c : a = b
  · rw [decide_eq_true c, decide_eq_true (congrArg V.int c)]
  · rw [decide_eq_false c, decide_eq_false (fun z => c (V.int.inj z))]
theorem dvs (a b : Str) : decide (V.str a = V.str b) = decide (a = b) := by
  by_cases c : a = b
  · rw [decide_eq_true c, decide_eq_true (congrArg V.str c)]
  · rw [decide_eq_false c, decide_eq_false (fun z => c (V.str.inj z))]
theorem bx1 {c : Int} {H : Hp} {b : Addr} (h : BoxAt (c + 2 ^ (1 - 1)) H b) : BoxAt (c + 1) H b := h
theorem Keep.none {b p : Addr} {H H' : Hp} (k : Keep b H H') (n : p ≠ b) (h : H' p = none) : H p = none := by
  cases q : H p with
  | none => rfl
  | some o =>
    rw [k p o q n] at h
    cases h
theorem dp_ints {H : Hp} : ∀ ds : List Int, DpAll K H (ds.map V.int) (ds.map PyData.int)
  | [] => .nil
  | d :: ds => .cons (.int d) (dp_ints ds)
theorem lv_ints {n : Nat} (ds : List Int) (h : ds.length ≤ 1000) : Lv (n + 1) (.list (ds.map PyData.int)) := by
  refine ⟨by rw [List.length_map]; omega, fun d hd => ?_⟩
  obtain ⟨x, _, rfl⟩ := List.mem_map.mp hd
  cases n <;> trivial
theorem eqv_ints (ds : List Int) : PyData.eqv (.list (ds.map PyData.int)) (.list (ds.map PyData.int)) = true := PySem.SeqAt.eqv_refl _ (PySem.SeqAt.canLay_of_shaped (PySem.W.shaped_ints ds))
/-! ### nets -/
def KeepS (S : List Addr) (H H' : Hp) : Prop := (∀ y o, H y = some o → y ∉ S → H' y = some o) ∧ ∀ y, H y ≠ none → H' y ≠ none
theorem KeepS.refl (S : List Addr) (H : Hp) : KeepS S H H := ⟨fun _ _ e _ => e, fun _ e => e⟩
theorem KeepS.trans {S : List Addr} {H H1 H2 : Hp} (a : KeepS S H H1) (b : KeepS S H1 H2) : KeepS S H H2 := ⟨fun y o e n => b.1 y o (a.1 y o e n) n, fun y e => b.2 y (a.2 y e)⟩
theorem some_ne {H : Hp} {y : Addr} {o : HO} (e : H y = some o) : H y ≠ none := fun z => by rw [z] at e; cases e
theorem KeepS.ofSame {S : List Addr} {H H1 : Hp} (s : Same H H1) : KeepS S H H1 := ⟨fun y o e _ => s y o e, fun y e => by
  cases q : H y with
  | none => exact absurd q e
  | some o => exact some_ne (s y o q)⟩
theorem KeepS.mono {S T : List Addr} {H H1 : Hp} (h : ∀ y ∈ S, y ∈ T) (a : KeepS S H H1) : KeepS T H H1 := ⟨fun y o e n => a.1 y o e (fun m => n (h y m)), a.2⟩
theorem KeepS.ofKeep {b : Addr} {S : List Addr} {H H1 : Hp} (k : Keep b H H1) (m : b ∈ S) (hb : H1 b ≠ none) : KeepS S H H1 := ⟨fun y o e n => k y o e (fun z => n (by rw [z]; exact m)), fun y e => by
  by_cases c : y = b
  · rw [c]
    exact hb
  · cases q : H y with
    | none => exact absurd q e
    | some o => exact some_ne (k y o q c)⟩
theorem KeepS.upd {S : List Addr} {H : Hp} {a : Addr} {o : HO} (m : a ∈ S) : KeepS S H (upd H a o) := ⟨fun y u e n => by rw [upd_ne (fun z => n (by rw [z]; exact m))]; exact e, fun y e => by
  by_cases c : y = a
  · rw [c, upd_same]
    exact fun z => by cases z
  · rw [upd_ne c]
    exact e⟩
theorem KeepS.new {S : List Addr} {H : Hp} {a : Addr} {o : HO} (n : H a = none) : KeepS S H (L2.upd H a o) := .ofSame (same_upd n)
theorem KeepS.keep {b : Addr} {H H1 : Hp} (k : KeepS [b] H H1) : Keep b H H1 := fun y o e n => k.1 y o e (by simp only [List.mem_singleton]; exact n)
theorem KeepS.same {H H1 : Hp} (k : KeepS [] H H1) : Same H H1 := fun y o e => k.1 y o e (fun z => nomatch z)
theorem KeepS.seq {K : PySem.W.Frag} {S : List Addr} {a : Addr} {H H' : Hp} {xs : List V} (e : KeepS S H H') (n : a ∉ S) (h : SqL K H a xs) : SqL K H' a xs := by
  rcases h with (h | ⟨o, h⟩) | h
  · exact .inl (.inl (e.1 _ _ h n))
  · exact .inl (.inr ⟨o, e.1 _ _ h n⟩)
  · exact .inr h
theorem KeepS.seqT {K : PySem.W.Frag} {S : List Addr} {a : Addr} {H H' : Hp} {xs : List V} (e : KeepS S H H') (n : a ∉ S) (h : SqT K H a xs) : SqT K H' a xs := by
  rcases h with (h | ⟨o, h⟩) | h
  · exact .inl (.inl (e.1 _ _ h n))
  · exact .inl (.inr ⟨o, e.1 _ _ h n⟩)
  · exact .inr h
theorem BoxAt.keepS {c : Int} {S : List Addr} {H H' : Hp} {b : Addr} (h : BoxAt c H b) (k : KeepS S H H') (n : b ∉ S) : BoxAt c H' b := by
  obtain ⟨x, y, z, e, r⟩ := h
  exact ⟨x, y, z, k.1 _ _ e n, r⟩
inductive Gt where
  | w (k : Str) (ws : List Nat)
  | fi (b : Nat)
def nts (ws : List Nat) : List V := ws.map fun (a : Nat) => V.int (a : Int)
theorem nts_at {ws : List Nat} {i : Nat} {x : V} (h : (nts ws)[i]? = some x) : ∃ v, ws[i]? = some v ∧ x = .int (v : Int) := by
  unfold nts at h
  rw [List.getElem?_map] at h
  cases q : ws[i]? with
  | none => rw [q] at h; cases h
  | some v => rw [q] at h; exact ⟨v, rfl, (Option.some.inj h).symm⟩
theorem nts_len (ws : List Nat) : (nts ws).length = ws.length := by
  unfold nts
  rw [List.length_map]
def Gt.row : Gt → List V
  | .w k ws => .str k :: nts ws
  | .fi b => [.str "fixed", .int (b : Int)]
def Gt.ok (n : Nat) : Gt → Prop
  | .w k ws => (((k = "both" ∨ k = "either" ∨ k = "unlike") ∧ ws.length = 2) ∨ (k = "other" ∧ ws.length = 1)) ∧ ∀ a ∈ ws, a < n
  | .fi b => b ≤ 1
def mx (l : List Int) : Int := l.foldl (fun m x => if x > m then x else m) 0
theorem mx_fold : ∀ (l : List Int) (a : Int), a ≤ l.foldl (fun m x => if x > m then x else m) a ∧ (∀ y ∈ l, y ≤ l.foldl (fun m x => if x > m then x else m) a) ∧ (l.foldl (fun m x => if x > m then x else m) a = a ∨ l.foldl (fun m x => if x > m then x else m) a ∈ l)
  | [], a => ⟨Int.le_refl _, (fun _ z => nomatch z), .inl rfl⟩
  | x :: l, a => by
    obtain ⟨h1, h2, h3⟩ := mx_fold l (if x > a then x else a)
    have e : a ≤ (if x > a then x else a) ∧ x ≤ (if x > a then x else a) ∧ ((if x > a then x else a) = a ∨ (if x > a then x else a) = x) := by split <;> omega
    rw [List.foldl_cons]
    refine ⟨by omega, fun y hy => ?_, ?_⟩
    · rcases List.mem_cons.mp hy with z | z
      · rw [z]
        omega
      · exact h2 y z
    · rcases h3 with z | z
      · rcases e.2.2 with u | u
        · exact .inl (z.trans u)
        · exact .inr (List.mem_cons.mpr (.inl (z.trans u)))
      · exact .inr (List.mem_cons.mpr (.inr z))
theorem mx_is {l : List Int} {m : Int} (h : m ∈ l) (hm : ∀ y ∈ l, y ≤ m) (h0 : ∀ y ∈ l, 0 ≤ y) : mx l = m := by
  obtain ⟨h1, h2, h3⟩ := mx_fold l 0
  have a := h2 m h
  have b := h0 m h
  unfold mx
  rcases h3 with z | z
  · omega
  · have := hm _ z
    omega
theorem mx_nn (l : List Int) : 0 ≤ mx l := (mx_fold l 0).1
def dep (ds : List Int) : Gt → Int
  | .w _ ws => 1 + mx (ws.map fun a => ds.getD a 0)
  | .fi _ => 0
theorem dep_nn (ds : List Int) (g : Gt) : 0 ≤ dep ds g := by
  cases g with
  | w k ws =>
    have := mx_nn (ws.map fun a => ds.getD a 0)
    show 0 ≤ 1 + mx (ws.map fun a => ds.getD a 0)
    omega
  | fi b => exact Int.le_refl _
def dps (m : Nat) (gs : List Gt) : List Int := gs.foldl (fun ds g => ds ++ [dep ds g]) (List.replicate m 0)
theorem dps_snoc (m : Nat) (gs : List Gt) (g : Gt) : dps m (gs ++ [g]) = dps m gs ++ [dep (dps m gs) g] := by
  unfold dps
  rw [List.foldl_append]
  rfl
theorem dps_fold : ∀ (gs : List Gt) (ds : List Int), (∀ d ∈ ds, 0 ≤ d) → (gs.foldl (fun ds g => ds ++ [dep ds g]) ds).length = ds.length + gs.length ∧ ∀ d ∈ gs.foldl (fun ds g => ds ++ [dep ds g]) ds, 0 ≤ d
  | [], ds, h => ⟨rfl, h⟩
  | g :: gs, ds, h => by
    have a := dps_fold gs (ds ++ [dep ds g]) (fun d hd => by
      rcases List.mem_append.mp hd with z | z
      · exact h d z
      · rw [List.mem_singleton.mp z]
        exact dep_nn ds g)
    rw [List.foldl_cons]
    refine ⟨?_, a.2⟩
    rw [a.1, List.length_append, List.length_cons, List.length_cons, List.length_nil]
    omega
theorem dps_len (m : Nat) (gs : List Gt) : (dps m gs).length = m + gs.length := by
  have a := (dps_fold gs (List.replicate m 0) (fun d hd => by rw [List.eq_of_mem_replicate hd]; exact Int.le_refl _)).1
  rw [List.length_replicate] at a
  exact a
theorem dps_nn (m : Nat) (gs : List Gt) : ∀ d ∈ dps m gs, 0 ≤ d := (dps_fold gs (List.replicate m 0) (fun d hd => by rw [List.eq_of_mem_replicate hd]; exact Int.le_refl _)).2
structure NetP where
  x : Addr
  lm : Addr
  ld : Addr
  dn : Addr
def GsAt (Z : List Addr) (H : Hp) (ps : List Addr) (gs : List Gt) : Prop := ps.length = gs.length ∧ ∀ (i : Nat) (q : Addr) (g : Gt), ps[i]? = some q → gs[i]? = some g → q ∉ Z ∧ H q = some (.tup g.row)
def NmAt (Z : List Addr) (H : Hp) (p : NetP) (kvs : List (Key × V)) (nm : List (Str × List Nat)) : Prop :=
  kvs.length = nm.length ∧ (nm.map (·.1)).Nodup ∧ ∀ (i : Nat) (k : Key) (v : V) (n : Str) (ws : List Nat), kvs[i]? = some (k, v) → nm[i]? = some (n, ws) → k = .inr n ∧ ∃ l, v = .ref l ∧ l ∉ Z ∧ l ≠ p.lm ∧ l ≠ p.ld ∧ H l = some (.lst (nts ws))
def NetAt (C : Addr) (Z : List Addr) (H : Hp) (p : NetP) (m : Nat) (gs : List Gt) (nm : List (Str × List Nat)) : Prop :=
  (∀ z ∈ Z, H z ≠ none) ∧ p.lm ≠ p.ld ∧ (p.x ∉ Z ∧ p.lm ∉ Z ∧ p.ld ∉ Z ∧ p.dn ∉ Z) ∧ ∃ dx ps kvs, H p.x = some (.ins C dx [("input_count", .int (m : Int)), ("made", .ref p.lm), ("depths", .ref p.ld), ("by_name", .ref p.dn)]) ∧
    H p.lm = some (.lst (ps.map V.ref)) ∧ H p.ld = some (.lst ((dps m gs).map V.int)) ∧ H p.dn = some (.dK kvs) ∧ GsAt Z H ps gs ∧ NmAt Z H p kvs nm
theorem NetAt.keep {C : Addr} {S Z : List Addr} {H H' : Hp} {p : NetP} {m : Nat} {gs : List Gt} {nm : List (Str × List Nat)} (h : NetAt C Z H p m gs nm) (k : KeepS S H H') (hs : ∀ y ∈ S, y ∈ Z) : NetAt C Z H' p m gs nm := by
  obtain ⟨a, b, ⟨c1, c2, c3, c4⟩, dx, ps, kvs, e1, e2, e3, e4, ⟨g1, g2⟩, n1, n2, n3⟩ := h
  have f : ∀ {y : Addr} {o : HO}, y ∉ Z → H y = some o → H' y = some o := fun n e => k.1 _ _ e (fun z => n (hs _ z))
  refine ⟨fun z hz => k.2 z (a z hz), b, ⟨c1, c2, c3, c4⟩, dx, ps, kvs, f c1 e1, f c2 e2, f c3 e3, f c4 e4, ⟨g1, fun i q g hi hg => ?_⟩, n1, n2, fun i k v n ws hi hn => ?_⟩
  · have := g2 i q g hi hg
    exact ⟨this.1, f this.1 this.2⟩
  · obtain ⟨ek, l, ev, l1, l2, l3, l4⟩ := n3 i k v n ws hi hn
    exact ⟨ek, l, ev, l1, l2, l3, f l1 l4⟩
theorem NetAt.same {C : Addr} {Z : List Addr} {H H' : Hp} {p : NetP} {m : Nat} {gs : List Gt} {nm : List (Str × List Nat)} (h : NetAt C Z H p m gs nm) (s : Same H H') : NetAt C Z H' p m gs nm := h.keep (S := []) (.ofSame s) (fun _ z => nomatch z)
theorem NetAt.keepB {C b : Addr} {Z : List Addr} {H H' : Hp} {p : NetP} {m : Nat} {gs : List Gt} {nm : List (Str × List Nat)} (h : NetAt C Z H p m gs nm) (k : Keep b H H') (hb : H' b ≠ none) (m' : b ∈ Z) : NetAt C Z H' p m gs nm := h.keep (S := [b]) (.ofKeep k (List.mem_singleton.mpr rfl) hb) (fun y hy => by rw [List.mem_singleton.mp hy]; exact m')
theorem BoxAt.some {c : Int} {H : Hp} {b : Addr} (h : BoxAt c H b) : H b ≠ none := by
  obtain ⟨_, _, _, e, _⟩ := h
  exact some_ne e
theorem made {C : Addr} {H : Hp} {x dx : Addr} (nx : H x = none) (nd : H dx = none) (ne : dx ≠ x) {H' : Hp} (k : ∀ p o, (upd (upd H dx (.own x)) x (.ins C dx [])) p = some o → p ≠ x → H' p = some o) : Same H H' := fun p o e =>
  k p o (by rw [upd_ne (ne_of_none e nx), upd_ne (ne_of_none e nd)]; exact e) (ne_of_none e nx)
theorem units1 {k : Nat} {A : Around} (r : Room k A) : A.units + 1 < cLine := by have := r.un; omega
theorem pi_or {X : Cx} {tg e : Expr} {i j : TI} (h1 : PI X tg e i) (h2 : PI X tg e j) : PI X tg e (fun σ H R => i σ H R ∨ j σ H R) := ⟨fun pins s σ H R I h => h.elim (fun a => h1.run pins s σ H R I a) (fun b => h2.run pins s σ H R I b)⟩
structure FT (K : PySem.W.Frag) (mg : Str → Option Value) (C : Addr) : Prop where
  cl : Cls K C
  n_input_count : NoAttr K C "input_count"
  n_made : NoAttr K C "made"
  n_depths : NoAttr K C "depths"
  n_by_name : NoAttr K C "by_name"
  mgC : mg "Net" = some (.ref C)
structure LL (K : PySem.W.Frag) (mg : Str → Option Value) (C : Addr) (za : Nat → Addr) (zl : Nat → FuncData) : Prop where
  F_all_cases : Fun K "all_cases" "all_cases" s_all_cases (za 1) (zl 1)
  m_all_cases : mg "all_cases" = some (.ref (za 1))
  b_all_cases : Binds K (zl 1) ["many"] []
  F_place_in_cases : Fun K "place_in_cases" "place_in_cases" s_place_in_cases (za 2) (zl 2)
  m_place_in_cases : mg "place_in_cases" = some (.ref (za 2))
  b_place_in_cases : Binds K (zl 2) ["place", "many"] []
  F_bits_text : Fun K "bits_text" "bits_text" s_bits_text (za 3) (zl 3)
  m_bits_text : mg "bits_text" = some (.ref (za 3))
  b_bits_text : Binds K (zl 3) ["number", "many"] []
  F_hole : Fun K "hole" "hole" s_hole (za 4) (zl 4)
  m_hole : mg "hole" = some (.ref (za 4))
  b_hole : Binds K (zl 4) ["cubes", "many"] []
  F_cases_in : Fun K "cases_in" "cases_in" s_cases_in (za 5) (zl 5)
  m_cases_in : mg "cases_in" = some (.ref (za 5))
  b_cases_in : Binds K (zl 5) ["cube", "values", "many"] []
  F_is_text_of : Fun K "is_text_of" "is_text_of" s_is_text_of (za 6) (zl 6)
  m_is_text_of : mg "is_text_of" = some (.ref (za 6))
  b_is_text_of : Binds K (zl 6) ["signs", "many", "thing"] []
  F_settled : Fun K "settled" "settled" s_settled (za 7) (zl 7)
  m_settled : mg "settled" = some (.ref (za 7))
  b_settled : Binds K (zl 7) ["net", "cube"] []
  F_gate_sign : Fun K "gate_sign" "gate_sign" s_gate_sign (za 8) (zl 8)
  m_gate_sign : mg "gate_sign" = some (.ref (za 8))
  b_gate_sign : Binds K (zl 8) ["gate", "signs"] []
  F_turned_sign : Fun K "turned_sign" "turned_sign" s_turned_sign (za 9) (zl 9)
  m_turned_sign : mg "turned_sign" = some (.ref (za 9))
  b_turned_sign : Binds K (zl 9) ["sign"] []
  F_ruled_sign : Fun K "ruled_sign" "ruled_sign" s_ruled_sign (za 10) (zl 10)
  m_ruled_sign : mg "ruled_sign" = some (.ref (za 10))
  b_ruled_sign : Binds K (zl 10) ["one", "other", "ruling"] []
  F_looked : Fun K "looked" "looked" s_looked (za 11) (zl 11)
  m_looked : mg "looked" = some (.ref (za 11))
  b_looked : Binds K (zl 11) ["one", "other", "cube"] []
  F_has_open : Fun K "has_open" "has_open" s_has_open (za 12) (zl 12)
  m_has_open : mg "has_open" = some (.ref (za 12))
  b_has_open : Binds K (zl 12) ["told"] []
  F_need_fit : Fun K "need_fit" "need_fit" s_need_fit (za 13) (zl 13)
  m_need_fit : mg "need_fit" = some (.ref (za 13))
  b_need_fit : Binds K (zl 13) ["one", "other"] []
  F_shows_same : Fun K "shows_same" "shows_same" s_shows_same (za 14) (zl 14)
  m_shows_same : mg "shows_same" = some (.ref (za 14))
  b_shows_same : Binds K (zl 14) ["one", "other", "thing"] []
  F_shows_unlike : Fun K "shows_unlike" "shows_unlike" s_shows_unlike (za 15) (zl 15)
  m_shows_unlike : mg "shows_unlike" = some (.ref (za 15))
  b_shows_unlike : Binds K (zl 15) ["one", "other", "thing"] []
  F__law_box : Fun K "_law_box" "_law_box" sBox (za 16) (zl 16)
  m__law_box : mg "_law_box" = some (.ref (za 16))
  b__law_box : Binds K (zl 16) ["_law_script", "_law_k"] []
  F__law_take : Fun K "_law_take" "_law_take" sTake (za 17) (zl 17)
  m__law_take : mg "_law_take" = some (.ref (za 17))
  b__law_take : Binds K (zl 17) ["_law_box_here", "_law_size"] []
  F__law_folded : Fun K "_law_folded" "_law_folded" sFolded (za 18) (zl 18)
  m__law_folded : mg "_law_folded" = some (.ref (za 18))
  b__law_folded : Binds K (zl 18) ["_law_script", "_law_size"] []
  F__law_same : Fun K "_law_same" "_law_same" sSame (za 19) (zl 19)
  m__law_same : mg "_law_same" = some (.ref (za 19))
  b__law_same : Binds K (zl 19) ["_law_found", "_law_due"] []
  F__law_gate_rows : Fun K "_law_gate_rows" "_law_gate_rows" s__law_gate_rows (za 20) (zl 20)
  m__law_gate_rows : mg "_law_gate_rows" = some (.ref (za 20))
  b__law_gate_rows : Binds K (zl 20) ["_law_box_here", "_law_first", "_law_many"] []
  F__law_net : Fun K "_law_net" "_law_net" s__law_net (za 21) (zl 21)
  m__law_net : mg "_law_net" = some (.ref (za 21))
  b__law_net : Binds K (zl 21) ["_law_first", "_law_rows", "_law_given_here"] []
  F__law_settled : Fun K "_law_settled" "_law_settled" s__law_settled (za 22) (zl 22)
  m__law_settled : mg "_law_settled" = some (.ref (za 22))
  b__law_settled : Binds K (zl 22) ["_law_rows", "_law_given_here", "_law_cube"] []
  F__law_is_open : Fun K "_law_is_open" "_law_is_open" s__law_is_open (za 23) (zl 23)
  m__law_is_open : mg "_law_is_open" = some (.ref (za 23))
  b__law_is_open : Binds K (zl 23) ["_law_told"] []
  F__law_looked : Fun K "_law_looked" "_law_looked" s__law_looked (za 24) (zl 24)
  m__law_looked : mg "_law_looked" = some (.ref (za 24))
  b__law_looked : Binds K (zl 24) ["_law_first", "_law_one", "_law_other", "_law_limit"] []
  F__law_word_of : Fun K "_law_word_of" "_law_word_of" s__law_word_of (za 25) (zl 25)
  m__law_word_of : mg "_law_word_of" = some (.ref (za 25))
  b__law_word_of : Binds K (zl 25) ["_law_box_here", "_law_some"] []
  F__law_given : Fun K "_law_given" "_law_given" s__law_given (za 26) (zl 26)
  m__law_given : mg "_law_given" = some (.ref (za 26))
  b__law_given : Binds K (zl 26) ["_law_box_here", "_law_far"] []
  F__law_bent_rows : Fun K "_law_bent_rows" "_law_bent_rows" s__law_bent_rows (za 27) (zl 27)
  m__law_bent_rows : mg "_law_bent_rows" = some (.ref (za 27))
  b__law_bent_rows : Binds K (zl 27) ["_law_box_here", "_law_first", "_law_rows"] []
  F__law_all_bits : Fun K "_law_all_bits" "_law_all_bits" s__law_all_bits (za 28) (zl 28)
  m__law_all_bits : mg "_law_all_bits" = some (.ref (za 28))
  b__law_all_bits : Binds K (zl 28) ["_law_many"] []
  F__law_is_cube : Fun K "_law_is_cube" "_law_is_cube" s__law_is_cube (za 29) (zl 29)
  m__law_is_cube : mg "_law_is_cube" = some (.ref (za 29))
  b__law_is_cube : Binds K (zl 29) ["_law_thing", "_law_signs", "_law_many"] []
  F__law_same_due : Fun K "_law_same_due" "_law_same_due" s__law_same_due (za 30) (zl 30)
  m__law_same_due : mg "_law_same_due" = some (.ref (za 30))
  b__law_same_due : Binds K (zl 30) ["_law_first", "_law_one", "_law_other", "_law_thing"] []
  F__law_unlike_due : Fun K "_law_unlike_due" "_law_unlike_due" s__law_unlike_due (za 31) (zl 31)
  m__law_unlike_due : mg "_law_unlike_due" = some (.ref (za 31))
  b__law_unlike_due : Binds K (zl 31) ["_law_first", "_law_one", "_law_other", "_law_thing"] []
  F__law_bent : Fun K "_law_bent" "_law_bent" s__law_bent (za 32) (zl 32)
  m__law_bent : mg "_law_bent" = some (.ref (za 32))
  b__law_bent : Binds K (zl 32) ["_law_box_here", "_law_cubes", "_law_first"] []
  F__law_right : Fun K "_law_right" "_law_right" s__law_right (za 33) (zl 33)
  m__law_right : mg "_law_right" = some (.ref (za 33))
  b__law_right : Binds K (zl 33) ["_law_box_here"] []
  T : FT K mg C
  M : Mk K C (za 34)
  F_Net___init__ : Fun K "__init__" "Net.__init__" s_Net___init__ (za 34) (zl 34)
  b_Net___init__ : Binds K (zl 34) ["self", "many"] []
  F_Net_both : Fun K "both" "Net.both" s_Net_both (za 35) (zl 35)
  b_Net_both : Binds K (zl 35) ["self", "a", "b"] []
  M_Net_both : Meth K C "both" (za 35)
  F_Net_either : Fun K "either" "Net.either" s_Net_either (za 36) (zl 36)
  b_Net_either : Binds K (zl 36) ["self", "a", "b"] []
  M_Net_either : Meth K C "either" (za 36)
  F_Net_unlike : Fun K "unlike" "Net.unlike" s_Net_unlike (za 37) (zl 37)
  b_Net_unlike : Binds K (zl 37) ["self", "a", "b"] []
  M_Net_unlike : Meth K C "unlike" (za 37)
  F_Net_other : Fun K "other" "Net.other" s_Net_other (za 38) (zl 38)
  b_Net_other : Binds K (zl 38) ["self", "a"] []
  M_Net_other : Meth K C "other" (za 38)
  F_Net_fixed : Fun K "fixed" "Net.fixed" s_Net_fixed (za 39) (zl 39)
  b_Net_fixed : Binds K (zl 39) ["self", "bit"] []
  M_Net_fixed : Meth K C "fixed" (za 39)
  F_Net_put : Fun K "put" "Net.put" s_Net_put (za 40) (zl 40)
  b_Net_put : Binds K (zl 40) ["self", "kind", "wires"] []
  M_Net_put : Meth K C "put" (za 40)
  F_Net_put_gate : Fun K "put_gate" "Net.put_gate" s_Net_put_gate (za 41) (zl 41)
  b_Net_put_gate : Binds K (zl 41) ["self", "gate", "depth"] []
  M_Net_put_gate : Meth K C "put_gate" (za 41)
  F_Net_need : Fun K "need" "Net.need" s_Net_need (za 42) (zl 42)
  b_Net_need : Binds K (zl 42) ["self", "wires"] []
  M_Net_need : Meth K C "need" (za 42)
  F_Net_give : Fun K "give" "Net.give" s_Net_give (za 43) (zl 43)
  b_Net_give : Binds K (zl 43) ["self", "name", "wires"] []
  M_Net_give : Meth K C "give" (za 43)
  F_Net_given : Fun K "given" "Net.given" s_Net_given (za 44) (zl 44)
  b_Net_given : Binds K (zl 44) ["self", "name"] []
  M_Net_given : Meth K C "given" (za 44)
  F_Net_names : Fun K "names" "Net.names" s_Net_names (za 45) (zl 45)
  b_Net_names : Binds K (zl 45) ["self"] []
  M_Net_names : Meth K C "names" (za 45)
  F_Net_inputs : Fun K "inputs" "Net.inputs" s_Net_inputs (za 46) (zl 46)
  b_Net_inputs : Binds K (zl 46) ["self"] []
  M_Net_inputs : Meth K C "inputs" (za 46)
  F_Net_gates : Fun K "gates" "Net.gates" s_Net_gates (za 47) (zl 47)
  b_Net_gates : Binds K (zl 47) ["self"] []
  M_Net_gates : Meth K C "gates" (za 47)
  z_sorted : mg "sorted" = none
  z_dict : mg "dict" = none
  z_set : mg "set" = none
  z_repr : mg "repr" = none
variable {C : Addr} {za : Nat → Addr} {zl : Nat → FuncData}

end
theorem gset_if2 {i : Nat} {v : V} {σ : L2.St} {H : Hp} {c : TT} {t u r : TS} {D : Ends} (h : tIfS c t u { D with nx := r D } (σ.set i (some v)) H) : gName i v σ H ({ D with nx := tSeq (tIfS c t u) r D } : Ends).nx := h
theorem gset_if {σ : L2.St} {H : Hp} {c : TT} {t u r : TS} {D : Ends} (h : tIfS c t u { D with nx := r D } σ H) : tSeq (tIfS c t u) r D σ H := h
theorem ifS_cut {c : TT} {t u : TS} {D : Ends} {σ : L2.St} {H : Hp} (R : L2.St → Hp → Prop) (h : ∀ D' : Ends, (∀ σ' H', R σ' H' → D'.nx σ' H') → tIfS c t u D' σ H) (q : ∀ σ' H', R σ' H' → D.nx σ' H') : tIfS c t u D σ H := h D q
theorem ifS_ev {c : TT} {t u : TS} {D : Ends} {σ : L2.St} {H : Hp} (R : Bool → Hp → Prop) (h : ∀ Q : Bool → Hp → Prop, (∀ z H', R z H' → Q z H') → c σ H Q) (q1 : ∀ H', R true H' → t D σ H') (q2 : ∀ H', R false H' → u D σ H') : tIfS c t u D σ H := h _ fun z H' r => by
  cases z with
  | true => exact q1 H' r
  | false => exact q2 H' r
theorem if_ev {t : TT} {ta tb : TE} {σ : L2.St} {H : Hp} {Q : VK} (R : V → Hp → Prop) (h : ∀ Q : VK, (∀ z H', R z H' → Q z H') → tIf t ta tb σ H Q) (q : ∀ z H', R z H' → Q z H') : tIf t ta tb σ H Q := h Q q
theorem and_ev {ta tb : TE} {σ : L2.St} {H : Hp} {Q : VK} (R : V → Hp → Prop) (h : ∀ Q : VK, (∀ z H', R z H' → Q z H') → tAndV ta tb σ H Q) (q : ∀ z H', R z H' → Q z H') : tAndV ta tb σ H Q := h Q q
theorem or_ev {ta tb : TE} {σ : L2.St} {H : Hp} {Q : VK} (R : V → Hp → Prop) (h : ∀ Q : VK, (∀ z H', R z H' → Q z H') → tOrV ta tb σ H Q) (q : ∀ z H', R z H' → Q z H') : tOrV ta tb σ H Q := h Q q
theorem ifset_ev {c : TT} {e : TE} {k : Nat} {D : Ends} {σ : L2.St} {H : Hp} {old : V} (hσ : σ.set k (some old) = σ) (R : V → Hp → Prop) (h : ∀ Q : VK, (∀ z H', R z H' → Q z H') → c σ H (fun b H1 => if b = true then e σ H1 Q else Q old H1)) (q : ∀ z H', R z H' → D.nx (σ.set k (some z)) H') : tIfS c (tAsg e (gName k)) tNext D σ H := by
  have t := h (fun z H' => D.nx (σ.set k (some z)) H') q
  rw [hσ] at t
  exact t
theorem two_cut {t : TE} {g : TG} {c : TT} {a b r : TS} {D : Ends} {σ : L2.St} {H : Hp} (R : L2.St → Hp → Prop) (h : ∀ D' : Ends, (∀ σ' H', R σ' H' → D'.nx σ' H') → tSeq (tAsg t g) (tIfS c a b) D' σ H) (q : ∀ σ' H', R σ' H' → r D σ' H') : tSeq (tAsg t g) (tSeq (tIfS c a b) r) D σ H := h { D with nx := r D } q
theorem org80 {ta tb : TE} {σ : L2.St} {H : Hp} {Q : VK} {c d : Bool} (ha : ∀ Q : VK, Q (.bl c) H → ta σ H Q) (hb : ∀ Q : VK, Q (.bl d) H → tb σ H Q) (h : Q (.bl (c || d)) H) : tOrV ta tb σ H Q := by
  refine ha _ ⟨c, rfl, ?_⟩
  cases c
  · exact hb _ h
  · exact h
theorem gnext_if18 {σ : L2.St} {H : Hp} {c : TT} {t u : TS} {r : TS} {D : Ends} (h : tIfS c t u { D with nx := r D } σ H) : tNext ({ D with nx := tSeq (tIfS c t u) r D } : Ends) σ H := h
theorem ret_if18 {c : TT} {ta tb : TE} {D : Ends} {σ : L2.St} {H : Hp} (R : Bool → Hp → Prop) (h : ∀ Q : Bool → Hp → Prop, (∀ z H', R z H' → Q z H') → c σ H Q) (q1 : ∀ H', R true H' → ta σ H' D.rt) (q2 : ∀ H', R false H' → tb σ H' D.rt) : tRet (tIf c ta tb) D σ H := h _ fun z H' r => by
  cases z with
  | true => exact q1 H' r
  | false => exact q2 H' r
theorem gset_if3 {i : Nat} {v : V} {σ : L2.St} {H : Hp} {c : TT} {t u r : TS} {D : Ends} (h : tIfS c t u { D with nx := r D } (σ.set i (some v)) H) : gName i v σ H (tSeq (tIfS c t u) r D) := h
theorem asg_ev {t : TE} {i : Nat} {r : TS} {D : Ends} {σ : L2.St} {H : Hp} (R : V → Hp → Prop) (h : ∀ Q : VK, (∀ z H', R z H' → Q z H') → t σ H Q) (q : ∀ z H', R z H' → r D (σ.set i (some z)) H') : tSeq (tAsg t (gName i)) r D σ H := h _ q
section
variable {P : Program} {w : World} {K : PySem.W.Frag} {mg : Str → Option Value} {base : Heap}
variable {C : Addr} {za : Nat → Addr} {zl : Nat → FuncData}
theorem walk_S {x : List Nat} : Walk (Its (SX.S x)) x.length (fun _ => True) (fun i H v H' => H' = H ∧ ∃ c, x[i]? = some c ∧ v = .str (SX.S [c])) := by
  have w := walk_str (z := SX.S x)
  rw [show (SX.S x).cps.size = x.length from List.size_toArray] at w
  refine ⟨w.goes, w.stops, fun i H v H' hi g z => ?_⟩
  obtain ⟨e, c, h1, h2⟩ := w.yields i H v H' hi g z
  refine ⟨e, c, ?_, h2⟩
  rw [← h1]
  show _ = x.toArray[i]?
  rw [List.getElem?_toArray]
theorem in_strs (x : Str) (ys : List Str) : inV (.str x) (ys.map V.str) = true ↔ x ∈ ys := by
  induction ys with
  | nil => exact ⟨fun z => Bool.noConfusion z, fun z => nomatch z⟩
  | cons y ys ih =>
    show ((y == x) || inV (.str x) (ys.map V.str)) = true ↔ _
    rw [Bool.or_eq_true, beq_iff_eq, ih, List.mem_cons]
    exact ⟨fun z => z.imp Eq.symm id, fun z => z.imp Eq.symm id⟩
theorem flat_strs (ys : List Str) : (ys.map V.str).all flatV = true := by
  induction ys with
  | nil => rfl
  | cons y ys ih => exact ih
theorem S1_inj {a b : Nat} (h : SX.S [a] = SX.S [b]) : a = b := by
  have e := SX.S_inj h
  cases e
  rfl
theorem dS1 (a b : Nat) : decide (V.str (SX.S [a]) = V.str (SX.S [b])) = decide (a = b) := by
  by_cases c : a = b
  · subst c
    rw [decide_eq_true rfl, decide_eq_true rfl]
  · rw [decide_eq_false c, decide_eq_false (fun z => c (S1_inj (V.str.inj z)))]
theorem joinL_1 : ∀ l : List Nat, TL.joinL [] (l.map fun c => [c]) = l
  | [] => rfl
  | [_] => rfl
  | a :: b :: l => by
    show [a] ++ ([] ++ TL.joinL [] ((b :: l).map fun c => [c])) = _
    rw [joinL_1 (b :: l)]
    rfl
theorem join_1 (l : List Nat) : Txt.join "" (l.map fun c => SX.S [c]) = SX.S l := by
  have e := SX.join_S [] (l.map fun c => [c])
  rw [List.map_map, joinL_1] at e
  exact e
theorem join_z (l : List Nat) (h : l.length ≤ 1000) : ((l.map fun c => SX.S [c]).map (·.length)).sum + (l.map fun c => SX.S [c]).length * ("" : Str).length ≤ 16777216 := by
  have : ((l.map fun c => SX.S [c]).map (·.length)).sum = l.length := by
    induction l with
    | nil => rfl
    | cons a l ih =>
      have h2 : l.length ≤ 1000 := by
        rw [List.length_cons] at h
        omega
      rw [List.map_cons, List.map_cons, List.sum_cons, ih h2, List.length_cons]
      show 1 + l.length = l.length + 1
      omega
  rw [this, List.length_map, show ("" : Str).length = 0 from rfl]
  omega
theorem mns : Str.ofString "-" = SX.S [45] := by decide +kernel
theorem dM (a : Nat) : decide (V.str (SX.S [a]) = V.str (Str.ofString "-")) = decide (a = 45) := by
  rw [mns]
  exact dS1 a 45
end
/-! ### {n:b} -/
def binT (n : Nat) : Str := ⟨((Nat.toDigits 2 n).map Char.toNat).toArray⟩
theorem digc2_ne : ∀ (fuel n : Nat) (ds : List Char), ds ≠ [] → Nat.toDigitsCore 2 fuel n ds ≠ []
  | 0, _, _, h => h
  | fuel + 1, n, ds, h => by
    unfold Nat.toDigitsCore
    simp only
    split
    · exact List.cons_ne_nil _ _
    · exact digc2_ne fuel _ _ (List.cons_ne_nil _ _)
theorem dig2_ne (n : Nat) : Nat.toDigits 2 n ≠ [] := by
  unfold Nat.toDigits Nat.toDigitsCore
  simp only
  split
  · exact List.cons_ne_nil _ _
  · exact digc2_ne _ _ _ (List.cons_ne_nil _ _)
theorem fmt_b {prog : Program} {w : World} {A : Around} {E : Value → Shared → Prop} {s : Shared} {n : Nat} {t : Tok} {Q : Value → Shared → Prop} (hl : (binT n).length ≤ sizeLine)
    (h : Q (.str (binT n) (s.toks + 1)) { s with toks := s.toks + 1 + 1 }) : wpAny (model prog w) A (formatField (.int (n : Int) t) "b") Q E s := by
  show wpAny _ _ (holding [.int (n : Int) t] (pyFormat (.int (n : Int) t) "b")) Q E s; refine wpAny_holding ?_; unfold pyFormat
  refine wpAny_bind (wpAny_mkStr ?_ (by decide))
  refine wpAny_bind (m := callSpecial? (.int (n : Int) t) (Str.ofString "__format__") [.str "b" s.toks]) (wpAny_callSpecial?_slot (name := Str.ofString "__format__") (typeIs_int _ (n : Int) t) slot_int_format ?_)
  refine wpAny_call (codeAny_call_builtin slot_int_format.plain entry_int_format (slot_int_format.check _ _ _ _ _ _ _ _ (typeIs_int _ (n : Int) t) (args_int_format _ _) ?_))
  unfold Builtin.«int.__format__»
  simp only [selfAndOne, noKeywords, Builtin.Int.intOfSelf, asInt?, asStr?, List.isEmpty_nil, if_true, pure_bind, bind_pure, bind_assoc, show (((Str.ofString "b").length == 0) = false) by decide, show ((((Str.ofString "b").cps.toList.drop 1).any (· ≥ 128) || ((Str.ofString "b").cps.getD 0 0 ≥ 128 && !([60, 62, 61, 94] : List Nat).contains ((Str.ofString "b").cps.getD 1 0))) = false) by decide, Bool.false_eq_true, if_false, show (Value.str "b" s.toks == Value.none) = false from rfl]
  refine wpAny_bind (wpAny_typeNameOf (T := "str") (typeIs_str _ _ _) (by decide) fun _ => wpAny_bind (wpAny_typeNameOfCut_int ?_))
  have hp : Builtin.Float.parseFormatSpec (Str.ofString "b").cps.toList "int" 62 = .ok { align := 62, type := some 98 } := by rfl
  simp only [hp, Option.getD_some]
  rw [if_pos (by decide)]
  have hne : (((Nat.toDigits 2 n).map Char.toNat).isEmpty) = false := by
    cases q : Nat.toDigits 2 n with
    | nil => exact absurd q (dig2_ne n)
    | cons _ _ => rfl
  refine (id (?_ : wpAny _ _ (bind _ _) _ _ _))
  have key : ∀ {A' : Around} {E' : Value → Shared → Prop} {Q' : Fin → Shared → Prop} {s' : Shared} (y : Str), y = binT n → Q' (.done (.ret (.str (binT n) s'.toks))) { s' with toks := s'.toks + 1 } → wpAny (model prog w) A' (mkStr y >>= fun v => ret v) Q' E' s' := fun y e q => by
    rw [e]
    exact wpAny_bind (wpAny_mkStr (wpAny_pure q) hl)
  refine key _ ?_ ?_
  · have e0 : decide (((n : Nat) : Int) < 0) = false := decide_eq_false (by omega)
    rw [e0]
    conv => lhs; arg 4; change ((Nat.toDigits 2 n).map Char.toNat)
    unfold binT
    generalize (Nat.toDigits 2 n).map Char.toNat = ds at hne ⊢
    cases ds with
    | nil => cases hne
    | cons d r =>
      conv => lhs; whnf
      simp
      omega
  · exact wpAny_bind (wpAny_isInstance (typeIs_str _ _ _) isSubtype_str_str (wpAny_pure h))
def tFmtB (te ts : TE) : TE := fun σ H Q => te σ H fun x H1 => ts σ H1 fun y H2 => ∃ n : Nat, x = .int (n : Int) ∧ y = .str "b" ∧ (binT n).length ≤ sizeLine ∧ Q (.str (binT n)) H2
theorem pe_fmtB {X : Cx} {e spec : Expr} {te ts : TE} {pos : Pos} (he : PE X e te) (hs : PE X spec ts) : PE X (.FormattedValue e (-1) (some spec) pos) (tFmtB te ts) := by
  refine ⟨fun pins s σ H Q I h => ?_⟩
  refine PySem.wpAny_FormattedValue_spec (thn (he.run pins s σ H _ I h) fun v s1 ⟨x, H1, I1, r1, q1⟩ => thn (hs.run pins s1 σ H1 _ I1 q1) fun u s2 ⟨y, H2, I2, r2, q2⟩ => ?_)
  obtain ⟨n, rfl, rfl, hl, q⟩ := q2
  obtain ⟨t, rfl⟩ := r1
  obtain ⟨t2, rfl⟩ := r2
  exact ⟨_, _, rfl, fmt_b hl ⟨.str (binT n), H2, I2.tok _, ⟨_, rfl⟩, q⟩⟩
/-! ### a text so many times -/
def strRep (x : Str) (n : Nat) : Str := ⟨(List.replicate n x.cps).foldl (· ++ ·) #[]⟩
theorem strRep_len (x : Str) (n : Nat) : (strRep x n).length = n * x.length := by
  have key : ∀ (n : Nat) (a : Array Nat), ((List.replicate n x.cps).foldl (· ++ ·) a).size = a.size + n * x.cps.size := by
    intro n
    induction n with
    | zero => intro a; simp
    | succ k ih =>
      intro a
      rw [List.replicate_succ, List.foldl_cons, ih, Array.size_append, Nat.add_mul, Nat.one_mul]
      omega
  have := key n #[]
  show ((List.replicate n x.cps).foldl (· ++ ·) #[]).size = n * x.cps.size
  rw [this]
  simp
theorem op_mul_str {X : Cx} : OpR X (binaryOp .Mult) (fun x y H Q => ∃ (i : Str) (n : Nat), x = .str i ∧ y = .int (n : Int) ∧ i.length ≤ 1000 ∧ n ≤ 1000 ∧ Q (.str (strRep i n)) H) := by
  intro pins s σ H x y v u Q I rx ry h
  obtain ⟨i, n, rfl, rfl, h1, h2, q⟩ := h
  obtain ⟨t, rfl⟩ := rx
  obtain ⟨t', rfl⟩ := ry
  have hm : i.length * n ≤ 1000 * 1000 := Nat.mul_le_mul h1 h2
  refine P.mul_str (by rw [decide_eq_false (by omega), decide_eq_false (by omega)]; rfl) (fun c _ => ?_) (fun c _ => ?_) ?_
  · have : (1 : Int) ≤ n := by omega
    have hd : ((2 ^ 63 - 1 : Int)) / 1000 ≤ (2 ^ 63 - 1) / (n : Int) := by
      refine Int.le_ediv_of_mul_le (by omega) ?_
      have : ((2 ^ 63 - 1 : Int) / 1000) * n ≤ (2 ^ 63 - 1) / 1000 * 1000 := Int.mul_le_mul_of_nonneg_left (by omega) (by decide)
      have e : ((2 ^ 63 - 1 : Int) / 1000) * 1000 ≤ 2 ^ 63 - 1 := by decide
      omega
    have e2 : (1000 : Int) ≤ (2 ^ 63 - 1) / 1000 := by decide
    omega
  · rw [Int.toNat_natCast]
    unfold Builtin.Str.tooLong
    have : (1000 * 1000 : Nat) ≤ sizeLine := by decide
    simp only [decide_eq_false_iff_not]
    omega
  · have fin : ∀ (tk : Nat), EP X pins σ Q (.str (strRep i n) tk) s := fun tk => ⟨.str (strRep i n), H, I, ⟨_, rfl⟩, q⟩
    by_cases c : (n : Int) < 1
    · rw [if_pos c]
      have n0 : n = 0 := by omega
      subst n0
      exact ⟨by decide, ⟨.str (strRep i 0), H, I.tok _, ⟨_, rfl⟩, q⟩⟩
    · rw [if_neg c]
      by_cases c2 : ((n : Int) == 1 || i.length == 0) = true
      · rw [if_pos c2]
        have e : strRep i n = i := by
          rcases Bool.or_eq_true_iff.mp c2 with z | z
          · have n1 : n = 1 := by
              have := beq_iff_eq.mp z
              omega
            subst n1
            show (⟨#[] ++ i.cps⟩ : Str) = i
            rw [Array.empty_append]
          · have l0 : (strRep i n).length = 0 := by rw [strRep_len, beq_iff_eq.mp z, Nat.mul_zero]
            have a : (strRep i n).cps = #[] := Array.eq_empty_of_size_eq_zero l0
            have b : i.cps = #[] := Array.eq_empty_of_size_eq_zero (beq_iff_eq.mp z)
            show strRep i n = i
            cases h5 : strRep i n
            cases i
            rw [h5] at a
            dsimp only at a b
            rw [a, b]
        rw [e] at q
        exact ⟨.str i, H, I, ⟨_, rfl⟩, q⟩
      · rw [if_neg c2]
        refine ⟨?_, ⟨.str (strRep i n), H, I.tok _, ⟨_, rfl⟩, q⟩⟩
        have := strRep_len i n
        have : (1000 * 1000 : Nat) ≤ sizeLine := by decide
        show (strRep i n).length ≤ sizeLine
        rw [strRep_len, Nat.mul_comm]
        omega
/-! ### == and != of things that read as data, whatever their texts -/
theorem op_nePl {X : Cx} (hu : X.A.units + 64 < cLine) : OpR X (compareOp .NotEq) (fun x y H Q => ∃ d e, Dp X.K H x d ∧ Dp X.K H y e ∧ d.plain = true ∧ e.plain = true ∧ d.depth ≤ 64 ∧ Q (.bl (!PyData.eqv d e)) H) := by
  intro pins s σ H x y v u Q I rx ry h
  obtain ⟨d, e, hd, he, sd, se, dd, q⟩ := h
  obtain ⟨as, r1⟩ := Dp.reads I d x v hd rx
  obtain ⟨bs, r2⟩ := Dp.reads I e y u he ry
  refine SeqAt.ne_plain r1 r2 sd se ?_ ⟨.bl _, H, I, rfl, q⟩
  have := Nat.min_le_left d.depth e.depth
  omega
theorem op_eqPl {X : Cx} (hu : X.A.units + 64 < cLine) : OpR X (compareOp .Eq) (fun x y H Q => ∃ d e, Dp X.K H x d ∧ Dp X.K H y e ∧ d.plain = true ∧ e.plain = true ∧ d.depth ≤ 64 ∧ Q (.bl (PyData.eqv d e)) H) := by
  intro pins s σ H x y v u Q I rx ry h
  obtain ⟨d, e, hd, he, sd, se, dd, q⟩ := h
  obtain ⟨as, r1⟩ := Dp.reads I d x v hd rx
  obtain ⟨bs, r2⟩ := Dp.reads I e y u he ry
  refine SeqAt.eq_plain r1 r2 sd se ?_ ⟨.bl _, H, I, rfl, q⟩
  have := Nat.min_le_left d.depth e.depth
  omega
theorem op_eqPlK {X : Cx} {K : PySem.W.Frag} {A0 : Around} (hu : A0.units + 64 < cLine) (hK : X.K = K := by rfl) (hA : X.A = A0 := by rfl) : OpR X (compareOp .Eq) (fun x y H Q => ∃ d e, Dp K H x d ∧ Dp K H y e ∧ d.plain = true ∧ e.plain = true ∧ d.depth ≤ 64 ∧ Q (.bl (PyData.eqv d e)) H) := by
  subst hK
  subst hA
  exact op_eqPl hu
theorem pl_all : ∀ ds : List PyData, (∀ d ∈ ds, d.plain = true ∧ d.depth ≤ 50) → PyData.plainAll ds = true ∧ PyData.depthAll ds ≤ 50
  | [], _ => ⟨rfl, by simp [PyData.depthAll]⟩
  | d :: ds, h => by
    obtain ⟨a, b⟩ := pl_all ds fun e he => h e (List.mem_cons_of_mem _ he)
    obtain ⟨a1, b1⟩ := h d (List.mem_cons_self ..)
    refine ⟨by rw [PyData.plainAll, a1, a]; rfl, ?_⟩
    simp only [PyData.depthAll]
    omega
theorem pl_list {ds : List PyData} (h : ∀ d ∈ ds, d.plain = true ∧ d.depth ≤ 50) : (PyData.list ds).plain = true ∧ (PyData.list ds).depth ≤ 64 := by
  obtain ⟨a, b⟩ := pl_all ds h
  refine ⟨a, ?_⟩
  simp only [PyData.depth]
  omega
/-! ### zip of a text and a list or a tuple: new pairs of a sign and an item -/
def Itzl (t : Bool) (K : PySem.W.Frag) (x : Str) (a : Addr) : It :=
  ⟨fun i H => ∃ (ys : List V) (y : V), (bif t then SqT K H a ys else SqL K H a ys) ∧ i < x.cps.size ∧ ys[i]? = some y,
   fun i H v H' => ∃ T c y, v = .ref T ∧ H T = none ∧ H' = upd H T (.tup [.str ⟨#[c]⟩, y]) ∧ x.cps[i]? = some c ∧ ∀ ys, (bif t then SqT K H a ys else SqL K H a ys) → ys[i]? = some y,
   fun i H => ∃ ys : List V, (bif t then SqT K H a ys else SqL K H a ys) ∧ i = min x.cps.size ys.length⟩
def SqIt (t : Bool) (h : Heap) (i2 a : Addr) (i : Nat) : Prop := bif t then h.IsTupleIter i2 a i else h.IsListIter i2 a i
def SqIs (t : Bool) (h : Heap) (a : Addr) (its : Array Value) : Prop := bif t then h.IsTuple a its else h.IsList a its
theorem SqIt.ex {t : Bool} {h : Heap} {i2 a : Addr} {i : Nat} (s : SqIt t h i2 a i) : ∃ o, h.get? i2 = some o ∧ ∀ f, o.data ≠ .cell f := by
  cases t <;> obtain ⟨o, e, _, d⟩ := s <;> exact ⟨o, e, fun f q => by rw [d] at q; cases q⟩
def StZl (t : Bool) (x : Str) (tx : Tok) (a z TI TO i1 i2 : Addr) (i : Nat) (h : Heap) : Prop :=
  IsZip h z TI TO .none ∧ IsTupOf2 h TI (.ref i1) (.ref i2) ∧ (∃ u v, IsTupOf2 h TO u v) ∧ h.IsStrIter i1 (strIterType x) x tx i ∧ SqIt t h i2 a i
theorem draws_sq {prog : Program} {w : World} {A : Around} (t : Bool) (hh : A.handled = none) (it l : Addr) (hne : l ≠ it) (items : Array Value) :
    Draws prog w A it [it, l] items.size (fun i v => items[i]? = some v) (fun i h => SqIt t h it l i ∧ SqIs t h l items) := by
  cases t
  · exact Draws.list hh it l hne items
  · exact Draws.tuple hh it l hne items
theorem sq_val {X : Cx} {t : Bool} {pins : List (Addr × Obj)} {σ : L2.St} {H : Hp} {s : Shared} {a : Addr} {ys : List V} (I : Inv X pins σ H s) (h : bif t then SqT X.K H a ys else SqL X.K H a ys) : ∃ its : List Value, Vals ys its ∧ SqIs t s.heap a its.toArray := by
  cases t
  · obtain ⟨its, rv, p, _⟩ := I.list h
    exact ⟨its, rv, p.isList⟩
  · obtain ⟨its, rv, p, _⟩ := I.tuple h
    exact ⟨its, rv, p⟩
theorem sq_inj {X : Cx} {t : Bool} {pins : List (Addr × Obj)} {σ : L2.St} {H : Hp} {s : Shared} {a : Addr} {ys zs : List V} (I : Inv X pins σ H s) (h : bif t then SqT X.K H a ys else SqL X.K H a ys) (h2 : bif t then SqT X.K H a zs else SqL X.K H a zs) : ys = zs := by
  cases t
  · exact I.list_inj h h2
  · exact I.tuple_inj h h2
theorem turn_zl {P : Program} {w : World} {K : PySem.W.Frag} {elts : List Expr} {kk : Nat} {tpos : Pos} {t : Bool} {x : Str} {tx : Tok} {a z TI TO i1 i2 : Addr} (S : ZipSep2 z TI TO i1 i2 [i1] [i2, a]) (na : a ≠ i2) :
    Turn P w K (.Tuple elts kk tpos) (Itzl t K x a) [z, TI, TO, i1, i2] z (StZl t x tx a z TI TO i1 i2) where
  mem := List.mem_cons_self
  obj := by
    rintro i h ⟨a1, a2, ⟨u, v, a3⟩, ⟨o1, e1, _, d1⟩, s2⟩ c hm
    simp only [List.mem_cons, List.not_mem_nil, or_false] at hm
    rcases hm with e | e | e | e | e <;> subst e
    · exact ⟨_, a1, (fun _ q => nomatch q)⟩
    · exact ⟨_, a2, (fun _ q => nomatch q)⟩
    · exact ⟨_, a3, (fun _ q => nomatch q)⟩
    · exact ⟨o1, e1, (fun _ q => by rw [d1] at q; cases q)⟩
    · obtain ⟨o2, e2, n2⟩ := s2.ex
      exact ⟨o2, e2, n2⟩
  keep := by
    rintro i h h' ⟨a1, a2, ⟨u, v, a3⟩, s1, s2⟩ k
    obtain ⟨o1, e1, r1⟩ := s1
    refine ⟨k z (by simp) _ a1, k TI (by simp) _ a2, ⟨u, v, k TO (by simp) _ a3⟩, ⟨o1, k i1 (by simp) _ e1, r1⟩, ?_⟩
    cases t <;> exact s2.at fun o q => k i2 (by simp) o q
  item := by
    intro X hP hw hK hc i pins s σ H E I hf st hg
    subst hP hw hK
    obtain ⟨ys, y, hq, hi, hy⟩ := hg
    obtain ⟨its, rv, p⟩ := sq_val I hq
    obtain ⟨u, hu, ru⟩ := rv.get hy
    have W := WalksT.zipD2 (prog := X.prog) (w := X.w) (A := X.A) S (Draws.text (A := X.A.in1) (I.ok.hd hc) i1 x tx) (draws_sq (A := X.A.in1) t (I.ok.hd hc) i2 a na its.toArray)
    have hin : ∀ b ∈ [z, TO, i1, i2], b ∈ [z, TI, TO, i1, i2] := fun b hb => by
      simp only [List.mem_cons, List.not_mem_nil, or_false] at hb ⊢
      rcases hb with q | q | q | q <;> simp [q]
    obtain ⟨a1, a2, a3, s1, s2⟩ := id st
    have lt : i < its.length := by
      rw [← rv.length]
      obtain ⟨w, _⟩ := List.getElem?_eq_some_iff.mp hy
      exact w
    refine W.item i s _ E (by simp only [List.size_toArray]; omega) ⟨a1, a2, a3, s1, s2, p⟩ fun T vals h1 tk pt hT isT mid k1 => ?_
    obtain ⟨u1, u2, ⟨c, t1, hc1, rfl⟩, h2, rfl⟩ := pt
    rw [List.getElem?_toArray, hu] at h2
    cases h2
    refine ⟨.ref T, rfl, W.go elts kk tpos i T { s with heap := h1, toks := tk } _ E mid fun h2 st2 k2 => ?_⟩
    have nT : T ∉ [z, TO, i1, i2] := W.apart i T h1 mid
    have isT2 : h2.IsTuple T #[.str ⟨#[c]⟩ t1, u] := isT.at fun o e => k2 T o nT e
    have new : ObjOk X.prog X.w (upd H T (.tup [.str ⟨#[c]⟩, y])) h2 T (.tup [.str ⟨#[c]⟩, y]) :=
      ⟨by show 2 ≤ sizeLine; decide, [.str ⟨#[c]⟩ t1, u], .cons ⟨t1, rfl⟩ (.cons ru .nil), isT2⟩
    have I2 : Inv X pins σ (upd H T (.tup [.str ⟨#[c]⟩, y])) { s with heap := h2, toks := tk } :=
      I.turnedNew (t' := tk) (ch := [z, TI, TO, i1, i2]) (fun b o nb e => k2 b o (fun q => nb (hin b q)) (k1 b o (fun q => nb (hin b q)) e)) hf hT new
    obtain ⟨b1, b2, b3, b4, b5, _⟩ := st2
    refine ⟨.ref T, _, I2, rfl, ⟨T, c, y, rfl, I.hok.fresh hT, rfl, hc1, fun zs hz => ?_⟩, ⟨b1, b2, b3, b4, b5⟩, fun b hb => ?_⟩
    · rw [sq_inj I hz hq]
      exact hy
    have nb : b ≠ T := by
      obtain ⟨a1, a2, ⟨u, v, a3⟩, ⟨o1, e1, _⟩, s2⟩ := st
      obtain ⟨o2, e2, _⟩ := s2.ex
      have lt : b < s.heap.objs.size := by
        simp only [List.mem_cons, List.not_mem_nil, or_false] at hb
        rcases hb with q | q | q | q | q <;> subst q
        · exact Heap.lt_size a1
        · exact Heap.lt_size a2
        · exact Heap.lt_size a3
        · exact Heap.lt_size e1
        · exact Heap.lt_size e2
      exact Nat.ne_of_lt (Nat.lt_of_lt_of_le lt hT)
    rw [upd_ne nb]
    exact (hf b hb).1
  done := by
    intro X hP hw hK hc i pins s σ H E I hf st hg
    subst hP hw hK
    obtain ⟨ys, hq, hi⟩ := hg
    obtain ⟨its, rv, p⟩ := sq_val I hq
    have W := WalksT.zipD2 (prog := X.prog) (w := X.w) (A := X.A) S (Draws.text (A := X.A.in1) (I.ok.hd hc) i1 x tx) (draws_sq (A := X.A.in1) t (I.ok.hd hc) i2 a na its.toArray)
    have hn : i = min x.cps.size its.toArray.size := by
      have e1 := rv.length
      have e2 : its.toArray.size = its.length := List.size_toArray
      omega
    subst hn
    obtain ⟨a1, a2, a3, s1, s2⟩ := id st
    refine W.done s _ E ⟨a1, a2, a3, s1, s2, p⟩ fun h1 tk k1 => ⟨rfl, I.turnedL (t' := tk) (ch := [z, TI, TO, i1, i2]) (fun b o nb e => k1 b o (fun q => nb ?_) e) hf⟩
    simp only [List.mem_cons, List.not_mem_nil, or_false] at q ⊢
    rcases q with q | q | q | q <;> simp [q]
  self := fun A i s Q E st h => wpAny_pyIter_zip st.1 h
def iZl (K : PySem.W.Frag) (ta : TA) : TI := fun σ H R => ta σ H fun vs H1 => ∃ (t : Bool) (x : Str) (a : Addr) (ys : List V), vs = [.str x, .ref a] ∧ (bif t then SqT K H1 a ys else SqL K H1 a ys) ∧ R (Itzl t K x a) H1
theorem begins_sq (t : Bool) (l : Addr) (items : Array Value) : Begins (.ref l) { cls := .type (bif t then "tuple_iterator" else "list_iterator"), data := .fields #[.ref l, .int 0 0] } fun h => SqIs t h l items := by
  cases t
  · exact begins_list l items
  · exact begins_tuple l items
theorem pi_zl {X : Cx} {e e2 : Expr} {ta : TA} {p pos tpos : Pos} {elts : List Expr} {kk : Nat} (hg : Gl X "zip") (hm : X.mg "zip" = none) (ha : PA X [e, e2] ta)
    (hs : starEach [e, e2] X.env = (false, eval e X.env) :: starEach [e2] X.env := by rfl) (hp : (backTo pos (starEach [e2] X.env)).any (·.1) = false := by rfl) :
    PI X (.Tuple elts kk tpos) (.Call (.Name "zip" p) [e, e2] [] pos) (iZl X.K ta) := by
  constructor
  intro pins s σ H R I h
  refine Call_ (ld_blt I hg hm PyProof.Rows.boot_zip (PyProof.Rows.callWith_type1 (thn (ha.run pos pins s σ H _ I h) fun us s1 hh => ?_) hs hp))
  obtain ⟨vs, H1, I1, r1, t, x, a, ys, rfl, hq, q⟩ := hh
  match us, r1 with
  | [v1, v2], .cons ⟨tx, hx⟩ (.cons hy .nil) =>
    subst hx
    cases hy
    obtain ⟨its, rv, pl⟩ := sq_val I1 hq
    have la : a < s1.heap.objs.size := by
      cases t <;> obtain ⟨o, e, _⟩ := pl <;> exact Heap.lt_size e
    refine zip_begins2 (begins_text x tx) (begins_sq t a its.toArray) trivial pl fun h' a1 a2 a3 g1 g2 _ k => wpAny_pyIter_zip a1 ?_
    have I2 : Inv X pins σ H1 { s1 with heap := h' } := I1.kept (t' := s1.toks) k
    have S : ZipSep2 (s1.heap.objs.size + 4) (s1.heap.objs.size + 2) (s1.heap.objs.size + 3) s1.heap.objs.size (s1.heap.objs.size + 1) [s1.heap.objs.size] [s1.heap.objs.size + 1, a] := zip_sep2 (fp1 := []) (fp2 := [a]) (fun _ q => nomatch q) (fun b q => by rw [List.mem_singleton.mp q]; exact la)
    have fr : ∀ b ∈ [s1.heap.objs.size + 4, s1.heap.objs.size + 2, s1.heap.objs.size + 3, s1.heap.objs.size, s1.heap.objs.size + 1], FpOk X pins H1 b := fun b hb => by
      have le : s1.heap.objs.size ≤ b := by
        simp only [List.mem_cons, List.not_mem_nil, or_false] at hb
        rcases hb with z | z | z | z | z <;> rw [z]
        · exact Nat.le_add_right _ _
        · exact Nat.le_add_right _ _
        · exact Nat.le_add_right _ _
        · exact Nat.le_refl _
        · exact Nat.le_add_right _ _
      exact I1.fpOk le (I1.hok.fresh le)
    refine ⟨s1.heap.objs.size + 4, [s1.heap.objs.size + 4, s1.heap.objs.size + 2, s1.heap.objs.size + 3, s1.heap.objs.size, s1.heap.objs.size + 1], _, _, H1, rfl, I2, turn_zl S (Nat.ne_of_lt (Nat.lt_succ_of_lt la)), ⟨a1, a2, ⟨_, _, a3⟩, ⟨_, g1, rfl, rfl⟩, ?_⟩, fr, q⟩
    cases t <;> exact ⟨_, g2, rfl, rfl⟩
theorem walk_zl {K : PySem.W.Frag} {t : Bool} {x : Str} {a : Addr} {ys : List V} {n : Nat} (hx : x.cps.size = n) (hy : ys.length = n) : Walk (Itzl t K x a) n (fun H => bif t then SqT K H a ys else SqL K H a ys) (YPair (fun i => (x.cps[i]?).map fun c => .str ⟨#[c]⟩) (fun i => ys[i]?)) := by
  refine ⟨fun i _ hi q => ⟨ys, ys[i]'(by omega), q, by omega, List.getElem?_eq_getElem (by omega)⟩, fun _ q => ⟨ys, q, by omega⟩, fun i H v H' hi q z => ?_⟩
  obtain ⟨T, c, y, h1, h2, h3, h4, h5⟩ := z
  exact ⟨T, _, _, h1, h2, h3, by simp only [h4]; rfl, h5 ys q⟩
/-! ### zip of two texts: new pairs of their signs -/
def Itzx (x y : Str) : It :=
  ⟨fun i _ => i < min x.cps.size y.cps.size,
   fun i H v H' => ∃ T c d, v = .ref T ∧ H T = none ∧ H' = upd H T (.tup [.str ⟨#[c]⟩, .str ⟨#[d]⟩]) ∧ x.cps[i]? = some c ∧ y.cps[i]? = some d,
   fun i _ => i = min x.cps.size y.cps.size⟩
def StZx (x y : Str) (tx ty : Tok) (z TI TO i1 i2 : Addr) (i : Nat) (h : Heap) : Prop :=
  IsZip h z TI TO .none ∧ IsTupOf2 h TI (.ref i1) (.ref i2) ∧ (∃ u v, IsTupOf2 h TO u v) ∧ h.IsStrIter i1 (strIterType x) x tx i ∧ h.IsStrIter i2 (strIterType y) y ty i
theorem turn_zx {P : Program} {w : World} {K : PySem.W.Frag} {elts : List Expr} {kk : Nat} {tpos : Pos} {x y : Str} {tx ty : Tok} {z TI TO i1 i2 : Addr} (S : ZipSep2 z TI TO i1 i2 [i1] [i2]) :
    Turn P w K (.Tuple elts kk tpos) (Itzx x y) [z, TI, TO, i1, i2] z (StZx x y tx ty z TI TO i1 i2) where
  mem := List.mem_cons_self
  obj := by
    rintro i h ⟨a1, a2, ⟨u, v, a3⟩, ⟨o1, e1, _, d1⟩, ⟨o2, e2, _, d2⟩⟩ c hm
    simp only [List.mem_cons, List.not_mem_nil, or_false] at hm
    rcases hm with e | e | e | e | e <;> subst e
    · exact ⟨_, a1, (fun _ q => nomatch q)⟩
    · exact ⟨_, a2, (fun _ q => nomatch q)⟩
    · exact ⟨_, a3, (fun _ q => nomatch q)⟩
    · exact ⟨o1, e1, (fun _ q => by rw [d1] at q; cases q)⟩
    · exact ⟨o2, e2, (fun _ q => by rw [d2] at q; cases q)⟩
  keep := by
    rintro i h h' ⟨a1, a2, ⟨u, v, a3⟩, s1, s2⟩ k
    obtain ⟨o1, e1, r1⟩ := s1
    obtain ⟨o2, e2, r2⟩ := s2
    exact ⟨k z (by simp) _ a1, k TI (by simp) _ a2, ⟨u, v, k TO (by simp) _ a3⟩, ⟨o1, k i1 (by simp) _ e1, r1⟩, ⟨o2, k i2 (by simp) _ e2, r2⟩⟩
  item := by
    intro X hP hw hK hc i pins s σ H E I hf st hg
    subst hP hw hK
    have W := WalksT.zipD2 (prog := X.prog) (w := X.w) (A := X.A) S (Draws.text (A := X.A.in1) (I.ok.hd hc) i1 x tx) (Draws.text (A := X.A.in1) (I.ok.hd hc) i2 y ty)
    have hin : ∀ b ∈ [z, TO, i1, i2], b ∈ [z, TI, TO, i1, i2] := fun b hb => by
      simp only [List.mem_cons, List.not_mem_nil, or_false] at hb ⊢
      rcases hb with q | q | q | q <;> simp [q]
    refine W.item i s _ E hg st fun T vals h1 tk pt hT isT mid k1 => ?_
    obtain ⟨u1, u2, ⟨c, t1, hc1, rfl⟩, ⟨d, t2, hd1, rfl⟩, rfl⟩ := pt
    refine ⟨.ref T, rfl, W.go elts kk tpos i T { s with heap := h1, toks := tk } _ E mid fun h2 st2 k2 => ?_⟩
    have nT : T ∉ [z, TO, i1, i2] := W.apart i T h1 mid
    have isT2 : h2.IsTuple T #[.str ⟨#[c]⟩ t1, .str ⟨#[d]⟩ t2] := isT.at fun o e => k2 T o nT e
    have new : ObjOk X.prog X.w (upd H T (.tup [.str ⟨#[c]⟩, .str ⟨#[d]⟩])) h2 T (.tup [.str ⟨#[c]⟩, .str ⟨#[d]⟩]) :=
      ⟨by show 2 ≤ sizeLine; decide, [.str ⟨#[c]⟩ t1, .str ⟨#[d]⟩ t2], .cons ⟨t1, rfl⟩ (.cons ⟨t2, rfl⟩ .nil), isT2⟩
    have I2 : Inv X pins σ (upd H T (.tup [.str ⟨#[c]⟩, .str ⟨#[d]⟩])) { s with heap := h2, toks := tk } :=
      I.turnedNew (t' := tk) (ch := [z, TI, TO, i1, i2]) (fun b o nb e => k2 b o (fun q => nb (hin b q)) (k1 b o (fun q => nb (hin b q)) e)) hf hT new
    refine ⟨.ref T, _, I2, rfl, ⟨T, c, d, rfl, I.hok.fresh hT, rfl, hc1, hd1⟩, st2, fun b hb => ?_⟩
    have nb : b ≠ T := by
      obtain ⟨a1, a2, ⟨u, v, a3⟩, ⟨o1, e1, _⟩, ⟨o2, e2, _⟩⟩ := st
      have lt : b < s.heap.objs.size := by
        simp only [List.mem_cons, List.not_mem_nil, or_false] at hb
        rcases hb with q | q | q | q | q <;> subst q
        · exact Heap.lt_size a1
        · exact Heap.lt_size a2
        · exact Heap.lt_size a3
        · exact Heap.lt_size e1
        · exact Heap.lt_size e2
      exact Nat.ne_of_lt (Nat.lt_of_lt_of_le lt hT)
    rw [upd_ne nb]
    exact (hf b hb).1
  done := by
    intro X hP hw hK hc i pins s σ H E I hf st hg
    subst hP hw hK
    have W := WalksT.zipD2 (prog := X.prog) (w := X.w) (A := X.A) S (Draws.text (A := X.A.in1) (I.ok.hd hc) i1 x tx) (Draws.text (A := X.A.in1) (I.ok.hd hc) i2 y ty)
    have hg' : i = min x.cps.size y.cps.size := hg
    subst hg'
    refine W.done s _ E st fun h1 tk k1 => ⟨rfl, I.turnedL (t' := tk) (ch := [z, TI, TO, i1, i2]) (fun b o nb e => k1 b o (fun q => nb ?_) e) hf⟩
    simp only [List.mem_cons, List.not_mem_nil, or_false] at q ⊢
    rcases q with q | q | q | q <;> simp [q]
  self := fun A i s Q E st h => wpAny_pyIter_zip st.1 h
def iZx (ta : TA) : TI := fun σ H R => ta σ H fun vs H1 => ∃ x y, vs = [.str x, .str y] ∧ R (Itzx x y) H1
theorem pi_zx {X : Cx} {e e2 : Expr} {ta : TA} {p pos tpos : Pos} {elts : List Expr} {kk : Nat} (hg : Gl X "zip") (hm : X.mg "zip" = none) (ha : PA X [e, e2] ta)
    (hs : starEach [e, e2] X.env = (false, eval e X.env) :: starEach [e2] X.env := by rfl) (hp : (backTo pos (starEach [e2] X.env)).any (·.1) = false := by rfl) :
    PI X (.Tuple elts kk tpos) (.Call (.Name "zip" p) [e, e2] [] pos) (iZx ta) := by
  constructor
  intro pins s σ H R I h
  refine Call_ (ld_blt I hg hm PyProof.Rows.boot_zip (PyProof.Rows.callWith_type1 (thn (ha.run pos pins s σ H _ I h) fun us s1 hh => ?_) hs hp))
  obtain ⟨vs, H1, I1, r1, x, y, rfl, q⟩ := hh
  match us, r1 with
  | [v1, v2], .cons ⟨tx, hx⟩ (.cons ⟨ty, hy⟩ .nil) =>
    subst hx hy
    refine zip_begins2 (begins_text x tx) (begins_text y ty) trivial trivial fun h' a1 a2 a3 g1 g2 _ k => wpAny_pyIter_zip a1 ?_
    have I2 : Inv X pins σ H1 { s1 with heap := h' } := I1.kept (t' := s1.toks) k
    have S : ZipSep2 (s1.heap.objs.size + 4) (s1.heap.objs.size + 2) (s1.heap.objs.size + 3) s1.heap.objs.size (s1.heap.objs.size + 1) [s1.heap.objs.size] [s1.heap.objs.size + 1] := zip_sep2 (fp1 := []) (fp2 := []) (fun _ q => nomatch q) (fun _ q => nomatch q)
    have fr : ∀ b ∈ [s1.heap.objs.size + 4, s1.heap.objs.size + 2, s1.heap.objs.size + 3, s1.heap.objs.size, s1.heap.objs.size + 1], FpOk X pins H1 b := fun b hb => by
      have le : s1.heap.objs.size ≤ b := by
        simp only [List.mem_cons, List.not_mem_nil, or_false] at hb
        rcases hb with z | z | z | z | z <;> rw [z]
        · exact Nat.le_add_right _ _
        · exact Nat.le_add_right _ _
        · exact Nat.le_add_right _ _
        · exact Nat.le_refl _
        · exact Nat.le_add_right _ _
      exact I1.fpOk le (I1.hok.fresh le)
    exact ⟨s1.heap.objs.size + 4, [s1.heap.objs.size + 4, s1.heap.objs.size + 2, s1.heap.objs.size + 3, s1.heap.objs.size, s1.heap.objs.size + 1], _, _, H1, rfl, I2, turn_zx S, ⟨a1, a2, ⟨_, _, a3⟩, ⟨_, g1, rfl, rfl⟩, ⟨_, g2, rfl, rfl⟩⟩, fr, q⟩
section
variable {P : Program} {w : World} {K : PySem.W.Frag} {mg : Str → Option Value} {base : Heap}
variable {C : Addr} {za : Nat → Addr} {zl : Nat → FuncData}
theorem walk_zx {x y : Str} {n : Nat} (hn : n = min x.cps.size y.cps.size) : Walk (Itzx x y) n (fun _ => True) (YPair (fun i => (x.cps[i]?).map fun c => .str ⟨#[c]⟩) (fun i => (y.cps[i]?).map fun c => .str ⟨#[c]⟩)) := by
  subst hn
  refine ⟨fun i _ hi _ => hi, fun _ _ => rfl, fun i H v H' _ _ z => ?_⟩
  obtain ⟨T, c, d, h1, h2, h3, h4, h5⟩ := z
  exact ⟨T, _, _, h1, h2, h3, by simp only [h4]; rfl, by simp only [h5]; rfl⟩
theorem walk_zS {x y : List Nat} {n : Nat} (hx : x.length = n) (hy : y.length = n) : Walk (Itzx (SX.S x) (SX.S y)) n (fun _ => True) (YPair (fun i => (x[i]?).map fun c => .str (SX.S [c])) (fun i => (y[i]?).map fun c => .str (SX.S [c]))) := by
  have w := walk_zx (x := SX.S x) (y := SX.S y) (n := n) (by show n = min x.toArray.size y.toArray.size; rw [List.size_toArray, List.size_toArray, hx, hy]; omega)
  refine ⟨w.goes, w.stops, fun i H v H' hi g z => ?_⟩
  obtain ⟨T, u, v', e1, e2, e3, e4, e5⟩ := w.yields i H v H' hi g z
  refine ⟨T, u, v', e1, e2, e3, ?_, ?_⟩
  · rw [← e4]
    show _ = (x.toArray[i]?).map _
    rw [List.getElem?_toArray]
  · rw [← e5]
    show _ = (y.toArray[i]?).map _
    rw [List.getElem?_toArray]
end
end GZ
namespace L2
open PySem PySem.Spec PyProof.Rows
/-! ### sorted(set(xs)), xs a list of texts, alike or not -/
/-- the set of texts at a: S its members, n their number; its table can be walked -/
def SetTx (P : Program) (w : World) (h : Heap) (a : Addr) (S : Str → Bool) (n : Nat) : Prop :=
  ∃ o es ep t, h.get? a = some o ∧ o.ExactSet ∧ o.data = .set es ep t ∧ ElemsOf (PySem.strKind P w) es.toList ∧ (∀ k, S k = true ↔ ∃ e ∈ es.toList, (PySem.strKind P w).is k e.2 = true) ∧
    es.size < scanBound ∧ t.fits es.size = true ∧ es.size = n ∧ Ris t.place.toList ∧ (w.params.followText "set-order" = true ∨ t.led = true)
section
variable {P : Program} {w : World} {h h' : Heap} {a : Addr} {S : Str → Bool} {n : Nat}
theorem SetTx.at (R : SetTx P w h a S n) (k : ∀ o, h.get? a = some o → h'.get? a = some o) : SetTx P w h' a S n := by
  obtain ⟨o, es, ep, t, ho, r⟩ := R
  exact ⟨o, es, ep, t, k o ho, r⟩
theorem SetTx.congr {S' : Str → Bool} (R : SetTx P w h a S n) (e : ∀ k, S' k = S k) : SetTx P w h a S' n := by
  rw [show S' = S from funext e]
  exact R
end
section
variable {P : Program} {w : World} {A : Around} {E : Value → Shared → Prop} {s : Shared} {a : Addr} {S : Str → Bool} {n : Nat}
theorem setTx_tail {g : Bool → Sem Unit} (hg : ∀ (b : Bool) (s₁ : Shared) (Q' : Unit → Shared → Prop), Q' () s₁ → wpAny (model P w) A (g b) Q' E s₁)
    {o : Obj} {es : Array (Int × Value)} {ep : Nat} {t : SetTable} (ho : s.heap.get? a = some o) (hex : o.ExactSet) (hd : o.data = .set es ep t)
    {es1 : Array (Int × Value)} {t2 : SetTable} {S' : Str → Bool} (el : ElemsOf (PySem.strKind P w) es1.toList) (m1 : ∀ k, S' k = true ↔ ∃ e ∈ es1.toList, (PySem.strKind P w).is k e.2 = true)
    (hb1 : es1.size < scanBound) (hf2 : t2.fits es1.size = true) (hr : Ris t2.place.toList) (hl : w.params.followText "set-order" = true ∨ t2.led = true) {wasDummy : Bool} {R : Option Bool → Shared → Prop}
    (hR : ∀ h', Heap.SameBut a s.heap h' → SetTx P w h' a S' es1.size → R (some true) { s with heap := h' }) :
    wpAny (model P w) A (do
        storeSet a es1 t2
        if (!wasDummy && t2.tooFull) = true then do
            g (relayAll t2 es1 (SetTable.grown es1.size)).2.2
            storeSet a (relayAll t2 es1 (SetTable.grown es1.size)).1 (relayAll t2 es1 (SetTable.grown es1.size)).2.1
            pure (some true)
          else pure (some true)) R E s := by
  refine wpAny_bind (wpAny_storeSet_of ho hd ?_ (fits_of_scanBound hb1))
  have ho1 := store_at (es' := es1) (t' := t2) ho hd
  have sb1 := Heap.SameBut.update s.heap a (Obj.putSet es1 t2)
  split
  · have pm := relayAll_perm t2 es1 (SetTable.grown es1.size)
    have hf3 := relayAll_fits t2 es1 (SetTable.grown es1.size)
    have hr3 := relayAll_ris t2 es1 (SetTable.grown es1.size)
    have hl3 := relayAll_led t2 es1 (SetTable.grown es1.size)
    generalize relayAll t2 es1 (SetTable.grown es1.size) = Z at pm hf3 hr3 hl3 ⊢
    obtain ⟨es2, t3, gave⟩ := Z
    dsimp only at pm hf3 hr3 hl3 ⊢
    have hsz : es2.size = es1.size := by rw [← Array.length_toList, pm.length_eq, Array.length_toList]
    have hb2 : es2.size < scanBound := by rw [hsz]; exact hb1
    refine wpAny_bind (hg _ _ _ ?_)
    refine wpAny_bind (wpAny_storeSet_of ho1 rfl ?_ (fits_of_scanBound hb2))
    have ho2 := store_at (es' := es2) (t' := t3) ho1 rfl
    refine wpAny_pure (hR _ (sb1.trans (Heap.SameBut.update _ a _)) ?_)
    exact ⟨_, es2, _, t3, ho2, hex, rfl, el.perm pm, fun k => (m1 k).trans ⟨fun ⟨e, he, q⟩ => ⟨e, pm.mem_iff.mpr he, q⟩, fun ⟨e, he, q⟩ => ⟨e, pm.mem_iff.mp he, q⟩⟩, hb2, hf3, hsz, hr3, hl.imp id fun z => by rw [hl3]; exact z⟩
  · exact wpAny_pure (hR _ sb1 ⟨_, es1, _, t2, ho1, hex, rfl, el, m1, hb1, hf2, rfl, hr, hl⟩)
theorem setTx_add {k : Str} {tk : Tok} {Q : Bool → Shared → Prop} (R : SetTx P w s.heap a S n) (room : n + 1 < scanBound)
    (hQ : ∀ h', Heap.SameBut a s.heap h' → SetTx P w h' a (fun j => S j || decide (j = k)) (if S k = true then n else n + 1) → Q (!S k) { s with heap := h' }) :
    wpAny (model P w) A (setAddHashed a (.str k tk) ((PySem.strKind P w).hash k)) Q E s := by
  obtain ⟨o, es, ep, t, ho, hex, hd, hel, hm, hb, hf, hn, hr, hl⟩ := R
  have hkey : (PySem.strKind P w).is k (.str k tk) = true := strKind_is P w k tk
  have hsc : (Value.str k tk).scannable = true := rfl
  unfold setAddHashed setAddHashedIn
  refine wpAny_holding (wpAny_bind (wpAny_setState_of ho hd hf ?_))
  dsimp only
  rw [byScan_of hsc hb hel]
  simp only [↓reduceIte]
  unfold setAddByScan
  refine wpAny_bind ?_
  refine wpAny_bind (wpAny_rule ?_)
  refine wpAny_bind (wpAny_setScan_of hkey ho hd hf hel ?_)
  cases hfi : List.findIdx? (fun e => (PySem.strKind P w).is k e.2) es.toList with
  | some j =>
    dsimp only
    obtain ⟨hj, pj, _⟩ := List.findIdx?_eq_some_iff_getElem.mp hfi
    have hSk : S k = true := (hm k).2 ⟨es.toList[j], List.getElem_mem hj, pj⟩
    refine wpAny_pure (wpAny_pure ?_)
    have q := hQ s.heap (Heap.SameBut.refl a s.heap) ⟨o, es, ep, t, ho, hex, hd, hel, fun i => by
      rw [Bool.or_eq_true, decide_eq_true_eq, ← hm i]
      exact ⟨fun z => z.elim id (fun e => e ▸ hSk), .inl⟩, hb, hf, by rw [if_pos hSk]; exact hn, hr, hl⟩
    rw [hSk] at q
    exact q
  | none =>
    dsimp only
    have hSk : S k = false := by
      cases q : S k with
      | false => rfl
      | true =>
        obtain ⟨e, he, z⟩ := (hm k).1 q
        have c := List.findIdx?_eq_none_iff.mp hfi e he
        rw [z] at c
        cases c
    have hgw : ∀ (b : Bool) {s₁ : Shared} {Q' : Unit → Shared → Prop}, Q' () s₁ → wpAny (model P w) A (match b with | true => rule "set.scan.the-table-gave-way" | false => pure ()) Q' E s₁ :=
      fun b s₁ Q' q => by cases b <;> first | exact wpAny_pure q | exact wpAny_rule q
    have pm := layNew_perm t es ((PySem.strKind P w).hash k) (.str k tk)
    have hf1 := layNew_fits t es ((PySem.strKind P w).hash k) (.str k tk)
    have hr1 := layNew_ris t es ((PySem.strKind P w).hash k) (.str k tk) hr
    have hl1 := layNew_led t es ((PySem.strKind P w).hash k) (.str k tk)
    generalize layNew t es ((PySem.strKind P w).hash k) (.str k tk) = Z at pm hf1 hr1 hl1 ⊢
    obtain ⟨es1, t1, wasDummy, gave⟩ := Z
    dsimp only at pm hf1 hr1 hl1 ⊢
    rw [Array.toList_push] at pm
    have el1 : ElemsOf (PySem.strKind P w) es1.toList := (hel.push hkey hsc).perm pm
    have m1 : ∀ i, (S i || decide (i = k)) = true ↔ ∃ e ∈ es1.toList, (PySem.strKind P w).is i e.2 = true := mem_push_iff hkey hm pm
    have hsz : es1.size = n + 1 := by rw [← Array.length_toList, pm.length_eq, List.length_append, Array.length_toList, hn]; rfl
    have hb1 : es1.size < scanBound := by rw [hsz]; exact room
    have hled : w.params.followText "set-order" = true ∨ t1.led = true := hl.imp id fun z => by rw [hl1]; exact z
    have fin : ∀ h', Heap.SameBut a s.heap h' → SetTx P w h' a (fun j => S j || decide (j = k)) es1.size → Q true { s with heap := h' } := fun h' sb r => by
      have q := hQ h' sb
      rw [hSk] at q
      rw [hsz] at r
      exact q r
    refine wpAny_bind (hgw _ ?_)
    split
    · refine wpAny_bind ?_
      rw [hashByValue_scannable 8 hsc]
      refine wpAny_pure ?_
      refine setTx_tail ?_ ho hex hd el1 m1 hb1 ?_ ?_ ?_ ?_
      · intro b s₁ Q' q; cases b <;> first | exact wpAny_pure q | exact wpAny_rule q
      · first | (split <;> first | exact hf1 | exact SetTable.fits_plain_off hf1) | exact hf1
      · first | (split <;> exact hr1) | exact hr1
      · first | (split <;> exact hled) | exact hled
      · intro h' sb r; dsimp only; exact wpAny_pure (fin h' sb r)
    · refine wpAny_bind (wpAny_pure ?_)
      simp only [↓reduceIte]
      refine setTx_tail ?_ ho hex hd el1 m1 hb1 hf1 hr1 hled ?_
      · intro b s₁ Q' q; cases b <;> first | exact wpAny_pure q | exact wpAny_rule q
      · intro h' sb r; dsimp only; exact wpAny_pure (fin h' sb r)
theorem setTx_new {h : Heap} {a : Addr} {xs : List Str} (ho : h.get? a = some { cls := .type "set", dict := none, data := .set #[] 0 (.fresh 0 0 (!w.params.followText "set-order")) }) : SetTx P w h a (fun j => decide (j ∈ xs.take 0)) 0 :=
  ⟨_, #[], 0, _, ho, ⟨rfl, rfl, rfl⟩, rfl, (fun e he => by simp at he), (fun k => by simp), (by decide), (by rfl), rfl, List.Pairwise.nil, by
    show _ ∨ (!w.params.followText "set-order") = true
    cases w.params.followText "set-order"
    · exact .inr rfl
    · exact .inl rfl⟩
theorem setTx_loop {I : Addr} {fp wr : List Addr} {G : Array GenState → Array GenState → Prop} {n : Nat} {Pv : Nat → Value → Prop} {St : Nat → Shared → Prop} {R : Result → Shared → Prop}
    (W : WalksS P w A.in1 I fp wr G n Pv St) (S : Addr) (hSf : S ∉ fp) (xs : List Str) (hn : n = xs.length) (hb : xs.length + 1 < scanBound) (hval : ∀ i v, Pv i v → ∃ k t, xs[i]? = some k ∧ v = .str k t) :
    ∀ (k i : Nat) (s : Shared), n - i = k → i ≤ n → St i s → (∃ c, c ≤ i ∧ SetTx P w s.heap S (fun j => decide (j ∈ xs.take i)) c) →
      (∀ s' c, Moved (S :: wr) G s s' → c ≤ n → SetTx P w s'.heap S (fun j => decide (j ∈ xs)) c → R (.ok (.ret .none)) s') →
      codeAny (model P w) A (.builtin "set.update.loop" ⟨[.ref S, .ref I], []⟩) R s := by
  have hSw : S ∉ wr := fun h => hSf (W.sub _ h)
  have hsub : ∀ b ∈ wr, b ∈ S :: wr := fun b hb => List.mem_cons_of_mem _ hb
  intro k
  induction k with
  | zero =>
    intro i s hk' hi hst ⟨c, hc, hS⟩ hR
    have hin : i = n := by omega
    subst hin
    refine codeAny_builtin F.entry_set_update_loop ?_
    rw [Around.under_plainId F.plain_set_update_loop _]
    show wpAny _ A.in1 (pyNext (.ref I) >>= _) _ _ s
    refine wpAny_bind (W.done s _ _ hst fun s' hm => ?_)
    show wpAny _ A.in1 (ret Value.none) _ _ s'
    have e : xs.take i = xs := List.take_of_length_le (by omega)
    rw [e] at hS
    exact wpAny_pure (hR s' c (hm.mono hsub) hc (hS.at fun o e => hm.heap S o hSw e))
  | succ k ih =>
    intro i s hk' hi hst ⟨c, hc, hS⟩ hR
    have hlt : i < n := by omega
    refine codeAny_builtin F.entry_set_update_loop ?_
    rw [Around.under_plainId F.plain_set_update_loop _]
    show wpAny _ A.in1 (pyNext (.ref I) >>= _) _ _ s
    refine wpAny_bind (W.item i s _ _ hlt hst fun v s' hP hst' hm => ?_)
    obtain ⟨z, t, hz, rfl⟩ := hval i v hP
    have hS' : SetTx P w s'.heap S (fun j => decide (j ∈ xs.take i)) c := hS.at fun o e => hm.heap S o hSw e
    show wpAny _ A.in1 (holding [Value.str z t] (setAdd S (.str z t)) >>= _) _ _ s'
    refine wpAny_bind (wpAny_holding ?_)
    unfold setAdd
    refine wpAny_holding ?_
    refine wpAny_bind ((PySem.strKind P w).pyHash (k := z) (strKind_is _ _ _ _) ?_)
    refine setTx_add (s := { s' with toks := s'.toks + 1 }) hS' (by omega) fun h' hsb hS2 => ?_
    have hS3 : SetTx P w h' S (fun j => decide (j ∈ xs.take (i + 1))) (if decide (z ∈ xs.take i) = true then c else c + 1) := hS2.congr fun j => by
      rw [List.take_add_one, hz]
      simp [List.mem_append]
    have hc3 : (if decide (z ∈ xs.take i) = true then c else c + 1) ≤ i + 1 := by
      split <;> omega
    refine wpAny_pure ⟨plainId_quiet F.plain_set_update_loop _, ih (i + 1) _ (by omega) hlt (W.frame _ s' _ _ hst' (Nat.le_succ _) fun b hb o e => ?_) ⟨_, hc3, hS3⟩ fun s'' c2 hm'' hc'' hS'' => ?_⟩
    · rw [hsb.2 b (fun h : b = S => hSf (by rw [← h]; exact hb))]; exact e
    · refine hR s'' c2 (Moved.trans W.gtrans ((hm.mono hsub).then_heap (Nat.le_succ _) fun b o hb e => ?_) hm'') hc'' hS''
      rw [hsb.2 b (fun h : b = S => hb (by rw [h]; exact List.mem_cons_self))]; exact e
set_option maxRecDepth 100000 in
set_option maxHeartbeats 3200000 in
theorem call_setTx {l : Addr} {items : Array Value} (xs : List Str) {Q : Value → Shared → Prop} (hh : A.handled = none) (hl : s.heap.IsList l items) (hit : StrsAre items.toList xs) (hb : xs.length + 1 < scanBound)
    (h : ∀ (h' : Heap) (tk c : Nat), SetTx P w h' s.heap.objs.size (fun j => decide (j ∈ xs)) c → c ≤ xs.length → (∀ b o, s.heap.get? b = some o → h'.get? b = some o) → Q (.ref s.heap.objs.size) { s with heap := h', toks := tk }) :
    wpAny (model P w) A (call (.type "set") [.ref l]) Q E s := by
  have hisz : items.size = xs.length := by
    have q := StrsAre.len_eq hit
    rw [Array.length_toList] at q
    exact q
  obtain ⟨c, tl, hmro⟩ := F.called_set.mro
  have hmade := F.called_set.made
  have hsub := F.called_set.sub
  refine wpAny_call (codeAny_of_tree ?_)
  show wpAny _ _ (callAny (.type "set") _) _ _ _
  refine wpAny_pure ⟨Code.quiet_builtin _ (by decide +kernel), codeAny_builtin F.entry_type_call ?_⟩
  rw [Around.under_plain (weight_type_call_type "set" [.ref l] []) rfl]
  have h1 := F.called_set.notType
  have h2 := F.called_set.canCreate
  have hct := F.typeCall_set_1 (.ref l)
  repeat (any_goals (first | assumption | wp_step))
  refine codeAny_mono (code_set_led1 (.ref l) (E := E) (Q₁ := fun obj s₁ => obj = .ref s.heap.objs.size ∧ s₁ = { s with heap := s.heap.push { cls := .type "set", dict := none, data := .set #[] 0 (.fresh 0 0 (!w.params.followText "set-order")) } }) ⟨rfl, rfl⟩) fun r s₁ hr => ?_
  cases r with
  | error e => exact hr
  | ok fl =>
    cases fl with
    | ret obj =>
      obtain ⟨rfl, rfl⟩ := hr
      have hS : (s.heap.push { cls := .type "set", dict := none, data := .set #[] 0 (.fresh 0 0 (!w.params.followText "set-order")) }).get? s.heap.objs.size = some { cls := .type "set", dict := none, data := .set #[] 0 (.fresh 0 0 (!w.params.followText "set-order")) } := Heap.get?_push_size _ rfl
      have hT : Shared.TypeIs { s with heap := s.heap.push { cls := .type "set", dict := none, data := .set #[] 0 (.fresh 0 0 (!w.params.followText "set-order")) } } (.ref s.heap.objs.size) "set" := ⟨_, hS, rfl⟩
      have hli := F.called_set.init.lookup
      have hbi := F.called_set.init.bind (.ref s.heap.objs.size)
      repeat (any_goals (first | assumption | wp_step))
      refine codeAny_mono (codeAny_call_builtin (R := wants (fun r s₂ => r = .none ∧ ∃ h' tk c, s₂ = { s with heap := h', toks := tk } ∧ SetTx P w h' s.heap.objs.size (fun j => decide (j ∈ xs)) c ∧ c ≤ xs.length ∧
          (∀ b o, s.heap.get? b = some o → h'.get? b = some o)) E) F.called_set.init.plain F.entry_set_init (check_set_init_1 hT ?_)) fun r₂ s₂ hr₂ => ?_
      · obtain ⟨ol, hol, hcl, nl, hdl⟩ := hl
        obtain ⟨ocls, odict, odata, oslots⟩ := ol
        simp only at hcl hdl
        subst hcl; subst hdl
        have hol' : (s.heap.push { cls := .type "set", dict := none, data := .set #[] 0 (.fresh 0 0 (!w.params.followText "set-order")) }).get? l = some { cls := .type "list", dict := odict, data := .seq items nl, slots := oslots } := Heap.get?_push_of_some _ hol
        have hsls := PySem.F.sub_list_set
        have hslf := PySem.F.sub_list_frozenset
        have hne : (Value.type "list" == Value.type "dict") = false := by decide
        have hl1 : (s.heap.push { cls := .type "set", dict := none, data := .set #[] 0 (.fresh 0 0 (!w.params.followText "set-order")) }).IsList l items := ⟨_, hol', rfl, nl, rfl⟩
        unfold Builtin.«set.__init__» noKeywords Builtin.Frozenset.updateFrom
        generalize hPI : pyIter = PI
        wp_walk
        subst hPI
        refine wpAny_pyIter_list hl1 ?_
        refine wpAny_bind (wpAny_runValue ?_)
        have hlS : l < s.heap.objs.size := Heap.lt_size hol
        have hh3 : A.in1.in1.in1.handled = none := by simp [hh]
        have hz1 : (s.heap.push { cls := .type "set", dict := none, data := .set #[] 0 (.fresh 0 0 (!w.params.followText "set-order")) }).objs.size = s.heap.objs.size + 1 := Heap.size_push ..
        have hneI : l ≠ (s.heap.push { cls := .type "set", dict := none, data := .set #[] 0 (.fresh 0 0 (!w.params.followText "set-order")) }).objs.size := by
          rw [Heap.size_push]; exact Nat.ne_of_lt (Nat.lt_succ_of_lt hlS)
        have hSf : s.heap.objs.size ∉ [(s.heap.push { cls := .type "set", dict := none, data := .set #[] 0 (.fresh 0 0 (!w.params.followText "set-order")) }).objs.size, l] := by
          rw [Heap.size_push]; simp only [List.mem_cons, List.mem_singleton, List.not_mem_nil, or_false, not_or]
          exact ⟨Nat.ne_of_lt (Nat.lt_succ_self _), Nat.ne_of_gt hlS⟩
        have hval : ∀ (i : Nat) (v : Value), items[i]? = some v → ∃ k t, xs[i]? = some k ∧ v = .str k t := fun i v hv => by
          have hi : i < xs.length := by rw [← hisz]; exact (Array.getElem?_eq_some_iff.mp hv).1
          obtain ⟨t, e⟩ := SS.strs_at hit i v (by rw [Array.getElem?_toList]; exact hv)
          refine ⟨xs[i], t, List.getElem?_eq_getElem hi, ?_⟩
          rw [e, List.getD_eq_getElem?_getD, List.getElem?_eq_getElem hi] <;> rfl
        refine setTx_loop ((Walks.list hh3 _ l hneI items).toS) s.heap.objs.size
          hSf xs hisz hb hval (items.size - 0) 0 _ (by omega) (Nat.zero_le _)
          ⟨⟨_, Heap.get?_push_size _ rfl, rfl, rfl⟩, (hl1.push _)⟩ ?hS0 ?hR
        case hS0 => exact ⟨0, Nat.le_refl 0, setTx_new (Heap.get?_push_of_some _ hS)⟩
        case hR =>
          intro s' c' hm hc' hS'
          obtain ⟨h', g', d', tk', os'⟩ := s'
          have eg : g' = s.gens := hm.gens
          have ed : d' = s.drawn := hm.drawn
          have eo : os' = s.os := hm.os
          subst eg; subst ed; subst eo
          show wpAny _ _ _ _ _ _
          refine wpAny_pure ?_
          show wpAny _ _ (ret Value.none) _ _ _
          rw [hisz] at hc'
          refine wpAny_pure ⟨rfl, h', tk', c', rfl, hS', hc', fun b o e => ?_⟩
          have hb0 : b < s.heap.objs.size := Heap.lt_size e
          have hb1 : b ≠ s.heap.objs.size := Nat.ne_of_lt hb0
          have hb2 : b ≠ (s.heap.push { cls := .type "set", dict := none, data := .set #[] 0 (.fresh 0 0 (!w.params.followText "set-order")) }).objs.size := by
            rw [Heap.size_push]; exact Nat.ne_of_lt (Nat.lt_succ_of_lt hb0)
          exact hm.heap b o (by simp only [List.mem_cons, List.mem_singleton, List.not_mem_nil, or_false, not_or]; exact ⟨hb1, hb2⟩) (Heap.get?_push_of_some _ (Heap.get?_push_of_some _ e))
      · cases r₂ with
        | error e => exact hr₂
        | ok fl₂ =>
          cases fl₂ with
          | ret r =>
            obtain ⟨rfl, h', tk, c', rfl, hS', hc', hk'⟩ := hr₂
            repeat (any_goals (first | assumption | wp_step))
            exact h _ _ _ hS' hc' hk'
          | _ => exact hr₂.elim
    | _ => exact hr.elim
theorem sorted_setTx {S : Str → Bool} {n : Nat} {Q : Value → Shared → Prop} (R : SetTx P w s.heap a S n) (hh : A.handled = none) (hz : n ≤ sizeLine)
    (hQ : ∀ s' p (out : Array Value) (c : Nat) (ys : List Str), (∀ b o, s.heap.get? b = some o → s'.heap.get? b = some o) → s'.gens = s.gens → s'.os = s.os → s.heap.objs.size ≤ p →
      s'.heap.get? p = some (seqObj "list" out c) → StrsAre out.toList ys → (∀ k, k ∈ ys ↔ S k = true) → ys.length = n → Q (.ref p) s') :
    wpAny (model P w) A (call (.builtin "sorted") [.ref a]) Q E s := by
  obtain ⟨o, es, ep, t, ho, hex, hd, hel, hm, hb, hf, hn, hr, hl⟩ := R
  refine Calls.call_function_entry kind_sorted plain_sorted entry_sorted (args_sorted1 _) ?_
  unfold Builtin.«sorted»
  refine wpAny_bind (m := checkCount "sorted" 1 1 _) (wpAny_pure ?_)
  refine wpAny_bind (collect_set (A := A.in1) hh ⟨o, ho, hex.1, hd⟩ hf hb hr hl fun s1 vs k1 hz1 g1 o1 pm => ?_)
  have hvl : vs.length = n := by rw [pm.length_eq, List.length_map, Array.length_toList]; exact hn
  have hv : ∀ v, v ∈ vs → ∃ x t, v = Value.str x t := fun v hv => by
    obtain ⟨e, he, q⟩ := List.mem_map.mp (pm.mem_iff.mp hv)
    obtain ⟨⟨k, h1, _⟩, _⟩ := hel e he
    obtain ⟨t, h2⟩ := Value.isStrOf_shape h1
    exact ⟨k, t, by rw [← q]; exact h2⟩
  have hI : StrsAre vs (vs.map PyProof.Rows.strOf) := strsAre_map vs hv
  refine wpAny_bind (wpAny_newList ?_ (by rw [hvl]; exact hz))
  have hoL : (s1.heap.push (seqObj "list" vs.toArray 0)).get? s1.heap.objs.size = some (seqObj "list" vs.toArray 0) := Heap.get?_push_size _ rfl
  refine wpAny_bind (wpAny_holding (wpAny_call_entry slot_list_sort ⟨_, hoL, rfl⟩ entry_list_sort (list_sort_treeKAny strKind_oneLt hoL hI.keysOf (fun v₁ v₂ rest e => keyKind_strs (by rw [← e]; exact hI)) (by rw [hvl]; exact hz) fun st' hp hs => ⟨_, rfl, ?_⟩) (args_list_sort _)))
  obtain ⟨ys, a1, a2, _⟩ := sorted_out_str hI hp hs
  obtain ⟨c, hc⟩ := sortedHeap_at (vs := vs) (out := (arrOf st').map (·.2)) hoL
  refine wpAny_pure ⟨_, rfl, hQ _ s1.heap.objs.size _ c ys (fun b u e => ?_) g1 o1 hz1 hc a1 (fun k => ?_) ?_⟩
  · have q := k1 b u e
    have hlt := Heap.lt_size q
    show (sortedHeap (s1.heap.push (seqObj "list" vs.toArray 0)) s1.heap.objs.size vs _).get? b = some u
    rw [sortedHeap_old (Nat.ne_of_lt hlt) (by rw [size_push']; exact Nat.lt_succ_of_lt hlt)]
    exact Heap.get?_push_of_some _ q
  · rw [a2.mem_iff, hm k, List.mem_map]
    constructor
    · rintro ⟨v, hvv, e⟩
      obtain ⟨el, he, q⟩ := List.mem_map.mp (pm.mem_iff.mp hvv)
      refine ⟨el, he, ?_⟩
      obtain ⟨x, t, ex⟩ := hv v hvv
      rw [q, ex]
      rw [ex] at e
      rw [show x = k from e]
      exact strKind_is P w k t
    · rintro ⟨el, he, q⟩
      obtain ⟨t, h2⟩ := Value.isStrOf_shape q
      exact ⟨el.2, pm.mem_iff.mpr (List.mem_map.mpr ⟨el, he, rfl⟩), by rw [h2]; rfl⟩
  · rw [a2.length_eq, List.length_map, hvl]
end
def tSortSetT (K : PySem.W.Frag) (ta : TE) : TE := fun σ H Q => ta σ H fun x H1 => ∃ l, ∃ xs : List Str, x = .ref l ∧ SqL K H1 l (xs.map V.str) ∧ xs.length < 4000 ∧
  ∀ (ys : List Str) (p : Addr), (∀ k, k ∈ ys ↔ k ∈ xs) → ys.length ≤ xs.length → H1 p = none → Q (.ref p) (upd H1 p (.lst (ys.map V.str)))
theorem pe_sortSetT {X : Cx} {a : Expr} {ta : TE} {p p2 q pos : Pos} (hc : X.calm = true) (hg : Gl X "sorted") (hm : X.mg "sorted" = none) (hg2 : Gl X "set") (hm2 : X.mg "set" = none) (ha : PE X a ta)
    (na : starEach [a] X.env = (false, eval a X.env) :: starEach [] X.env := by rfl) : PE X (.Call (.Name "sorted" p) [.Call (.Name "set" p2) [a] [] q] [] pos) (tSortSetT X.K ta) := by
  refine ⟨fun pins s σ H Q I h => Call_ (ld_blt I hg hm boot_sorted (PyProof.Rows.callWith_builtin1 (PyProof.Rows.args_cons (Call_ (ld_blt I hg2 hm2 PyProof.Rows.boot_set ?_)) rfl) rfl rfl))⟩
  refine PyProof.Rows.callWith_type1 (PyProof.Rows.args_cons (thn (ha.run pins s σ H _ I h) fun v s1 ⟨x, H1, I1, r1, l, xs, ex, hq, hb, q1⟩ => PyProof.Rows.args_nil ?_) na) na rfl
  subst ex
  cases r1
  obtain ⟨its, r, pl, hz⟩ := I1.list hq
  have hd := I1.ok.hd hc
  refine call_setTx xs hd pl.isList (by simpa using strs_of_vals r) (by unfold scanBound; omega) fun h' tk c R1 hcn k => PyProof.Rows.args_nil ?_
  have I2 : Inv X pins σ H1 { s1 with heap := h', toks := tk } := I1.kept k
  refine sorted_setTx (s := { s1 with heap := h', toks := tk }) R1 hd (by rw [sizeLine_eq]; omega) fun s' p out c2 ys k2 g o hp hgt hi hmem hlen => ?_
  have hn : H1 p = none := I2.hok.fresh hp
  have hl2 : (ys.map V.str).length ≤ sizeLine := by rw [List.length_map, hlen, sizeLine_eq]; omega
  have J : Inv X pins σ (upd H1 p (.lst (ys.map V.str))) s' := I2.call' (ch := []) o (Un.laid k2 hp hn) (I2.hok.laid k2 hp ⟨hl2, out.toList, c2, vals_of_strs hi, hgt⟩) (by rw [g]; exact I2.bare) (fun _ z => nomatch z)
  exact ⟨.ref p, _, J, rfl, q1 ys p (fun k => (hmem k).trans decide_eq_true_iff) (by omega) hn⟩
end L2
namespace GZ
open PySem PySem.Spec PyProof.Rows L2
section
variable {P : Program} {w : World} {K : PySem.W.Frag} {mg : Str → Option Value} {base : Heap}
variable {C : Addr} {za : Nat → Addr} {zl : Nat → FuncData}
/-! ### a net's gates -/
theorem flat_rep (m : Nat) (v : V) : (List.replicate m [v]).flatten = List.replicate m v := by
  induction m with
  | zero => rfl
  | succ k ih =>
    rw [List.replicate_succ, List.flatten_cons, ih, List.replicate_succ]
    rfl
def spNetI (C : Addr) : Sp := fun vs H Q _ => ∃ (x dx : Addr) (m : Nat), vs = [.ref x, .int (m : Int)] ∧ H x = some (.ins C dx []) ∧ m ≤ 100000 ∧
  ∀ (p : NetP) (H' : Hp), p.x = x → (∀ y o, H y = some o → y ≠ x → H' y = some o) → (H p.lm = none ∧ H p.ld = none ∧ H p.dn = none) → (∀ Z : List Addr, (∀ z ∈ Z, z ≠ x ∧ H z ≠ none) → NetAt C Z H' p m [] []) → Q .non H'
theorem ok_Net___init__ (B : Bl mg) (L : LL K mg C za zl) : FnOk P w K mg base CX0 1 (za 34) (zl 34) ["self", "many"] (spNetI C) := by
  refine L.F_Net___init__.ok sc_Net___init__ (fun vs H Q E h => ?_) (fun cdv A outer s H vs Q E hr h => ?_)
  · obtain ⟨x, dx, m, rfl, _⟩ := h
    rfl
  obtain ⟨x, dx, m, rfl, hx, hm, q⟩ := h
  refine ⟨_, (pss_cons (ps_fld (pv 0) (pv 1) rfl)
    (pss_cons (ps_fld (pv 0) (pe_lst pa_nil) rfl)
    (pss_cons (ps_fld (pv 0) (pe_op op_rep (pe_lst (pa_cons pe_int pa_nil)) (pv 1)) rfl)
    (pss_one (ps_fld (pv 0) pe_dnewK rfl))))), ?_⟩
  refine ⟨_, rfl, _, rfl, x, C, dx, _, rfl, hx, L.T.cl, L.T.n_input_count, (by show 0 < 1000; decide), ?_⟩
  have a1 : (upd H x (.ins C dx (putF "input_count" (.int (m : Int)) []))) x = some (.ins C dx [("input_count", .int (m : Int))]) := upd_same
  have f1 : ∀ y o, H y = some o → y ≠ x → (upd H x (.ins C dx (putF "input_count" (.int (m : Int)) []))) y = some o := fun y o e n => by rw [upd_ne n]; exact e
  generalize upd H x (.ins C dx (putF "input_count" (.int (m : Int)) [])) = H1 at *
  refine ⟨Nat.zero_le _, fun lm nlm => ?_⟩
  have n1 : x ≠ lm := ne_of_none a1 nlm
  refine ⟨_, rfl, x, C, dx, _, rfl, by rw [upd_ne n1]; exact a1, L.T.cl, L.T.n_made, (by show 1 < 1000; decide), ?_⟩
  have a2 : (upd (upd H1 lm (.lst [])) x (.ins C dx (putF "made" (.ref lm) [("input_count", .int (m : Int))]))) x = some (.ins C dx [("input_count", .int (m : Int)), ("made", .ref lm)]) := upd_same
  have b2 : (upd (upd H1 lm (.lst [])) x (.ins C dx (putF "made" (.ref lm) [("input_count", .int (m : Int))]))) lm = some (.lst []) := by rw [upd_ne n1.symm, upd_same]
  have f2 : ∀ y o, H1 y = some o → y ≠ x → (upd (upd H1 lm (.lst [])) x (.ins C dx (putF "made" (.ref lm) [("input_count", .int (m : Int))]))) y = some o := fun y o e n => by rw [upd_ne n, upd_ne (ne_of_none e nlm)]; exact e
  generalize upd (upd H1 lm (.lst [])) x (.ins C dx (putF "made" (.ref lm) [("input_count", .int (m : Int))])) = H2 at *
  refine ⟨(by show 1 ≤ sizeLine; decide), fun z nz => ?_⟩
  refine ⟨_, rfl, z, (m : Int), _, rfl, rfl, upd_same, by omega, by omega, (by show 1 * ((m : Int)).toNat ≤ _; rw [Int.toNat_natCast, Nat.one_mul]; exact Nat.le_trans hm (by decide)), fun ld nld => ?_⟩
  have e0 : (List.replicate ((m : Int)).toNat [V.int 0]).flatten = (dps m []).map V.int := by
    rw [Int.toNat_natCast]
    show _ = (List.replicate m 0).map V.int
    rw [List.map_replicate]
    exact flat_rep m _
  rw [e0]
  have z1 := ne_of_none a2 nz
  have z2 := ne_of_none b2 nz
  have sz := same_upd (o := .lst [V.int 0]) nz
  have sd := same_upd (o := .lst ((dps m []).map V.int)) nld
  have l1 := ne_of_none (sz _ _ a2) nld
  have l2 := ne_of_none (sz _ _ b2) nld
  refine ⟨_, rfl, x, C, dx, _, rfl, sd _ _ (sz _ _ a2), L.T.cl, L.T.n_depths, (by show 2 < 1000; decide), ?_⟩
  have sA := sz.trans sd
  have b3 := sd _ _ (sz _ _ b2)
  have d3 : (upd (upd H2 z (.lst [V.int 0])) ld (.lst ((dps m []).map V.int))) ld = some (.lst ((dps m []).map V.int)) := upd_same
  generalize upd (upd H2 z (.lst [V.int 0])) ld (.lst ((dps m []).map V.int)) = H3 at *
  have a4 : (upd H3 x (.ins C dx (putF "depths" (.ref ld) [("input_count", .int (m : Int)), ("made", .ref lm)]))) x = some (.ins C dx [("input_count", .int (m : Int)), ("made", .ref lm), ("depths", .ref ld)]) := upd_same
  have f4 : ∀ y o, H3 y = some o → y ≠ x → (upd H3 x (.ins C dx (putF "depths" (.ref ld) [("input_count", .int (m : Int)), ("made", .ref lm)]))) y = some o := fun y o e n => by rw [upd_ne n]; exact e
  have b4 := f4 _ _ b3 n1.symm
  have d4 := f4 _ _ d3 l1.symm
  generalize upd H3 x (.ins C dx (putF "depths" (.ref ld) [("input_count", .int (m : Int)), ("made", .ref lm)])) = H4 at *
  refine fun dn ndn => ?_
  have a5 := ne_of_none a4 ndn
  have b5 := ne_of_none b4 ndn
  have d5 := ne_of_none d4 ndn
  have s5 := same_upd (o := .dK []) ndn
  refine ⟨_, rfl, x, C, dx, _, rfl, s5 _ _ a4, L.T.cl, L.T.n_by_name, (by show 3 < 1000; decide), ?_⟩
  have nn : ∀ (y : Addr), (∀ o, H y = some o → y ≠ x → False) → y ≠ x → H y = none := fun y h n => by
    cases e : H y with
    | none => rfl
    | some o => exact (h o e n).elim
  refine q ⟨x, lm, ld, dn⟩ _ rfl (fun y o e n => ?_) ⟨nn lm (fun o e n => by have := f1 _ _ e n; rw [nlm] at this; cases this) n1.symm, nn ld (fun o e n => by have := sz _ _ (f2 _ _ (f1 _ _ e n) n); rw [nld] at this; cases this) l1.symm, nn dn (fun o e n => by have := f4 _ _ (sA _ _ (f2 _ _ (f1 _ _ e n) n)) n; rw [ndn] at this; cases this) a5.symm⟩ (fun Z hZ => ?_)
  · rw [upd_ne n]
    exact s5 _ _ (f4 _ _ (sA _ _ (f2 _ _ (f1 _ _ e n) n)) n)
  have zz : ∀ a ∈ Z, a ≠ x ∧ a ≠ lm ∧ a ≠ ld ∧ a ≠ dn ∧ H4 a ≠ none := fun a ha => by
    obtain ⟨nx, h0⟩ := hZ a ha
    cases e : H a with
    | none => exact absurd e h0
    | some o =>
      have e1 := f1 _ _ e nx
      have e2 := f2 _ _ e1 nx
      have e4 := f4 _ _ (sA _ _ e2) nx
      exact ⟨nx, ne_of_none e1 nlm, ne_of_none (sz _ _ e2) nld, ne_of_none e4 ndn, some_ne e4⟩
  refine ⟨fun a ha => ?_, l2, ⟨fun h => (zz _ h).1 rfl, fun h => (zz _ h).2.1 rfl, fun h => (zz _ h).2.2.1 rfl, fun h => (zz _ h).2.2.2.1 rfl⟩, dx, [], [], upd_same, ?_, ?_, ?_, ⟨rfl, fun i q g h => by simp at h⟩, rfl, List.nodup_nil, fun i k v n ws h => by simp at h⟩
  · rw [upd_ne (zz a ha).1, upd_ne (zz a ha).2.2.2.1]
    exact (zz a ha).2.2.2.2
  · show (upd (upd H4 dn (.dK [])) x _) lm = _
    rw [upd_ne n1.symm]
    exact s5 _ _ b4
  · show (upd (upd H4 dn (.dK [])) x _) ld = _
    rw [upd_ne l1.symm]
    exact s5 _ _ d4
  · show (upd (upd H4 dn (.dK [])) x _) dn = _
    rw [upd_ne a5.symm, upd_same]
/-! ### gates laid -/
def spNeed (K : PySem.W.Frag) (C : Addr) : Sp := fun vs H Q _ => ∃ (Z : List Addr) (p : NetP) (m : Nat) (gs : List Gt) (nm : List (Str × List Nat)) (t : Addr) (ws : List Nat), vs = [.ref p.x, .ref t] ∧ NetAt C Z H p m gs nm ∧ (SqL K H t (nts ws) ∨ SqT K H t (nts ws)) ∧ (∀ a ∈ ws, a < m + gs.length) ∧
  ∀ H', Same H H' → Q .non H'
theorem ok_Net_need (B : Bl mg) (L : LL K mg C za zl) : FnOk P w K mg base CX0 1 (za 42) (zl 42) ["self", "wires"] (spNeed K C) := by
  refine L.F_Net_need.ok sc_Net_need (fun vs H Q E h => ?_) (fun cdv A outer s H vs Q E hr h => ?_)
  · obtain ⟨Z, p, m, gs, nm, t, ws, rfl, _⟩ := h
    rfl
  obtain ⟨Z, p, m, gs, nm, t, ws, rfl, hN, hT, hw, q⟩ := h
  refine ⟨_, (pss_one (ps_for PassesOwn.never rfl (pi_or (pi_list (pv 1)) (pi_tup (pv 1))) (pg_name (i := 2) sc_Net_need.nd rfl (.inl rfl)) (pss_one (ps_if (pt_not (pt_chain op_le op_lt pe_int (pv 2) (pe_callB call_len_seq (by rfl) B.len PySem.boot_len (pa_cons (pe_fld (pv 0) rfl) pa_nil)))) (pss_one ps_never) pss_nil)))), ?_⟩
  have turn : ∀ (a : Nat), a ∈ ws → ∀ (H9 : Hp) (y : Option V) (T : TS) (D : Ends), Same H H9 → D.nx [some (.ref p.x), some (.ref t), some (.int (a : Int))] H9 → True := fun _ _ _ _ _ _ _ _ => trivial
  rcases hT with hT | hT
  · refine .inl ⟨_, rfl, t, rfl, ⟨_, hT⟩, ?_⟩
    refine for_it (walk_list (K := K) (a := t) (xs := nts ws)) (fun j σ H9 => ∃ y : Option V, σ = [some (.ref p.x), some (.ref t), y] ∧ Same H H9) ⟨_, rfl, Same.refl _⟩ (fun j σ H9 _ ⟨_, _, s9⟩ => s9.seq hT) ?_ ?_
    · rintro j v σ H9 H10 hj ⟨y, rfl, s9⟩ ⟨rfl, hz⟩
      obtain ⟨a, ha, rfl⟩ := nts_at hz
      have la := hw a (List.mem_of_getElem? ha)
      obtain ⟨_, _, _, dx, ps, kvs, e1, e2, e3, _⟩ := hN.same s9
      dsimp only [gName]
      try simp only [L2.start, List.map_cons, List.map_nil, List.length_cons, List.length_nil, List.replicate_succ, List.replicate_zero, List.cons_append, List.nil_append, List.set_cons_succ, List.set_cons_zero, Nat.reduceAdd, Nat.reduceSub, Nat.zero_add]
      refine ⟨_, rfl, _, _, rfl, rfl, _, rfl, ?_⟩
      rw [if_pos (decide_eq_true (by omega))]
      refine ⟨_, rfl, p.x, C, dx, _, _, rfl, e1, L.T.cl, L.T.n_depths, rfl, ?_⟩
      refine ⟨p.ld, _, rfl, .inl (SqL.of e3), _, _, rfl, rfl, _, rfl, ?_⟩
      have lt : decide ((a : Int) < ((((dps m gs).map V.int).length : Nat) : Int)) = true := decide_eq_true (by rw [List.length_map, dps_len]; omega)
      rw [lt]
      refine iteF ?_
      exact ⟨_, rfl, s9⟩
    · rintro σ H9 ⟨y, rfl, s9⟩
      exact q _ s9
  · refine .inr ⟨_, rfl, t, rfl, ⟨_, hT⟩, ?_⟩
    refine for_it (walk_tup (K := K) (a := t) (xs := nts ws)) (fun j σ H9 => ∃ y : Option V, σ = [some (.ref p.x), some (.ref t), y] ∧ Same H H9) ⟨_, rfl, Same.refl _⟩ (fun j σ H9 _ ⟨_, _, s9⟩ => Same.seqT s9 hT) ?_ ?_
    · rintro j v σ H9 H10 hj ⟨y, rfl, s9⟩ ⟨rfl, hz⟩
      obtain ⟨a, ha, rfl⟩ := nts_at hz
      have la := hw a (List.mem_of_getElem? ha)
      obtain ⟨_, _, _, dx, ps, kvs, e1, e2, e3, _⟩ := hN.same s9
      dsimp only [gName]
      try simp only [L2.start, List.map_cons, List.map_nil, List.length_cons, List.length_nil, List.replicate_succ, List.replicate_zero, List.cons_append, List.nil_append, List.set_cons_succ, List.set_cons_zero, Nat.reduceAdd, Nat.reduceSub, Nat.zero_add]
      refine ⟨_, rfl, _, _, rfl, rfl, _, rfl, ?_⟩
      rw [if_pos (decide_eq_true (by omega))]
      refine ⟨_, rfl, p.x, C, dx, _, _, rfl, e1, L.T.cl, L.T.n_depths, rfl, ?_⟩
      refine ⟨p.ld, _, rfl, .inl (SqL.of e3), _, _, rfl, rfl, _, rfl, ?_⟩
      have lt : decide ((a : Int) < ((((dps m gs).map V.int).length : Nat) : Int)) = true := decide_eq_true (by rw [List.length_map, dps_len]; omega)
      rw [lt]
      refine iteF ?_
      exact ⟨_, rfl, s9⟩
    · rintro σ H9 ⟨y, rfl, s9⟩
      exact q _ s9
theorem refs_inj : ∀ {as bs : List Addr}, as.map V.ref = bs.map V.ref → as = bs
  | [], [], _ => rfl
  | [], b :: bs, h => by simp at h
  | a :: as, [], h => by simp at h
  | a :: as, b :: bs, h => by
    rw [List.map_cons, List.map_cons] at h
    injection h with h1 h2
    rw [V.ref.inj h1, refs_inj h2]
theorem NetAt.laid {C : Addr} {Z : List Addr} {H : Hp} {p : NetP} {m : Nat} {gs : List Gt} {nm : List (Str × List Nat)} {q : Addr} {g : Gt} {ps : List Addr}
    (h : NetAt C Z H p m gs nm) (eq : H q = some (.tup g.row)) (nq : q ∉ Z) (em : H p.lm = some (.lst (ps.map V.ref))) :
    NetAt C Z (upd (upd H p.lm (.lst (ps.map V.ref ++ [.ref q]))) p.ld (.lst ((dps m gs).map V.int ++ [.int (dep (dps m gs) g)]))) p m (gs ++ [g]) nm := by
  obtain ⟨a, b, ⟨c1, c2, c3, c4⟩, dx, ps', kvs, e1, e2, e3, e4, ⟨g1, g2⟩, n1, n2, n3⟩ := h
  have hps : ps' = ps := by
    rw [e2] at em
    have := HO.lst.inj (Option.some.inj em)
    exact refs_inj this
  subst hps
  have f : ∀ {y : Addr} {o : HO}, H y = some o → y ≠ p.lm → y ≠ p.ld → (upd (upd H p.lm (.lst (ps'.map V.ref ++ [.ref q]))) p.ld (.lst ((dps m gs).map V.int ++ [.int (dep (dps m gs) g)]))) y = some o := fun e x1 x2 => by
    rw [upd_ne x2, upd_ne x1]
    exact e
  have tn : ∀ {y : Addr} {xs : List V}, H y = some (.tup xs) → y ≠ p.lm ∧ y ≠ p.ld := fun e => ⟨(fun z => by rw [z, e2] at e; cases e), (fun z => by rw [z, e3] at e; cases e)⟩
  refine ⟨fun z hz => ?_, b, ⟨c1, c2, c3, c4⟩, dx, ps' ++ [q], kvs, f e1 (fun z => by rw [z, e2] at e1; cases e1) (fun z => by rw [z, e3] at e1; cases e1), ?_, ?_, f e4 (fun z => by rw [z, e2] at e4; cases e4) (fun z => by rw [z, e3] at e4; cases e4), ⟨?_, fun i r g' hi hg => ?_⟩, n1, n2, fun i k v n ws hi hn => ?_⟩
  · have z1 : z ≠ p.lm := fun y => c2 (y ▸ hz)
    have z2 : z ≠ p.ld := fun y => c3 (y ▸ hz)
    rw [upd_ne z2, upd_ne z1]
    exact a z hz
  · rw [upd_ne b, upd_same, List.map_append]
    rfl
  · rw [upd_same, dps_snoc, List.map_append]
    rfl
  · rw [List.length_append, List.length_append, g1]
    rfl
  · by_cases c : i < ps'.length
    · rw [List.getElem?_append_left c] at hi
      rw [List.getElem?_append_left (by omega)] at hg
      have := g2 i r g' hi hg
      exact ⟨this.1, f this.2 (tn this.2).1 (tn this.2).2⟩
    · have i0 : i = ps'.length := by
        have := (List.getElem?_eq_some_iff.mp hi).1
        rw [List.length_append, List.length_cons, List.length_nil] at this
        omega
      rw [List.getElem?_append_right (by omega), i0, Nat.sub_self] at hi
      rw [List.getElem?_append_right (by omega), i0, g1, Nat.sub_self] at hg
      cases hi
      cases hg
      exact ⟨nq, f eq (tn eq).1 (tn eq).2⟩
  · obtain ⟨ek, l, ev, l1, l2, l3, l4⟩ := n3 i k v n ws hi hn
    exact ⟨ek, l, ev, l1, l2, l3, f l4 l2 l3⟩
def spPutG (C : Addr) : Sp := fun vs H Q _ => ∃ (Z : List Addr) (p : NetP) (m : Nat) (gs : List Gt) (nm : List (Str × List Nat)) (q : Addr) (g : Gt), vs = [.ref p.x, .ref q, .int (dep (dps m gs) g)] ∧ NetAt C Z H p m gs nm ∧ H q = some (.tup g.row) ∧ q ∉ Z ∧ m + gs.length ≤ 500000 ∧
  ∀ H', KeepS [p.lm, p.ld] H H' → NetAt C Z H' p m (gs ++ [g]) nm → Q (.int ((m + gs.length : Nat) : Int)) H'
theorem ok_Net_put_gate (B : Bl mg) (L : LL K mg C za zl) : FnOk P w K mg base CX0 1 (za 41) (zl 41) ["self", "gate", "depth"] (spPutG C) := by
  refine L.F_Net_put_gate.ok sc_Net_put_gate (fun vs H Q E h => ?_) (fun cdv A outer s H vs Q E hr h => ?_)
  · obtain ⟨Z, p, m, gs, nm, q, g, rfl, _⟩ := h
    rfl
  obtain ⟨Z, p, m, gs, nm, a, g, rfl, hN, ea, na, hl, q⟩ := h
  refine ⟨_, (pss_cons (ps_expr (pe_bm PySem.F.plainAttrs_list PySem.F.slot_list_append PySem.F.type_list_append mt_append (pe_fld (pv 0) rfl) (pa_cons (pv 1) pa_nil)))
    (pss_cons (ps_expr (pe_bm PySem.F.plainAttrs_list PySem.F.slot_list_append PySem.F.type_list_append mt_append (pe_fld (pv 0) rfl) (pa_cons (pv 2) pa_nil)))
    (pss_one (ps_ret (pe_op op_sub (pe_callB call_len_seq (by rfl) B.len PySem.boot_len (pa_cons (pe_fld (pv 0) rfl) pa_nil)) pe_int))))), ?_⟩
  obtain ⟨hz, b, _, dx, ps, kvs, e1, e2, e3, e4, g0⟩ := id hN
  have lps : ps.length = gs.length := g0.1.1
  have nx : p.x ≠ p.lm := fun z => by rw [z, e2] at e1; cases e1
  have nx' : p.x ≠ p.ld := fun z => by rw [z, e3] at e1; cases e1
  refine ⟨_, rfl, p.x, C, dx, _, _, rfl, e1, L.T.cl, L.T.n_made, rfl, .inl ⟨rfl, _, SqL.of e2⟩, _, rfl, p.lm, _, _, rfl, rfl, e2, by rw [List.length_map]; exact Nat.lt_of_le_of_lt (by omega) (show 500000 < sizeLine by decide), ?_⟩
  have f1 : (upd H p.lm (.lst (ps.map V.ref ++ [.ref a]))) p.x = _ := (upd_ne nx).trans e1
  have f3 : (upd H p.lm (.lst (ps.map V.ref ++ [.ref a]))) p.ld = _ := (upd_ne b.symm).trans e3
  refine ⟨_, rfl, p.x, C, dx, _, _, rfl, f1, L.T.cl, L.T.n_depths, rfl, .inl ⟨rfl, _, SqL.of f3⟩, _, rfl, p.ld, _, _, rfl, rfl, f3, by rw [List.length_map, dps_len]; exact Nat.lt_of_le_of_lt (by omega) (show 500000 < sizeLine by decide), ?_⟩
  have f1' : (upd (upd H p.lm (.lst (ps.map V.ref ++ [.ref a]))) p.ld (.lst ((dps m gs).map V.int ++ [.int (dep (dps m gs) g)]))) p.x = _ := (upd_ne nx').trans f1
  refine ⟨_, rfl, p.x, C, dx, _, _, rfl, f1', L.T.cl, L.T.n_depths, rfl, ?_⟩
  refine ⟨p.ld, _, rfl, .inl (SqL.of upd_same), _, _, rfl, rfl, ?_⟩
  have w := q _ ⟨fun y o e n => ?_, fun y e => ?_⟩ (hN.laid ea na e2)
  · have ev : (((((dps m gs).map V.int ++ [V.int (dep (dps m gs) g)]).length : Nat) : Int) - 1) = ((m + gs.length : Nat) : Int) := by
      rw [List.length_append, List.length_map, dps_len, List.length_cons, List.length_nil]
      omega
    rw [← ev] at w
    exact w
  · simp only [List.mem_cons, List.not_mem_nil, or_false, not_or] at n
    rw [upd_ne n.2, upd_ne n.1]
    exact e
  · exact ((KeepS.upd (S := [p.lm]) (by simp)).2 y e) |> fun h => (KeepS.upd (S := [p.ld]) (by simp)).2 y h
def spFixed (C : Addr) : Sp := fun vs H Q _ => ∃ (Z : List Addr) (p : NetP) (m : Nat) (gs : List Gt) (nm : List (Str × List Nat)) (b : Nat), vs = [.ref p.x, .int (b : Int)] ∧ NetAt C Z H p m gs nm ∧ m + gs.length ≤ 500000 ∧
  ∀ H', KeepS [p.lm, p.ld] H H' → NetAt C Z H' p m (gs ++ [.fi b]) nm → Q (.int ((m + gs.length : Nat) : Int)) H'
theorem ok_Net_fixed (B : Bl mg) (L : LL K mg C za zl) : FnOk P w K mg base CX0 2 (za 39) (zl 39) ["self", "bit"] (spFixed C) := by
  have G_Net_put_gate : FnOk P w K mg base CX0 1 (za 41) (zl 41) ["self", "gate", "depth"] (spPutG C) := (ok_Net_put_gate B L).mono (by decide)
  refine L.F_Net_fixed.ok sc_Net_fixed (fun vs H Q E h => ?_) (fun cdv A outer s H vs Q E hr h => ?_)
  · obtain ⟨Z, p, m, gs, nm, b, rfl, _⟩ := h
    rfl
  obtain ⟨Z, p, m, gs, nm, b, rfl, hN, hl, q⟩ := h
  refine ⟨_, (pss_one (ps_ret (pe_meth (pv 0) L.T.cl L.M_Net_put_gate G_Net_put_gate hr L.b_Net_put_gate .nil pass0 (pa_cons (pe_tup (pa_cons pe_str (pa_cons (pv 1) pa_nil))) (pa_cons pe_int pa_nil))))), ?_⟩
  obtain ⟨hz, _, _, dx, _, _, e1, _⟩ := id hN
  refine ⟨_, rfl, p.x, dx, _, rfl, e1, rfl, _, rfl, (by show 2 ≤ sizeLine; decide), fun a na => ?_⟩
  have sa := same_upd (o := .tup (Gt.fi b).row) na
  refine ⟨Z, p, m, gs, nm, a, .fi b, rfl, hN.same sa, upd_same, fun z => hz a z na, hl, fun H' k N' => q H' (.trans (.ofSame sa) k) N'⟩
def spPut (K : PySem.W.Frag) (C : Addr) : Sp := fun vs H Q _ => ∃ (Z : List Addr) (p : NetP) (m : Nat) (gs : List Gt) (nm : List (Str × List Nat)) (k : Str) (t : Addr) (ws : List Nat), vs = [.ref p.x, .str k, .ref t] ∧ NetAt C Z H p m gs nm ∧ SqT K H t (nts ws) ∧ ws ≠ [] ∧ ws.length ≤ 2 ∧ (∀ a ∈ ws, a < m + gs.length) ∧ m + gs.length ≤ 500000 ∧
  ∀ H', KeepS [p.lm, p.ld] H H' → NetAt C Z H' p m (gs ++ [.w k ws]) nm → Q (.int ((m + gs.length : Nat) : Int)) H'
theorem ok_Net_put (B : Bl mg) (L : LL K mg C za zl) : FnOk P w K mg base CX0 3 (za 40) (zl 40) ["self", "kind", "wires"] (spPut K C) := by
  have G_Net_put_gate : FnOk P w K mg base CX0 2 (za 41) (zl 41) ["self", "gate", "depth"] (spPutG C) := (ok_Net_put_gate B L).mono (by decide)
  have G_Net_need : FnOk P w K mg base CX0 2 (za 42) (zl 42) ["self", "wires"] (spNeed K C) := (ok_Net_need B L).mono (by decide)
  refine L.F_Net_put.ok sc_Net_put (fun vs H Q E h => ?_) (fun cdv A outer s H vs Q E hr h => ?_)
  · obtain ⟨Z, p, m, gs, nm, k, t, ws, rfl, _⟩ := h
    rfl
  obtain ⟨Z, p, m, gs, nm, k, t, ws, rfl, hN, hT, w0, w2, hw, hl, q⟩ := h
  refine ⟨_, (pss_cons (ps_expr (pe_meth (pv 0) L.T.cl L.M_Net_need G_Net_need hr L.b_Net_need .nil pass0 (pa_cons (pv 2) pa_nil)))
    (pss_cons (ps_set (i := 3) sc_Net_put.nd rfl (.inl rfl) (pe_op op_add pe_int (pe_callB (cr_max rfl) (by rfl) B.max boot_max (pa_cons (pe_lc (own := [("wire", 4)]) (by rfl) sc_Net_put.nd (pi_tup (pv 2)) (blkOk_by (own := [("wire", 4)]) (N := ["self", "kind", "wires", "depth", "wire"]) (sc := defScope s_Net_put) (by decide +kernel)) (fun _ _ _ _ _ => pg_name (i := 4) sc_Net_put.nd rfl (Or.inl rfl)) (fun _ _ _ _ _ => pts_nil) (fun _ _ _ _ _ => (pe_ix (ix_listK (K := K)) (pe_fldK (K := K) (pv 0) rfl) (pv 4) (fun _ _ => rfl)))) pa_nil))))
    (pss_one (ps_ret (pe_meth (pv 0) L.T.cl L.M_Net_put_gate G_Net_put_gate hr L.b_Net_put_gate .nil pass0 (pa_cons (pe_tup (pa_cons (pv 1) (StX.pa_star (pv 2) pa_nil))) (pa_cons (pv 3) pa_nil))))))), ?_⟩
  obtain ⟨hz, _, _, dx, _, _, e1, _⟩ := id hN
  refine ⟨_, rfl, p.x, dx, _, rfl, e1, rfl, _, rfl, Z, p, m, gs, nm, t, ws, rfl, hN, .inr hT, hw, fun H1 s1 => ?_⟩
  have N1 := hN.same s1
  obtain ⟨_, _, _, _, ps, kvs, f1, f2, f3, _⟩ := id N1
  have hT1 := Same.seqT s1 hT
  refine ⟨_, rfl, t, rfl, ⟨_, hT1⟩, fun D nD => ?_⟩
  refine lc_it (walk_tup (K := K) (a := t) (xs := nts ws)) (fun i H9 => Same H1 H9 ∧ H9 D = some (.lst ((ws.take i).map fun a => V.int ((dps m gs).getD a 0)))) ⟨same_upd nD, upd_same⟩ (fun i H9 _ ⟨s9, _⟩ => Same.seqT s9 hT1) ?_ ?_
  · rintro j z H9 H10 hj ⟨s9, eD⟩ ⟨rfl, hz⟩
    obtain ⟨a, ha, rfl⟩ := nts_at hz
    have la := hw a (List.mem_of_getElem? ha)
    refine ⟨rfl, yesT ?_⟩
    have e1' := s9 _ _ f1
    have e3' := s9 _ _ f3
    have hat : atI ((dps m gs).map V.int) (a : Int) = some (.int ((dps m gs).getD a 0)) := atI_nat (by
      rw [List.getElem?_map, List.getElem?_eq_getElem (by rw [dps_len]; exact la)]
      simp [List.getD, List.getElem?_eq_getElem (show a < (dps m gs).length by rw [dps_len]; exact la)])
    refine ⟨_, rfl, p.x, C, _, _, _, rfl, e1', L.T.cl, L.T.n_depths, rfl, _, rfl, p.ld, _, _, _, rfl, rfl, SqL.of e3', hat, ?_⟩
    refine ⟨_, eD, ?_, fun y u e => ?_, ?_⟩
    · rw [List.length_map, List.length_take]
      exact Nat.lt_of_le_of_lt (Nat.min_le_right _ _) (small1000 (by omega))
    · rw [upd_ne (ne_of_none e nD)]
      exact s9 _ _ e
    · rw [upd_same, List.take_add_one, ha, List.map_append]
      rfl
  rintro H2 ⟨s2, eD⟩
  rw [nts_len, List.take_length] at eD
  have mx1 : ∀ y ∈ ws.map (fun a => (dps m gs).getD a 0), 0 ≤ y := fun y hy => by
    obtain ⟨a, ha, rfl⟩ := List.mem_map.mp hy
    have la := hw a ha
    have := dps_nn m gs ((dps m gs)[a]'(by rw [dps_len]; exact la)) (List.getElem_mem _)
    simp only [List.getD, List.getElem?_eq_getElem (show a < (dps m gs).length by rw [dps_len]; exact la), Option.getD_some]
    exact this
  refine ⟨D, ws.map (fun a => (dps m gs).getD a 0), rfl, SqL.of (by rw [List.map_map]; exact eD), by rw [List.length_map]; exact List.length_pos_iff.mpr w0, fun M hM hL => ?_⟩
  have eM := mx_is hM hL mx1
  refine ⟨_, _, rfl, rfl, ?_⟩
  try simp only [L2.start, List.map_cons, List.map_nil, List.length_cons, List.length_nil, List.replicate_succ, List.replicate_zero, List.cons_append, List.nil_append, List.set_cons_succ, List.set_cons_zero, Nat.reduceAdd, Nat.reduceSub, Nat.zero_add]
  have e1' := s2 _ _ f1
  have hT2 := Same.seqT s2 hT1
  refine ⟨_, rfl, p.x, _, _, rfl, e1', rfl, ?_⟩
  try simp only [L2.start, List.map_cons, List.map_nil, List.length_cons, List.length_nil, List.replicate_succ, List.replicate_zero, List.cons_append, List.nil_append, List.set_cons_succ, List.set_cons_zero, Nat.reduceAdd, Nat.reduceSub, Nat.zero_add]
  refine ⟨_, rfl, _, rfl, t, _, rfl, .inl hT2, ?_⟩
  dsimp only [tNil]
  rw [List.append_nil]
  refine ⟨by rw [List.length_cons, nts_len]; exact Nat.le_trans (show ws.length + 1 ≤ 3 by omega) (by decide), fun g ng => ?_⟩
  have sg := same_upd (o := .tup (Gt.w k ws).row) ng
  have ed : (1 + M : Int) = dep (dps m gs) (.w k ws) := by
    show _ = 1 + mx _
    rw [eM]
  have N2 := (N1.same s2).same sg
  refine ⟨_, rfl, Z, p, m, gs, nm, g, .w k ws, by rw [ed]; rfl, N2, upd_same, fun z => N1.1 g z (by
    cases e : H1 g with
    | none => rfl
    | some o =>
      rw [s2 _ _ e] at ng
      cases ng), hl, fun H' k' N' => q H' (.trans (.ofSame ((s1.trans s2).trans sg)) k') N'⟩
def spG2 (C : Addr) (k : Str) : Sp := fun vs H Q _ => ∃ (Z : List Addr) (p : NetP) (m : Nat) (gs : List Gt) (nm : List (Str × List Nat)) (a b : Nat), vs = [.ref p.x, .int (a : Int), .int (b : Int)] ∧ NetAt C Z H p m gs nm ∧ a < m + gs.length ∧ b < m + gs.length ∧ m + gs.length ≤ 500000 ∧
  ∀ H', KeepS [p.lm, p.ld] H H' → NetAt C Z H' p m (gs ++ [.w k [a, b]]) nm → Q (.int ((m + gs.length : Nat) : Int)) H'
theorem ok_Net_both (B : Bl mg) (L : LL K mg C za zl) : FnOk P w K mg base CX0 4 (za 35) (zl 35) ["self", "a", "b"] (spG2 C "both") := by
  have G_Net_put : FnOk P w K mg base CX0 3 (za 40) (zl 40) ["self", "kind", "wires"] (spPut K C) := (ok_Net_put B L).mono (by decide)
  refine L.F_Net_both.ok sc_Net_both (fun vs H Q E h => ?_) (fun cdv A outer s H vs Q E hr h => ?_)
  · obtain ⟨Z, p, m, gs, nm, a, b, rfl, _⟩ := h
    rfl
  obtain ⟨Z, p, m, gs, nm, a, b, rfl, hN, ha, hb, hl, q⟩ := h
  refine ⟨_, (pss_one (ps_ret (pe_meth (pv 0) L.T.cl L.M_Net_put G_Net_put hr L.b_Net_put .nil pass0 (pa_cons pe_str (pa_cons (pe_tup (pa_cons (pv 1) (pa_cons (pv 2) pa_nil))) pa_nil))))), ?_⟩
  obtain ⟨hz, _, _, dx, _, _, e1, _⟩ := id hN
  refine ⟨_, rfl, p.x, dx, _, rfl, e1, rfl, _, rfl, _, rfl, (by show 2 ≤ sizeLine; decide), fun t nt => ?_⟩
  have st := same_upd (o := .tup [.int (a : Int), .int (b : Int)]) nt
  refine ⟨Z, p, m, gs, nm, "both", t, [a, b], rfl, hN.same st, .inl (.inl upd_same), (fun z => nomatch z), (Nat.le_of_ble_eq_true rfl), fun x hx => ?_, hl, fun H' k N' => q H' (.trans (.ofSame st) k) N'⟩
  simp only [List.mem_cons, List.not_mem_nil, or_false] at hx
  rcases hx with z | z <;> rw [z] <;> assumption
theorem ok_Net_either (B : Bl mg) (L : LL K mg C za zl) : FnOk P w K mg base CX0 4 (za 36) (zl 36) ["self", "a", "b"] (spG2 C "either") := by
  have G_Net_put : FnOk P w K mg base CX0 3 (za 40) (zl 40) ["self", "kind", "wires"] (spPut K C) := (ok_Net_put B L).mono (by decide)
  refine L.F_Net_either.ok sc_Net_either (fun vs H Q E h => ?_) (fun cdv A outer s H vs Q E hr h => ?_)
  · obtain ⟨Z, p, m, gs, nm, a, b, rfl, _⟩ := h
    rfl
  obtain ⟨Z, p, m, gs, nm, a, b, rfl, hN, ha, hb, hl, q⟩ := h
  refine ⟨_, (pss_one (ps_ret (pe_meth (pv 0) L.T.cl L.M_Net_put G_Net_put hr L.b_Net_put .nil pass0 (pa_cons pe_str (pa_cons (pe_tup (pa_cons (pv 1) (pa_cons (pv 2) pa_nil))) pa_nil))))), ?_⟩
  obtain ⟨hz, _, _, dx, _, _, e1, _⟩ := id hN
  refine ⟨_, rfl, p.x, dx, _, rfl, e1, rfl, _, rfl, _, rfl, (by show 2 ≤ sizeLine; decide), fun t nt => ?_⟩
  have st := same_upd (o := .tup [.int (a : Int), .int (b : Int)]) nt
  refine ⟨Z, p, m, gs, nm, "either", t, [a, b], rfl, hN.same st, .inl (.inl upd_same), (fun z => nomatch z), (Nat.le_of_ble_eq_true rfl), fun x hx => ?_, hl, fun H' k N' => q H' (.trans (.ofSame st) k) N'⟩
  simp only [List.mem_cons, List.not_mem_nil, or_false] at hx
  rcases hx with z | z <;> rw [z] <;> assumption
theorem ok_Net_unlike (B : Bl mg) (L : LL K mg C za zl) : FnOk P w K mg base CX0 4 (za 37) (zl 37) ["self", "a", "b"] (spG2 C "unlike") := by
  have G_Net_put : FnOk P w K mg base CX0 3 (za 40) (zl 40) ["self", "kind", "wires"] (spPut K C) := (ok_Net_put B L).mono (by decide)
  refine L.F_Net_unlike.ok sc_Net_unlike (fun vs H Q E h => ?_) (fun cdv A outer s H vs Q E hr h => ?_)
  · obtain ⟨Z, p, m, gs, nm, a, b, rfl, _⟩ := h
    rfl
  obtain ⟨Z, p, m, gs, nm, a, b, rfl, hN, ha, hb, hl, q⟩ := h
  refine ⟨_, (pss_one (ps_ret (pe_meth (pv 0) L.T.cl L.M_Net_put G_Net_put hr L.b_Net_put .nil pass0 (pa_cons pe_str (pa_cons (pe_tup (pa_cons (pv 1) (pa_cons (pv 2) pa_nil))) pa_nil))))), ?_⟩
  obtain ⟨hz, _, _, dx, _, _, e1, _⟩ := id hN
  refine ⟨_, rfl, p.x, dx, _, rfl, e1, rfl, _, rfl, _, rfl, (by show 2 ≤ sizeLine; decide), fun t nt => ?_⟩
  have st := same_upd (o := .tup [.int (a : Int), .int (b : Int)]) nt
  refine ⟨Z, p, m, gs, nm, "unlike", t, [a, b], rfl, hN.same st, .inl (.inl upd_same), (fun z => nomatch z), (Nat.le_of_ble_eq_true rfl), fun x hx => ?_, hl, fun H' k N' => q H' (.trans (.ofSame st) k) N'⟩
  simp only [List.mem_cons, List.not_mem_nil, or_false] at hx
  rcases hx with z | z <;> rw [z] <;> assumption
def spG1 (C : Addr) : Sp := fun vs H Q _ => ∃ (Z : List Addr) (p : NetP) (m : Nat) (gs : List Gt) (nm : List (Str × List Nat)) (a : Nat), vs = [.ref p.x, .int (a : Int)] ∧ NetAt C Z H p m gs nm ∧ a < m + gs.length ∧ m + gs.length ≤ 500000 ∧
  ∀ H', KeepS [p.lm, p.ld] H H' → NetAt C Z H' p m (gs ++ [.w "other" [a]]) nm → Q (.int ((m + gs.length : Nat) : Int)) H'
theorem ok_Net_other (B : Bl mg) (L : LL K mg C za zl) : FnOk P w K mg base CX0 4 (za 38) (zl 38) ["self", "a"] (spG1 C) := by
  have G_Net_put : FnOk P w K mg base CX0 3 (za 40) (zl 40) ["self", "kind", "wires"] (spPut K C) := (ok_Net_put B L).mono (by decide)
  refine L.F_Net_other.ok sc_Net_other (fun vs H Q E h => ?_) (fun cdv A outer s H vs Q E hr h => ?_)
  · obtain ⟨Z, p, m, gs, nm, a, rfl, _⟩ := h
    rfl
  obtain ⟨Z, p, m, gs, nm, a, rfl, hN, ha, hl, q⟩ := h
  refine ⟨_, (pss_one (ps_ret (pe_meth (pv 0) L.T.cl L.M_Net_put G_Net_put hr L.b_Net_put .nil pass0 (pa_cons pe_str (pa_cons (pe_tup (pa_cons (pv 1) pa_nil)) pa_nil))))), ?_⟩
  obtain ⟨hz, _, _, dx, _, _, e1, _⟩ := id hN
  refine ⟨_, rfl, p.x, dx, _, rfl, e1, rfl, _, rfl, (by show 1 ≤ sizeLine; decide), fun t nt => ?_⟩
  have st := same_upd (o := .tup [.int (a : Int)]) nt
  refine ⟨Z, p, m, gs, nm, "other", t, [a], rfl, hN.same st, .inl (.inl upd_same), (fun z => nomatch z), (Nat.le_of_ble_eq_true rfl), fun x hx => ?_, hl, fun H' k N' => q H' (.trans (.ofSame st) k) N'⟩
  rw [List.mem_singleton.mp hx]
  exact ha
end
section
variable {P : Program} {w : World} {K : PySem.W.Frag} {mg : Str → Option Value} {base : Heap}
variable {C : Addr} {za : Nat → Addr} {zl : Nat → FuncData}
/-! ### names of a net -/
theorem NmAt.keys {Z : List Addr} {H : Hp} {p : NetP} {kvs : List (Key × V)} {nm : List (Str × List Nat)} (h : NmAt Z H p kvs nm) : kvs.map (·.1) = nm.map fun x => (Sum.inr x.1 : Key) := by
  obtain ⟨h1, h2, h3⟩ := h
  refine List.ext_getElem? fun i => ?_
  rw [List.getElem?_map, List.getElem?_map]
  by_cases c : i < kvs.length
  · have c' : i < nm.length := by omega
    rw [List.getElem?_eq_getElem c, List.getElem?_eq_getElem c']
    have := (h3 i kvs[i].1 kvs[i].2 nm[i].1 nm[i].2 (List.getElem?_eq_getElem c) (List.getElem?_eq_getElem c')).1
    show some kvs[i].1 = some _
    rw [this]
  · rw [List.getElem?_eq_none (by omega), List.getElem?_eq_none (by omega)]
    rfl
theorem valV_out {kvs : List (Key × V)} {k : Key} (h : k ∉ kvs.map (·.1)) : valV kvs k = none := by
  have e := valV_any k kvs
  cases q : valV kvs k with
  | none => rfl
  | some v =>
    rw [q] at e
    obtain ⟨x, hx, hd⟩ := List.any_eq_true.mp e
    exact absurd (List.mem_map.mpr ⟨x, hx, of_decide_eq_true hd⟩) h
theorem valV_at : ∀ {kvs : List (Key × V)} {i : Nat} {k : Key} {v : V}, (kvs.map (·.1)).Nodup → kvs[i]? = some (k, v) → valV kvs k = some v
  | [], i, k, v, _, h => by simp at h
  | q :: kvs, 0, k, v, _, h => by
    cases Option.some.inj h
    exact valV_pos rfl
  | q :: kvs, i + 1, k, v, hn, h => by
    rw [List.map_cons, List.nodup_cons] at hn
    have h' : kvs[i]? = some (k, v) := h
    have : k ∈ kvs.map (·.1) := List.mem_map.mpr ⟨_, List.mem_of_getElem? h', rfl⟩
    rw [valV_neg (fun z => hn.1 (z ▸ this))]
    exact valV_at hn.2 h'
theorem NmAt.nodup {Z : List Addr} {H : Hp} {p : NetP} {kvs : List (Key × V)} {nm : List (Str × List Nat)} (h : NmAt Z H p kvs nm) : (kvs.map (·.1)).Nodup := by
  rw [h.keys]
  have := h.2.1
  rw [show (nm.map fun x => (Sum.inr x.1 : Key)) = (nm.map (·.1)).map Sum.inr from by rw [List.map_map]; rfl]
  exact List.Pairwise.map _ (fun a b n z => n (Sum.inr.inj z)) this
theorem NmAt.out {Z : List Addr} {H : Hp} {p : NetP} {kvs : List (Key × V)} {nm : List (Str × List Nat)} {n : Str} (h : NmAt Z H p kvs nm) (hn : n ∉ nm.map (·.1)) : valV kvs (.inr n) = none := by
  refine valV_out ?_
  rw [h.keys]
  intro z
  obtain ⟨x, hx, e⟩ := List.mem_map.mp z
  exact hn (List.mem_map.mpr ⟨x, hx, Sum.inr.inj e⟩)
theorem NmAt.in_ {Z : List Addr} {H : Hp} {p : NetP} {kvs : List (Key × V)} {nm : List (Str × List Nat)} {i : Nat} {n : Str} {ws : List Nat} (h : NmAt Z H p kvs nm) (hn : nm[i]? = some (n, ws)) : ∃ l, valV kvs (.inr n) = some (.ref l) ∧ H l = some (.lst (nts ws)) := by
  have c : i < kvs.length := by
    have := (List.getElem?_eq_some_iff.mp hn).1
    rw [h.1]
    exact this
  obtain ⟨ek, l, ev, _, _, _, el⟩ := h.2.2 i kvs[i].1 kvs[i].2 n ws (List.getElem?_eq_getElem c) hn
  refine ⟨l, ?_, el⟩
  rw [← ev, ← ek]
  exact valV_at h.nodup (List.getElem?_eq_getElem c)
def spGive (K : PySem.W.Frag) (C : Addr) : Sp := fun vs H Q _ => ∃ (Z : List Addr) (p : NetP) (m : Nat) (gs : List Gt) (nm : List (Str × List Nat)) (n : Str) (t : Addr) (ws : List Nat), vs = [.ref p.x, .str n, .ref t] ∧ NetAt C Z H p m gs nm ∧ n ∉ nm.map (·.1) ∧ (SqL K H t (nts ws) ∨ SqT K H t (nts ws)) ∧ (∀ a ∈ ws, a < m + gs.length) ∧ nm.length ≤ 900 ∧
  ∀ H', KeepS [p.dn] H H' → NetAt C Z H' p m gs (nm ++ [(n, ws)]) → Q .non H'
theorem ok_Net_give (B : Bl mg) (L : LL K mg C za zl) : FnOk P w K mg base CX0 2 (za 43) (zl 43) ["self", "name", "wires"] (spGive K C) := by
  have G_Net_need : FnOk P w K mg base CX0 1 (za 42) (zl 42) ["self", "wires"] (spNeed K C) := (ok_Net_need B L).mono (by decide)
  refine L.F_Net_give.ok sc_Net_give (fun vs H Q E h => ?_) (fun cdv A outer s H vs Q E hr h => ?_)
  · obtain ⟨Z, p, m, gs, nm, n, t, ws, rfl, _⟩ := h
    rfl
  obtain ⟨Z, p, m, gs, nm, n, t, ws, rfl, hN, hn, hT, hw, hl, q⟩ := h
  refine ⟨_, (pss_cons (ps_if (pt_cmp (pc_din (units1 hr) (pv 1) (pe_fld (pv 0) rfl)) (by rfl)) (pss_one ps_never) pss_nil)
    (pss_cons (ps_expr (pe_meth (pv 0) L.T.cl L.M_Net_need G_Net_need hr L.b_Net_need .nil pass0 (pa_cons (pv 2) pa_nil)))
    (pss_one (ps_dput (units1 hr) (pe_fld (pv 0) rfl) (pv 1) (pe_callTy call_list_of (by rfl) B.list PyProof.Rows.boot_list (pa_cons (pv 2) pa_nil)) rfl)))), ?_⟩
  obtain ⟨hz, hb, _, dx, ps, kvs, e1, e2, e3, e4, g0, n0⟩ := id hN
  refine ⟨_, rfl, _, rfl, p.x, C, dx, _, _, rfl, e1, L.T.cl, L.T.n_by_name, rfl, p.dn, _, rfl, DGet.k (k := .inr n) e4, ?_⟩
  rw [n0.out hn]
  refine ⟨_, rfl, iteF ?_⟩
  dsimp only [tNext]
  refine ⟨_, rfl, p.x, dx, _, rfl, e1, rfl, _, rfl, Z, p, m, gs, nm, t, ws, rfl, hN, hT, hw, fun H1 s1 => ?_⟩
  have N1 := hN.same s1
  obtain ⟨_, _, ⟨c1, c2, c3, c4⟩, dx1, ps1, kvs1, f1, f2, f3, f4, g1, n1⟩ := id N1
  have hT1 : SqL K H1 t (nts ws) ∨ SqT K H1 t (nts ws) := hT.elim (fun y => .inl (s1.seq y)) (fun y => .inr (Same.seqT s1 y))
  refine ⟨_, rfl, t, _, rfl, hT1, fun l nl => ?_⟩
  have sl := same_upd (o := .lst (nts ws)) nl
  refine ⟨_, rfl, p.x, C, dx1, _, _, rfl, sl _ _ f1, L.T.cl, L.T.n_by_name, rfl, _, rfl, p.dn, _, rfl, DPut.k (k := .inr n) (sl _ _ f4) (by rw [n1.1]; exact Nat.lt_of_le_of_lt hl (by decide)), ?_⟩
  rw [putK_new _ (n1.out hn)]
  have nlZ : l ∉ Z := fun z => N1.1 l z nl
  have nlm : l ≠ p.lm := (ne_of_none f2 nl).symm
  have nld : l ≠ p.ld := (ne_of_none f3 nl).symm
  have nln : l ≠ p.dn := (ne_of_none f4 nl).symm
  have N2 := N1.same sl
  have k2 : KeepS [p.dn] (upd H1 l (.lst (nts ws))) (upd (upd H1 l (.lst (nts ws))) p.dn (.dK (kvs1 ++ [(.inr n, .ref l)]))) := .upd (by simp)
  refine q _ ((KeepS.ofSame (s1.trans sl)).trans k2) ?_
  have fr : ∀ {y : Addr} {o : HO}, (upd H1 l (.lst (nts ws))) y = some o → y ≠ p.dn → (upd (upd H1 l (.lst (nts ws))) p.dn (.dK (kvs1 ++ [(.inr n, .ref l)]))) y = some o := fun e z => by
    rw [upd_ne z]
    exact e
  have g4 := sl _ _ f4
  refine ⟨fun z hz' => k2.2 z (N2.1 z hz'), hb, ⟨c1, c2, c3, c4⟩, dx1, ps1, kvs1 ++ [(.inr n, .ref l)], fr (sl _ _ f1) (fun z => by rw [z, f4] at f1; cases f1), fr (sl _ _ f2) (fun z => by rw [z, f4] at f2; cases f2), fr (sl _ _ f3) (fun z => by rw [z, f4] at f3; cases f3), upd_same, ⟨g1.1, fun i r g' hi hg => ?_⟩, ?_⟩
  · have := g1.2 i r g' hi hg
    exact ⟨this.1, fr (sl _ _ this.2) (fun z => by
      have := this.2
      rw [z, f4] at this
      cases this)⟩
  · refine ⟨by rw [List.length_append, List.length_append, n1.1]; rfl, ?_, fun i k v n' ws' hi hn' => ?_⟩
    · rw [List.map_append, List.nodup_append]
      refine ⟨n1.2.1, by simp, fun a ha b hb' => ?_⟩
      have hb' : b = n := by simpa using hb'
      rw [hb']
      exact fun z => hn (z ▸ ha)
    · by_cases c : i < kvs1.length
      · rw [List.getElem?_append_left c] at hi
        rw [List.getElem?_append_left (by rw [← n1.1]; exact c)] at hn'
        obtain ⟨ek, l', ev, l1, l2, l3, l4⟩ := n1.2.2 i k v n' ws' hi hn'
        exact ⟨ek, l', ev, l1, l2, l3, fr (sl _ _ l4) (fun z => by rw [z, f4] at l4; cases l4)⟩
      · have i0 : i = kvs1.length := by
          have := (List.getElem?_eq_some_iff.mp hi).1
          rw [List.length_append, List.length_cons, List.length_nil] at this
          omega
        rw [List.getElem?_append_right (by omega), i0, Nat.sub_self] at hi
        rw [List.getElem?_append_right (by rw [i0, n1.1]; exact Nat.le_refl _), i0, n1.1, Nat.sub_self] at hn'
        cases hi
        cases hn'
        exact ⟨rfl, l, rfl, nlZ, nlm, nld, fr upd_same nln⟩
def spGiven (C : Addr) : Sp := fun vs H Q _ => ∃ (Z : List Addr) (p : NetP) (m : Nat) (gs : List Gt) (nm : List (Str × List Nat)) (i : Nat) (n : Str) (ws : List Nat), vs = [.ref p.x, .str n] ∧ NetAt C Z H p m gs nm ∧ nm[i]? = some (n, ws) ∧
  ∀ t, H t = none → Q (.ref t) (upd H t (.lst (nts ws)))
theorem ok_Net_given (B : Bl mg) (L : LL K mg C za zl) : FnOk P w K mg base CX0 1 (za 44) (zl 44) ["self", "name"] (spGiven C) := by
  refine L.F_Net_given.ok sc_Net_given (fun vs H Q E h => ?_) (fun cdv A outer s H vs Q E hr h => ?_)
  · obtain ⟨Z, p, m, gs, nm, i, n, ws, rfl, _⟩ := h
    rfl
  obtain ⟨Z, p, m, gs, nm, i, n, ws, rfl, hN, hn, q⟩ := h
  refine ⟨_, (pss_cons (ps_if (pt_cmp (pc_dnotin (units1 hr) (pv 1) (pe_fld (pv 0) rfl)) (by rfl)) (pss_one ps_never) pss_nil)
    (pss_one (ps_ret (pe_callTy call_list_of (by rfl) B.list PyProof.Rows.boot_list (pa_cons (pe_dget (units1 hr) (pe_fld (pv 0) rfl) (pv 1) (fun _ _ => rfl)) pa_nil))))), ?_⟩
  obtain ⟨hz, hb, _, dx, ps, kvs, e1, e2, e3, e4, g0, n0⟩ := id hN
  obtain ⟨l, ev, el⟩ := n0.in_ hn
  refine ⟨_, rfl, _, rfl, p.x, C, dx, _, _, rfl, e1, L.T.cl, L.T.n_by_name, rfl, p.dn, _, rfl, DGet.k (k := .inr n) e4, ?_⟩
  rw [ev]
  refine ⟨_, rfl, iteF ?_⟩
  dsimp only [tNext]
  refine ⟨_, rfl, p.x, C, dx, _, _, rfl, e1, L.T.cl, L.T.n_by_name, rfl, _, rfl, p.dn, .ref l, rfl, ?_, ?_⟩
  · rw [← ev]
    exact DGet.k (k := .inr n) e4
  exact ⟨l, _, rfl, .inl (SqL.of el), fun t nt => q t nt⟩
def spNames (C : Addr) : Sp := fun vs H Q _ => ∃ (Z : List Addr) (p : NetP) (m : Nat) (gs : List Gt) (nm : List (Str × List Nat)), vs = [.ref p.x] ∧ NetAt C Z H p m gs nm ∧ nm.length < 64 ∧
  ∀ (ys : List Str) (t : Addr) (H' : Hp), ys.Perm (nm.map (·.1)) → sortedS ys = true → Same H H' → H t = none → H' t = some (.lst (ys.map V.str)) → Q (.ref t) H'
theorem ok_Net_names (B : Bl mg) (L : LL K mg C za zl) : FnOk P w K mg base CX0 1 (za 45) (zl 45) ["self"] (spNames C) := by
  refine L.F_Net_names.ok sc_Net_names (fun vs H Q E h => ?_) (fun cdv A outer s H vs Q E hr h => ?_)
  · obtain ⟨Z, p, m, gs, nm, rfl, _⟩ := h
    rfl
  obtain ⟨Z, p, m, gs, nm, rfl, hN, hl, q⟩ := h
  refine ⟨_, (pss_one (ps_ret (pe_callB cr_sortedS (by rfl) L.z_sorted boot_sorted (pa_cons (pe_callTy (call_listD rfl) (by rfl) B.list PyProof.Rows.boot_list (pa_cons (pe_fld (pv 0) rfl) pa_nil)) pa_nil)))), ?_⟩
  obtain ⟨hz, hb, _, dx, ps, kvs, e1, e2, e3, e4, g0, n0⟩ := id hN
  refine ⟨_, rfl, p.x, C, dx, _, _, rfl, e1, L.T.cl, L.T.n_by_name, rfl, p.dn, kvs, rfl, .inl e4, fun l nl => ?_⟩
  have ek : (kvs.map fun kv => kV kv.1) = (nm.map (·.1)).map V.str := by
    rw [show (kvs.map fun kv => kV kv.1) = (kvs.map (·.1)).map kV from by rw [List.map_map]; rfl, n0.keys, List.map_map, List.map_map]
    rfl
  rw [ek]
  have sl := same_upd (o := .lst ((nm.map (·.1)).map V.str)) nl
  refine ⟨l, _, rfl, SqL.of upd_same, by rw [List.length_map]; exact hl, fun ys t hp hs nt => ?_⟩
  refine q ys t _ hp hs (sl.trans (same_upd nt)) ?_ upd_same
  cases e : H t with
  | none => rfl
  | some o =>
    rw [sl _ _ e] at nt
    cases nt
def spInputs (C : Addr) : Sp := fun vs H Q _ => ∃ (Z : List Addr) (p : NetP) (m : Nat) (gs : List Gt) (nm : List (Str × List Nat)), vs = [.ref p.x] ∧ NetAt C Z H p m gs nm ∧ Q (.int (m : Int)) H
theorem ok_Net_inputs (B : Bl mg) (L : LL K mg C za zl) : FnOk P w K mg base CX0 1 (za 46) (zl 46) ["self"] (spInputs C) := by
  refine L.F_Net_inputs.ok sc_Net_inputs (fun vs H Q E h => ?_) (fun cdv A outer s H vs Q E hr h => ?_)
  · obtain ⟨Z, p, m, gs, nm, rfl, _⟩ := h
    rfl
  obtain ⟨Z, p, m, gs, nm, rfl, hN, q⟩ := h
  refine ⟨_, (pss_one (ps_ret (pe_fld (pv 0) rfl))), ?_⟩
  obtain ⟨hz, hb, _, dx, ps, kvs, e1, _⟩ := id hN
  exact ⟨_, rfl, p.x, C, dx, _, _, rfl, e1, L.T.cl, L.T.n_input_count, rfl, q⟩
def spGates (C : Addr) : Sp := fun vs H Q _ => ∃ (Z : List Addr) (p : NetP) (m : Nat) (gs : List Gt) (nm : List (Str × List Nat)), vs = [.ref p.x] ∧ NetAt C Z H p m gs nm ∧
  ∀ (t : Addr) (ps : List Addr) , H t = none → ps.length = gs.length → (∀ (i : Nat) (r : Addr) (g : Gt), ps[i]? = some r → gs[i]? = some g → H r = some (.tup g.row)) → Q (.ref t) (upd H t (.lst (ps.map V.ref)))
theorem ok_Net_gates (B : Bl mg) (L : LL K mg C za zl) : FnOk P w K mg base CX0 1 (za 47) (zl 47) ["self"] (spGates C) := by
  refine L.F_Net_gates.ok sc_Net_gates (fun vs H Q E h => ?_) (fun cdv A outer s H vs Q E hr h => ?_)
  · obtain ⟨Z, p, m, gs, nm, rfl, _⟩ := h
    rfl
  obtain ⟨Z, p, m, gs, nm, rfl, hN, q⟩ := h
  refine ⟨_, (pss_one (ps_ret (pe_callTy call_list_of (by rfl) B.list PyProof.Rows.boot_list (pa_cons (pe_fld (pv 0) rfl) pa_nil)))), ?_⟩
  obtain ⟨hz, hb, _, dx, ps, kvs, e1, e2, e3, e4, g0, n0⟩ := id hN
  exact ⟨_, rfl, p.x, C, dx, _, _, rfl, e1, L.T.cl, L.T.n_made, rfl, p.lm, _, rfl, .inl (SqL.of e2), fun t nt => q t ps nt g0.1 (fun i r g hi hg => (g0.2 i r g hi hg).2)⟩
end
section
variable {P : Program} {w : World} {K : PySem.W.Frag} {mg : Str → Option Value} {base : Heap}
variable {C : Addr} {za : Nat → Addr} {zl : Nat → FuncData}
/-! ### signs of gates -/
def turnS (a : Nat) : Nat := if a = 45 then 45 else if a = 48 then 49 else 48
def ruS (a b r : Nat) : Nat := if a = r ∨ b = r then r else if a = 45 ∨ b = 45 then 45 else a
def unS (a b : Nat) : Nat := if a = 45 ∨ b = 45 then 45 else if a = b then 48 else 49
def gsw (a b : Nat) (k : Str) : Nat := if k = "other" then turnS a else if k = "both" then ruS a b 48 else if k = "either" then ruS a b 49 else unS a b
def gsg (ss : List Nat) : Gt → Nat
  | .w k ws => gsw (ss.getD (ws.getD 0 0) 0) (ss.getD (ws.getD 1 0) 0) k
  | .fi b => if b = 1 then 49 else 48
def ssV (ss : List Nat) : List V := ss.map fun c => V.str (SX.S [c])
theorem d48 (a : Nat) : decide (V.str (SX.S [a]) = V.str (Str.ofString "0")) = decide (a = 48) := by
  rw [show Str.ofString "0" = SX.S [48] by decide +kernel]
  exact dS1 a 48
theorem in2 (x a b : Nat) : inV (.str (SX.S [x])) [.str (SX.S [a]), .str (SX.S [b])] = decide (a = x ∨ b = x) := by
  apply Bool.eq_iff_iff.mpr
  rw [show ([.str (SX.S [a]), .str (SX.S [b])] : List V) = ([SX.S [a], SX.S [b]] : List Str).map V.str from rfl, in_strs, decide_eq_true_iff, List.mem_cons, List.mem_singleton]
  exact ⟨fun z => z.imp (fun e => (S1_inj e).symm) (fun e => (S1_inj e).symm), fun z => z.imp (fun e => by rw [e]) (fun e => by rw [e])⟩
def spTurnS : Sp := fun vs H Q _ => ∃ a : Nat, vs = [.str (SX.S [a])] ∧ Q (.str (SX.S [turnS a])) H
theorem ok_turned_sign (B : Bl mg) (L : LL K mg C za zl) : FnOk P w K mg base CX0 1 (za 9) (zl 9) ["sign"] spTurnS := by
  refine L.F_turned_sign.ok sc_turned_sign (fun vs H Q E h => ?_) (fun cdv A outer s H vs Q E hr h => ?_)
  · obtain ⟨a, rfl, _⟩ := h
    rfl
  obtain ⟨a, rfl, q⟩ := h
  refine ⟨_, (pss_cons (ps_if (pt_cmpR op_eq (pv 0) pe_str (nomark _)) (pss_one (ps_ret pe_str)) pss_nil)
    (pss_one (ps_ret (pe_ifExp (pt_cmpR op_eq (pv 0) pe_str (nomark _)) pe_str pe_str)))), ?_⟩
  unfold turnS at q
  refine ⟨_, rfl, rfl, _, rfl, ite2 (fun z => ?_) (fun z => ?_)⟩
  · rw [dM] at z
    rw [if_pos (of_decide_eq_true z)] at q
    rw [mns]
    exact q
  · rw [dM] at z
    rw [if_neg (fun y => z (decide_eq_true y))] at q
    dsimp only [tNext]
    refine ⟨_, rfl, rfl, _, rfl, ite2 (fun y => ?_) (fun y => ?_)⟩
    · rw [d48] at y
      rw [if_pos (of_decide_eq_true y)] at q
      exact q
    · rw [d48] at y
      rw [if_neg (fun x => y (decide_eq_true x))] at q
      exact q
def spRuled : Sp := fun vs H Q _ => ∃ a b r : Nat, vs = [.str (SX.S [a]), .str (SX.S [b]), .str (SX.S [r])] ∧ ∀ H', Same H H' → Q (.str (SX.S [ruS a b r])) H'
theorem ok_ruled_sign (B : Bl mg) (L : LL K mg C za zl) : FnOk P w K mg base CX0 1 (za 10) (zl 10) ["one", "other", "ruling"] spRuled := by
  refine L.F_ruled_sign.ok sc_ruled_sign (fun vs H Q E h => ?_) (fun cdv A outer s H vs Q E hr h => ?_)
  · obtain ⟨a, b, r, rfl, _⟩ := h
    rfl
  obtain ⟨a, b, r, rfl, q⟩ := h
  refine ⟨_, (pss_cons (ps_if (pt_cmpR op_in_seq (pv 2) (pe_tup (pa_cons (pv 0) (pa_cons (pv 1) pa_nil))) (by rfl)) (pss_one (ps_ret (pv 2))) pss_nil)
    (pss_one (ps_ret (pe_ifExp (pt_cmpR op_in_seq pe_str (pe_tup (pa_cons (pv 0) (pa_cons (pv 1) pa_nil))) (by rfl)) pe_str (pv 0))))), ?_⟩
  unfold ruS at q
  refine ⟨_, rfl, _, rfl, _, rfl, (by show 2 ≤ sizeLine; decide), fun T nT => ?_⟩
  have sT := same_upd (o := .tup [.str (SX.S [a]), .str (SX.S [b])]) nT
  refine ⟨T, _, rfl, .inr (.inl (.inl upd_same)), rfl, rfl, ?_⟩
  refine ⟨_, rfl, ite2 (fun z => ?_) (fun z => ?_)⟩
  · have z := of_decide_eq_true ((in2 r a b).symm.trans z)
    rw [if_pos z] at q
    exact ⟨_, rfl, q _ sT⟩
  have z := of_decide_eq_false ((in2 r a b).symm.trans (Bool.eq_false_iff.mpr z))
  rw [if_neg z] at q
  dsimp only [tNext]
  refine ⟨_, rfl, _, rfl, (by show 2 ≤ sizeLine; decide), fun T2 nT2 => ?_⟩
  have sT2 := same_upd (o := .tup [.str (SX.S [a]), .str (SX.S [b])]) nT2
  refine ⟨T2, _, rfl, .inr (.inl (.inl upd_same)), rfl, rfl, ?_⟩
  rw [mns]
  refine ⟨_, rfl, ite2 (fun y => ?_) (fun y => ?_)⟩
  · have y := of_decide_eq_true ((in2 45 a b).symm.trans y)
    rw [if_pos y] at q
    exact q _ (sT.trans sT2)
  · have y := of_decide_eq_false ((in2 45 a b).symm.trans (Bool.eq_false_iff.mpr y))
    rw [if_neg y] at q
    exact ⟨_, rfl, q _ (sT.trans sT2)⟩
def spGateS : Sp := fun vs H Q _ => ∃ (g sl : Addr) (gt : Gt) (ss : List Nat), vs = [.ref g, .ref sl] ∧ H g = some (.tup gt.row) ∧ H sl = some (.lst (ssV ss)) ∧ gt.ok ss.length ∧ ∀ H', Same H H' → Q (.str (SX.S [gsg ss gt])) H'
theorem at_getS {ss : List Nat} {a : Nat} (h : a < ss.length) : atI (ssV ss) (a : Int) = some (.str (SX.S [ss.getD a 0])) := atI_nat (by
  unfold ssV
  rw [List.getElem?_map, List.getElem?_eq_getElem h]
  simp [List.getD, List.getElem?_eq_getElem h])
theorem ok_gate_sign (B : Bl mg) (L : LL K mg C za zl) : FnOk P w K mg base CX0 2 (za 8) (zl 8) ["gate", "signs"] spGateS := by
  have G_turned_sign : FnOk P w K mg base CX0 1 (za 9) (zl 9) ["sign"] spTurnS := (ok_turned_sign B L).mono (by decide)
  have G_ruled_sign : FnOk P w K mg base CX0 1 (za 10) (zl 10) ["one", "other", "ruling"] spRuled := (ok_ruled_sign B L).mono (by decide)
  refine L.F_gate_sign.ok sc_gate_sign (fun vs H Q E h => ?_) (fun cdv A outer s H vs Q E hr h => ?_)
  · obtain ⟨g, sl, gt, ss, rfl, _⟩ := h
    rfl
  obtain ⟨g, sl, gt, ss, rfl, eg, es, ok, q⟩ := h
  refine ⟨_, (pss_cons (ps_set (i := 2) sc_gate_sign.nd rfl (.inl rfl) (pe_ix ix_tup (pv 0) pe_int (fun _ _ => rfl)))
    (pss_cons (ps_if (pt_cmpR op_eq (pv 2) pe_str (nomark _)) (pss_one (ps_ret (pe_ifExp (pt_cmpR op_eq (pe_ix ix_tup (pv 0) pe_int (fun _ _ => rfl)) pe_int (nomark _)) pe_str pe_str))) pss_nil)
    (pss_cons (ps_set (i := 3) sc_gate_sign.nd rfl (.inl rfl) (pe_ix ix_list (pv 1) (pe_ix ix_tup (pv 0) pe_int (fun _ _ => rfl)) (fun _ _ => rfl)))
    (pss_cons (ps_if (pt_cmpR op_eq (pv 2) pe_str (nomark _)) (pss_one (ps_ret (pe_call G_turned_sign hr (by rfl) L.m_turned_sign L.F_turned_sign.kp L.b_turned_sign .nil pass0 (pa_cons (pv 3) pa_nil)))) pss_nil)
    (pss_cons (ps_set (i := 4) sc_gate_sign.nd rfl (.inl rfl) (pe_ix ix_list (pv 1) (pe_ix ix_tup (pv 0) pe_int (fun _ _ => rfl)) (fun _ _ => rfl)))
    (pss_cons (ps_if (pt_cmpR op_eq (pv 2) pe_str (nomark _)) (pss_one (ps_ret (pe_call G_ruled_sign hr (by rfl) L.m_ruled_sign L.F_ruled_sign.kp L.b_ruled_sign .nil pass0 (pa_cons (pv 3) (pa_cons (pv 4) (pa_cons pe_str pa_nil)))))) pss_nil)
    (pss_cons (ps_if (pt_cmpR op_eq (pv 2) pe_str (nomark _)) (pss_one (ps_ret (pe_call G_ruled_sign hr (by rfl) L.m_ruled_sign L.F_ruled_sign.kp L.b_ruled_sign .nil pass0 (pa_cons (pv 3) (pa_cons (pv 4) (pa_cons pe_str pa_nil)))))) pss_nil)
    (pss_cons (ps_if (pt_cmpR op_in_seq pe_str (pe_tup (pa_cons (pv 3) (pa_cons (pv 4) pa_nil))) (by rfl)) (pss_one (ps_ret pe_str)) pss_nil)
    (pss_one (ps_ret (pe_ifExp (pt_cmpR op_eq (pv 3) (pv 4) (nomark _)) pe_str pe_str))))))))))), ?_⟩
  have nS : ∀ {x y : Str}, ¬ x = y → ¬ decide (V.str x = V.str y) = true := fun h z => h (V.str.inj (of_decide_eq_true z))
  cases gt with
  | fi b =>
    refine ⟨_, rfl, g, _, _, _, rfl, rfl, .inl (.inl eg), rfl, ?_⟩
    try simp only [L2.start, List.map_cons, List.map_nil, List.length_cons, List.length_nil, List.replicate_succ, List.replicate_zero, List.cons_append, List.nil_append, List.set_cons_succ, List.set_cons_zero, Nat.reduceAdd, Nat.reduceSub, Nat.zero_add]
    dsimp only [gName]
    try simp only [L2.start, List.map_cons, List.map_nil, List.length_cons, List.length_nil, List.replicate_succ, List.replicate_zero, List.cons_append, List.nil_append, List.set_cons_succ, List.set_cons_zero, Nat.reduceAdd, Nat.reduceSub, Nat.zero_add]
    refine ⟨_, rfl, rfl, _, rfl, ite2 (fun _ => ?_) (fun z => absurd (decide_eq_true rfl) z)⟩
    refine ⟨_, rfl, g, _, _, _, rfl, rfl, .inl (.inl eg), rfl, rfl, _, rfl, ite2 (fun z => ?_) (fun z => ?_)⟩
    · have e : (b : Int) = 1 := V.int.inj (of_decide_eq_true z)
      have q : Q (.str (SX.S [if b = 1 then 49 else 48])) H := q H (Same.refl _)
      rw [if_pos (by omega)] at q
      exact q
    · have e : ¬ (b : Int) = 1 := fun y => z (decide_eq_true (congrArg V.int y))
      have q : Q (.str (SX.S [if b = 1 then 49 else 48])) H := q H (Same.refl _)
      rw [if_neg (by omega)] at q
      exact q
  | w k l =>
    have q : ∀ H', Same H H' → Q (.str (SX.S [gsw (ss.getD (l.getD 0 0) 0) (ss.getD (l.getD 1 0) 0) k])) H' := q
    have nf : ¬ k = "fixed" := by
      rcases ok.1 with ⟨z | z | z, _⟩ | ⟨z, _⟩ <;> rw [z] <;> decide +kernel
    have l0 : 0 < l.length := by
      rcases ok.1 with ⟨_, z⟩ | ⟨_, z⟩ <;> omega
    have ea : (Gt.w k l).row[1]? = some (.int ((l.getD 0 0 : Nat) : Int)) := by
      match l, l0 with
      | a :: l, _ => rfl
    have la : l.getD 0 0 < ss.length := by
      match l, l0, ok with
      | a :: l, _, ok => exact ok.2 a (by simp)
    refine ⟨_, rfl, g, _, _, _, rfl, rfl, .inl (.inl eg), (show atI (Gt.w k l).row 0 = some (.str k) from atI_nat (j := 0) rfl), ?_⟩
    try simp only [L2.start, List.map_cons, List.map_nil, List.length_cons, List.length_nil, List.replicate_succ, List.replicate_zero, List.cons_append, List.nil_append, List.set_cons_succ, List.set_cons_zero, Nat.reduceAdd, Nat.reduceSub, Nat.zero_add]
    dsimp only [gName]
    try simp only [L2.start, List.map_cons, List.map_nil, List.length_cons, List.length_nil, List.replicate_succ, List.replicate_zero, List.cons_append, List.nil_append, List.set_cons_succ, List.set_cons_zero, Nat.reduceAdd, Nat.reduceSub, Nat.zero_add]
    refine ⟨_, rfl, rfl, _, rfl, ite2 (fun z => absurd z (nS nf)) (fun _ => ?_)⟩
    dsimp only [tNext]
    refine ⟨_, rfl, _, rfl, g, _, _, _, rfl, rfl, .inl (.inl eg), (atI_nat (j := 1) ea), sl, _, _, _, rfl, rfl, SqL.of es, at_getS la, ?_⟩
    try simp only [L2.start, List.map_cons, List.map_nil, List.length_cons, List.length_nil, List.replicate_succ, List.replicate_zero, List.cons_append, List.nil_append, List.set_cons_succ, List.set_cons_zero, Nat.reduceAdd, Nat.reduceSub, Nat.zero_add]
    dsimp only [gName]
    try simp only [L2.start, List.map_cons, List.map_nil, List.length_cons, List.length_nil, List.replicate_succ, List.replicate_zero, List.cons_append, List.nil_append, List.set_cons_succ, List.set_cons_zero, Nat.reduceAdd, Nat.reduceSub, Nat.zero_add]
    unfold gsw at q
    generalize ss.getD (l.getD 0 0) 0 = x at *
    refine ⟨_, rfl, rfl, _, rfl, ite2 (fun z => ?_) (fun z => ?_)⟩
    · rw [if_pos (V.str.inj (of_decide_eq_true z))] at q
      exact ⟨_, rfl, x, rfl, q H (Same.refl _)⟩
    have no : ¬ k = "other" := fun y => z (decide_eq_true (congrArg V.str y))
    rw [if_neg no] at q
    dsimp only [tNext]
    have l2 : l.length = 2 := by
      rcases ok.1 with ⟨_, z⟩ | ⟨z, _⟩
      · exact z
      · exact absurd z no
    have eb : (Gt.w k l).row[2]? = some (.int ((l.getD 1 0 : Nat) : Int)) := by
      match l, l2 with
      | [a, b], _ => rfl
    have lb : l.getD 1 0 < ss.length := by
      match l, l2, ok with
      | [a, b], _, ok => exact ok.2 b (by simp)
    refine ⟨_, rfl, _, rfl, g, _, _, _, rfl, rfl, .inl (.inl eg), (atI_nat (j := 2) eb), sl, _, _, _, rfl, rfl, SqL.of es, at_getS lb, ?_⟩
    try simp only [L2.start, List.map_cons, List.map_nil, List.length_cons, List.length_nil, List.replicate_succ, List.replicate_zero, List.cons_append, List.nil_append, List.set_cons_succ, List.set_cons_zero, Nat.reduceAdd, Nat.reduceSub, Nat.zero_add]
    dsimp only [gName]
    try simp only [L2.start, List.map_cons, List.map_nil, List.length_cons, List.length_nil, List.replicate_succ, List.replicate_zero, List.cons_append, List.nil_append, List.set_cons_succ, List.set_cons_zero, Nat.reduceAdd, Nat.reduceSub, Nat.zero_add]
    generalize ss.getD (l.getD 1 0) 0 = y at *
    refine ⟨_, rfl, rfl, _, rfl, ite2 (fun z => ?_) (fun z => ?_)⟩
    · rw [if_pos (V.str.inj (of_decide_eq_true z))] at q
      exact ⟨_, rfl, _, rfl, x, y, 48, rfl, q⟩
    rw [if_neg (fun y => z (decide_eq_true (congrArg V.str y)))] at q
    dsimp only [tNext]
    refine ⟨_, rfl, rfl, _, rfl, ite2 (fun z => ?_) (fun z => ?_)⟩
    · rw [if_pos (V.str.inj (of_decide_eq_true z))] at q
      exact ⟨_, rfl, _, rfl, x, y, 49, rfl, q⟩
    rw [if_neg (fun y => z (decide_eq_true (congrArg V.str y)))] at q
    dsimp only [tNext]
    unfold unS at q
    refine ⟨_, rfl, _, rfl, (by show 2 ≤ sizeLine; decide), fun T nT => ?_⟩
    have sT := same_upd (o := .tup [.str (SX.S [x]), .str (SX.S [y])]) nT
    refine ⟨T, _, rfl, .inr (.inl (.inl upd_same)), rfl, rfl, ?_⟩
    rw [mns]
    refine ⟨_, rfl, ite2 (fun z => ?_) (fun z => ?_)⟩
    · have z := of_decide_eq_true ((in2 45 x y).symm.trans z)
      rw [if_pos z] at q
      exact q _ sT
    have z := of_decide_eq_false ((in2 45 x y).symm.trans (Bool.eq_false_iff.mpr z))
    rw [if_neg z] at q
    dsimp only [tNext]
    refine ⟨_, rfl, _, rfl, rfl, _, rfl, ite2 (fun z => ?_) (fun z => ?_)⟩
    · rw [if_pos (of_decide_eq_true ((dS1 x y).symm.trans z))] at q
      exact q _ sT
    · rw [if_neg (of_decide_eq_false ((dS1 x y).symm.trans (Bool.eq_false_iff.mpr z)))] at q
      exact q _ sT
/-! ### settled -/
def sgs (ss : List Nat) (gs : List Gt) : List Nat := gs.foldl (fun ss g => ss ++ [gsg ss g]) ss
theorem sgs_snoc (ss : List Nat) (gs : List Gt) (g : Gt) : sgs ss (gs ++ [g]) = sgs ss gs ++ [gsg (sgs ss gs) g] := by
  unfold sgs
  rw [List.foldl_append]
  rfl
theorem sgs_len (ss : List Nat) : ∀ gs : List Gt, (sgs ss gs).length = ss.length + gs.length := by
  intro gs
  unfold sgs
  induction gs generalizing ss with
  | nil => rfl
  | cons g gs ih =>
    rw [List.foldl_cons, ih, List.length_append, List.length_cons, List.length_cons, List.length_nil]
    omega
/-- the rows that settled tells -/
def SetAt (H0 H : Hp) (t : Addr) (rs : List (Str × List Nat)) : Prop := ∃ ts : List Addr, ts.length = rs.length ∧ H t = some (.lst (ts.map V.ref)) ∧ H0 t = none ∧
  ∀ (i : Nat) (u : Addr) (n : Str) (tx : List Nat), ts[i]? = some u → rs[i]? = some (n, tx) → H0 u = none ∧ H u = some (.tup [.str n, .str (SX.S tx)])
def setR (ss : List Nat) (nm : List (Str × List Nat)) : List (Str × List Nat) := nm.map fun x => (x.1, x.2.map fun a => ss.getD a 0)
theorem perm_lift {α β : Type} {f : α → β} {ys zs : List β} (h : ys.Perm zs) : ∀ nm : List α, zs = nm.map f → ∃ nm' : List α, nm'.Perm nm ∧ nm'.map f = ys := by
  induction h with
  | nil => exact fun nm e => ⟨nm, .refl _, e.symm⟩
  | cons x _ ih =>
    intro nm e
    match nm, e with
    | a :: nm, e =>
      rw [List.map_cons] at e
      cases e
      obtain ⟨n2, h1, h2⟩ := ih nm rfl
      exact ⟨a :: n2, .cons _ h1, by rw [List.map_cons, h2]⟩
  | swap x y l =>
    intro nm e
    match nm, e with
    | a :: b :: nm, e =>
      rw [List.map_cons, List.map_cons] at e
      cases e
      exact ⟨b :: a :: nm, .swap .., rfl⟩
    | [_], e => cases e
  | trans _ _ i1 i2 =>
    intro nm e
    obtain ⟨n2, h1, h2⟩ := i2 nm e
    obtain ⟨n3, h3, h4⟩ := i1 n2 h2.symm
    exact ⟨n3, h3.trans h1, h4⟩
def spSettled (C : Addr) : Sp := fun vs H Q _ => ∃ (Z : List Addr) (p : NetP) (m : Nat) (gs : List Gt) (nm : List (Str × List Nat)) (cs : List Nat), vs = [.ref p.x, .str (SX.S cs)] ∧ NetAt C Z H p m gs nm ∧ cs.length = m ∧ m + gs.length ≤ 900 ∧ nm.length < 64 ∧
  (∀ (i : Nat) (g : Gt), gs[i]? = some g → g.ok (m + i)) ∧ (∀ x ∈ nm, x.2.length ≤ 900 ∧ ∀ a ∈ x.2, a < m + gs.length) ∧
  ∀ (nm' : List (Str × List Nat)) (t : Addr) (H' : Hp), nm'.Perm nm → sortedS (nm'.map (·.1)) = true → Same H H' → SetAt H H' t (setR (sgs cs gs) nm') → Q (.ref t) H'
theorem ok_settled (B : Bl mg) (L : LL K mg C za zl) : FnOk P w K mg base CX0 3 (za 7) (zl 7) ["net", "cube"] (spSettled C) := by
  have G_gate_sign : FnOk P w K mg base CX0 2 (za 8) (zl 8) ["gate", "signs"] spGateS := (ok_gate_sign B L).mono (by decide)
  have G_Net_gates : FnOk P w K mg base CX0 2 (za 47) (zl 47) ["self"] (spGates C) := (ok_Net_gates B L).mono (by decide)
  have G_Net_given : FnOk P w K mg base CX0 2 (za 44) (zl 44) ["self", "name"] (spGiven C) := (ok_Net_given B L).mono (by decide)
  have G_Net_names : FnOk P w K mg base CX0 2 (za 45) (zl 45) ["self"] (spNames C) := (ok_Net_names B L).mono (by decide)
  refine L.F_settled.ok sc_settled (fun vs H Q E h => ?_) (fun cdv A outer s H vs Q E hr h => ?_)
  · obtain ⟨Z, p, m, gs, nm, cs, rfl, _⟩ := h
    rfl
  obtain ⟨Z, p, m, gs, nm, cs, rfl, hN, lc, hm, hl, hok, hnm, q⟩ := h
  refine ⟨_, (pss_cons (ps_set (i := 2) sc_settled.nd rfl (.inr rfl) (pe_callTy (call_listTx rfl) (by rfl) B.list PyProof.Rows.boot_list (pa_cons (pv 1) pa_nil)))
    (pss_cons (ps_for PassesOwn.never rfl (pi_list (pe_meth0 (pv 0) L.T.cl L.M_Net_gates G_Net_gates hr L.b_Net_gates .nil pass0)) (pg_name (i := 3) sc_settled.nd rfl (.inl rfl)) (pss_one (ps_expr (pe_bm PySem.F.plainAttrs_list PySem.F.slot_list_append PySem.F.type_list_append mt_append (pv 2) (pa_cons (pe_call G_gate_sign hr (by rfl) L.m_gate_sign L.F_gate_sign.kp L.b_gate_sign .nil pass0 (pa_cons (pv 3) (pa_cons (pv 2) pa_nil))) pa_nil)))))
    (pss_one (ps_ret (pe_lc (own := [("name", 4)]) (by rfl) sc_settled.nd (pi_list (pe_meth0 (pv 0) L.T.cl L.M_Net_names G_Net_names hr L.b_Net_names .nil pass0)) (blkOk_by (own := [("name", 4)]) (N := ["net", "cube", "signs", "gate", "name", "wire"]) (sc := defScope s_settled) (by decide +kernel)) (fun _ _ _ _ _ => pg_name (i := 4) sc_settled.nd rfl (Or.inl rfl)) (fun _ _ _ _ _ => pts_nil) (fun _ _ _ _ _ => (pe_tup (pa_cons (pv 4) (pa_cons (pe_bmKX (K := K) PySem.F.plainAttrs_str PySem.F.slot_str_join PySem.F.type_str_join (mt_joinKX (K := K)) pe_str (pa_cons (pe_lc (own := [("wire", 5)]) (by rfl) sc_settled.nd (pi_listK (K := K) (pe_meth (pv 0) L.T.cl L.M_Net_given G_Net_given hr L.b_Net_given .nil pass0 (pa_cons (pv 4) pa_nil))) (blkOk_by (own := [("wire", 5)]) (N := ["net", "cube", "signs", "gate", "name", "wire"]) (sc := ({ kind := ScopeKind.function, names := [(".0", NameKind.local), ("name", NameKind.local), ("net", NameKind.cell), ("signs", NameKind.cell)], isGenerator := false, isCoroutine := false } : Scope)) (by decide +kernel)) (fun _ _ _ _ _ => pg_name (i := 5) sc_settled.nd rfl (Or.inl rfl)) (fun _ _ _ _ _ => pts_nil) (fun _ _ _ _ _ => (pe_ix (ix_listK (K := K)) (pv 2) (pv 5) (fun _ _ => rfl)))) pa_nil)) pa_nil))))))))), ?_⟩
  have elst : ((SX.S cs).cps.toList.map fun c => V.str ⟨#[c]⟩) = ssV cs := by
    show (cs.toArray.toList.map fun c => V.str ⟨#[c]⟩) = ssV cs
    rw [List.toList_toArray]
    rfl
  refine ⟨_, rfl, SX.S cs, rfl, by rw [SX.S_len]; exact Nat.le_of_lt (small1000 (by omega)), fun W nW => ?_⟩
  rw [elst]
  have sW := same_upd (o := .lst (ssV cs)) nW
  have eW : (upd H W (.lst (ssV cs))) W = some (.lst (ssV cs)) := upd_same
  generalize upd H W (.lst (ssV cs)) = H1 at *
  try simp only [L2.start, List.map_cons, List.map_nil, List.length_cons, List.length_nil, List.replicate_succ, List.replicate_zero, List.cons_append, List.nil_append, List.set_cons_succ, List.set_cons_zero, Nat.reduceAdd, Nat.reduceSub, Nat.zero_add]
  obtain ⟨_, _, _, dx, _, _, e1, _⟩ := id hN
  have nWx : ∀ y o, H y = some o → y ≠ W := fun y o e => ne_of_none e nW
  refine ⟨_, rfl, p.x, dx, _, rfl, sW _ _ e1, rfl, Z, p, m, gs, nm, rfl, hN.same sW, fun G ps nG lps hps => ?_⟩
  have sG := same_upd (o := .lst (ps.map V.ref)) nG
  have eWG := sG _ _ eW
  have nGW : G ≠ W := (ne_of_none eW nG).symm
  have eG0 : (upd H1 G (.lst (ps.map V.ref))) G = some (.lst (ps.map V.ref)) := upd_same
  have w1 := sW.trans sG
  have hps1 : ∀ (i : Nat) (r : Addr) (g : Gt), ps[i]? = some r → gs[i]? = some g → (upd H1 G (.lst (ps.map V.ref))) r = some (.tup g.row) := fun i r g hi hg => sG _ _ (hps i r g hi hg)
  generalize upd H1 G (.lst (ps.map V.ref)) = H2 at *
  refine ⟨G, rfl, ⟨_, SqL.of eG0⟩, ?_⟩
  refine for_it (walk_list (K := K) (a := G) (xs := ps.map V.ref)) (fun j σ H9 => ∃ y : Option V, σ = [some (.ref p.x), some (.str (SX.S cs)), some (.ref W), y, none, none] ∧ Keep W H2 H9 ∧ H9 W = some (.lst (ssV (sgs cs (gs.take j))))) ⟨_, rfl, Keep.refl _ _, eWG⟩ (fun j σ H9 _ ⟨_, _, k9, _⟩ => SqL.of (k9 _ _ eG0 nGW)) ?_ ?_
  · rintro j z σ H9 H10 hj ⟨y, rfl, k9, eW9⟩ ⟨rfl, hz⟩
    rw [List.getElem?_map] at hz
    have hj' : j < ps.length := by
      rw [List.length_map] at hj
      exact hj
    rw [List.getElem?_eq_getElem hj'] at hz
    cases hz
    have hg : gs[j]? = some gs[j] := List.getElem?_eq_getElem (by omega)
    have er : H10 ps[j] = some (.tup (gs[j]'(by omega)).row) := k9 _ _ (hps1 j _ _ (List.getElem?_eq_getElem hj') hg) (fun z => by
      have := hps1 j _ _ (List.getElem?_eq_getElem hj') hg
      rw [z, eWG] at this
      cases this)
    try simp only [L2.start, List.map_cons, List.map_nil, List.length_cons, List.length_nil, List.replicate_succ, List.replicate_zero, List.cons_append, List.nil_append, List.set_cons_succ, List.set_cons_zero, Nat.reduceAdd, Nat.reduceSub, Nat.zero_add]
    refine ⟨_, rfl, .inl ⟨rfl, _, SqL.of eW9⟩, _, rfl, _, rfl, ps[j], W, _, _, rfl, er, eW9, ?_, fun H11 s11 => ?_⟩
    · rw [sgs_len, List.length_take, lc, Nat.min_eq_left (by omega)]
      exact hok j _ hg
    refine ⟨W, _, _, rfl, rfl, s11 _ _ eW9, ?_, ?_⟩
    · show (ssV _).length < _
      unfold ssV
      rw [List.length_map, sgs_len, List.length_take]
      exact small1000 (by omega)
    refine ⟨_, rfl, fun y' u e ny => ?_, ?_⟩
    · rw [upd_ne ny]
      exact s11 _ _ (k9 _ _ e ny)
    · rw [upd_same, List.take_add_one, hg]
      show _ = some (HO.lst (ssV (sgs cs (gs.take j ++ [gs[j]]))))
      rw [sgs_snoc]
      unfold ssV
      rw [List.map_append]
      rfl
  rintro σ H9 ⟨y, rfl, k9, eW9⟩
  rw [List.length_map, List.take_of_length_le (by omega)] at eW9
  have s9 : Same H H9 := fun y u e => k9 _ _ (w1 _ _ e) (nWx _ _ e)
  have N9 := hN.same s9
  obtain ⟨_, _, _, dx9, _, _, f1, _⟩ := id N9
  have lss : (sgs cs gs).length = m + gs.length := by rw [sgs_len, lc]
  refine ⟨_, rfl, p.x, dx9, _, rfl, f1, rfl, Z, p, m, gs, nm, rfl, N9, hl, fun ys Y HY hp hs sY nY eY => ?_⟩
  obtain ⟨nm', pn, rfl⟩ := perm_lift hp nm rfl
  have eWY := sY _ _ eW9
  have NY := N9.same sY
  have l64 : nm'.length < 64 := by
    rw [pn.length_eq]
    exact hl
  generalize hss : sgs cs gs = ss at *
  refine ⟨Y, rfl, ⟨_, SqL.of eY⟩, fun T nT => ?_⟩
  refine lc_it (walk_list (K := K) (a := Y) (xs := (nm'.map (·.1)).map V.str)) (fun i H5 => Same HY H5 ∧ ∃ ts : List Addr, ts.length = i ∧ H5 T = some (.lst (ts.map V.ref)) ∧ ∀ (k : Nat) (u : Addr) (n : Str) (tx : List Nat), ts[k]? = some u → (setR ss nm')[k]? = some (n, tx) → H u = none ∧ H5 u = some (.tup [.str n, .str (SX.S tx)])) ⟨same_upd nT, [], rfl, upd_same, fun k u n tx h => by simp at h⟩ (fun i H5 _ ⟨s5, _⟩ => SqL.of (s5 _ _ eY)) ?_ ?_
  · rintro j z H5 H6 hj ⟨s5, ts, lt, eT, hts⟩ ⟨rfl, hz⟩
    rw [List.getElem?_map, List.getElem?_map] at hz
    have hj' : j < nm'.length := by
      rw [List.length_map, List.length_map] at hj
      exact hj
    have hy : nm'[j]? = some nm'[j] := List.getElem?_eq_getElem hj'
    have hrow : (setR ss nm')[j]? = some (nm'[j].1, nm'[j].2.map fun a => ss.getD a 0) := by
      unfold setR
      rw [List.getElem?_map, hy]
      rfl
    rw [hy] at hz
    cases hz
    generalize nm'[j] = row at *
    obtain ⟨x, ws⟩ := row
    have N5 := NY.same s5
    obtain ⟨_, _, _, dx5, _, _, g1, _⟩ := id N5
    have hx : (x, ws) ∈ nm := pn.mem_iff.mp (List.mem_of_getElem? hy)
    obtain ⟨i0, hi0, ei0⟩ := List.getElem_of_mem hx
    have hn0 : nm[i0]? = some (x, ws) := by
      rw [List.getElem?_eq_getElem hi0, ei0]
    have hws := hnm _ hx
    have hw1 : ws.length ≤ 900 := hws.1
    refine ⟨rfl, yesT ?_⟩
    refine ⟨_, rfl, rfl, _, rfl, p.x, dx5, _, rfl, g1, rfl, _, rfl, Z, p, m, gs, nm, i0, x, ws, rfl, N5, hn0, fun g ng => ?_⟩
    have sg := same_upd (o := .lst (nts ws)) ng
    have eWg := sg _ _ (s5 _ _ eWY)
    have egg : (upd H6 g (.lst (nts ws))) g = some (.lst (nts ws)) := upd_same
    have eTg := sg _ _ eT
    generalize upd H6 g (.lst (nts ws)) = H7 at *
    refine ⟨g, rfl, ⟨_, SqL.of egg⟩, fun D nD => ?_⟩
    refine lc_it (walk_list (K := K) (a := g) (xs := nts ws)) (fun i H8 => Same H7 H8 ∧ H8 D = some (.lst (ssV ((ws.map fun a => ss.getD a 0).take i)))) ⟨same_upd nD, upd_same⟩ (fun i H8 _ ⟨s8, _⟩ => SqL.of (s8 _ _ egg)) ?_ ?_
    · rintro k z H8 H8' hk ⟨s8, eD⟩ ⟨rfl, hz⟩
      obtain ⟨a, ha, rfl⟩ := nts_at hz
      have la := hws.2 a (List.mem_of_getElem? ha)
      refine ⟨rfl, yesT ?_⟩
      refine ⟨_, rfl, _, rfl, W, _, _, _, rfl, rfl, SqL.of (s8 _ _ eWg), at_getS (by rw [lss]; exact la), ?_⟩
      refine ⟨_, eD, ?_, fun y u e => ?_, ?_⟩
      · unfold ssV
        rw [List.length_map, List.length_take, List.length_map]
        exact Nat.lt_of_le_of_lt (Nat.min_le_right _ _) (small1000 (by omega))
      · rw [upd_ne (ne_of_none e nD)]
        exact s8 _ _ e
      · rw [upd_same, List.take_add_one, List.getElem?_map, ha]
        unfold ssV
        rw [List.map_append]
        rfl
    rintro H8 ⟨s8, eD⟩
    rw [nts_len, List.take_of_length_le (by rw [List.length_map]; exact Nat.le_refl _)] at eD
    have eT8 := s8 _ _ eTg
    generalize htx : (ws.map fun a => ss.getD a 0) = tx at *
    have ltx : tx.length ≤ 900 := by
      rw [← htx, List.length_map]
      exact hw1
    refine ⟨_, D, tx.map fun c => SX.S [c], rfl, rfl, .inl (.inl (.inl ?_)), join_z tx (by omega), ?_⟩
    · rw [List.map_map]
      exact eD
    rw [join_1]
    refine ⟨(by show 2 ≤ sizeLine; decide), fun u nu => ?_⟩
    have su := same_upd (o := .tup [.str x, .str (SX.S tx)]) nu
    have nuT : u ≠ T := fun z => by
      rw [z, eT8] at nu
      cases nu
    have sA : Same H6 (upd H8 u (.tup [.str x, .str (SX.S tx)])) := fun y o e => su _ _ (s8 _ _ (sg _ _ e))
    have nu0 : H u = none := by
      cases e : H u with
      | none => rfl
      | some o =>
        have := s8 _ _ (sg _ _ (s5 _ _ (sY _ _ (s9 _ _ e))))
        rw [nu] at this
        cases this
    refine ⟨_, su _ _ eT8, ?_, fun y o e => ?_, ts ++ [u], by rw [List.length_append, lt]; rfl, ?_, fun k u' x' tx' hu hx' => ?_⟩
    · rw [List.length_map, lt]
      exact small1000 (by omega)
    · rw [upd_ne (ne_of_none e nT)]
      exact sA _ _ (s5 _ _ e)
    · rw [upd_same, List.map_append]
      rfl
    · by_cases c : k < ts.length
      · rw [List.getElem?_append_left c] at hu
        obtain ⟨q1, q3⟩ := hts k u' x' tx' hu hx'
        refine ⟨q1, ?_⟩
        rw [upd_ne (fun z => by rw [z, eT] at q3; cases q3)]
        exact sA _ _ q3
      · have k0 : k = ts.length := by
          have := (List.getElem?_eq_some_iff.mp hu).1
          rw [List.length_append, List.length_cons, List.length_nil] at this
          omega
        rw [List.getElem?_append_right (by omega), k0, Nat.sub_self] at hu
        rw [k0, lt, hrow] at hx'
        cases hu
        cases hx'
        refine ⟨nu0, ?_⟩
        rw [upd_ne nuT]
        exact upd_same
  · rintro H5 ⟨s5, ts, lt, eT, hts⟩
    have nT0 : H T = none := by
      cases e : H T with
      | none => rfl
      | some o =>
        have := sY _ _ (s9 _ _ e)
        rw [nT] at this
        cases this
    exact q nm' T H5 pn hs ((s9.trans sY).trans s5) ⟨ts, by rw [lt, List.length_map, List.length_map]; unfold setR; rw [List.length_map], eT, nT0, fun k u n tx hu hx => hts k u n tx hu hx⟩
end
section
variable {P : Program} {w : World} {K : PySem.W.Frag} {mg : Str → Option Value} {base : Heap}
variable {C : Addr} {za : Nat → Addr} {zl : Nat → FuncData}
/-! ### drawn gates -/
def GsOk (m : Nat) (gs : List Gt) : Prop := ∀ (i : Nat) (g : Gt), gs[i]? = some g → g.ok (m + i)
def RowsAt46 (H : Hp) (R : Addr) (gs : List Gt) : Prop := ∃ ts : List Addr, ts.length = gs.length ∧ H R = some (.lst (ts.map V.ref)) ∧ ∀ (i : Nat) (t : Addr) (g : Gt), ts[i]? = some t → gs[i]? = some g → H t = some (.tup g.row)
/-! ### draws of k60 -/
theorem at8s {r : Int} (h0 : 0 ≤ r) (h1 : r < 8) : ∃ w : Str, atI ([.str "both", .str "either", .str "unlike", .str "other", .str "both", .str "unlike", .str "either", .str "fixed"] : List V) r = some (.str w) ∧ (w = "both" ∨ w = "either" ∨ w = "unlike" ∨ w = "other" ∨ w = "fixed") := by
  have : r = 0 ∨ r = 1 ∨ r = 2 ∨ r = 3 ∨ r = 4 ∨ r = 5 ∨ r = 6 ∨ r = 7 := by omega
  rcases this with z | z | z | z | z | z | z | z <;> subst z
  · exact ⟨_, rfl, .inl rfl⟩
  · exact ⟨_, rfl, .inr (.inl rfl)⟩
  · exact ⟨_, rfl, .inr (.inr (.inl rfl))⟩
  · exact ⟨_, rfl, .inr (.inr (.inr (.inl rfl)))⟩
  · exact ⟨_, rfl, .inl rfl⟩
  · exact ⟨_, rfl, .inr (.inr (.inl rfl))⟩
  · exact ⟨_, rfl, .inr (.inl rfl)⟩
  · exact ⟨_, rfl, .inr (.inr (.inr (.inr rfl)))⟩
theorem at2i {x y r : Int} (h0 : 0 ≤ r) (h1 : r < 2) : ∃ z : Int, atI ([.int x, .int y] : List V) r = some (.int z) ∧ (z = x ∨ z = y) := by
  have : r = 0 ∨ r = 1 := by omega
  rcases this with z | z <;> subst z
  · exact ⟨_, rfl, .inl rfl⟩
  · exact ⟨_, rfl, .inr rfl⟩
def spRows60 : Sp := fun vs H Q _ => ∃ (b : Addr) (c : Int) (m n : Nat), vs = [.ref b, .int (m : Int), .int (n : Int)] ∧ BoxAt c H b ∧ c ≤ 800000000 ∧ 1 ≤ m ∧ m ≤ 100 ∧ n ≤ 200 ∧
  ∀ (R : Addr) (gs : List Gt) (H' : Hp), gs.length = n → GsOk m gs → R ≠ b → RowsAt46 H' R gs → BoxAt (c + 10 * n) H' b → Keep b H H' → Q (.ref R) H'
theorem ok__law_gate_rows (B : Bl mg) (L : LL K mg C za zl) : FnOk P w K mg base CX0 2 (za 20) (zl 20) ["_law_box_here", "_law_first", "_law_many"] spRows60 := by
  have G__law_take : FnOk P w K mg base CX0 1 (za 17) (zl 17) ["_law_box_here", "_law_size"] (spTake 1) := (ok_take L.F__law_take L.b__law_take L.m__law_take B 1).mono (by decide)
  refine L.F__law_gate_rows.ok sc__law_gate_rows (fun vs H Q E h => ?_) (fun cdv A outer s H vs Q E hr h => ?_)
  · obtain ⟨b, c, m, n, rfl, _⟩ := h
    rfl
  obtain ⟨b, c, m, n, rfl, hB, hc, m1, m9, hn, q⟩ := h
  refine ⟨_, (pss_cons (ps_set (i := 3) sc__law_gate_rows.nd rfl (.inl rfl) (pe_lst pa_nil))
    (pss_cons (ps_for PassesOwn.never rfl (pi_range1 (by rfl) B.range (pa_cons (pv 2) pa_nil)) (pg_name (i := 4) sc__law_gate_rows.nd rfl (.inl rfl)) (pss_cons (ps_set (i := 5) sc__law_gate_rows.nd rfl (.inl rfl) (pe_op op_add (pv 1) (pv 4)))
    (pss_cons (ps_set (i := 6) sc__law_gate_rows.nd rfl (.inl rfl) (pe_ix ix_list (pe_lst (pa_cons pe_str (pa_cons pe_str (pa_cons pe_str (pa_cons pe_str (pa_cons pe_str (pa_cons pe_str (pa_cons pe_str (pa_cons pe_str pa_nil))))))))) (pe_call G__law_take hr (by rfl) L.m__law_take L.F__law_take.kp L.b__law_take .nil pass0 (pa_cons (pv 0) (pa_cons pe_int pa_nil))) (fun _ _ => rfl)))
    (pss_cons (ps_par (by rfl) sc__law_gate_rows.nd (i := 7) (j := 8) rfl rfl (by decide) rfl rfl (pa_cons (pe_op op_sub (pe_op op_sub (pv 5) pe_int) (pe_call G__law_take hr (by rfl) L.m__law_take L.F__law_take.kp L.b__law_take .nil pass0 (pa_cons (pv 0) (pa_cons (pe_callB (call_min2 rfl) (by rfl) B.min boot_min (pa_cons (pv 5) (pa_cons (pe_ix ix_list (pe_lst (pa_cons pe_int (pa_cons pe_int pa_nil))) (pe_call G__law_take hr (by rfl) L.m__law_take L.F__law_take.kp L.b__law_take .nil pass0 (pa_cons (pv 0) (pa_cons pe_int pa_nil))) (fun _ _ => rfl)) pa_nil))) pa_nil)))) (pa_cons (pe_call G__law_take hr (by rfl) L.m__law_take L.F__law_take.kp L.b__law_take .nil pass0 (pa_cons (pv 0) (pa_cons (pv 5) pa_nil))) pa_nil)) (by rfl))
    (pss_one (ps_if (pt_cmpR op_eq (pv 6) pe_str (nomark _)) (pss_one (ps_expr (pe_bm PySem.F.plainAttrs_list PySem.F.slot_list_append PySem.F.type_list_append mt_append (pv 3) (pa_cons (pe_tup (pa_cons (pv 6) (pa_cons (pe_call G__law_take hr (by rfl) L.m__law_take L.F__law_take.kp L.b__law_take .nil pass0 (pa_cons (pv 0) (pa_cons pe_int pa_nil))) pa_nil))) pa_nil)))) (pss_one (ps_expr (pe_bm PySem.F.plainAttrs_list PySem.F.slot_list_append PySem.F.type_list_append mt_append (pv 3) (pa_cons (pe_ifExp (pt_cmpR op_eq (pv 6) pe_str (nomark _)) (pe_tup (pa_cons (pv 6) (pa_cons (pv 7) pa_nil))) (pe_tup (pa_cons (pv 6) (pa_cons (pv 7) (pa_cons (pv 8) pa_nil))))) pa_nil))))))))))
    (pss_one (ps_ret (pv 3))))), ?_⟩
  refine ⟨Nat.zero_le _, fun R nR => ?_⟩
  have nRb : R ≠ b := (hB.ne nR).symm
  have sR := same_upd (o := .lst []) nR
  try simp only [L2.start, List.map_cons, List.map_nil, List.length_cons, List.length_nil, List.replicate_succ, List.replicate_zero, List.cons_append, List.nil_append, List.set_cons_succ, List.set_cons_zero, Nat.reduceAdd, Nat.reduceSub, Nat.zero_add]
  refine ⟨_, rfl, _, rfl, by omega, by omega, ?_⟩
  rw [Int.toNat_natCast]
  refine for_range (n := n) (fun j σ H5 => ∃ (gs : List Gt) (y4 y5 y6 y7 y8 : Option V), σ = [some (.ref b), some (.int (m : Int)), some (.int (n : Int)), some (.ref R), y4, y5, y6, y7, y8] ∧ gs.length = j ∧ GsOk m gs ∧ RowsAt46 H5 R gs ∧ BoxAt (c + 10 * j) H5 b ∧ Keep b H H5) ⟨[], none, none, none, none, none, rfl, rfl, (fun i g h => by simp at h), ⟨[], rfl, upd_same, fun i t g h => by simp at h⟩, (hB.same sR).mono (by omega), Keep.ofSame sR⟩ ?_ ?_
  · rintro j σ H5 hj ⟨gs, y4, y5, y6, y7, y8, rfl, lg, ok, ⟨ts, lt, eR, hts⟩, B5, k5⟩
    try simp only [L2.start, List.map_cons, List.map_nil, List.length_cons, List.length_nil, List.replicate_succ, List.replicate_zero, List.cons_append, List.nil_append, List.set_cons_succ, List.set_cons_zero, Nat.reduceAdd, Nat.reduceSub, Nat.zero_add]
    refine ⟨_, rfl, _, rfl, _, _, rfl, rfl, ?_⟩
    try simp only [L2.start, List.map_cons, List.map_nil, List.length_cons, List.length_nil, List.replicate_succ, List.replicate_zero, List.cons_append, List.nil_append, List.set_cons_succ, List.set_cons_zero, Nat.reduceAdd, Nat.reduceSub, Nat.zero_add]
    have hM : (m : Int) + (0 + (j : Int)) = ((m + j : Nat) : Int) := by omega
    rw [hM]
    dsimp only [gName]
    try simp only [L2.start, List.map_cons, List.map_nil, List.length_cons, List.length_nil, List.replicate_succ, List.replicate_zero, List.cons_append, List.nil_append, List.set_cons_succ, List.set_cons_zero, Nat.reduceAdd, Nat.reduceSub, Nat.zero_add]
    refine ⟨(by show 8 ≤ sizeLine; decide), fun K1 nK1 => ?_⟩
    have s1 := same_upd (o := .lst [.str "both", .str "either", .str "unlike", .str "other", .str "both", .str "unlike", .str "either", .str "fixed"]) nK1
    have eK1 : (upd H5 K1 (.lst [.str "both", .str "either", .str "unlike", .str "other", .str "both", .str "unlike", .str "either", .str "fixed"])) K1 = some (.lst [.str "both", .str "either", .str "unlike", .str "other", .str "both", .str "unlike", .str "either", .str "fixed"]) := upd_same
    have nK1b : K1 ≠ b := (B5.ne nK1).symm
    refine ⟨_, rfl, b, _, _, rfl, B5.same s1, by decide, by decide, by decide, by omega, by decide, fun r1 H6 u1 v1 B6 k6 => ?_⟩
    replace B6 := bx1 B6
    obtain ⟨w, ew, hw⟩ := at8s u1 v1
    refine ⟨K1, _, _, _, rfl, rfl, SqL.of (k6 _ _ eK1 nK1b), ew, ?_⟩
    try simp only [L2.start, List.map_cons, List.map_nil, List.length_cons, List.length_nil, List.replicate_succ, List.replicate_zero, List.cons_append, List.nil_append, List.set_cons_succ, List.set_cons_zero, Nat.reduceAdd, Nat.reduceSub, Nat.zero_add]
    refine ⟨_, rfl, _, _, rfl, rfl, ?_⟩
    refine ⟨_, rfl, ?_⟩
    try simp only [L2.start, List.map_cons, List.map_nil, List.length_cons, List.length_nil, List.replicate_succ, List.replicate_zero, List.cons_append, List.nil_append, List.set_cons_succ, List.set_cons_zero, Nat.reduceAdd, Nat.reduceSub, Nat.zero_add]
    refine ⟨_, rfl, (by show 2 ≤ sizeLine; decide), fun K2 nK2 => ?_⟩
    have s2 := same_upd (o := .lst [.int 3, .int 99]) nK2
    have eK2 : (upd H6 K2 (.lst [.int 3, .int 99])) K2 = some (.lst [.int 3, .int 99]) := upd_same
    have nK2b : K2 ≠ b := (B6.ne nK2).symm
    refine ⟨_, rfl, b, _, _, rfl, B6.same s2, by decide, by decide, by decide, by omega, by decide, fun r2 H7 u2 v2 B7 k7 => ?_⟩
    replace B7 := bx1 B7
    obtain ⟨q2, eq2, hq2⟩ := at2i (x := 3) (y := 99) u2 v2
    refine ⟨K2, _, _, _, rfl, rfl, SqL.of (k7 _ _ eK2 nK2b), eq2, ?_⟩
    obtain ⟨mn, emn, n1, n6, n7⟩ : ∃ mn : Int, (if q2 < ((m + j : Nat) : Int) then q2 else ((m + j : Nat) : Int)) = mn ∧ 1 ≤ mn ∧ mn ≤ ((m + j : Nat) : Int) ∧ mn ≤ 99 := ⟨_, rfl, by split <;> omega, by split <;> omega, by split <;> omega⟩
    refine ⟨_, _, rfl, ?_⟩
    rw [emn]
    refine ⟨b, _, _, rfl, B7, by omega, by omega, by omega, by omega, by decide, fun r3 H8 u3 v3 B8 k8 => ?_⟩
    replace B8 := bx1 B8
    refine ⟨_, _, rfl, rfl, ?_⟩
    refine ⟨_, rfl, _, rfl, b, _, _, rfl, B8, by omega, by omega, by omega, by omega, by decide, fun r4 H9 u4 v4 B9 k9 => ?_⟩
    replace B9 := bx1 B9
    refine ⟨_, _, rfl, ?_⟩
    try simp only [L2.start, List.map_cons, List.map_nil, List.length_cons, List.length_nil, List.replicate_succ, List.replicate_zero, List.cons_append, List.nil_append, List.set_cons_succ, List.set_cons_zero, Nat.reduceAdd, Nat.reduceSub, Nat.zero_add]
    have kA : Keep b H5 H9 := ((((Keep.ofSame s1).trans k6).trans (Keep.ofSame s2)).trans k7).trans (k8.trans k9)
    have hts9 : ∀ (HT : Hp), Keep b H5 HT → ∀ (i : Nat) (t : Addr) (g : Gt), ts[i]? = some t → gs[i]? = some g → HT t = some (.tup g.row) := fun HT kT i t g hi hg => kT _ _ (hts i t g hi hg) (fun z => by
      obtain ⟨_, _, _, eb, _⟩ := B5
      have := hts i t g hi hg
      rw [z, eb] at this
      cases this)
    have fin : ∀ (g : Gt) (T : Addr) (HT : Hp) (z4 z5 z6 z7 z8 : Option V), g.ok (m + j) → Keep b H5 HT → BoxAt (c + 10 * (j + 1 : Nat)) HT b → HT T = some (.tup g.row) → ∃ (gs : List Gt) (y4 y5 y6 y7 y8 : Option V), [some (.ref b), some (.int (m : Int)), some (.int (n : Int)), some (.ref R), z4, z5, z6, z7, z8] = [some (.ref b), some (.int (m : Int)), some (.int (n : Int)), some (.ref R), y4, y5, y6, y7, y8] ∧ gs.length = j + 1 ∧ GsOk m gs ∧ RowsAt46 (upd HT R (.lst (ts.map V.ref ++ [.ref T]))) R gs ∧ BoxAt (c + 10 * (j + 1 : Nat)) (upd HT R (.lst (ts.map V.ref ++ [.ref T]))) b ∧ Keep b H (upd HT R (.lst (ts.map V.ref ++ [.ref T]))) := fun g T HT z4 z5 z6 z7 z8 hg kT BT eT => by
      have eRT := kT _ _ eR nRb
      have nTR : T ≠ R := fun z => by
        rw [z, eRT] at eT
        cases eT
      refine ⟨gs ++ [g], _, _, _, _, _, rfl, by rw [List.length_append, lg]; rfl, fun i g' h => ?_, ⟨ts ++ [T], by rw [List.length_append, List.length_append, lt]; rfl, by rw [upd_same, List.map_append]; rfl, fun i t' g' hi hg' => ?_⟩, BT.at (upd_ne nRb.symm), fun y u e ny => ?_⟩
      · by_cases d : i < gs.length
        · rw [List.getElem?_append_left d] at h
          exact ok i g' h
        · have i0 : i = gs.length := by
            have := (List.getElem?_eq_some_iff.mp h).1
            rw [List.length_append, List.length_cons, List.length_nil] at this
            omega
          rw [List.getElem?_append_right (by omega), i0, Nat.sub_self] at h
          cases h
          rw [i0, lg]
          exact hg
      · by_cases d : i < ts.length
        · rw [List.getElem?_append_left d] at hi
          rw [List.getElem?_append_left (by omega)] at hg'
          have e1 := hts9 HT kT i t' g' hi hg'
          rw [upd_ne (fun z => by rw [z, eRT] at e1; cases e1)]
          exact e1
        · have i0 : i = ts.length := by
            have := (List.getElem?_eq_some_iff.mp hi).1
            rw [List.length_append, List.length_cons, List.length_nil] at this
            omega
          rw [List.getElem?_append_right (by omega), i0, Nat.sub_self] at hi
          rw [List.getElem?_append_right (by omega), i0, lt, Nat.sub_self] at hg'
          cases hi
          cases hg'
          rw [upd_ne nTR]
          exact eT
      · rw [upd_ne (ne_of_none e nR)]
        exact kT _ _ (k5 _ _ e ny) ny
    have lts : (ts.map V.ref).length < sizeLine := by
      rw [List.length_map, lt, lg]
      exact Nat.lt_of_le_of_lt (show j ≤ 200 by omega) (by decide)
    obtain ⟨a, ea⟩ : ∃ a : Nat, r4 = (a : Int) := ⟨r4.toNat, by omega⟩
    obtain ⟨a', ea'⟩ : ∃ a : Nat, ((m + j : Nat) : Int) - 1 - r3 = (a : Int) := ⟨(((m + j : Nat) : Int) - 1 - r3).toNat, by omega⟩
    rw [ea', ea]
    have la : a < m + j := by omega
    have la' : a' < m + j := by omega
    have eR9 := kA _ _ eR nRb
    have nS : ∀ {x y : Str}, ¬ x = y → ¬ decide (V.str x = V.str y) = true := fun h z => h (V.str.inj (of_decide_eq_true z))
    refine ⟨_, rfl, rfl, _, rfl, ite2 (fun cf => ?_) (fun cf => ?_)⟩
    · have cf : w = "fixed" := V.str.inj (of_decide_eq_true cf)
      subst cf
      refine ⟨_, rfl, .inl ⟨rfl, _, SqL.of eR9⟩, _, rfl, _, rfl, b, _, _, rfl, B9, by decide, by decide, by decide, by omega, by decide, fun r5 HA u5 v5 BA kX => ?_⟩
      replace BA := bx1 BA
      obtain ⟨a5, rfl⟩ : ∃ a : Nat, r5 = (a : Int) := ⟨r5.toNat, by omega⟩
      refine ⟨(by show 2 ≤ sizeLine; decide), fun T nT => ?_⟩
      have sT := same_upd (o := .tup [.str "fixed", .int (a5 : Int)]) nT
      refine ⟨R, _, _, rfl, rfl, sT _ _ (kX _ _ eR9 nRb), lts, ?_⟩
      exact fin (.fi a5) T _ _ _ _ _ _ (show a5 ≤ 1 by omega) ((kA.trans kX).trans (Keep.ofSame sT)) (BoxAt.mono (BA.same sT) (by omega)) upd_same
    · have cf : ¬ w = "fixed" := fun z => cf (decide_eq_true (congrArg V.str z))
      refine ⟨_, rfl, .inl ⟨rfl, _, SqL.of eR9⟩, _, rfl, rfl, _, rfl, ite2 (fun co => ?_) (fun co => ?_)⟩
      · have co : w = "other" := V.str.inj (of_decide_eq_true co)
        subst co
        refine ⟨_, rfl, _, rfl, (by show 2 ≤ sizeLine; decide), fun T nT => ?_⟩
        have sT := same_upd (o := .tup [.str "other", .int (a' : Int)]) nT
        refine ⟨R, _, _, rfl, rfl, sT _ _ eR9, lts, ?_⟩
        exact fin (.w "other" [a']) T _ _ _ _ _ _ ⟨.inr ⟨rfl, rfl⟩, fun x hx => by rw [List.mem_singleton.mp hx]; exact la'⟩ (kA.trans (Keep.ofSame sT)) (BoxAt.mono (B9.same sT) (by omega)) upd_same
      · have co : ¬ w = "other" := fun z => co (decide_eq_true (congrArg V.str z))
        have hk : w = "both" ∨ w = "either" ∨ w = "unlike" := by
          rcases hw with z | z | z | z | z
          · exact .inl z
          · exact .inr (.inl z)
          · exact .inr (.inr z)
          · exact absurd z co
          · exact absurd z cf
        refine ⟨_, rfl, _, rfl, _, rfl, (by show 3 ≤ sizeLine; decide), fun T nT => ?_⟩
        have sT := same_upd (o := .tup [.str w, .int (a' : Int), .int (a : Int)]) nT
        refine ⟨R, _, _, rfl, rfl, sT _ _ eR9, lts, ?_⟩
        refine fin (.w w [a', a]) T _ _ _ _ _ _ ⟨.inl ⟨hk, rfl⟩, fun x hx => ?_⟩ (kA.trans (Keep.ofSame sT)) (BoxAt.mono (B9.same sT) (by omega)) upd_same
        simp only [List.mem_cons, List.not_mem_nil, or_false] at hx
        rcases hx with z | z <;> rw [z] <;> assumption
  · rintro σ H5 ⟨gs, y4, y5, y6, y7, y8, rfl, lg, ok, hR, B5, k5⟩
    exact ⟨_, rfl, q R gs _ lg ok nRb hR B5 k5⟩
end
section
variable {P : Program} {w : World} {K : PySem.W.Frag} {mg : Str → Option Value} {base : Heap}
variable {C : Addr} {za : Nat → Addr} {zl : Nat → FuncData}
/-! ### names and wires drawn -/
def W9 : List Str := ["sum", "word", "flags", "b", "", "Z 1", "guess", "zz", "a"]
def wd (i k : Nat) : Str := W9.getD i "" ++ strRep "x" k
theorem wd_ne {i j k l : Nat} (hi : i < 9) (hj : j < 9) (hk : k < 4) (hl : l < 4) (h : k ≠ l) : wd i k ≠ wd j l := by
  have all : (List.range 9).all (fun i => (List.range 9).all fun j => (List.range 4).all fun k => (List.range 4).all fun l => k == l || decide (wd i k ≠ wd j l)) = true := by decide +kernel
  have a := List.all_eq_true.mp all i (List.mem_range.mpr hi)
  have a := List.all_eq_true.mp a j (List.mem_range.mpr hj)
  have a := List.all_eq_true.mp a k (List.mem_range.mpr hk)
  have a := List.all_eq_true.mp a l (List.mem_range.mpr hl)
  rcases Bool.or_eq_true _ _ ▸ a with z | z
  · exact absurd (beq_iff_eq.mp z) h
  · exact of_decide_eq_true z
theorem w9_len {i : Nat} (hi : i < 9) : (W9.getD i "").length ≤ 5 := by
  have all : (List.range 9).all (fun i => decide ((W9.getD i "").length ≤ 5)) = true := by decide +kernel
  exact of_decide_eq_true (List.all_eq_true.mp all i (List.mem_range.mpr hi))
theorem at9s {r : Int} (h0 : 0 ≤ r) (h1 : r < 9) : ∃ i : Nat, i < 9 ∧ atI (W9.map V.str) r = some (.str (W9.getD i "")) := by
  obtain ⟨i, rfl⟩ : ∃ i : Nat, r = (i : Int) := ⟨r.toNat, by omega⟩
  refine ⟨i, by omega, atI_nat ?_⟩
  have hi : i < W9.length := by
    show i < 9
    omega
  rw [List.getElem?_map, List.getElem?_eq_getElem hi, List.getD, List.getElem?_eq_getElem hi]
  rfl
def spWord60 : Sp := fun vs H Q _ => ∃ (b : Addr) (c : Int) (k : Nat), vs = [.ref b, .int (k : Int)] ∧ BoxAt c H b ∧ c ≤ 900000000 ∧ k ≤ 3 ∧
  ∀ (i : Nat) (H' : Hp), i < 9 → BoxAt (c + 1) H' b → Keep b H H' → Q (.str (wd i k)) H'
theorem ok__law_word_of (B : Bl mg) (L : LL K mg C za zl) : FnOk P w K mg base CX0 2 (za 25) (zl 25) ["_law_box_here", "_law_some"] spWord60 := by
  have G__law_take : FnOk P w K mg base CX0 1 (za 17) (zl 17) ["_law_box_here", "_law_size"] (spTake 1) := (ok_take L.F__law_take L.b__law_take L.m__law_take B 1).mono (by decide)
  refine L.F__law_word_of.ok sc__law_word_of (fun vs H Q E h => ?_) (fun cdv A outer s H vs Q E hr h => ?_)
  · obtain ⟨b, c, k, rfl, _⟩ := h
    rfl
  obtain ⟨b, c, k, rfl, hB, hc, hk, q⟩ := h
  refine ⟨_, (pss_one (ps_ret (pe_op op_add_str (pe_ix ix_list (pe_lst (pa_cons pe_str (pa_cons pe_str (pa_cons pe_str (pa_cons pe_str (pa_cons pe_str (pa_cons pe_str (pa_cons pe_str (pa_cons pe_str (pa_cons pe_str pa_nil)))))))))) (pe_call G__law_take hr (by rfl) L.m__law_take L.F__law_take.kp L.b__law_take .nil pass0 (pa_cons (pv 0) (pa_cons pe_int pa_nil))) (fun _ _ => rfl)) (pe_op op_mul_str pe_str (pv 1))))), ?_⟩
  refine ⟨(by show 9 ≤ sizeLine; decide), fun K1 nK1 => ?_⟩
  have s1 := same_upd (o := .lst (W9.map V.str)) nK1
  have eK1 : (upd H K1 (.lst (W9.map V.str))) K1 = some (.lst (W9.map V.str)) := upd_same
  have nK1b : K1 ≠ b := (hB.ne nK1).symm
  refine ⟨_, rfl, b, _, _, rfl, hB.same s1, by decide, by decide, by decide, by omega, by decide, fun r1 H6 u1 v1 B6 k6 => ?_⟩
  replace B6 := bx1 B6
  obtain ⟨i, hi, ei⟩ := at9s u1 v1
  refine ⟨K1, _, _, _, rfl, rfl, SqL.of (k6 _ _ eK1 nK1b), ei, ?_⟩
  have l5 := w9_len hi
  refine ⟨_, rfl, _, k, rfl, rfl, by decide, by omega, _, _, rfl, rfl, ?_, q i H6 hi B6 ((Keep.ofSame s1).trans k6)⟩
  rw [strRep_len]
  have : ("x" : Str).length = 1 := by decide +kernel
  rw [this]
  exact Nat.le_trans (show _ ≤ 100 by omega) (by decide)
def GvOk (m : Nat) (nm : List (Str × List Nat)) : Prop := ∀ (i : Nat) (n : Str) (ws : List Nat), nm[i]? = some (n, ws) → (∃ w, w < 9 ∧ n = wd w i) ∧ ws.length ≤ 4 ∧ ∀ a ∈ ws, a < m
def GvAt (b : Addr) (H : Hp) (F : Addr) (nm : List (Str × List Nat)) : Prop := F ≠ b ∧ ∃ ts : List Addr, ts.length = nm.length ∧ H F = some (.lst (ts.map V.ref)) ∧ ∀ (i : Nat) (t : Addr) (n : Str) (ws : List Nat), ts[i]? = some t → nm[i]? = some (n, ws) → t ≠ b ∧ ∃ l, l ≠ b ∧ l ≠ F ∧ H t = some (.tup [.str n, .ref l]) ∧ H l = some (.lst (nts ws))
theorem GvAt.keep {b F : Addr} {H H' : Hp} {nm : List (Str × List Nat)} (h : GvAt b H F nm) (k : Keep b H H') : GvAt b H' F nm := by
  obtain ⟨h0, ts, h1, h2, h3⟩ := h
  refine ⟨h0, ts, h1, k _ _ h2 h0, fun i t n ws ht hn => ?_⟩
  obtain ⟨q0, l, q1, qF, q2, q3⟩ := h3 i t n ws ht hn
  exact ⟨q0, l, q1, qF, k _ _ q2 q0, k _ _ q3 q1⟩
def spGiven60 : Sp := fun vs H Q _ => ∃ (b : Addr) (c : Int) (m : Nat), vs = [.ref b, .int (m : Int)] ∧ BoxAt c H b ∧ c ≤ 800000000 ∧ 1 ≤ m ∧ m ≤ 900 ∧
  ∀ (F : Addr) (nm : List (Str × List Nat)) (H' : Hp), 1 ≤ nm.length → nm.length ≤ 3 → GvOk m nm → GvAt b H' F nm → BoxAt (c + 40) H' b → Keep b H H' → Q (.ref F) H'
theorem ok__law_given (B : Bl mg) (L : LL K mg C za zl) : FnOk P w K mg base CX0 3 (za 26) (zl 26) ["_law_box_here", "_law_far"] spGiven60 := by
  have G__law_take : FnOk P w K mg base CX0 2 (za 17) (zl 17) ["_law_box_here", "_law_size"] (spTake 1) := (ok_take L.F__law_take L.b__law_take L.m__law_take B 1).mono (by decide)
  have G__law_word_of : FnOk P w K mg base CX0 2 (za 25) (zl 25) ["_law_box_here", "_law_some"] spWord60 := (ok__law_word_of B L).mono (by decide)
  refine L.F__law_given.ok sc__law_given (fun vs H Q E h => ?_) (fun cdv A outer s H vs Q E hr h => ?_)
  · obtain ⟨b, c, m, rfl, _⟩ := h
    rfl
  obtain ⟨b, c, m, rfl, hB, hc, m1, m9, q⟩ := h
  refine ⟨_, (pss_cons (ps_set (i := 2) sc__law_given.nd rfl (.inl rfl) (pe_lst pa_nil))
    (pss_cons (ps_for PassesOwn.never rfl (pi_range1 (by rfl) B.range (pa_cons (pe_op op_add pe_int (pe_call G__law_take hr (by rfl) L.m__law_take L.F__law_take.kp L.b__law_take .nil pass0 (pa_cons (pv 0) (pa_cons pe_int pa_nil)))) pa_nil)) (pg_name (i := 3) sc__law_given.nd rfl (.inl rfl)) (pss_cons (ps_setLc (i := 4) (own := [("_law_turn", 5)]) (by rfl) sc__law_given.nd rfl rfl (sw_true rfl rfl rfl (by decide +kernel)) (pi_range1 (by rfl) B.range (pa_cons (pe_call G__law_take hr (by rfl) L.m__law_take L.F__law_take.kp L.b__law_take .nil pass0 (pa_cons (pv 0) (pa_cons pe_int pa_nil))) pa_nil)) (blkOk_by (own := [("_law_turn", 5)]) (N := ["_law_box_here", "_law_far", "_law_found", "_law_k", "_law_wires", "_law_turn"]) (sc := defScope s__law_given) (by decide +kernel)) (fun _ _ _ _ _ => pg_name (i := 5) sc__law_given.nd rfl (Or.inl rfl)) (fun _ _ _ _ _ => pts_nil) (fun _ _ _ _ _ => (pe_op op_sub (pe_op op_sub (pv 1) pe_int) (pe_call G__law_take hr (by rfl) L.m__law_take L.F__law_take.kp L.b__law_take .nil pass0 (pa_cons (pv 0) (pa_cons (pe_callB (call_min2 rfl) (by rfl) B.min boot_min (pa_cons (pv 1) (pa_cons (pe_ix (ix_listK (K := K)) (pe_lst (pa_cons pe_int (pa_cons pe_int pa_nil))) (pe_call G__law_take hr (by rfl) L.m__law_take L.F__law_take.kp L.b__law_take .nil pass0 (pa_cons (pv 0) (pa_cons pe_int pa_nil))) (fun _ _ => rfl)) pa_nil))) pa_nil))))))
    (pss_one (ps_expr (pe_bm PySem.F.plainAttrs_list PySem.F.slot_list_append PySem.F.type_list_append mt_append (pv 2) (pa_cons (pe_tup (pa_cons (pe_call G__law_word_of hr (by rfl) L.m__law_word_of L.F__law_word_of.kp L.b__law_word_of .nil pass0 (pa_cons (pv 0) (pa_cons (pv 3) pa_nil))) (pa_cons (pv 4) pa_nil))) pa_nil))))))
    (pss_one (ps_ret (pv 2))))), ?_⟩
  refine ⟨Nat.zero_le _, fun R nR => ?_⟩
  dsimp only [gName]
  try simp only [L2.start, List.map_cons, List.map_nil, List.length_cons, List.length_nil, List.replicate_succ, List.replicate_zero, List.cons_append, List.nil_append, List.set_cons_succ, List.set_cons_zero, Nat.reduceAdd, Nat.reduceSub, Nat.zero_add]
  refine ⟨_, rfl, b, _, _, rfl, hB.same (same_upd nR), by decide, by decide, by decide, by omega, by decide, fun r0 H0 u0 v0 B0 k0 => ?_⟩
  replace B0 := bx1 B0
  refine ⟨_, _, rfl, rfl, ?_⟩
  have nRb : R ≠ b := (hB.ne nR).symm
  have sR := same_upd (o := .lst []) nR
  have eR0 := k0 _ _ (upd_same (H := H) (a := R) (o := .lst [])) nRb
  have kR : Keep b H H0 := (Keep.ofSame sR).trans k0
  obtain ⟨n, en, n1, n3⟩ : ∃ n : Nat, (1 : Int) + r0 = (n : Int) ∧ 1 ≤ n ∧ n ≤ 3 := ⟨(1 + r0).toNat, by omega, by omega, by omega⟩
  refine ⟨_, rfl, by omega, by omega, ?_⟩
  rw [en, Int.toNat_natCast]
  refine for_range (n := n) (fun j σ H5 => ∃ (nm : List (Str × List Nat)) (y3 y4 y5 : Option V), σ = [some (.ref b), some (.int (m : Int)), some (.ref R), y3, y4, y5] ∧ nm.length = j ∧ GvOk m nm ∧ GvAt b H5 R nm ∧ BoxAt (c + 1 + 10 * j) H5 b ∧ Keep b H H5) ⟨[], _, _, _, rfl, rfl, (fun i n ws h => by simp at h), ⟨nRb, [], rfl, eR0, fun i t n ws h => by simp at h⟩, B0.mono (by omega), kR⟩ ?_ ?_
  · rintro j σ H5 hj ⟨nm, y3, y4, y5, rfl, lg, ok, ⟨_, ts, lt, eR, hts⟩, B5, k5⟩
    try simp only [L2.start, List.map_cons, List.map_nil, List.length_cons, List.length_nil, List.replicate_succ, List.replicate_zero, List.cons_append, List.nil_append, List.set_cons_succ, List.set_cons_zero, Nat.reduceAdd, Nat.reduceSub, Nat.zero_add]
    refine ⟨_, rfl, b, _, _, rfl, B5, by decide, by decide, by decide, by omega, by decide, fun r1 H6 u1 v1 B6 k6 => ?_⟩
    replace B6 := bx1 B6
    obtain ⟨w, rfl⟩ : ∃ w : Nat, r1 = (w : Int) := ⟨r1.toNat, by omega⟩
    refine ⟨_, rfl, by omega, by omega, fun D nD => ?_⟩
    have nDb : D ≠ b := (B6.ne nD).symm
    have eR6 := k6 _ _ eR nRb
    have nDR : D ≠ R := fun z => by
      rw [z, eR6] at nD
      cases nD
    rw [Int.toNat_natCast]
    refine lc_range (n := w) (fun i H7 => Keep b H6 H7 ∧ BoxAt (c + 1 + 10 * j + 1 + 2 * i) H7 b ∧ ∃ l : List Nat, l.length = i ∧ (∀ a ∈ l, a < m) ∧ H7 D = some (.lst (nts l))) ⟨Keep.new nD, (B6.same (same_upd nD)).mono (by omega), [], rfl, (fun _ z => nomatch z), upd_same⟩ ?_ ?_
    · rintro i H7 hi ⟨k7, B7, l, ll, sl, eD⟩
      refine ⟨rfl, yesT ?_⟩
      refine ⟨_, rfl, _, _, rfl, rfl, _, rfl, _, rfl, (by show 2 ≤ sizeLine; decide), fun K2 nK2 => ?_⟩
      have s2 := same_upd (o := .lst [.int 6, .int 99]) nK2
      have eK2 : (upd H7 K2 (.lst [.int 6, .int 99])) K2 = some (.lst [.int 6, .int 99]) := upd_same
      have nK2b : K2 ≠ b := (B7.ne nK2).symm
      refine ⟨_, rfl, b, _, _, rfl, B7.same s2, by decide, by decide, by decide, by omega, by decide, fun r2 H8 u2 v2 B8 k8 => ?_⟩
      replace B8 := bx1 B8
      obtain ⟨q2, eq2, hq2⟩ := at2i (x := 6) (y := 99) u2 v2
      refine ⟨K2, _, _, _, rfl, rfl, SqL.of (k8 _ _ eK2 nK2b), eq2, ?_⟩
      obtain ⟨mn, emn, n1, n6, n7⟩ : ∃ mn : Int, (if q2 < (m : Int) then q2 else (m : Int)) = mn ∧ 1 ≤ mn ∧ mn ≤ (m : Int) ∧ mn ≤ 99 := ⟨_, rfl, by split <;> omega, by split <;> omega, by split <;> omega⟩
      refine ⟨_, _, rfl, ?_⟩
      rw [emn]
      refine ⟨b, _, _, rfl, B8, by omega, by omega, by omega, by omega, by decide, fun r3 H9 u3 v3 B9 k9 => ?_⟩
      replace B9 := bx1 B9
      refine ⟨_, _, rfl, rfl, ?_⟩
      obtain ⟨a, ea⟩ : ∃ a : Nat, (m : Int) - 1 - r3 = (a : Int) := ⟨((m : Int) - 1 - r3).toNat, by omega⟩
      have kk : Keep b H7 H9 := ((Keep.ofSame s2).trans k8).trans k9
      refine ⟨_, kk _ _ eD nDb, ?_, fun x u e n => ?_, BoxAt.mono (B9.at (upd_ne nDb.symm)) (by omega), l ++ [a], by rw [List.length_append, ll]; rfl, fun x hx => ?_, ?_⟩
      · rw [nts_len]
        exact small1000 (by omega)
      · rw [upd_ne (ne_of_none e nD)]
        exact kk _ _ (k7 _ _ e n) n
      · rcases List.mem_append.mp hx with z | z
        · exact sl x z
        · rw [List.mem_singleton.mp z]
          omega
      · rw [upd_same]
        show some (HO.lst (nts l ++ [V.int ((m : Int) - 1 - r3)])) = _
        rw [ea]
        unfold nts
        rw [List.map_append]
        rfl
    rintro H7 ⟨k7, B7, l, ll, sl, eD⟩
    try simp only [L2.start, List.map_cons, List.map_nil, List.length_cons, List.length_nil, List.replicate_succ, List.replicate_zero, List.cons_append, List.nil_append, List.set_cons_succ, List.set_cons_zero, Nat.reduceAdd, Nat.reduceSub, Nat.zero_add]
    dsimp only [gName]
    try simp only [L2.start, List.map_cons, List.map_nil, List.length_cons, List.length_nil, List.replicate_succ, List.replicate_zero, List.cons_append, List.nil_append, List.set_cons_succ, List.set_cons_zero, Nat.reduceAdd, Nat.reduceSub, Nat.zero_add]
    rw [Int.zero_add]
    have eR7 := k7 _ _ eR6 nRb
    refine ⟨_, rfl, .inl ⟨rfl, _, SqL.of eR7⟩, _, rfl, _, rfl, b, _, j, rfl, B7, by omega, by omega, fun i HA hi BA kX => ?_⟩
    refine ⟨_, rfl, (by show 2 ≤ sizeLine; decide), fun T nT => ?_⟩
    have sT := same_upd (o := .tup [.str (wd i j), .ref D]) nT
    have nTb : T ≠ b := (BA.ne nT).symm
    have k5A : Keep b H5 HA := (k6.trans k7).trans kX
    have eRA := kX _ _ eR7 nRb
    have nTR : T ≠ R := fun z => by
      rw [z, eRA] at nT
      cases nT
    have kT : Keep b H5 (upd HA T (.tup [.str (wd i j), .ref D])) := k5A.trans (Keep.ofSame sT)
    have eDT := sT _ _ (kX _ _ eD nDb)
    have eTT : (upd HA T (.tup [.str (wd i j), .ref D])) T = some (.tup [.str (wd i j), .ref D]) := upd_same
    have eRT := sT _ _ eRA
    have BT := BA.same sT
    generalize upd HA T (.tup [.str (wd i j), .ref D]) = HT at *
    refine ⟨R, _, _, rfl, rfl, eRT, ?_, ?_⟩
    · rw [List.length_map, lt, lg]
      exact small1000 (by omega)
    refine ⟨nm ++ [(wd i j, l)], _, _, _, rfl, by rw [List.length_append, lg]; rfl, fun i' n' ws' h => ?_, ⟨nRb, ts ++ [T], by rw [List.length_append, List.length_append, lt]; rfl, by rw [upd_same, List.map_append]; rfl, fun i' t' n' ws' hi' hg' => ?_⟩, BoxAt.mono (BT.at (upd_ne nRb.symm)) (by omega), fun y u e ny => ?_⟩
    · by_cases d : i' < nm.length
      · rw [List.getElem?_append_left d] at h
        exact ok i' n' ws' h
      · have i0 : i' = nm.length := by
          have := (List.getElem?_eq_some_iff.mp h).1
          rw [List.length_append, List.length_cons, List.length_nil] at this
          omega
        rw [List.getElem?_append_right (by omega), i0, Nat.sub_self] at h
        cases h
        rw [i0, lg]
        exact ⟨⟨i, hi, rfl⟩, by omega, sl⟩
    · by_cases d : i' < ts.length
      · rw [List.getElem?_append_left d] at hi'
        rw [List.getElem?_append_left (by omega)] at hg'
        obtain ⟨q0, l', q1, qF, q2, q3⟩ := hts i' t' n' ws' hi' hg'
        refine ⟨q0, l', q1, qF, ?_, ?_⟩
        · rw [upd_ne (fun z => by rw [z, eR] at q2; cases q2)]
          exact kT _ _ q2 q0
        · rw [upd_ne qF]
          exact kT _ _ q3 q1
      · have i0 : i' = ts.length := by
          have := (List.getElem?_eq_some_iff.mp hi').1
          rw [List.length_append, List.length_cons, List.length_nil] at this
          omega
        rw [List.getElem?_append_right (by omega), i0, Nat.sub_self] at hi'
        rw [List.getElem?_append_right (by omega), i0, lt, Nat.sub_self] at hg'
        cases hi'
        cases hg'
        refine ⟨nTb, D, nDb, nDR, ?_, ?_⟩
        · rw [upd_ne nTR]
          exact eTT
        · rw [upd_ne nDR]
          exact eDT
    · rw [upd_ne (ne_of_none e nR)]
      exact kT _ _ (k5 _ _ e ny) ny
  · rintro σ H5 ⟨nm, y3, y4, y5, rfl, lg, ok, hR, B5, k5⟩
    exact ⟨_, rfl, q R nm _ (by omega) (by omega) ok hR (B5.mono (by omega)) k5⟩
end
section
variable {P : Program} {w : World} {K : PySem.W.Frag} {mg : Str → Option Value} {base : Heap}
variable {C : Addr} {za : Nat → Addr} {zl : Nat → FuncData}
theorem Gt.row0 (k : Str) (ws : List Nat) : atI (Gt.w k ws).row 0 = some (.str k) := atI_nat (j := 0) rfl
/-! ### drawn cubes -/
def BtL (l : List Nat) : Prop := ∀ c ∈ l, c = 48 ∨ c = 49
def SgL (l : List Nat) : Prop := ∀ c ∈ l, c = 45 ∨ c = 48 ∨ c = 49
theorem at2 {r : Int} (h0 : 0 ≤ r) (h1 : r < 2) : ∃ c, atI (Str.ofString "01").cps.toList r = some c ∧ (c = 48 ∨ c = 49) := by
  have : r = 0 ∨ r = 1 := by omega
  rcases this with z | z <;> subst z
  · exact ⟨48, by decide +kernel, by decide⟩
  · exact ⟨49, by decide +kernel, by decide⟩
theorem ln8 : (Str.ofString "01-01---").length ≤ sizeLine := by decide +kernel
theorem ln2 : (Str.ofString "01").length ≤ sizeLine := by decide +kernel
theorem sg_snoc {l : List Nat} {c : Nat} (h : SgL l) (hc : c = 45 ∨ c = 48 ∨ c = 49) : SgL (l ++ [c]) := fun d hd => by
  rcases List.mem_append.mp hd with z | z
  · exact h d z
  · rw [List.mem_singleton.mp z]
    exact hc
theorem bt_snoc {l : List Nat} {c : Nat} (h : BtL l) (hc : c = 48 ∨ c = 49) : BtL (l ++ [c]) := fun d hd => by
  rcases List.mem_append.mp hd with z | z
  · exact h d z
  · rw [List.mem_singleton.mp z]
    exact hc
def s1s (l : List Nat) : List V := (l.map fun c => SX.S [c]).map V.str
theorem s1s_snoc (l : List Nat) (c : Nat) : s1s l ++ [.str (SX.S [c])] = s1s (l ++ [c]) := by
  unfold s1s
  rw [List.map_append, List.map_append]
  rfl
theorem s1s_len (l : List Nat) : (s1s l).length = l.length := by
  unfold s1s
  rw [List.length_map, List.length_map]
theorem at8 {r : Int} (h0 : 0 ≤ r) (h1 : r < 8) : ∃ c, atI (Str.ofString "01-01---").cps.toList r = some c ∧ (c = 45 ∨ c = 48 ∨ c = 49) := by
  have : r = 0 ∨ r = 1 ∨ r = 2 ∨ r = 3 ∨ r = 4 ∨ r = 5 ∨ r = 6 ∨ r = 7 := by omega
  rcases this with z | z | z | z | z | z | z | z <;> subst z
  · exact ⟨48, by decide +kernel, by decide⟩
  · exact ⟨49, by decide +kernel, by decide⟩
  · exact ⟨45, by decide +kernel, by decide⟩
  · exact ⟨48, by decide +kernel, by decide⟩
  · exact ⟨49, by decide +kernel, by decide⟩
  · exact ⟨45, by decide +kernel, by decide⟩
  · exact ⟨45, by decide +kernel, by decide⟩
  · exact ⟨45, by decide +kernel, by decide⟩
theorem at3i {r : Int} (h0 : 0 ≤ r) (h1 : r < 3) : ∃ z : Int, atI ([.int 8, .int 5, .int 3] : List V) r = some (.int z) ∧ 1 ≤ z ∧ z ≤ 8 := by
  have : r = 0 ∨ r = 1 ∨ r = 2 := by omega
  rcases this with z | z | z <;> subst z
  · exact ⟨_, rfl, by decide, by decide⟩
  · exact ⟨_, rfl, by decide, by decide⟩
  · exact ⟨_, rfl, by decide, by decide⟩
theorem S_tl (x : List Nat) : (SX.S x).cps.toList = x := rfl
theorem cut_to (x : List Nat) (p : Nat) (h : p ≤ x.length) : cutS (SX.S x) none (some (p : Int)) = SX.S (x.take p) := by
  unfold cutS
  rw [S_tl, SX.S_len, HT.sIx_none, HT.sIx_nat, Nat.min_eq_left h, List.drop_zero, Nat.sub_zero]
theorem cut_from (x : List Nat) (p : Nat) (h : p ≤ x.length) : cutS (SX.S x) (some (p : Int)) none = SX.S (x.drop p) := by
  unfold cutS
  rw [S_tl, SX.S_len, HT.sIx_none, HT.sIx_nat, Nat.min_eq_left h, List.take_of_length_le (by rw [List.length_drop]; exact Nat.le_refl _)]
theorem zS {x : List Nat} (h : x.length ≤ 950) : (SX.S x).length ≤ sizeLine := by
  rw [SX.S_len]
  exact Nat.le_of_lt (small1000 (by omega))
theorem set_cut {x : List Nat} {p : Nat} (c : Nat) (h : p < x.length) : x.take p ++ c :: x.drop (p + 1) = x.set p c := by
  rw [List.set_eq_take_append_cons_drop, if_pos h]
theorem nul : Str.ofString "0" = SX.S [48] := by decide +kernel
theorem eins : Str.ofString "1" = SX.S [49] := by decide +kernel
theorem E_cat (x : Str) : Str.empty ++ x = x := by
  show (⟨#[] ++ x.cps⟩ : Str) = x
  rw [Array.empty_append]
theorem at_S {x : List Nat} {p c : Nat} (h : x[p]? = some c) : atI (SX.S x).cps.toList (p : Int) = some c := atI_nat h
/-! ### settled by which bits a wire may have -/
def pr0 (c : Nat) : Int := if c = 49 then 0 else 1
def pr1 (c : Nat) : Int := if c = 48 then 0 else 1
def WsAt (H : Hp) (W : Addr) (us : List Addr) (ss : List Nat) : Prop := us.length = ss.length ∧ H W = some (.lst (us.map V.ref)) ∧ ∀ (i : Nat) (u : Addr) (c : Nat), us[i]? = some u → ss[i]? = some c → H u = some (.tup [.int (pr0 c), .int (pr1 c)])
theorem WsAt.same {H H' : Hp} {W : Addr} {us : List Addr} {ss : List Nat} (h : WsAt H W us ss) (s : Same H H') : WsAt H' W us ss := ⟨h.1, s _ _ h.2.1, fun i u c hu hc => s _ _ (h.2.2 i u c hu hc)⟩
theorem WsAt.snoc {H : Hp} {W T : Addr} {us : List Addr} {ss : List Nat} {c : Nat} (h : WsAt H W us ss) (e : H T = some (.tup [.int (pr0 c), .int (pr1 c)])) : WsAt (upd H W (.lst (us.map V.ref ++ [.ref T]))) W (us ++ [T]) (ss ++ [c]) := by
  obtain ⟨h1, h2, h3⟩ := h
  refine ⟨by rw [List.length_append, List.length_append, h1]; rfl, by rw [upd_same, List.map_append]; rfl, fun i u d hu hd => ?_⟩
  have key : H u = some (.tup [.int (pr0 d), .int (pr1 d)]) := by
    by_cases l : i < us.length
    · rw [List.getElem?_append_left l] at hu
      rw [List.getElem?_append_left (by omega)] at hd
      exact h3 i u d hu hd
    · have i0 : i = us.length := by
        have := (List.getElem?_eq_some_iff.mp hu).1
        rw [List.length_append, List.length_cons, List.length_nil] at this
        omega
      rw [List.getElem?_append_right (by omega), i0, Nat.sub_self] at hu
      rw [List.getElem?_append_right (by omega), i0, h1, Nat.sub_self] at hd
      cases hu
      cases hd
      exact e
  rw [upd_ne (fun z => by rw [z, h2] at key; cases key)]
  exact key
theorem gsg_sg {ss : List Nat} {g : Gt} (h : SgL ss) (ok : g.ok ss.length) : gsg ss g = 45 ∨ gsg ss g = 48 ∨ gsg ss g = 49 := by
  cases g with
  | fi b =>
    show (if b = 1 then 49 else 48) = 45 ∨ _ ∨ _
    by_cases c : b = 1 <;> simp [gsg, c]
  | w k l =>
    have l0 : 0 < l.length := by
      rcases ok.1 with ⟨_, z⟩ | ⟨_, z⟩ <;> omega
    have hx := h (ss.getD (l.getD 0 0) 0) (by
      match l, l0, ok with
      | a :: l, _, ok =>
        have la : a < ss.length := ok.2 a (by simp)
        show ss.getD a 0 ∈ ss
        rw [List.getD, List.getElem?_eq_getElem la]
        exact List.getElem_mem la)
    show gsw (ss.getD (l.getD 0 0) 0) (ss.getD (l.getD 1 0) 0) k = 45 ∨ gsw (ss.getD (l.getD 0 0) 0) (ss.getD (l.getD 1 0) 0) k = 48 ∨ gsw (ss.getD (l.getD 0 0) 0) (ss.getD (l.getD 1 0) 0) k = 49
    generalize ss.getD (l.getD 0 0) 0 = x at *
    generalize ss.getD (l.getD 1 0) 0 = y
    unfold gsw turnS ruS unS
    repeat' split
    all_goals first
      | exact hx
      | decide
theorem sgs_sg {m : Nat} {cs : List Nat} (hc : SgL cs) (lc : cs.length = m) : ∀ {gs : List Gt}, GsOk m gs → SgL (sgs cs gs) := by
  intro gs ok
  have key : ∀ j, j ≤ gs.length → SgL (sgs cs (gs.take j)) := by
    intro j
    induction j with
    | zero => exact fun _ => hc
    | succ j ih =>
      intro hj
      have hg : gs[j]? = some gs[j] := List.getElem?_eq_getElem (by omega)
      rw [List.take_add_one, hg]
      show SgL (sgs cs (gs.take j ++ [gs[j]]))
      rw [sgs_snoc]
      refine sg_snoc (ih (by omega)) (gsg_sg (ih (by omega)) ?_)
      rw [sgs_len, List.length_take, lc, Nat.min_eq_left (by omega)]
      exact ok j _ hg
  have k := key gs.length (Nat.le_refl _)
  rw [List.take_length] at k
  exact k
theorem pr_turn {x : Nat} (hx : x = 45 ∨ x = 48 ∨ x = 49) : pr0 (turnS x) = pr1 x ∧ pr1 (turnS x) = pr0 x := by
  rcases hx with rfl | rfl | rfl <;> decide
theorem pr_both {x y : Nat} (hx : x = 45 ∨ x = 48 ∨ x = 49) (hy : y = 45 ∨ y = 48 ∨ y = 49) : pr0 (ruS x y 48) = Builtin.bitOr (pr0 x) (pr0 y) ∧ pr1 (ruS x y 48) = Builtin.bitAnd (pr1 x) (pr1 y) := by
  rcases hx with rfl | rfl | rfl <;> rcases hy with rfl | rfl | rfl <;> decide +kernel
theorem pr_either {x y : Nat} (hx : x = 45 ∨ x = 48 ∨ x = 49) (hy : y = 45 ∨ y = 48 ∨ y = 49) : pr0 (ruS x y 49) = Builtin.bitAnd (pr0 x) (pr0 y) ∧ pr1 (ruS x y 49) = Builtin.bitOr (pr1 x) (pr1 y) := by
  rcases hx with rfl | rfl | rfl <;> rcases hy with rfl | rfl | rfl <;> decide +kernel
theorem pr_unlike {x y : Nat} (hx : x = 45 ∨ x = 48 ∨ x = 49) (hy : y = 45 ∨ y = 48 ∨ y = 49) : pr0 (unS x y) = Builtin.bitOr (Builtin.bitAnd (pr0 x) (pr0 y)) (Builtin.bitAnd (pr1 x) (pr1 y)) ∧ pr1 (unS x y) = Builtin.bitOr (Builtin.bitAnd (pr0 x) (pr1 y)) (Builtin.bitAnd (pr1 x) (pr0 y)) := by
  rcases hx with rfl | rfl | rfl <;> rcases hy with rfl | rfl | rfl <;> decide +kernel
theorem WsAt.get {H : Hp} {W : Addr} {us : List Addr} {ss : List Nat} (h : WsAt H W us ss) {a : Nat} (ha : a < ss.length) : ∃ u, atI (us.map V.ref) (a : Int) = some (.ref u) ∧ H u = some (.tup [.int (pr0 (ss.getD a 0)), .int (pr1 (ss.getD a 0))]) := by
  have hu : us[a]? = some (us[a]'(by rw [h.1]; exact ha)) := List.getElem?_eq_getElem _
  refine ⟨_, atI_nat (by rw [List.getElem?_map, hu]; rfl), h.2.2 a _ _ hu ?_⟩
  rw [List.getD, List.getElem?_eq_getElem ha]
  rfl
theorem d49 (a : Nat) : decide (V.str (SX.S [a]) = V.str (Str.ofString "1")) = decide (a = 49) := by
  rw [eins]
  exact dS1 a 49
theorem getD_sg {ss : List Nat} (h : SgL ss) {a : Nat} (ha : a < ss.length) : ss.getD a 0 = 45 ∨ ss.getD a 0 = 48 ∨ ss.getD a 0 = 49 := h _ (by
  rw [List.getD, List.getElem?_eq_getElem ha]
  exact List.getElem_mem ha)
def nmOf (H : Hp) : V → Str
  | .ref t => match H t with
    | some (.tup [.str n, _]) => n
    | _ => ""
  | _ => ""
theorem nmOf_at {H : Hp} {t : Addr} {n : Str} {v : V} (e : H t = some (.tup [.str n, v])) : nmOf H (.ref t) = n := by
  simp only [nmOf, e]
theorem GvOk.inj {m : Nat} {nm : List (Str × List Nat)} (h : GvOk m nm) (hl : nm.length ≤ 4) {i j : Nat} {x y : Str × List Nat} (hi : nm[i]? = some x) (hj : nm[j]? = some y) (e : x.1 = y.1) : i = j := by
  obtain ⟨x, wx⟩ := x
  obtain ⟨y, wy⟩ := y
  obtain ⟨⟨u, hu, eu⟩, _⟩ := h i _ _ hi
  obtain ⟨⟨v, hv, ev⟩, _⟩ := h j _ _ hj
  have li := (List.getElem?_eq_some_iff.mp hi).1
  have lj := (List.getElem?_eq_some_iff.mp hj).1
  apply Classical.byContradiction
  intro c
  refine wd_ne hu hv (by omega) (by omega) c ?_
  rw [← eu, ← ev]
  exact e
def GvIn (m : Nat) (nm : List (Str × List Nat)) : Prop := (∀ (i j : Nat) (x y : Str × List Nat), nm[i]? = some x → nm[j]? = some y → x.1 = y.1 → i = j) ∧ ∀ (i : Nat) (n : Str) (ws : List Nat), nm[i]? = some (n, ws) → ws.length ≤ 4 ∧ ∀ a ∈ ws, a < m
theorem GvOk.gin {m : Nat} {nm : List (Str × List Nat)} (h : GvOk m nm) (hl : nm.length ≤ 4) : GvIn m nm :=
  ⟨fun _ _ _ _ hi hj e => h.inj hl hi hj e, fun i n ws hw => (h i n ws hw).2⟩
theorem wd_new {i k : Nat} (hi : i < 9) (hk : k < 4) : wd i k ≠ Str.ofString "new" := by
  have all : (List.range 9).all (fun i => (List.range 4).all fun k => decide (wd i k ≠ Str.ofString "new")) = true := by decide +kernel
  have a := List.all_eq_true.mp all i (List.mem_range.mpr hi)
  exact of_decide_eq_true (List.all_eq_true.mp a k (List.mem_range.mpr hk))
theorem GvOk.gnew {m : Nat} {nm : List (Str × List Nat)} {ws : List Nat} (h : GvOk m nm) (hl : nm.length ≤ 3) (lw : ws.length ≤ 4) (hw : ∀ a ∈ ws, a < m + 1) : GvIn (m + 1) (nm ++ [((Str.ofString "new"), ws)]) := by
  have snoc : ∀ {i : Nat} {x : Str × List Nat}, (nm ++ [((Str.ofString "new"), ws)])[i]? = some x → nm[i]? = some x ∨ i = nm.length ∧ x = ((Str.ofString "new"), ws) := fun {i x} hx => by
    by_cases d : i < nm.length
    · rw [List.getElem?_append_left d] at hx
      exact .inl hx
    · have i0 : i = nm.length := by
        have := (List.getElem?_eq_some_iff.mp hx).1
        rw [List.length_append, List.length_cons, List.length_nil] at this
        omega
      rw [List.getElem?_append_right (by omega), i0, Nat.sub_self] at hx
      cases hx
      exact .inr ⟨i0, rfl⟩
  have nn : ∀ {i : Nat} {x : Str × List Nat}, nm[i]? = some x → x.1 ≠ Str.ofString "new" := fun {i x} hx => by
    obtain ⟨⟨w, hw, e⟩, _⟩ := h i x.1 x.2 hx
    have := (List.getElem?_eq_some_iff.mp hx).1
    rw [e]
    exact wd_new hw (by omega)
  refine ⟨fun i j x y hi hj e => ?_, fun i n us hx => ?_⟩
  · rcases snoc hi with a | ⟨a, rfl⟩ <;> rcases snoc hj with c | ⟨c, rfl⟩
    · exact h.inj (by omega) a c e
    · exact absurd e (nn a)
    · exact absurd e.symm (nn c)
    · rw [a, c]
  · rcases snoc hx with a | ⟨_, a⟩
    · obtain ⟨_, b1, b2⟩ := h i n us a
      exact ⟨b1, fun z hz => Nat.lt_succ_of_lt (b2 z hz)⟩
    · cases a
      exact ⟨lw, hw⟩
theorem rows_one {nm n1 n2 : List (Str × List Nat)} (inj : ∀ (i j : Nat) (x y : Str × List Nat), nm[i]? = some x → nm[j]? = some y → x.1 = y.1 → i = j) (p1 : n1.Perm nm) (s1 : (n1.map (·.1)).Pairwise fun x y => x.cps.toList ≤ y.cps.toList)
    (p2 : n2.Perm nm) (s2 : (n2.map (·.1)).Pairwise fun x y => x.cps.toList ≤ y.cps.toList) : n1 = n2 := by
  rw [List.pairwise_map] at s1 s2
  refine List.Perm.eq_of_pairwise (le := fun x y : Str × List Nat => x.1.cps.toList ≤ y.1.cps.toList) (fun x y hx hy a b => ?_) s1 s2 (p1.trans p2.symm)
  have e := List.le_antisymm a b
  have e : x.1 = y.1 := by
    have := Array.toList_inj.mp e
    cases h1 : x.1
    cases h2 : y.1
    rw [h1, h2] at this
    congr 1
  obtain ⟨i, hi, ei⟩ := List.getElem_of_mem (p1.mem_iff.mp hx)
  obtain ⟨j, hj, ej⟩ := List.getElem_of_mem (p2.mem_iff.mp hy)
  have ij := inj i j x y (by rw [List.getElem?_eq_getElem hi, ei]) (by rw [List.getElem?_eq_getElem hj, ej]) e
  subst ij
  rw [← ei, ej]
def tab60 : List (List Key × V) := [([.inl 1, .inl 0], .str "0"), ([.inl 0, .inl 1], .str "1"), ([.inl 1, .inl 1], .str "-")]
theorem tab_val {c : Nat} (hc : c = 45 ∨ c = 48 ∨ c = 49) : valV (mergeT [] tab60) [.inl (pr0 c), .inl (pr1 c)] = some (.str (SX.S [c])) := by
  rcases hc with rfl | rfl | rfl <;> decide +kernel
def spSett60 : Sp := fun vs H Q _ => ∃ (R F b : Addr) (m : Nat) (gs : List Gt) (nm : List (Str × List Nat)) (cs : List Nat), vs = [.ref R, .ref F, .str (SX.S cs)] ∧ RowsAt46 H R gs ∧ GsOk m gs ∧ GvAt b H F nm ∧ GvIn (m + gs.length) nm ∧ nm.length ≤ 4 ∧ cs.length = m ∧ SgL cs ∧ m ≤ 100 ∧ gs.length ≤ 300 ∧
  ∀ (nm' : List (Str × List Nat)) (t : Addr) (H' : Hp), nm'.Perm nm → (nm'.map (·.1)).Pairwise (fun x y => x.cps.toList ≤ y.cps.toList) → Same H H' → SetAt H H' t (setR (sgs cs gs) nm') → Q (.ref t) H'
theorem ok__law_settled (B : Bl mg) (L : LL K mg C za zl) : FnOk P w K mg base CX0 2 (za 22) (zl 22) ["_law_rows", "_law_given_here", "_law_cube"] spSett60 := by
  refine L.F__law_settled.ok sc__law_settled (fun vs H Q E h => ?_) (fun cdv A outer s H vs Q E hr h => ?_)
  · obtain ⟨R, F, b, m, gs, nm, cs, rfl, _⟩ := h
    rfl
  obtain ⟨R, F, b, m, gs, nm, cs, rfl, ⟨ts, lt, eR, hts⟩, ok, ⟨hFb, vs, lv, eF, hvs⟩, gok, hnm, lc, sc, hm, hg, q⟩ := h
  refine ⟨_, (pss_cons (ps_setLc (i := 3) (own := [("_law_sign", 8)]) (by rfl) sc__law_settled.nd rfl rfl (sw_true rfl rfl rfl (by decide +kernel)) (pi_str (pv 2)) (blkOk_by (own := [("_law_sign", 8)]) (N := ["_law_rows", "_law_given_here", "_law_cube", "_law_wires", "_law_row", "_law_one", "_law_two", "_law_signs", "_law_sign", "_law_wire", "_law_name", "_law_some"]) (sc := defScope s__law_settled) (by decide +kernel)) (fun _ _ _ _ _ => pg_name (i := 8) sc__law_settled.nd rfl (Or.inl rfl)) (fun _ _ _ _ _ => pts_nil) (fun _ _ _ _ _ => (pe_tup (pa_cons (pe_callTy call_int1 (by rfl) B.int PyProof.Rows.boot_int (pa_cons (pe_cmpR op_ne (pv 8) pe_str (nomark _)) pa_nil)) (pa_cons (pe_callTy call_int1 (by rfl) B.int PyProof.Rows.boot_int (pa_cons (pe_cmpR op_ne (pv 8) pe_str (nomark _)) pa_nil)) pa_nil)))))
    (pss_cons (ps_for PassesOwn.never rfl (pi_list (pv 0)) (pg_name (i := 4) sc__law_settled.nd rfl (.inl rfl)) (pss_cons (ps_if (pt_cmpR op_eq (pe_ix ix_tup (pv 4) pe_int (fun _ _ => rfl)) pe_str (nomark _)) (pss_cons (ps_expr (pe_bm PySem.F.plainAttrs_list PySem.F.slot_list_append PySem.F.type_list_append mt_append (pv 3) (pa_cons (pe_tup (pa_cons (pe_op op_sub pe_int (pe_ix ix_tup (pv 4) pe_int (fun _ _ => rfl))) (pa_cons (pe_ix ix_tup (pv 4) pe_int (fun _ _ => rfl)) pa_nil))) pa_nil)))
    (pss_one ps_continue)) pss_nil)
    (pss_cons (ps_par (by rfl) sc__law_settled.nd (i := 5) (j := 6) rfl rfl (by decide) rfl rfl (pa_cons (pe_ix ix_list (pv 3) (pe_ix ix_tup (pv 4) pe_int (fun _ _ => rfl)) (fun _ _ => rfl)) (pa_cons (pe_ix ix_list (pv 3) (pe_ix ix_tup (pv 4) (pe_un un_neg pe_int) (fun _ _ => rfl)) (fun _ _ => rfl)) pa_nil)) (by rfl))
    (pss_one (ps_if (pt_cmpR op_eq (pe_ix ix_tup (pv 4) pe_int (fun _ _ => rfl)) pe_str (nomark _)) (pss_one (ps_expr (pe_bm PySem.F.plainAttrs_list PySem.F.slot_list_append PySem.F.type_list_append mt_append (pv 3) (pa_cons (pe_tup (pa_cons (pe_op op_or (pe_ix ix_tup (pv 5) pe_int (fun _ _ => rfl)) (pe_ix ix_tup (pv 6) pe_int (fun _ _ => rfl))) (pa_cons (pe_op op_and (pe_ix ix_tup (pv 5) pe_int (fun _ _ => rfl)) (pe_ix ix_tup (pv 6) pe_int (fun _ _ => rfl))) pa_nil))) pa_nil)))) (pss_one (ps_if (pt_cmpR op_eq (pe_ix ix_tup (pv 4) pe_int (fun _ _ => rfl)) pe_str (nomark _)) (pss_one (ps_expr (pe_bm PySem.F.plainAttrs_list PySem.F.slot_list_append PySem.F.type_list_append mt_append (pv 3) (pa_cons (pe_tup (pa_cons (pe_op op_and (pe_ix ix_tup (pv 5) pe_int (fun _ _ => rfl)) (pe_ix ix_tup (pv 6) pe_int (fun _ _ => rfl))) (pa_cons (pe_op op_or (pe_ix ix_tup (pv 5) pe_int (fun _ _ => rfl)) (pe_ix ix_tup (pv 6) pe_int (fun _ _ => rfl))) pa_nil))) pa_nil)))) (pss_one (ps_if (pt_cmpR op_eq (pe_ix ix_tup (pv 4) pe_int (fun _ _ => rfl)) pe_str (nomark _)) (pss_one (ps_expr (pe_bm PySem.F.plainAttrs_list PySem.F.slot_list_append PySem.F.type_list_append mt_append (pv 3) (pa_cons (pe_tup (pa_cons (pe_op op_or (pe_op op_and (pe_ix ix_tup (pv 5) pe_int (fun _ _ => rfl)) (pe_ix ix_tup (pv 6) pe_int (fun _ _ => rfl))) (pe_op op_and (pe_ix ix_tup (pv 5) pe_int (fun _ _ => rfl)) (pe_ix ix_tup (pv 6) pe_int (fun _ _ => rfl)))) (pa_cons (pe_op op_or (pe_op op_and (pe_ix ix_tup (pv 5) pe_int (fun _ _ => rfl)) (pe_ix ix_tup (pv 6) pe_int (fun _ _ => rfl))) (pe_op op_and (pe_ix ix_tup (pv 5) pe_int (fun _ _ => rfl)) (pe_ix ix_tup (pv 6) pe_int (fun _ _ => rfl)))) pa_nil))) pa_nil)))) (pss_one (ps_expr (pe_bm PySem.F.plainAttrs_list PySem.F.slot_list_append PySem.F.type_list_append mt_append (pv 3) (pa_cons (pe_tup (pa_cons (pe_ix ix_tup (pv 5) pe_int (fun _ _ => rfl)) (pa_cons (pe_ix ix_tup (pv 5) pe_int (fun _ _ => rfl)) pa_nil))) pa_nil)))))))))))))
    (pss_cons (ps_set (i := 7) sc__law_settled.nd rfl (.inr rfl) (pe_lc (own := [("_law_wire", 9)]) (by rfl) sc__law_settled.nd (pi_list (pv 3)) (blkOk_by (own := [("_law_wire", 9)]) (N := ["_law_rows", "_law_given_here", "_law_cube", "_law_wires", "_law_row", "_law_one", "_law_two", "_law_signs", "_law_sign", "_law_wire", "_law_name", "_law_some"]) (sc := defScope s__law_settled) (by decide +kernel)) (fun _ _ _ _ _ => pg_name (i := 9) sc__law_settled.nd rfl (Or.inl rfl)) (fun _ _ _ _ _ => pts_nil) (fun _ _ _ _ _ => (pe_dget (units1 hr) (pe_dispT (units1 hr) (pps_cons (pe_tup (pa_cons pe_int (pa_cons pe_int pa_nil))) pe_str (pps_cons (pe_tup (pa_cons pe_int (pa_cons pe_int pa_nil))) pe_str (pps_cons (pe_tup (pa_cons pe_int (pa_cons pe_int pa_nil))) pe_str pps_nil))) rfl rfl (by decide) (by decide)) (pv 9) (fun _ _ => rfl)))))
    (pss_one (ps_ret (pe_lc (own := [("_law_name", 10), ("_law_some", 11)]) (g := gTup K 2 (gCons (gName 10) (gCons (gName 11) gNil))) (by rfl) sc__law_settled.nd (pi_list (pe_callB cr_sortedNm (by rfl) L.z_sorted boot_sorted (pa_cons (pv 1) pa_nil))) (blkOk_by (own := [("_law_name", 10), ("_law_some", 11)]) (N := ["_law_rows", "_law_given_here", "_law_cube", "_law_wires", "_law_row", "_law_one", "_law_two", "_law_signs", "_law_sign", "_law_wire", "_law_name", "_law_some"]) (sc := defScope s__law_settled) (by decide +kernel)) (fun _ _ _ _ _ => pg_tup rfl (pgs_cons (pg_name (i := 10) sc__law_settled.nd rfl (Or.inl rfl) (.inr rfl)) (pgs_cons (pg_name (i := 11) sc__law_settled.nd rfl (Or.inl rfl) (.inr rfl)) pgs_nil))) (fun _ _ _ _ _ => pts_nil) (fun _ _ _ _ _ => (pe_tup (pa_cons (pv 10) (pa_cons (pe_bmKX (K := K) PySem.F.plainAttrs_str PySem.F.slot_str_join PySem.F.type_str_join (mt_joinKX (K := K)) pe_str (pa_cons (pe_lc (own := [("_law_wire", 9)]) (by rfl) sc__law_settled.nd (pi_listK (K := K) (pv 11)) (blkOk_by (own := [("_law_wire", 9)]) (N := ["_law_rows", "_law_given_here", "_law_cube", "_law_wires", "_law_row", "_law_one", "_law_two", "_law_signs", "_law_sign", "_law_wire", "_law_name", "_law_some"]) (sc := ({ kind := ScopeKind.function, names := [(".0", NameKind.local), ("_law_name", NameKind.local), ("_law_some", NameKind.local), ("_law_signs", NameKind.cell)], isGenerator := false, isCoroutine := false } : Scope)) (by decide +kernel)) (fun _ _ _ _ _ => pg_name (i := 9) sc__law_settled.nd rfl (Or.inl rfl)) (fun _ _ _ _ _ => pts_nil) (fun _ _ _ _ _ => (pe_ix (ix_listK (K := K)) (pv 7) (pv 9) (fun _ _ => rfl)))) pa_nil)) pa_nil)))))))))), ?_⟩
  refine ⟨_, rfl, SX.S cs, rfl, fun W nW => ?_⟩
  refine lc_it (walk_S (x := cs)) (fun j H7 => Same H H7 ∧ ∃ us : List Addr, WsAt H7 W us (cs.take j)) ⟨same_upd nW, [], rfl, upd_same, fun i u c h => by simp at h⟩ (fun _ _ _ _ => trivial) ?_ ?_
  · rintro j v H7 H7' hj ⟨s7, us, eW⟩ ⟨rfl, a, ha, rfl⟩
    refine ⟨rfl, yesT ?_⟩
    refine ⟨_, rfl, rfl, .inr ⟨_, rfl, _, rfl, rfl, .inr ⟨_, rfl, (by show 2 ≤ sizeLine; decide), fun T nT => ?_⟩⟩⟩
    have p0 : (if (!decide (V.str (SX.S [a]) = V.str (Str.ofString "1"))) = true then (1 : Int) else 0) = pr0 a := by
      rw [d49]
      unfold pr0
      by_cases c : a = 49 <;> simp [c]
    have p1 : (if (!decide (V.str (SX.S [a]) = V.str (Str.ofString "0"))) = true then (1 : Int) else 0) = pr1 a := by
      rw [d48]
      unfold pr1
      by_cases c : a = 48 <;> simp [c]
    rw [p0, p1]
    have sT := same_upd (o := .tup [.int (pr0 a), .int (pr1 a)]) nT
    refine ⟨_, sT _ _ eW.2.1, ?_, fun y u e => ?_, us ++ [T], ?_⟩
    · rw [List.length_map, eW.1, List.length_take]
      exact small1000 (by omega)
    · rw [upd_ne (ne_of_none e nW)]
      exact sT _ _ (s7 _ _ e)
    · rw [List.take_add_one, ha]
      exact (eW.same sT).snoc upd_same
  rintro H1 ⟨s1, us, eW⟩
  rw [List.take_of_length_le (Nat.le_refl _)] at eW
  try simp only [L2.start, List.map_cons, List.map_nil, List.length_cons, List.length_nil, List.replicate_succ, List.replicate_zero, List.cons_append, List.nil_append, List.set_cons_succ, List.set_cons_zero, Nat.reduceAdd, Nat.reduceSub, Nat.zero_add]
  dsimp only [gName]
  try simp only [L2.start, List.map_cons, List.map_nil, List.length_cons, List.length_nil, List.replicate_succ, List.replicate_zero, List.cons_append, List.nil_append, List.set_cons_succ, List.set_cons_zero, Nat.reduceAdd, Nat.reduceSub, Nat.zero_add]
  have nWx : ∀ y o, H y = some o → y ≠ W := fun y o e => ne_of_none e nW
  refine ⟨_, rfl, R, rfl, ⟨_, SqL.of (s1 _ _ eR)⟩, ?_⟩
  refine for_it (walk_list (K := K) (a := R) (xs := ts.map V.ref)) (fun j σ H9 => ∃ (y4 y5 y6 : Option V) (us : List Addr), σ = [some (.ref R), some (.ref F), some (.str (SX.S cs)), some (.ref W), y4, y5, y6, none, none, none, none, none] ∧ Keep W H1 H9 ∧ WsAt H9 W us (sgs cs (gs.take j))) ⟨_, _, _, us, rfl, Keep.refl _ _, eW⟩ (fun j σ H9 _ ⟨_, _, _, _, _, k9, _⟩ => SqL.of (k9 _ _ (s1 _ _ eR) (nWx _ _ eR))) ?_ ?_
  · rintro j z σ H9 H10 hj ⟨y4, y5, y6, us, rfl, k9, eW9⟩ ⟨rfl, hz⟩
    rw [List.getElem?_map] at hz
    have hj' : j < ts.length := by
      rw [List.length_map] at hj
      exact hj
    rw [List.getElem?_eq_getElem hj'] at hz
    cases hz
    obtain ⟨g, hgj⟩ : ∃ x, gs[j]? = some x := ⟨_, List.getElem?_eq_getElem (by omega)⟩
    have et0 := hts j _ _ (List.getElem?_eq_getElem hj') hgj
    have et := k9 _ _ (s1 _ _ et0) (nWx _ _ et0)
    have okj := ok j _ hgj
    have tk : gs.take (j + 1) = gs.take j ++ [g] := by
      rw [List.take_add_one, hgj]
      rfl
    have sgj : SgL (sgs cs (gs.take j)) := sgs_sg sc lc (fun i g' h => ok i g' (by
      rw [List.getElem?_take] at h
      split at h
      · exact h
      · cases h))
    have lj : (sgs cs (gs.take j)).length = m + j := by
      rw [sgs_len, List.length_take, lc, Nat.min_eq_left (by omega)]
    rw [tk, sgs_snoc]
    generalize sgs cs (gs.take j) = ss at *
    try simp only [L2.start, List.map_cons, List.map_nil, List.length_cons, List.length_nil, List.replicate_succ, List.replicate_zero, List.cons_append, List.nil_append, List.set_cons_succ, List.set_cons_zero, Nat.reduceAdd, Nat.reduceSub, Nat.zero_add]
    have nS : ∀ {x y : Str}, ¬ x = y → ¬ decide (V.str x = V.str y) = true := fun h z => h (V.str.inj (of_decide_eq_true z))
    have fin : ∀ (c : Nat) (T : Addr) (HT : Hp) (z4 z5 z6 : Option V), Same H10 HT → HT T = some (.tup [.int (pr0 c), .int (pr1 c)]) → ∃ (y4 y5 y6 : Option V) (vs : List Addr), [some (.ref R), some (.ref F), some (.str (SX.S cs)), some (.ref W), z4, z5, z6, none, none, none, none, none] = [some (.ref R), some (.ref F), some (.str (SX.S cs)), some (.ref W), y4, y5, y6, none, none, none, none, none] ∧ Keep W H1 (upd HT W (.lst (us.map V.ref ++ [.ref T]))) ∧ WsAt (upd HT W (.lst (us.map V.ref ++ [.ref T]))) W vs (ss ++ [c]) := fun c T HT z4 z5 z6 sT eT =>
      ⟨_, _, _, us ++ [T], rfl, fun y u e ny => by rw [upd_ne ny]; exact sT _ _ (k9 _ _ e ny), (eW9.same sT).snoc eT⟩
    have lus : (us.map V.ref).length < sizeLine := by
      rw [List.length_map, eW9.1, lj]
      exact small1000 (by omega)
    dsimp only [gName]
    try simp only [L2.start, List.map_cons, List.map_nil, List.length_cons, List.length_nil, List.replicate_succ, List.replicate_zero, List.cons_append, List.nil_append, List.set_cons_succ, List.set_cons_zero, Nat.reduceAdd, Nat.reduceSub, Nat.zero_add]
    cases g with
    | fi b =>
      have r0 : atI (Gt.fi b).row 0 = some (.str "fixed") := rfl
      refine ⟨_, rfl, ts[j], _, _, _, rfl, rfl, .inl (.inl et), r0, rfl, _, rfl, ite2 (fun _ => ?_) (fun z => absurd (decide_eq_true rfl) z)⟩
      refine ⟨_, rfl, .inl ⟨rfl, _, SqL.of eW9.2.1⟩, _, rfl, ts[j], _, _, _, rfl, rfl, .inl (.inl et), rfl, _, _, rfl, rfl, _, rfl, ts[j], _, _, _, rfl, rfl, .inl (.inl et), rfl, (by show 2 ≤ sizeLine; decide), fun T nT => ?_⟩
      have sT := same_upd (o := .tup [.int (1 - (b : Int)), .int (b : Int)]) nT
      refine ⟨W, _, _, rfl, rfl, sT _ _ eW9.2.1, lus, ?_⟩
      refine fin (gsg ss (.fi b)) T _ _ _ _ sT ?_
      rw [upd_same]
      have hb : b = 0 ∨ b = 1 := by
        have : b ≤ 1 := okj
        omega
      rcases hb with rfl | rfl <;> rfl
    | w k ws =>
      have r0 := Gt.row0 k ws
      have nf : ¬ k = "fixed" := by
        rcases okj.1 with ⟨z | z | z, _⟩ | ⟨z, _⟩ <;> rw [z] <;> decide +kernel
      refine ⟨_, rfl, ts[j], _, _, _, rfl, rfl, .inl (.inl et), r0, rfl, _, rfl, ite2 (fun z => absurd z (nS nf)) (fun _ => ?_)⟩
      dsimp only [tNext]
      obtain ⟨a, a2, r1, r2, la, la2, hrow⟩ : ∃ a a2 : Nat, atI (Gt.w k ws).row 1 = some (.int (a : Int)) ∧ atI (Gt.w k ws).row (-1) = some (.int (a2 : Int)) ∧ a < ss.length ∧ a2 < ss.length ∧ gsg ss (.w k ws) = gsw (ss.getD a 0) (ss.getD a2 0) k := by
        rcases okj.1 with ⟨hk, l2⟩ | ⟨hk, l1⟩
        · match ws, l2, okj with
          | [a, a2], _, okj => exact ⟨a, a2, rfl, rfl, by rw [lj]; exact okj.2 a (by simp), by rw [lj]; exact okj.2 a2 (by simp), rfl⟩
        · match ws, l1, okj with
          | [a], _, okj => exact ⟨a, a, rfl, rfl, by rw [lj]; exact okj.2 a (by simp), by rw [lj]; exact okj.2 a (by simp), by subst hk; rfl⟩
      obtain ⟨u, au, eu⟩ := eW9.get la
      obtain ⟨u2, au2, eu2⟩ := eW9.get la2
      have hx := getD_sg sgj la
      have hy := getD_sg sgj la2
      rw [hrow]
      generalize ss.getD a 0 = x at *
      generalize ss.getD a2 0 = y at *
      refine ⟨_, rfl, _, rfl, ts[j], _, _, _, rfl, rfl, .inl (.inl et), r1, W, _, _, _, rfl, rfl, SqL.of eW9.2.1, au, ?_⟩
      refine ⟨_, rfl, _, rfl, _, rfl, ts[j], _, _, _, rfl, rfl, .inl (.inl et), r2, W, _, _, _, rfl, rfl, SqL.of eW9.2.1, au2, ?_⟩
      refine ⟨_, _, rfl, ?_⟩
      try simp only [L2.start, List.map_cons, List.map_nil, List.length_cons, List.length_nil, List.replicate_succ, List.replicate_zero, List.cons_append, List.nil_append, List.set_cons_succ, List.set_cons_zero, Nat.reduceAdd, Nat.reduceSub, Nat.zero_add]
      refine ⟨_, rfl, ts[j], _, _, _, rfl, rfl, .inl (.inl et), r0, rfl, _, rfl, ite2 (fun z => ?_) (fun z => ?_)⟩
      · have hk : k = "both" := V.str.inj (of_decide_eq_true z)
        have hw : gsw x y k = ruS x y 48 := by
          unfold gsw
          rw [if_neg (by rw [hk]; decide +kernel), if_pos hk]
        rw [hw]
        refine ⟨_, rfl, .inl ⟨rfl, _, SqL.of eW9.2.1⟩, _, rfl, u, _, _, _, rfl, rfl, .inl (.inl eu), rfl, _, rfl, u2, _, _, _, rfl, rfl, .inl (.inl eu2), rfl, _, _, rfl, rfl, _, rfl, u, _, _, _, rfl, rfl, .inl (.inl eu), rfl, _, rfl, u2, _, _, _, rfl, rfl, .inl (.inl eu2), rfl, _, _, rfl, rfl, (by show 2 ≤ sizeLine; decide), fun T nT => ?_⟩
        have sT := same_upd (o := .tup [.int (Builtin.bitOr (pr0 x) (pr0 y)), .int (Builtin.bitAnd (pr1 x) (pr1 y))]) nT
        refine ⟨W, _, _, rfl, rfl, sT _ _ eW9.2.1, lus, ?_⟩
        refine fin _ T _ _ _ _ sT ?_
        rw [upd_same, (pr_both hx hy).1, (pr_both hx hy).2]
      have n1 : ¬ k = "both" := fun y => z (decide_eq_true (congrArg V.str y))
      refine ⟨_, rfl, ts[j], _, _, _, rfl, rfl, .inl (.inl et), r0, rfl, _, rfl, ite2 (fun z => ?_) (fun z => ?_)⟩
      · have hk : k = "either" := V.str.inj (of_decide_eq_true z)
        have hw : gsw x y k = ruS x y 49 := by
          unfold gsw
          rw [if_neg (by rw [hk]; decide +kernel), if_neg n1, if_pos hk]
        rw [hw]
        refine ⟨_, rfl, .inl ⟨rfl, _, SqL.of eW9.2.1⟩, _, rfl, u, _, _, _, rfl, rfl, .inl (.inl eu), rfl, _, rfl, u2, _, _, _, rfl, rfl, .inl (.inl eu2), rfl, _, _, rfl, rfl, _, rfl, u, _, _, _, rfl, rfl, .inl (.inl eu), rfl, _, rfl, u2, _, _, _, rfl, rfl, .inl (.inl eu2), rfl, _, _, rfl, rfl, (by show 2 ≤ sizeLine; decide), fun T nT => ?_⟩
        have sT := same_upd (o := .tup [.int (Builtin.bitAnd (pr0 x) (pr0 y)), .int (Builtin.bitOr (pr1 x) (pr1 y))]) nT
        refine ⟨W, _, _, rfl, rfl, sT _ _ eW9.2.1, lus, ?_⟩
        refine fin _ T _ _ _ _ sT ?_
        rw [upd_same, (pr_either hx hy).1, (pr_either hx hy).2]
      have n2 : ¬ k = "either" := fun y => z (decide_eq_true (congrArg V.str y))
      refine ⟨_, rfl, ts[j], _, _, _, rfl, rfl, .inl (.inl et), r0, rfl, _, rfl, ite2 (fun z => ?_) (fun z => ?_)⟩
      · have hk : k = "unlike" := V.str.inj (of_decide_eq_true z)
        have hw : gsw x y k = unS x y := by
          unfold gsw
          rw [if_neg (by rw [hk]; decide +kernel), if_neg n1, if_neg n2]
        rw [hw]
        refine ⟨_, rfl, .inl ⟨rfl, _, SqL.of eW9.2.1⟩, _, rfl, u, _, _, _, rfl, rfl, .inl (.inl eu), rfl, _, rfl, u2, _, _, _, rfl, rfl, .inl (.inl eu2), rfl, _, _, rfl, rfl, _, rfl, u, _, _, _, rfl, rfl, .inl (.inl eu), rfl, _, rfl, u2, _, _, _, rfl, rfl, .inl (.inl eu2), rfl, _, _, rfl, rfl, _, _, rfl, rfl, _, rfl, u, _, _, _, rfl, rfl, .inl (.inl eu), rfl, _, rfl, u2, _, _, _, rfl, rfl, .inl (.inl eu2), rfl, _, _, rfl, rfl, _, rfl, u, _, _, _, rfl, rfl, .inl (.inl eu), rfl, _, rfl, u2, _, _, _, rfl, rfl, .inl (.inl eu2), rfl, _, _, rfl, rfl, _, _, rfl, rfl, (by show 2 ≤ sizeLine; decide), fun T nT => ?_⟩
        have sT := same_upd (o := .tup [.int (Builtin.bitOr (Builtin.bitAnd (pr0 x) (pr0 y)) (Builtin.bitAnd (pr1 x) (pr1 y))), .int (Builtin.bitOr (Builtin.bitAnd (pr0 x) (pr1 y)) (Builtin.bitAnd (pr1 x) (pr0 y)))]) nT
        refine ⟨W, _, _, rfl, rfl, sT _ _ eW9.2.1, lus, ?_⟩
        refine fin _ T _ _ _ _ sT ?_
        rw [upd_same, (pr_unlike hx hy).1, (pr_unlike hx hy).2]
      have n3 : ¬ k = "unlike" := fun y => z (decide_eq_true (congrArg V.str y))
      have hk : k = "other" := by
        rcases okj.1 with ⟨z | z | z, _⟩ | ⟨z, _⟩
        · exact absurd z n1
        · exact absurd z n2
        · exact absurd z n3
        · exact z
      have hw : gsw x y k = turnS x := by
        unfold gsw
        rw [if_pos hk]
      rw [hw]
      refine ⟨_, rfl, .inl ⟨rfl, _, SqL.of eW9.2.1⟩, _, rfl, u, _, _, _, rfl, rfl, .inl (.inl eu), rfl, _, rfl, u, _, _, _, rfl, rfl, .inl (.inl eu), rfl, (by show 2 ≤ sizeLine; decide), fun T nT => ?_⟩
      have sT := same_upd (o := .tup [.int (pr1 x), .int (pr0 x)]) nT
      refine ⟨W, _, _, rfl, rfl, sT _ _ eW9.2.1, lus, ?_⟩
      refine fin _ T _ _ _ _ sT ?_
      rw [upd_same, (pr_turn hx).1, (pr_turn hx).2]
  · rintro σ H9 ⟨y4, y5, y6, us, rfl, k9, eW9⟩
    rw [List.length_map, List.take_of_length_le (by omega)] at eW9
    dsimp only [tSeq]
    have sg := sgs_sg sc lc ok
    have lss : (sgs cs gs).length = m + gs.length := by rw [sgs_len, lc]
    generalize sgs cs gs = ss at *
    have s9 : Same H H9 := fun y u e => k9 _ _ (s1 _ _ e) (nWx _ _ e)
    refine ⟨_, rfl, W, rfl, ⟨_, SqL.of eW9.2.1⟩, fun D nD => ?_⟩
    refine lc_it (walk_list (K := K) (a := W) (xs := us.map V.ref)) (fun i H5 => Same H9 H5 ∧ H5 D = some (.lst (ssV (ss.take i)))) ⟨same_upd nD, upd_same⟩ (fun i H5 _ ⟨s5, _⟩ => SqL.of (s5 _ _ eW9.2.1)) ?_ ?_
    · rintro j z H5 H6 hj ⟨s5, eD⟩ ⟨rfl, hz⟩
      rw [List.getElem?_map] at hz
      have hj' : j < us.length := by
        rw [List.length_map] at hj
        exact hj
      rw [List.getElem?_eq_getElem hj'] at hz
      cases hz
      obtain ⟨c, hcj⟩ : ∃ c, ss[j]? = some c := ⟨_, List.getElem?_eq_getElem (by rw [← eW9.1]; exact hj')⟩
      have hc := sg c (List.mem_of_getElem? hcj)
      have eu := s5 _ _ (eW9.2.2 j _ _ (List.getElem?_eq_getElem hj') hcj)
      refine ⟨rfl, yesT ?_⟩
      refine fun p np => ⟨(by show 2 ≤ sizeLine; decide), fun K1 nK1 => ⟨(by show 2 ≤ sizeLine; decide), fun K2 nK2 => ⟨(by show 2 ≤ sizeLine; decide), fun K3 nK3 => ?_⟩⟩⟩
      have t0 := same_upd (o := .dT []) np
      have t1 := same_upd (o := .tup [.int 1, .int 0]) nK1
      have t2 := same_upd (o := .tup [.int 0, .int 1]) nK2
      have t3 := same_upd (o := .tup [.int 1, .int 1]) nK3
      have ep := t3 _ _ (t2 _ _ (t1 _ _ (upd_same (H := H6) (a := p) (o := .dT []))))
      have e1 := t3 _ _ (t2 _ _ (upd_same (H := upd H6 p (.dT [])) (a := K1) (o := .tup [.int 1, .int 0])))
      have e2 := t3 _ _ (upd_same (H := upd (upd H6 p (.dT [])) K1 (.tup [.int 1, .int 0])) (a := K2) (o := .tup [.int 0, .int 1]))
      have e3 := upd_same (H := upd (upd (upd H6 p (.dT [])) K1 (.tup [.int 1, .int 0])) K2 (.tup [.int 0, .int 1])) (a := K3) (o := .tup [.int 1, .int 1])
      have tA : Same H6 _ := ((t0.trans t1).trans t2).trans t3
      refine ⟨ep, tab60, ⟨⟨K1, rfl, e1, rfl⟩, ⟨K2, rfl, e2, rfl⟩, ⟨K3, rfl, e3, rfl⟩, True.intro⟩, (by show 3 ≤ 15; decide), ?_⟩
      generalize upd (upd (upd (upd H6 p (.dT [])) K1 (.tup [.int 1, .int 0])) K2 (.tup [.int 0, .int 1])) K3 (.tup [.int 1, .int 1]) = HK at *
      have up : us[j] ≠ p := ne_of_none eu np
      have eu' : (upd HK p (.dT (mergeT [] tab60))) us[j] = some (.tup (([.inl (pr0 c), .inl (pr1 c)] : List Key).map kV)) := by
        rw [upd_ne up]
        exact tA _ _ eu
      have dg := DGet.t (kvs := mergeT [] tab60) (k := [.inl (pr0 c), .inl (pr1 c)]) (upd_same (H := HK) (a := p) (o := .dT (mergeT [] tab60))) eu'
      rw [tab_val hc] at dg
      refine ⟨_, rfl, p, _, rfl, dg, ?_⟩
      have Dp' : D ≠ p := ne_of_none eD np
      refine ⟨_, (by rw [upd_ne Dp']; exact tA _ _ eD), ?_, fun y u e => ?_, ?_⟩
      · unfold ssV
        rw [List.length_map, List.length_take]
        exact Nat.lt_of_le_of_lt (Nat.min_le_right _ _) (small1000 (by omega))
      · rw [upd_ne (ne_of_none e nD), upd_ne (ne_of_none (s5 _ _ e) np)]
        exact tA _ _ (s5 _ _ e)
      · rw [upd_same, List.take_add_one, hcj]
        unfold ssV
        rw [List.map_append]
        rfl
    rintro H5 ⟨s5, eD⟩
    rw [List.length_map, List.take_of_length_le (by rw [eW9.1]; exact Nat.le_refl _)] at eD
    dsimp only [gName]
    try simp only [L2.start, List.map_cons, List.map_nil, List.length_cons, List.length_nil, List.replicate_succ, List.replicate_zero, List.cons_append, List.nil_append, List.set_cons_succ, List.set_cons_zero, Nat.reduceAdd, Nat.reduceSub, Nat.zero_add]
    have sH5 : Same H H5 := s9.trans s5
    have eF5 := sH5 _ _ eF
    have key : ∀ (i : Nat) (t : Addr) (x : Str × List Nat), vs[i]? = some t → nm[i]? = some x → ∃ l, H5 t = some (.tup [.str x.1, .ref l]) ∧ H5 l = some (.lst (nts x.2)) ∧ x.2.length ≤ 4 ∧ ∀ a ∈ x.2, a < m + gs.length := fun i t x ht hx => by
      obtain ⟨_, l, _, _, q2, q3⟩ := hvs i t x.1 x.2 ht hx
      obtain ⟨b1, b2⟩ := gok.2 i x.1 x.2 hx
      exact ⟨l, sH5 _ _ q2, sH5 _ _ q3, b1, b2⟩
    have at1 : ∀ x ∈ vs.map V.ref, ∃ i t y, x = V.ref t ∧ vs[i]? = some t ∧ nm[i]? = some y := fun x hx => by
      obtain ⟨t, ht, rfl⟩ := List.mem_map.mp hx
      obtain ⟨i, hi, ei⟩ := List.getElem_of_mem ht
      exact ⟨i, t, _, rfl, by rw [List.getElem?_eq_getElem hi, ei], List.getElem?_eq_getElem (by omega)⟩
    refine ⟨_, rfl, F, vs.map V.ref, nmOf H5, rfl, SqL.of eF5, fun x hx => ?_, fun x hx y hy e => ?_, fun ys p hp hpw np => ?_⟩
    · obtain ⟨i, t, y, rfl, ht, hy⟩ := at1 x hx
      obtain ⟨l, q2, _⟩ := key i t y ht hy
      exact ⟨t, _, rfl, by rw [nmOf_at q2]; exact q2⟩
    · obtain ⟨i, t, u, rfl, ht, hu⟩ := at1 x hx
      obtain ⟨j, t', u', rfl, ht', hu'⟩ := at1 y hy
      obtain ⟨_, q2, _⟩ := key i t u ht hu
      obtain ⟨_, q2', _⟩ := key j t' u' ht' hu'
      rw [nmOf_at q2, nmOf_at q2'] at e
      have ij := gok.1 _ _ _ _ hu hu' e
      subst ij
      rw [ht] at ht'
      cases ht'
      rfl
    have hz0 : (vs.zip nm).map (fun z => V.ref z.1) = vs.map V.ref := by
      show (vs.zip nm).map (V.ref ∘ Prod.fst) = _
      rw [← List.map_map, List.map_fst_zip (by omega)]
    rw [← hz0] at hp
    obtain ⟨zs, pz, ez⟩ := perm_lift hp (vs.zip nm) rfl
    subst ez
    have kz : ∀ z ∈ zs, ∃ l, H5 z.1 = some (.tup [.str z.2.1, .ref l]) ∧ H5 l = some (.lst (nts z.2.2)) ∧ z.2.2.length ≤ 4 ∧ ∀ a ∈ z.2.2, a < m + gs.length := fun z hz => by
      obtain ⟨i, hi, ei⟩ := List.getElem_of_mem (pz.mem_iff.mp hz)
      have e0 := List.getElem?_eq_getElem hi
      rw [ei, List.getElem?_zip_eq_some] at e0
      exact key i z.1 z.2 e0.1 e0.2
    have pn : (zs.map Prod.snd).Perm nm := by
      have := pz.map Prod.snd
      rw [List.map_snd_zip (by omega)] at this
      exact this
    have pw : ((zs.map Prod.snd).map (·.1)).Pairwise (fun x y => x.cps.toList ≤ y.cps.toList) := by
      rw [List.map_map, List.pairwise_map]
      rw [List.pairwise_map] at hpw
      refine hpw.imp_of_mem fun {x y} hx hy e => ?_
      obtain ⟨_, q2, _⟩ := kz x hx
      obtain ⟨_, q2', _⟩ := kz y hy
      rw [nmOf_at q2, nmOf_at q2'] at e
      exact e
    have sp := same_upd (o := .lst (zs.map fun z => V.ref z.1)) np
    have ep : (upd H5 p (.lst (zs.map fun z => V.ref z.1))) p = some (.lst (zs.map fun z => V.ref z.1)) := upd_same
    have eDp := sp _ _ eD
    replace kz : ∀ z ∈ zs, ∃ l, (upd H5 p (.lst (zs.map fun z => V.ref z.1))) z.1 = some (.tup [.str z.2.1, .ref l]) ∧ (upd H5 p (.lst (zs.map fun z => V.ref z.1))) l = some (.lst (nts z.2.2)) ∧ z.2.2.length ≤ 4 ∧ ∀ a ∈ z.2.2, a < m + gs.length := fun z hz => by
      obtain ⟨l, q1, q2, q3⟩ := kz z hz
      exact ⟨l, sp _ _ q1, sp _ _ q2, q3⟩
    have sHp := sH5.trans sp
    generalize upd H5 p (.lst (zs.map fun z => V.ref z.1)) = Hp' at *
    refine ⟨p, rfl, ⟨_, SqL.of ep⟩, fun T nT => ?_⟩
    refine lc_it (walk_list (K := K) (a := p) (xs := zs.map fun z => V.ref z.1)) (fun i H6 => Same Hp' H6 ∧ ∃ ws : List Addr, ws.length = i ∧ H6 T = some (.lst (ws.map V.ref)) ∧ ∀ (k : Nat) (u : Addr) (n : Str) (tx : List Nat), ws[k]? = some u → (setR ss (zs.map Prod.snd))[k]? = some (n, tx) → H u = none ∧ H6 u = some (.tup [.str n, .str (SX.S tx)])) ⟨same_upd nT, [], rfl, upd_same, fun k u n tx h => by simp at h⟩ (fun i H6 _ ⟨s6, _⟩ => SqL.of (s6 _ _ ep)) ?_ ?_
    · rintro j z H6 H7 hj ⟨s6, ws, lw, eT, hws⟩ ⟨rfl, hz⟩
      rw [List.getElem?_map] at hz
      have hj' : j < zs.length := by
        rw [List.length_map] at hj
        exact hj
      obtain ⟨⟨t, n, as⟩, hy⟩ : ∃ x, zs[j]? = some x := ⟨_, List.getElem?_eq_getElem hj'⟩
      have hrow : (setR ss (zs.map Prod.snd))[j]? = some (n, as.map fun a => ss.getD a 0) := by
        unfold setR
        rw [List.getElem?_map, List.getElem?_map, hy]
        rfl
      rw [hy] at hz
      cases hz
      obtain ⟨l, q1, q2, q3, q4⟩ := kz _ (List.mem_of_getElem? hy)
      dsimp only at q1 q2 q3 q4
      have q1' := s6 _ _ q1
      have q2' := s6 _ _ q2
      refine ⟨t, _, rfl, .inl (.inl q1'), rfl, _, _, rfl, _, _, rfl, rfl, rfl, ?_⟩
      refine yesT ?_
      refine ⟨_, rfl, rfl, _, rfl, l, rfl, ⟨_, SqL.of q2'⟩, fun U nU => ?_⟩
      refine lc_it (walk_list (K := K) (a := l) (xs := nts as)) (fun i H8 => Same H7 H8 ∧ H8 U = some (.lst (ssV ((as.map fun a => ss.getD a 0).take i)))) ⟨same_upd nU, upd_same⟩ (fun i H8 _ ⟨s8, _⟩ => SqL.of (s8 _ _ q2')) ?_ ?_
      · rintro k z H8 H8' hk ⟨s8, eU⟩ ⟨rfl, hz⟩
        obtain ⟨a, ha, rfl⟩ := nts_at hz
        have la := q4 a (List.mem_of_getElem? ha)
        refine ⟨rfl, yesT ?_⟩
        refine ⟨_, rfl, _, rfl, D, _, _, _, rfl, rfl, SqL.of (s8 _ _ (s6 _ _ eDp)), at_getS (by rw [lss]; exact la), ?_⟩
        refine ⟨_, eU, ?_, fun y u e => ?_, ?_⟩
        · unfold ssV
          rw [List.length_map, List.length_take, List.length_map]
          exact Nat.lt_of_le_of_lt (Nat.min_le_right _ _) (small1000 (by omega))
        · rw [upd_ne (ne_of_none e nU)]
          exact s8 _ _ e
        · rw [upd_same, List.take_add_one, List.getElem?_map, ha]
          unfold ssV
          rw [List.map_append]
          rfl
      rintro H8 ⟨s8, eU⟩
      rw [nts_len, List.take_of_length_le (by rw [List.length_map]; exact Nat.le_refl _)] at eU
      have eT8 := s8 _ _ eT
      generalize htx : (as.map fun a => ss.getD a 0) = tx at *
      have ltx : tx.length ≤ 4 := by
        rw [← htx, List.length_map]
        exact q3
      refine ⟨_, U, tx.map fun c => SX.S [c], rfl, rfl, .inl (.inl (.inl ?_)), join_z tx (by omega), ?_⟩
      · rw [List.map_map]
        exact eU
      rw [join_1]
      refine ⟨(by show 2 ≤ sizeLine; decide), fun u nu => ?_⟩
      have su := same_upd (o := .tup [.str n, .str (SX.S tx)]) nu
      have nuT : u ≠ T := fun z => by
        rw [z, eT8] at nu
        cases nu
      have sA : Same H7 (upd H8 u (.tup [.str n, .str (SX.S tx)])) := s8.trans su
      have nu0 : H u = none := by
        cases e : H u with
        | none => rfl
        | some o =>
          have := s8 _ _ (s6 _ _ (sHp _ _ e))
          rw [nu] at this
          cases this
      refine ⟨_, su _ _ eT8, ?_, fun y o e => ?_, ws ++ [u], by rw [List.length_append, lw]; rfl, ?_, fun k u' x' tx' hu hx' => ?_⟩
      · rw [List.length_map, lw]
        exact small1000 (by
          have := pn.length_eq
          rw [List.length_map] at this
          omega)
      · rw [upd_ne (ne_of_none e nT)]
        exact sA _ _ (s6 _ _ e)
      · rw [upd_same, List.map_append]
        rfl
      · by_cases c : k < ws.length
        · rw [List.getElem?_append_left c] at hu
          obtain ⟨p1, p3⟩ := hws k u' x' tx' hu hx'
          refine ⟨p1, ?_⟩
          rw [upd_ne (fun z => by rw [z, eT] at p3; cases p3)]
          exact sA _ _ p3
        · have k0 : k = ws.length := by
            have := (List.getElem?_eq_some_iff.mp hu).1
            rw [List.length_append, List.length_cons, List.length_nil] at this
            omega
          rw [List.getElem?_append_right (by omega), k0, Nat.sub_self] at hu
          rw [k0, lw, hrow] at hx'
          cases hu
          cases hx'
          refine ⟨nu0, ?_⟩
          rw [upd_ne nuT]
          exact upd_same
    · rintro H6 ⟨s6, ws, lw, eT, hws⟩
      have nT0 : H T = none := by
        cases e : H T with
        | none => rfl
        | some o =>
          have := sHp _ _ e
          rw [nT] at this
          cases this
      exact q (zs.map Prod.snd) T H6 pn pw (sHp.trans s6) ⟨ws, by rw [lw, List.length_map]; unfold setR; rw [List.length_map, List.length_map], eT, nT0, fun k u n tx hu hx => hws k u n tx hu hx⟩
/-! ### told rows asked -/
def RwAt (H : Hp) (t : Addr) (rs : List (Str × List Nat)) : Prop := ∃ ts : List Addr, ts.length = rs.length ∧ H t = some (.lst (ts.map V.ref)) ∧ ∀ (i : Nat) (u : Addr) (n : Str) (tx : List Nat), ts[i]? = some u → rs[i]? = some (n, tx) → H u = some (.tup [.str n, .str (SX.S tx)])
theorem SetAt.rw {H0 H : Hp} {t : Addr} {rs : List (Str × List Nat)} (h : SetAt H0 H t rs) : RwAt H t rs := by
  obtain ⟨ts, h1, h2, _, h4⟩ := h
  exact ⟨ts, h1, h2, fun i u n tx hu hr => (h4 i u n tx hu hr).2⟩
theorem RwAt.same {H H' : Hp} {t : Addr} {rs : List (Str × List Nat)} (h : RwAt H t rs) (s : Same H H') : RwAt H' t rs := by
  obtain ⟨ts, h1, h2, h3⟩ := h
  exact ⟨ts, h1, s _ _ h2, fun i u n tx hu hr => s _ _ (h3 i u n tx hu hr)⟩
def opn (r : Str × List Nat) : Bool := decide (45 ∈ r.2)
def spOpen60 : Sp := fun vs H Q _ => ∃ (t : Addr) (rs : List (Str × List Nat)), vs = [.ref t] ∧ RwAt H t rs ∧ rs.length ≤ 4 ∧ ∀ H', Same H H' → Q (.bl (rs.any opn)) H'
theorem ok__law_is_open (B : Bl mg) (L : LL K mg C za zl) : FnOk P w K mg base CX0 1 (za 23) (zl 23) ["_law_told"] spOpen60 := by
  refine L.F__law_is_open.ok sc__law_is_open (fun vs H Q E h => ?_) (fun cdv A outer s H vs Q E hr h => ?_)
  · obtain ⟨t, rs, rfl, _⟩ := h
    rfl
  obtain ⟨t, rs, rfl, ⟨ts, lt, et, hts⟩, hl, q⟩ := h
  refine ⟨_, (pss_one (ps_ret (pe_callB (cr_any rfl) (by rfl) B.any boot_any (pa_cons (pe_lc (own := [("_law_name", 1), ("_law_text", 2)]) (g := gTup K 2 (gCons (gName 1) (gCons (gName 2) gNil))) (by rfl) sc__law_is_open.nd (pi_list (pv 0)) (blkOk_by (own := [("_law_name", 1), ("_law_text", 2)]) (N := ["_law_told", "_law_name", "_law_text"]) (sc := defScope s__law_is_open) (by decide +kernel)) (fun _ _ _ _ _ => pg_tup rfl (pgs_cons (pg_name (i := 1) sc__law_is_open.nd rfl (Or.inl rfl) (.inr rfl)) (pgs_cons (pg_name (i := 2) sc__law_is_open.nd rfl (Or.inl rfl) (.inr rfl)) pgs_nil))) (fun _ _ _ _ _ => pts_nil) (fun _ _ _ _ _ => (pe_cmpR op_in_sign pe_str (pv 2) (by rfl)))) pa_nil)))), ?_⟩
  refine ⟨_, rfl, t, rfl, ⟨_, SqL.of et⟩, fun D nD => ?_⟩
  refine lc_it (walk_list (K := K) (a := t) (xs := ts.map V.ref)) (fun i H6 => Same H H6 ∧ H6 D = some (.lst (((rs.map opn).take i).map V.bl))) ⟨same_upd nD, upd_same⟩ (fun i H6 _ ⟨s6, _⟩ => SqL.of (s6 _ _ et)) ?_ ?_
  · rintro j z H6 H7 hj ⟨s6, eD⟩ ⟨rfl, hz⟩
    rw [List.getElem?_map] at hz
    have hj' : j < ts.length := by
      rw [List.length_map] at hj
      exact hj
    rw [List.getElem?_eq_getElem hj'] at hz
    cases hz
    obtain ⟨⟨n, tx⟩, hr⟩ : ∃ x, rs[j]? = some x := ⟨_, List.getElem?_eq_getElem (by omega)⟩
    have eu := s6 _ _ (hts j _ _ _ (List.getElem?_eq_getElem hj') hr)
    refine ⟨ts[j], _, rfl, .inl (.inl eu), rfl, _, _, rfl, _, _, rfl, rfl, rfl, ?_⟩
    refine yesT ?_
    rw [mns]
    refine ⟨_, rfl, 45, _, rfl, rfl, ?_⟩
    refine ⟨_, eD, ?_, fun y u e => ?_, ?_⟩
    · rw [List.length_map, List.length_take, List.length_map]
      exact Nat.lt_of_le_of_lt (Nat.min_le_right _ _) (small1000 (by omega))
    · rw [upd_ne (ne_of_none e nD)]
      exact s6 _ _ e
    · rw [upd_same, List.take_add_one, List.getElem?_map, hr, List.map_append]
      rfl
  · rintro H6 ⟨s6, eD⟩
    rw [List.length_map, lt, List.take_of_length_le (by rw [List.length_map]; exact Nat.le_refl _)] at eD
    refine ⟨D, rs.map opn, rfl, SqL.of eD, ?_⟩
    rw [List.any_map]
    exact q H6 s6
def txs (rs : List (Str × List Nat)) : List Nat := (rs.map (·.2)).flatten
def KeptL (f g : List Nat) : Prop := f.length = g.length ∧ ∀ (i : Nat) (a c : Nat), f[i]? = some a → g[i]? = some c → a = 45 ∨ a = c
theorem dp_strs3 {H : Hp} : ∀ ds : List Str, DpAll K H (ds.map V.str) (ds.map PyData.str)
  | [] => .nil
  | d :: ds => .cons (.str d) (dp_strs3 ds)
def stD (ds : List Int) (n x y z : Int) (r : Int × List Str) : PyData := .list [.tuple [.str "fours", .list (ds.map PyData.int)], .tuple [.str "levels", .int n], .tuple [.str "pair", .int x, .int y], .tuple [.str "product", .int z], .tuple [.str "round", .int r.1, .tuple (r.2.map PyData.str)]]
theorem joinL_0 : ∀ l : List (List Nat), TL.joinL [] l = l.flatten
  | [] => rfl
  | [a] => by simp [TL.joinL]
  | a :: b :: l => by
    show a ++ ([] ++ TL.joinL [] (b :: l)) = _
    rw [joinL_0 (b :: l)]
    rfl
theorem join_txs (rs : List (Str × List Nat)) : Txt.join "" (rs.map fun r => SX.S r.2) = SX.S (txs rs) := by
  have e := SX.join_S [] (rs.map (·.2))
  rw [List.map_map, joinL_0] at e
  exact e
theorem sum_txs (rs : List (Str × List Nat)) (h : ∀ r ∈ rs, r.2.length ≤ 4) : ((rs.map fun r => SX.S r.2).map (·.length)).sum ≤ 4 * rs.length := by
  induction rs with
  | nil => exact Nat.le_refl _
  | cons r rs ih =>
    have a := ih fun x hx => h x (List.mem_cons_of_mem _ hx)
    have b := h r (List.mem_cons_self ..)
    rw [List.map_cons, List.map_cons, List.sum_cons, SX.S_len, List.length_cons]
    omega
theorem len_txs (rs : List (Str × List Nat)) (h : ∀ r ∈ rs, r.2.length ≤ 4) : (txs rs).length ≤ 4 * rs.length := by
  unfold txs
  induction rs with
  | nil => exact Nat.le_refl _
  | cons r rs ih =>
    have a := ih fun x hx => h x (List.mem_cons_of_mem _ hx)
    have b := h r (List.mem_cons_self ..)
    rw [List.map_cons, List.flatten_cons, List.length_append, List.length_cons]
    omega
theorem ok_has_open (B : Bl mg) (L : LL K mg C za zl) : FnOk P w K mg base CX0 1 (za 12) (zl 12) ["told"] spOpen60 := by
  refine L.F_has_open.ok sc_has_open (fun vs H Q E h => ?_) (fun cdv A outer s H vs Q E hr h => ?_)
  · obtain ⟨t, rs, rfl, _⟩ := h
    rfl
  obtain ⟨t, rs, rfl, ⟨ts, lt, et, hts⟩, hl, q⟩ := h
  refine ⟨_, (pss_one (ps_ret (pe_callB (cr_any rfl) (by rfl) B.any boot_any (pa_cons (pe_lc (own := [("name", 1), ("signs", 2)]) (g := gTup K 2 (gCons (gName 1) (gCons (gName 2) gNil))) (by rfl) sc_has_open.nd (pi_list (pv 0)) (blkOk_by (own := [("name", 1), ("signs", 2)]) (N := ["told", "name", "signs"]) (sc := defScope s_has_open) (by decide +kernel)) (fun _ _ _ _ _ => pg_tup rfl (pgs_cons (pg_name (i := 1) sc_has_open.nd rfl (Or.inl rfl) (.inr rfl)) (pgs_cons (pg_name (i := 2) sc_has_open.nd rfl (Or.inl rfl) (.inr rfl)) pgs_nil))) (fun _ _ _ _ _ => pts_nil) (fun _ _ _ _ _ => (pe_cmpR op_in_sign pe_str (pv 2) (by rfl)))) pa_nil)))), ?_⟩
  refine ⟨_, rfl, t, rfl, ⟨_, SqL.of et⟩, fun D nD => ?_⟩
  refine lc_it (walk_list (K := K) (a := t) (xs := ts.map V.ref)) (fun i H6 => Same H H6 ∧ H6 D = some (.lst (((rs.map opn).take i).map V.bl))) ⟨same_upd nD, upd_same⟩ (fun i H6 _ ⟨s6, _⟩ => SqL.of (s6 _ _ et)) ?_ ?_
  · rintro j z H6 H7 hj ⟨s6, eD⟩ ⟨rfl, hz⟩
    rw [List.getElem?_map] at hz
    have hj' : j < ts.length := by
      rw [List.length_map] at hj
      exact hj
    rw [List.getElem?_eq_getElem hj'] at hz
    cases hz
    obtain ⟨⟨n, tx⟩, hr⟩ : ∃ x, rs[j]? = some x := ⟨_, List.getElem?_eq_getElem (by omega)⟩
    have eu := s6 _ _ (hts j _ _ _ (List.getElem?_eq_getElem hj') hr)
    refine ⟨ts[j], _, rfl, .inl (.inl eu), rfl, _, _, rfl, _, _, rfl, rfl, rfl, ?_⟩
    refine yesT ?_
    rw [mns]
    refine ⟨_, rfl, 45, _, rfl, rfl, ?_⟩
    refine ⟨_, eD, ?_, fun y u e => ?_, ?_⟩
    · rw [List.length_map, List.length_take, List.length_map]
      exact Nat.lt_of_le_of_lt (Nat.min_le_right _ _) (small1000 (by omega))
    · rw [upd_ne (ne_of_none e nD)]
      exact s6 _ _ e
    · rw [upd_same, List.take_add_one, List.getElem?_map, hr, List.map_append]
      rfl
  · rintro H6 ⟨s6, eD⟩
    rw [List.length_map, lt, List.take_of_length_le (by rw [List.length_map]; exact Nat.le_refl _)] at eD
    refine ⟨D, rs.map opn, rfl, SqL.of eD, ?_⟩
    rw [List.any_map]
    exact q H6 s6
/-! ### shutting a place keeps what is settled -/
theorem kept_turn {a c : Nat} (ha : a = 45 ∨ a = 48 ∨ a = 49) (hc : c = 45 ∨ c = 48 ∨ c = 49) (h : a = 45 ∨ a = c) : turnS a = 45 ∨ turnS a = turnS c := by
  rcases h with rfl | rfl
  · exact .inl rfl
  · exact .inr rfl
theorem kept_ru {a b c d r : Nat} (hr : r = 48 ∨ r = 49) (ha : a = 45 ∨ a = 48 ∨ a = 49) (hb : b = 45 ∨ b = 48 ∨ b = 49) (hc : c = 45 ∨ c = 48 ∨ c = 49) (hd : d = 45 ∨ d = 48 ∨ d = 49) (h : a = 45 ∨ a = c) (k : b = 45 ∨ b = d) : ruS a b r = 45 ∨ ruS a b r = ruS c d r := by
  rcases hr with rfl | rfl <;> rcases ha with rfl | rfl | rfl <;> rcases hb with rfl | rfl | rfl <;> rcases hc with rfl | rfl | rfl <;> rcases hd with rfl | rfl | rfl <;> revert h k <;> decide
theorem kept_un {a b c d : Nat} (ha : a = 45 ∨ a = 48 ∨ a = 49) (hb : b = 45 ∨ b = 48 ∨ b = 49) (h : a = 45 ∨ a = c) (k : b = 45 ∨ b = d) : unS a b = 45 ∨ unS a b = unS c d := by
  rcases h with rfl | rfl
  · exact .inl (if_pos (.inl rfl))
  · rcases k with rfl | rfl
    · exact .inl (if_pos (.inr rfl))
    · exact .inr rfl
theorem KeptL.get {f g : List Nat} (h : KeptL f g) {a : Nat} (ha : a < f.length) : f.getD a 0 = 45 ∨ f.getD a 0 = g.getD a 0 := by
  have hb : a < g.length := by rw [← h.1]; exact ha
  have := h.2 a _ _ (List.getElem?_eq_getElem ha) (List.getElem?_eq_getElem hb)
  rw [List.getD, List.getD, List.getElem?_eq_getElem ha, List.getElem?_eq_getElem hb]
  exact this
theorem KeptL.snoc {f g : List Nat} {a c : Nat} (h : KeptL f g) (k : a = 45 ∨ a = c) : KeptL (f ++ [a]) (g ++ [c]) := by
  refine ⟨by rw [List.length_append, List.length_append, h.1]; rfl, fun i x y hx hy => ?_⟩
  by_cases d : i < f.length
  · rw [List.getElem?_append_left d] at hx
    rw [List.getElem?_append_left (by rw [← h.1]; exact d)] at hy
    exact h.2 i x y hx hy
  · have i0 : i = f.length := by
      have := (List.getElem?_eq_some_iff.mp hx).1
      rw [List.length_append, List.length_cons, List.length_nil] at this
      omega
    rw [List.getElem?_append_right (by omega), i0, Nat.sub_self] at hx
    rw [List.getElem?_append_right (by rw [← h.1]; omega), i0, h.1, Nat.sub_self] at hy
    cases hx
    cases hy
    exact k
theorem kept_gate {f g : List Nat} (sf : SgL f) (sg : SgL g) (h : KeptL f g) {gt : Gt} (ok : gt.ok f.length) : gsg f gt = 45 ∨ gsg f gt = gsg g gt := by
  cases gt with
  | fi b => exact .inr rfl
  | w k l =>
    show gsw (f.getD (l.getD 0 0) 0) (f.getD (l.getD 1 0) 0) k = 45 ∨ gsw (f.getD (l.getD 0 0) 0) (f.getD (l.getD 1 0) 0) k = gsw (g.getD (l.getD 0 0) 0) (g.getD (l.getD 1 0) 0) k
    have l0 : 0 < l.length := by
      rcases ok.1 with ⟨_, z⟩ | ⟨_, z⟩ <;> omega
    have la : l.getD 0 0 < f.length := by
      match l, l0, ok with
      | a :: l, _, ok => exact ok.2 a (by simp)
    have la' : l.getD 0 0 < g.length := by rw [← h.1]; exact la
    have k0 := h.get la
    have x1 := getD_sg sf la
    have x2 := getD_sg sg la'
    unfold gsw
    by_cases ko : k = "other"
    · rw [if_pos ko, if_pos ko]
      exact kept_turn x1 x2 k0
    rw [if_neg ko, if_neg ko]
    have l2 : l.length = 2 := by
      rcases ok.1 with ⟨_, z⟩ | ⟨z, _⟩
      · exact z
      · exact absurd z ko
    have lb : l.getD 1 0 < f.length := by
      match l, l2, ok with
      | [a, b], _, ok => exact ok.2 b (by simp)
    have lb' : l.getD 1 0 < g.length := by rw [← h.1]; exact lb
    have k1 := h.get lb
    have y1 := getD_sg sf lb
    have y2 := getD_sg sg lb'
    by_cases kb : k = "both"
    · rw [if_pos kb, if_pos kb]
      exact kept_ru (.inl rfl) x1 y1 x2 y2 k0 k1
    rw [if_neg kb, if_neg kb]
    by_cases ke : k = "either"
    · rw [if_pos ke, if_pos ke]
      exact kept_ru (.inr rfl) x1 y1 x2 y2 k0 k1
    rw [if_neg ke, if_neg ke]
    exact kept_un x1 y1 k0 k1
theorem kept_sgs {m : Nat} {f g : List Nat} (sf : SgL f) (sg : SgL g) (lf : f.length = m) (lg : g.length = m) (h : KeptL f g) {gs : List Gt} (ok : GsOk m gs) : KeptL (sgs f gs) (sgs g gs) := by
  have key : ∀ j, j ≤ gs.length → KeptL (sgs f (gs.take j)) (sgs g (gs.take j)) := by
    intro j
    induction j with
    | zero => exact fun _ => h
    | succ j ih =>
      intro hj
      have hg : gs[j]? = some gs[j] := List.getElem?_eq_getElem (by omega)
      have okj : GsOk m (gs.take j) := fun i g' h => ok i g' (by
        rw [List.getElem?_take] at h
        split at h
        · exact h
        · cases h)
      rw [List.take_add_one, hg]
      show KeptL (sgs f (gs.take j ++ [gs[j]])) (sgs g (gs.take j ++ [gs[j]]))
      rw [sgs_snoc, sgs_snoc]
      refine (ih (by omega)).snoc (kept_gate (sgs_sg sf lf okj) (sgs_sg sg lg okj) (ih (by omega)) ?_)
      rw [sgs_len, List.length_take, lf, Nat.min_eq_left (by omega)]
      exact ok j _ hg
  have k := key gs.length (Nat.le_refl _)
  rw [List.take_length] at k
  exact k
theorem kept_rows {f g : List Nat} (h : KeptL f g) : ∀ (nm : List (Str × List Nat)), (∀ x ∈ nm, ∀ a ∈ x.2, a < f.length) → KeptL (txs (setR f nm)) (txs (setR g nm)) := by
  have app : ∀ {a b c d : List Nat}, KeptL a c → KeptL b d → KeptL (a ++ b) (c ++ d) := fun {a b c d} p q => by
    refine ⟨by rw [List.length_append, List.length_append, p.1, q.1], fun i x y hx hy => ?_⟩
    by_cases l : i < a.length
    · rw [List.getElem?_append_left l] at hx
      rw [List.getElem?_append_left (by rw [← p.1]; exact l)] at hy
      exact p.2 i x y hx hy
    · rw [List.getElem?_append_right (by omega)] at hx
      rw [List.getElem?_append_right (by rw [← p.1]; omega), ← p.1] at hy
      exact q.2 _ x y hx hy
  intro nm
  induction nm with
  | nil => exact fun _ => ⟨rfl, fun i a c x => by cases x⟩
  | cons r nm ih =>
    intro hb
    refine app ⟨by rw [List.length_map, List.length_map], fun i x y hx hy => ?_⟩ (ih fun x hx => hb x (List.mem_cons_of_mem _ hx))
    rw [List.getElem?_map] at hx hy
    obtain ⟨a, e, rfl⟩ := Option.map_eq_some_iff.mp hx
    rw [e] at hy
    cases hy
    exact h.get (hb r (List.mem_cons_self ..) a (List.mem_of_getElem? e))
/-! ### all shut: none open -/
theorem shut_gate {f : List Nat} (sf : SgL f) (no : 45 ∉ f) {gt : Gt} (ok : gt.ok f.length) : ¬ gsg f gt = 45 := by
  have at1 : ∀ a, a < f.length → f.getD a 0 = 48 ∨ f.getD a 0 = 49 := fun a ha => by
    rcases getD_sg sf ha with z | z | z
    · refine absurd ?_ no
      rw [← z, List.getD, List.getElem?_eq_getElem ha]
      exact List.getElem_mem ha
    · exact .inl z
    · exact .inr z
  cases gt with
  | fi b =>
    show ¬ (if b = 1 then 49 else 48) = 45
    split <;> decide
  | w k l =>
    show ¬ gsw (f.getD (l.getD 0 0) 0) (f.getD (l.getD 1 0) 0) k = 45
    have l0 : 0 < l.length := by
      rcases ok.1 with ⟨_, z⟩ | ⟨_, z⟩ <;> omega
    have hx := at1 (l.getD 0 0) (by
      match l, l0, ok with
      | a :: l, _, ok => exact ok.2 a (by simp))
    unfold gsw
    by_cases ko : k = "other"
    · rw [if_pos ko]
      rcases hx with z | z <;> rw [z] <;> decide
    rw [if_neg ko]
    have l2 : l.length = 2 := by
      rcases ok.1 with ⟨_, z⟩ | ⟨z, _⟩
      · exact z
      · exact absurd z ko
    have hy := at1 (l.getD 1 0) (by
      match l, l2, ok with
      | [a, b], _, ok => exact ok.2 b (by simp))
    split
    · rcases hx with z | z <;> rcases hy with w | w <;> rw [z, w] <;> decide
    split
    · rcases hx with z | z <;> rcases hy with w | w <;> rw [z, w] <;> decide
    · rcases hx with z | z <;> rcases hy with w | w <;> rw [z, w] <;> decide
theorem shut_sgs {m : Nat} {f : List Nat} (sf : SgL f) (no : 45 ∉ f) (lf : f.length = m) {gs : List Gt} (ok : GsOk m gs) : 45 ∉ sgs f gs := by
  have key : ∀ j, j ≤ gs.length → 45 ∉ sgs f (gs.take j) := by
    intro j
    induction j with
    | zero => exact fun _ => no
    | succ j ih =>
      intro hj
      have hg : gs[j]? = some gs[j] := List.getElem?_eq_getElem (by omega)
      have okj : GsOk m (gs.take j) := fun i g' h => ok i g' (by
        rw [List.getElem?_take] at h
        split at h
        · exact h
        · cases h)
      rw [List.take_add_one, hg]
      show 45 ∉ sgs f (gs.take j ++ [gs[j]])
      rw [sgs_snoc]
      intro hm
      rcases List.mem_append.mp hm with z | z
      · exact ih (by omega) z
      · refine shut_gate (sgs_sg sf lf okj) (ih (by omega)) ?_ (List.mem_singleton.mp z).symm
        rw [sgs_len, List.length_take, lf, Nat.min_eq_left (by omega)]
        exact ok j _ hg
  have k := key gs.length (Nat.le_refl _)
  rw [List.take_length] at k
  exact k
theorem shut_rows {f : List Nat} (no : 45 ∉ f) (nm : List (Str × List Nat)) (hb : ∀ x ∈ nm, ∀ a ∈ x.2, a < f.length) : (setR f nm).any opn = false := by
  rw [List.any_eq_false]
  intro r hr
  obtain ⟨x, hx, rfl⟩ := List.mem_map.mp hr
  intro z
  have z := of_decide_eq_true z
  obtain ⟨a, ha, e⟩ := List.mem_map.mp z
  have la := hb x hx a ha
  refine no ?_
  rw [← e, List.getD, List.getElem?_eq_getElem la]
  exact List.getElem_mem la
/-! ### what is drawn stands while the net grows -/
theorem rise_pw : ∀ (ss : List Str) (p : Str), risingS p ss = true → (p :: ss).Pairwise fun x y => x.cps.toList ≤ y.cps.toList
  | [], p, _ => List.pairwise_singleton _ _
  | s :: ss, p, h => by
    unfold risingS at h
    obtain ⟨h1, h2⟩ := Bool.and_eq_true_iff.mp h
    have ih := rise_pw ss s h2
    have le : p.cps.toList ≤ s.cps.toList := by
      rw [ltCps_eq] at h1
      simpa using h1
    refine List.pairwise_cons.mpr ⟨fun y hy => ?_, ih⟩
    rcases List.mem_cons.mp hy with e | hy
    · rw [e]
      exact le
    · exact List.le_trans le ((List.pairwise_cons.mp ih).1 y hy)
end
section
variable {P : Program} {w : World} {K : PySem.W.Frag} {mg : Str → Option Value} {base : Heap}
variable {C : Addr} {za : Nat → Addr} {zl : Nat → FuncData}
/-! ### two nets looked at -/
def GvW (M : Nat) (nm : List (Str × List Nat)) : Prop := (∀ (i j : Nat) (x y : Str × List Nat), nm[i]? = some x → nm[j]? = some y → x.1 = y.1 → i = j) ∧ ∀ x ∈ nm, x.2.length ≤ 8 ∧ ∀ a ∈ x.2, a < M
/-- a net that is well made -/
def NW (C : Addr) (H : Hp) (p : NetP) (m : Nat) (gs : List Gt) (nm : List (Str × List Nat)) : Prop := (∃ Z, NetAt C Z H p m gs nm) ∧ GsOk m gs ∧ GvW (m + gs.length) nm ∧ m ≤ 20 ∧ gs.length ≤ 40 ∧ nm.length ≤ 4
theorem NW.same {C : Addr} {H H' : Hp} {p : NetP} {m : Nat} {gs : List Gt} {nm : List (Str × List Nat)} (h : NW C H p m gs nm) (s : Same H H') : NW C H' p m gs nm := by
  obtain ⟨⟨Z, hN⟩, r⟩ := h
  exact ⟨⟨Z, hN.same s⟩, r⟩
def rwD (rs : List (Str × List Nat)) : PyData := .list (rs.map fun r => .tuple [.str r.1, .str (SX.S r.2)])
theorem RwAt.dp {H : Hp} {t : Addr} {rs : List (Str × List Nat)} (h : RwAt H t rs) : Dp K H (.ref t) (rwD rs) := by
  obtain ⟨ts, lt, et, hts⟩ := h
  refine .lst (SqL.of et) ?_
  clear et
  induction ts generalizing rs with
  | nil =>
    cases rs with
    | nil => exact .nil
    | cons r rs => cases lt
  | cons u ts ih =>
    cases rs with
    | nil => cases lt
    | cons r rs => exact .cons (.tup (.inl (.inl (hts 0 u r.1 r.2 rfl rfl))) (.cons (.str _) (.cons (.str _) .nil))) (ih (Nat.succ.inj lt) fun i u n tx a c => hts (i + 1) u n tx a c)
theorem pl_rw (rs : List (Str × List Nat)) : (rwD rs).plain = true ∧ (rwD rs).depth ≤ 64 := pl_list fun d hd => by
  obtain ⟨r, _, rfl⟩ := List.mem_map.mp hd
  exact ⟨rfl, by simp [PyData.depth, PyData.depthAll]⟩
theorem setR_len (f : List Nat) (nm : List (Str × List Nat)) : (setR f nm).length = nm.length := List.length_map ..
/-! ### what doesn't fit -/
def firstD : List (Str × List Nat) → List (Str × List Nat) → Option Str
  | x :: xs, y :: ys => if x.2.length = y.2.length then firstD xs ys else some x.1
  | _, _ => none
def dueL (ma mb : Nat) (sa sb : List (Str × List Nat)) : Option Str := if ma = mb then (if sa.map (·.1) = sb.map (·.1) then firstD sa sb else some (Str.ofString "names")) else some (Str.ofString "inputs")
def Rise (l : List (Str × List Nat)) : Prop := (l.map (·.1)).Pairwise fun x y => x.cps.toList ≤ y.cps.toList
/-- names of a net in order -/
def SoOf (sa na : List (Str × List Nat)) : Prop := sa.Perm na ∧ Rise sa
theorem le_str {x y : Str} (a : x.cps.toList ≤ y.cps.toList) (b : y.cps.toList ≤ x.cps.toList) : x = y := by
  have e := Array.toList_inj.mp (List.le_antisymm a b)
  cases x
  cases y
  congr 1
theorem SoOf.names {sa na : List (Str × List Nat)} (h : SoOf sa na) {ys : List Str} (p : ys.Perm (na.map (·.1))) (s : sortedS ys = true) : ys = sa.map (·.1) := by
  have pw : ys.Pairwise fun x y => x.cps.toList ≤ y.cps.toList := by
    cases ys with
    | nil => exact .nil
    | cons x r => exact rise_pw r x s
  exact List.Perm.eq_of_pairwise (le := fun x y : Str => x.cps.toList ≤ y.cps.toList) (fun x y _ _ a b => le_str a b) pw h.2 (p.trans (h.1.map (·.1)).symm)
theorem pl_strs (l : List Str) : (PyData.list (l.map PyData.str)).plain = true ∧ (PyData.list (l.map PyData.str)).depth ≤ 64 := pl_list fun d hd => by
  obtain ⟨y, _, rfl⟩ := List.mem_map.mp hd
  exact ⟨rfl, by simp [PyData.depth]⟩
theorem eqv_strs : ∀ a b : List Str, PyData.eqv (.list (a.map PyData.str)) (.list (b.map PyData.str)) = decide (a = b)
  | [], [] => rfl
  | [], _ :: _ => rfl
  | _ :: _, [] => rfl
  | x :: a, y :: b => by
    have ih := eqv_strs a b
    simp only [PyData.eqv, List.map_cons, PyData.eqvAll] at ih ⊢
    rw [ih, Bool.eq_iff_iff]
    simp
theorem firstD_none {xs ys : List (Str × List Nat)} (h : firstD xs ys = none) {i : Nat} {x y : Str × List Nat} (hx : xs[i]? = some x) (hy : ys[i]? = some y) : x.2.length = y.2.length := by
  induction xs generalizing ys i with
  | nil => simp at hx
  | cons u xs ih =>
    cases ys with
    | nil => simp at hy
    | cons v ys =>
      unfold firstD at h
      split at h
      · cases i with
        | zero =>
          cases hx
          cases hy
          assumption
        | succ i => exact ih h (by simpa using hx) (by simpa using hy)
      · cases h
theorem firstD_at {xs ys : List (Str × List Nat)} {j : Nat} (h : ∀ i, i < j → ∀ x y, xs[i]? = some x → ys[i]? = some y → x.2.length = y.2.length) {x y : Str × List Nat} (hx : xs[j]? = some x) (hy : ys[j]? = some y) (ne : ¬ x.2.length = y.2.length) : firstD xs ys = some x.1 := by
  induction xs generalizing ys j with
  | nil => simp at hx
  | cons u xs ih =>
    cases ys with
    | nil => simp at hy
    | cons v ys =>
      unfold firstD
      cases j with
      | zero =>
        cases hx
        cases hy
        rw [if_neg ne]
      | succ j =>
        rw [if_pos (h 0 (Nat.succ_pos j) u v rfl rfl)]
        exact ih (j := j) (fun i hi x y a b => h (i + 1) (Nat.succ_lt_succ hi) x y (by simpa using a) (by simpa using b)) (by simpa using hx) (by simpa using hy)
theorem firstD_all {xs ys : List (Str × List Nat)} (h : ∀ (i : Nat) (x y : Str × List Nat), xs[i]? = some x → ys[i]? = some y → x.2.length = y.2.length) : firstD xs ys = none := by
  induction xs generalizing ys with
  | nil => rfl
  | cons u xs ih =>
    cases ys with
    | nil => rfl
    | cons v ys =>
      unfold firstD
      rw [if_pos (h 0 u v rfl rfl)]
      exact ih fun i x y a b => h (i + 1) x y (by simpa using a) (by simpa using b)
def Let (E : XK) (H : Hp) (c : Addr) (v : V) : Prop := ∀ d H', Same H H' → H' d = none → E (.ref c) (some d) (upd H' d (.xd [(("what" : Str), v)]))
theorem Let.same {E : XK} {H H' : Hp} {c : Addr} {v : V} (h : Let E H c v) (s : Same H H') : Let E H' c v := fun d H2 s2 n => h d H2 (s.trans s2) n
/-- two nets that fit -/
structure Two (C : Addr) (H : Hp) (pa pb : NetP) (m : Nat) (ga gb : List Gt) (na nb sa sb : List (Str × List Nat)) : Prop where
  a : NW C H pa m ga na
  b : NW C H pb m gb nb
  oa : SoOf sa na
  ob : SoOf sb nb
  due : dueL m m sa sb = none
theorem Two.same {C : Addr} {H H' : Hp} {pa pb : NetP} {m : Nat} {ga gb : List Gt} {na nb sa sb : List (Str × List Nat)} (h : Two C H pa pb m ga gb na nb sa sb) (s : Same H H') : Two C H' pa pb m ga gb na nb sa sb := ⟨h.a.same s, h.b.same s, h.oa, h.ob, h.due⟩
def GvL (H : Hp) (F : Addr) (nm : List (Str × List Nat)) : Prop := ∃ ts : List Addr, ts.length = nm.length ∧ H F = some (.lst (ts.map V.ref)) ∧ ∀ (i : Nat) (t : Addr) (n : Str) (ws : List Nat), ts[i]? = some t → nm[i]? = some (n, ws) → ∃ l, H t = some (.tup [.str n, .ref l]) ∧ H l = some (.lst (nts ws))
theorem GvL.same {H H' : Hp} {F : Addr} {nm : List (Str × List Nat)} (h : GvL H F nm) (s : Same H H') : GvL H' F nm := by
  obtain ⟨ts, h1, h2, h3⟩ := h
  refine ⟨ts, h1, s _ _ h2, fun i t n ws ht hn => ?_⟩
  obtain ⟨l, a, c⟩ := h3 i t n ws ht hn
  exact ⟨l, s _ _ a, s _ _ c⟩
theorem GvAt.L {b : Addr} {H : Hp} {F : Addr} {nm : List (Str × List Nat)} (h : GvAt b H F nm) : GvL H F nm := by
  obtain ⟨_, ts, h1, h2, h3⟩ := h
  refine ⟨ts, h1, h2, fun i t n ws ht hn => ?_⟩
  obtain ⟨_, l, _, _, a, c⟩ := h3 i t n ws ht hn
  exact ⟨l, a, c⟩
def Inj (nm : List (Str × List Nat)) : Prop := ∀ (i j : Nat) (x y : Str × List Nat), nm[i]? = some x → nm[j]? = some y → x.1 = y.1 → i = j
theorem so_one {nm sa sb : List (Str × List Nat)} (inj : Inj nm) (h1 : SoOf sa nm) (h2 : SoOf sb nm) : sa = sb := rows_one inj h1.1 h1.2 h2.1 h2.2
theorem RowsAt46.ne {c : Int} {H : Hp} {R b : Addr} {gs : List Gt} (h : RowsAt46 H R gs) (B : BoxAt c H b) : R ≠ b := fun z => by
  obtain ⟨ts, lt, e, _⟩ := h
  obtain ⟨x0, x1, x2, eb, _⟩ := B
  rw [z, eb] at e
  have := HO.lst.inj (Option.some.inj e)
  cases ts with
  | nil => cases this
  | cons t ts => cases this
theorem RowsAt46.keep {T : List Addr} {H H' : Hp} {R : Addr} {gs : List Gt} (h : RowsAt46 H R gs) (k : KeepS T H H') (n : R ∉ T) (nt : ∀ y ∈ T, ∀ xs, H y ≠ some (.tup xs)) : RowsAt46 H' R gs := by
  obtain ⟨ts, lt, e, f⟩ := h
  exact ⟨ts, lt, k.1 _ _ e n, fun i t g hi hg => k.1 _ _ (f i t g hi hg) (fun z => nt t z _ (f i t g hi hg))⟩
theorem RowsAt46.same {H H' : Hp} {R : Addr} {gs : List Gt} (h : RowsAt46 H R gs) (s : Same H H') : RowsAt46 H' R gs := h.keep (T := []) (.ofSame s) (fun z => nomatch z) (fun _ z => nomatch z)
theorem RowsAt46.keepB {c : Int} {H H' : Hp} {R b : Addr} {gs : List Gt} (h : RowsAt46 H R gs) (k : Keep b H H') (B : BoxAt c H b) : RowsAt46 H' R gs := by
  have n := h.ne B
  obtain ⟨ts, lt, e, f⟩ := h
  exact ⟨ts, lt, k _ _ e n, fun i t g hi hg => k _ _ (f i t g hi hg) (fun z => by
    obtain ⟨_, _, _, eb, _⟩ := B
    have := f i t g hi hg
    rw [z, eb] at this
    cases this)⟩
theorem GsOk.mono {m m2 : Nat} {gs : List Gt} (h : GsOk m gs) (l : m ≤ m2) : GsOk m2 gs := fun i g hg => by
  have k := h i g hg
  cases g with
  | fi b => exact k
  | w k' ws => exact ⟨k.1, fun a ha => Nat.lt_of_lt_of_le (k.2 a ha) (by omega)⟩
theorem GvL.rev {H' : Hp} {P : Addr} {nm : List (Str × List Nat)} {ts : List Addr} (lt : ts.length = nm.length) (h : ∀ (i : Nat) (t : Addr) (n : Str) (ws : List Nat), ts[i]? = some t → nm[i]? = some (n, ws) → ∃ l, H' t = some (.tup [.str n, .ref l]) ∧ H' l = some (.lst (nts ws))) (e : H' P = some (.lst (ts.map V.ref).reverse)) : GvL H' P nm.reverse := by
  refine ⟨ts.reverse, by rw [List.length_reverse, List.length_reverse, lt], by rw [e, List.map_reverse], fun i t n ws ht hn => ?_⟩
  have hi : i < ts.length := by
    have := (List.getElem?_eq_some_iff.mp ht).1
    rw [List.length_reverse] at this
    exact this
  rw [List.getElem?_reverse hi] at ht
  rw [List.getElem?_reverse (by omega), ← lt] at hn
  exact h _ t n ws ht hn
theorem Inj.rev {nm : List (Str × List Nat)} (h : Inj nm) : Inj nm.reverse := fun i j x y hi hj e => by
  have li := (List.getElem?_eq_some_iff.mp hi).1
  have lj := (List.getElem?_eq_some_iff.mp hj).1
  rw [List.length_reverse] at li lj
  rw [List.getElem?_reverse li] at hi
  rw [List.getElem?_reverse lj] at hj
  have := h _ _ _ _ hi hj e
  omega
def leN (x y : Str × List Nat) : Bool := decide (x.1.cps.toList ≤ y.1.cps.toList)
theorem so_ex (nm : List (Str × List Nat)) : ∃ sa, SoOf sa nm := by
  refine ⟨nm.mergeSort leN, List.mergeSort_perm .., ?_⟩
  unfold Rise
  rw [List.pairwise_map]
  refine (List.pairwise_mergeSort (le := leN) (fun a b c h1 h2 => ?_) (fun a b => ?_) nm).imp fun {a b} h => of_decide_eq_true h
  · exact decide_eq_true (List.le_trans (of_decide_eq_true h1) (of_decide_eq_true h2))
  · rcases List.le_total a.1.cps.toList b.1.cps.toList with h | h
    · rw [show leN a b = true from decide_eq_true h]
      rfl
    · rw [show leN b a = true from decide_eq_true h, Bool.or_true]
theorem SoOf.of_perm {sa na nb : List (Str × List Nat)} (h : SoOf sa na) (p : na.Perm nb) : SoOf sa nb := ⟨h.1.trans p, h.2⟩
theorem first_sym : ∀ {xs ys : List (Str × List Nat)}, xs.map (·.1) = ys.map (·.1) → firstD xs ys = firstD ys xs
  | [], [], _ => rfl
  | [], _ :: _, h => by cases h
  | _ :: _, [], h => by cases h
  | x :: xs, y :: ys, h => by
    rw [List.map_cons, List.map_cons] at h
    injection h with h1 h2
    unfold firstD
    by_cases c : x.2.length = y.2.length
    · rw [if_pos c, if_pos c.symm, first_sym h2]
    · rw [if_neg c, if_neg (fun z => c z.symm), h1]
theorem sort_pw {l : List Str} (h : sortedS l = true) : l.Pairwise fun x y => x.cps.toList ≤ y.cps.toList := by
  cases l with
  | nil => exact .nil
  | cons x r => exact rise_pw r x h
/-! ### what a look tells -/
inductive Lk | op | sm | un
deriving DecidableEq
def lkT : Lk → Str
  | .op => Str.ofString "open"
  | .sm => Str.ofString "same"
  | .un => Str.ofString "unlike"
/-- a look by a cube -/
def lk (ga gb : List Gt) (sa sb : List (Str × List Nat)) (x : List Nat) : Lk :=
  if (setR (sgs x ga) sa).any opn = true then .op else if (setR (sgs x gb) sb).any opn = true then .op
  else if PyData.eqv (rwD (setR (sgs x ga) sa)) (rwD (setR (sgs x gb) sb)) = true then .sm else .un
def spLooked (C : Addr) : Sp := fun vs H Q _ => ∃ (pa pb : NetP) (m : Nat) (ga gb : List Gt) (na nb sa sb : List (Str × List Nat)) (cs : List Nat), vs = [.ref pa.x, .ref pb.x, .str (SX.S cs)] ∧ Two C H pa pb m ga gb na nb sa sb ∧ cs.length = m ∧
  ∀ (H' : Hp), Same H H' → Q (.str (lkT (lk ga gb sa sb cs))) H'
theorem ok_looked (B : Bl mg) (L : LL K mg C za zl) : FnOk P w K mg base CX0 4 (za 11) (zl 11) ["one", "other", "cube"] (spLooked C) := by
  have G_settled : FnOk P w K mg base CX0 3 (za 7) (zl 7) ["net", "cube"] (spSettled C) := (ok_settled B L).mono (by decide)
  have G_has_open : FnOk P w K mg base CX0 3 (za 12) (zl 12) ["told"] spOpen60 := (ok_has_open B L).mono (by decide)
  refine L.F_looked.ok sc_looked (fun vs H Q E h => ?_) (fun cdv A outer s H vs Q E hr h => ?_)
  · obtain ⟨pa, pb, m, ga, gb, na, nb, sa, sb, cs, rfl, _⟩ := h
    rfl
  obtain ⟨pa, pb, m, ga, gb, na, nb, sa, sb, cs, rfl, ⟨hA, hB, oa, ob, _⟩, lc, q⟩ := h
  refine ⟨_, (pss_cons (ps_set (i := 3) sc_looked.nd rfl (.inl rfl) (pe_call G_settled hr (by rfl) L.m_settled L.F_settled.kp L.b_settled .nil pass0 (pa_cons (pv 0) (pa_cons (pv 2) pa_nil))))
    (pss_cons (ps_set (i := 4) sc_looked.nd rfl (.inl rfl) (pe_call G_settled hr (by rfl) L.m_settled L.F_settled.kp L.b_settled .nil pass0 (pa_cons (pv 1) (pa_cons (pv 2) pa_nil))))
    (pss_cons (ps_if (PW.pt (pw_or (pt_val (pe_call G_has_open hr (by rfl) L.m_has_open L.F_has_open.kp L.b_has_open .nil pass0 (pa_cons (pv 3) pa_nil))) (pw_or1 (pt_val (pe_call G_has_open hr (by rfl) L.m_has_open L.F_has_open.kp L.b_has_open .nil pass0 (pa_cons (pv 4) pa_nil)))))) (pss_one (ps_ret pe_str)) pss_nil)
    (pss_one (ps_ret (pe_ifExp (pt_cmpR (op_eqPl hr.units) (pv 3) (pv 4) (nomark _)) pe_str pe_str)))))), ?_⟩
  obtain ⟨⟨ZA, NA⟩, okA, gA, m20, gaL, naL⟩ := id hA
  obtain ⟨⟨ZB, NB⟩, okB, gB, _, gbL, nbL⟩ := id hB
  refine ⟨_, rfl, _, rfl, ZA, pa, m, ga, na, cs, rfl, NA, lc, by omega, by omega, okA, fun x hx => ⟨by have := (gA.2 x hx).1; omega, (gA.2 x hx).2⟩, fun n1 t1 H1 pn1 ss1 s1 S1 => ?_⟩
  obtain rfl : n1 = sa := rows_one gA.1 pn1 (sort_pw ss1) oa.1 oa.2
  try simp only [L2.start, List.map_cons, List.map_nil, List.length_cons, List.length_nil, List.replicate_succ, List.replicate_zero, List.cons_append, List.nil_append, List.set_cons_succ, List.set_cons_zero, Nat.reduceAdd, Nat.reduceSub, Nat.zero_add]
  refine ⟨_, rfl, _, rfl, ZB, pb, m, gb, nb, cs, rfl, NB.same s1, lc, by omega, by omega, okB, fun x hx => ⟨by have := (gB.2 x hx).1; omega, (gB.2 x hx).2⟩, fun n2 t2 H2 pn2 ss2 s2 S2 => ?_⟩
  obtain rfl : n2 = sb := rows_one gB.1 pn2 (sort_pw ss2) ob.1 ob.2
  try simp only [L2.start, List.map_cons, List.map_nil, List.length_cons, List.length_nil, List.replicate_succ, List.replicate_zero, List.cons_append, List.nil_append, List.set_cons_succ, List.set_cons_zero, Nat.reduceAdd, Nat.reduceSub, Nat.zero_add]
  refine ⟨_, rfl, t1, _, rfl, S1.rw.same s2, by rw [setR_len, pn1.length_eq]; exact naL, fun H3 s3 => ?_⟩
  unfold lk at q
  refine ⟨_, rfl, ite2 (fun z => ?_) (fun z => ?_)⟩
  · rw [if_pos z] at q
    exact q H3 ((s1.trans s2).trans s3)
  rw [if_neg z] at q
  refine ⟨_, rfl, t2, _, rfl, S2.rw.same s3, by rw [setR_len, pn2.length_eq]; exact nbL, fun H4 s4 => ?_⟩
  have s04 := ((s1.trans s2).trans s3).trans s4
  refine ⟨_, rfl, ite2 (fun z => ?_) (fun z => ?_)⟩
  · rw [if_pos z] at q
    exact q H4 s04
  rw [if_neg z] at q
  dsimp only [tNext]
  have D1 := (S1.rw.same ((s2.trans s3).trans s4)).dp (K := K)
  have D2 := (S2.rw.same (s3.trans s4)).dp (K := K)
  refine ⟨_, rfl, _, rfl, _, _, D1, D2, (pl_rw _).1, (pl_rw _).1, (pl_rw _).2, ?_⟩
  refine ⟨_, rfl, ite2 (fun z => ?_) (fun z => ?_)⟩
  · rw [if_pos z] at q
    exact q H4 s04
  · rw [if_neg z] at q
    exact q H4 s04
def spFits (C : Addr) : Sp := fun vs H Q _ => ∃ (pa pb : NetP) (m : Nat) (ga gb : List Gt) (na nb sa sb : List (Str × List Nat)), vs = [.ref pa.x, .ref pb.x] ∧ Two C H pa pb m ga gb na nb sa sb ∧ ∀ H', Same H H' → Q .non H'
theorem ok_need_fit (B : Bl mg) (L : LL K mg C za zl) : FnOk P w K mg base CX0 3 (za 13) (zl 13) ["one", "other"] (spFits C) := by
  have G_Net_inputs : FnOk P w K mg base CX0 2 (za 46) (zl 46) ["self"] (spInputs C) := (ok_Net_inputs B L).mono (by decide)
  have G_Net_names : FnOk P w K mg base CX0 2 (za 45) (zl 45) ["self"] (spNames C) := (ok_Net_names B L).mono (by decide)
  have G_Net_given : FnOk P w K mg base CX0 2 (za 44) (zl 44) ["self", "name"] (spGiven C) := (ok_Net_given B L).mono (by decide)
  refine L.F_need_fit.ok sc_need_fit (fun vs H Q E h => ?_) (fun cdv A outer s H vs Q E hr h => ?_)
  · obtain ⟨pa, pb, ma, ga, gb, na, nb, sa, sb, rfl, _⟩ := h
    rfl
  obtain ⟨pa, pb, ma, ga, gb, na, nb, sa, sb, rfl, ⟨hA, hB, oA, oB, hd⟩, q⟩ := h
  refine ⟨_, (pss_cons (ps_if (pt_cmpR op_ne (pe_meth0 (pv 0) L.T.cl L.M_Net_inputs G_Net_inputs hr L.b_Net_inputs .nil pass0) (pe_meth0 (pv 1) L.T.cl L.M_Net_inputs G_Net_inputs hr L.b_Net_inputs .nil pass0) (nomark _)) (pss_one ps_never) pss_nil)
    (pss_cons (ps_if (pt_cmpR (op_nePl hr.units) (pe_meth0 (pv 0) L.T.cl L.M_Net_names G_Net_names hr L.b_Net_names .nil pass0) (pe_meth0 (pv 1) L.T.cl L.M_Net_names G_Net_names hr L.b_Net_names .nil pass0) (nomark _)) (pss_one ps_never) pss_nil)
    (pss_one (ps_for PassesOwn.never rfl (pi_list (pe_meth0 (pv 0) L.T.cl L.M_Net_names G_Net_names hr L.b_Net_names .nil pass0)) (pg_name (i := 2) sc_need_fit.nd rfl (.inl rfl)) (pss_one (ps_if (pt_cmpR op_ne (pe_callB call_len_seq (by rfl) B.len PySem.boot_len (pa_cons (pe_meth (pv 0) L.T.cl L.M_Net_given G_Net_given hr L.b_Net_given .nil pass0 (pa_cons (pv 2) pa_nil)) pa_nil)) (pe_callB call_len_seq (by rfl) B.len PySem.boot_len (pa_cons (pe_meth (pv 1) L.T.cl L.M_Net_given G_Net_given hr L.b_Net_given .nil pass0 (pa_cons (pv 2) pa_nil)) pa_nil)) (nomark _)) (pss_one ps_never) pss_nil)))))), ?_⟩
  obtain ⟨⟨ZA, NA⟩, okA, gA, mA20, gaL, naL⟩ := id hA
  obtain ⟨⟨ZB, NB⟩, okB, gB, mB20, gbL, nbL⟩ := id hB
  obtain ⟨_, _, _, dxA, _, _, eA, _⟩ := id NA
  obtain ⟨_, _, _, dxB, _, _, eB, _⟩ := id NB
  refine ⟨_, rfl, pa.x, dxA, _, rfl, eA, rfl, ZA, pa, ma, ga, na, rfl, NA, ?_⟩
  refine ⟨_, rfl, pb.x, dxB, _, rfl, eB, rfl, ZB, pb, ma, gb, nb, rfl, NB, ?_⟩
  · refine ⟨rfl, _, rfl, ite2 (fun z => ?_) (fun _ => ?_)⟩
    · simp at z
    dsimp only [tNext]
    refine ⟨_, rfl, pa.x, dxA, _, rfl, eA, rfl, ZA, pa, ma, ga, na, rfl, NA, by omega, fun ys1 u1 H1 hp1 hs1 s1 nu1 e1 => ?_⟩
    obtain rfl := oA.names hp1 hs1
    obtain ⟨_, _, _, dxB1, _, _, eB1, _⟩ := id (NB.same s1)
    refine ⟨_, rfl, pb.x, dxB1, _, rfl, eB1, rfl, ZB, pb, ma, gb, nb, rfl, NB.same s1, by omega, fun ys2 u2 H2 hp2 hs2 s2 nu2 e2 => ?_⟩
    obtain rfl := oB.names hp2 hs2
    refine ⟨_, _, .lst (SqL.of (s2 _ _ e1)) (dp_strs3 _), .lst (SqL.of e2) (dp_strs3 _), (pl_strs _).1, (pl_strs _).1, (pl_strs _).2, ?_⟩
    rw [eqv_strs]
    by_cases hn : sa.map (·.1) = sb.map (·.1)
    · refine ⟨_, rfl, ite2 (fun z => ?_) (fun _ => ?_)⟩
      · rw [decide_eq_true hn] at z
        cases z
      dsimp only [tNext]
      have hd : firstD sa sb = none := by
        unfold dueL at hd
        rw [if_pos rfl, if_pos hn] at hd
        exact hd
      have s02 := s1.trans s2
      obtain ⟨_, _, _, dxA2, _, _, eA2, _⟩ := id (NA.same s02)
      refine ⟨_, rfl, pa.x, dxA2, _, rfl, eA2, rfl, ZA, pa, ma, ga, na, rfl, NA.same s02, by omega, fun ys3 u3 H3 hp3 hs3 s3 nu3 e3 => ?_⟩
      obtain rfl := oA.names hp3 hs3
      have s03 := s02.trans s3
      refine ⟨u3, rfl, ⟨_, SqL.of e3⟩, ?_⟩
      refine for_it (walk_list (K := K) (a := u3) (xs := (sa.map (·.1)).map V.str)) (fun j σ H9 => ∃ y : Option V, σ = [some (.ref pa.x), some (.ref pb.x), y] ∧ Same H3 H9 ∧ ∀ i, i < j → ∀ x y, sa[i]? = some x → sb[i]? = some y → x.2.length = y.2.length) ⟨_, rfl, Same.refl _, fun i hi => absurd hi (Nat.not_lt_zero i)⟩ (fun j σ H9 _ ⟨_, _, s9, _⟩ => SqL.of (s9 _ _ e3)) ?_ ?_
      · rintro j v σ H9 H10 hj ⟨y, rfl, s9, hb⟩ ⟨rfl, hz⟩
        rw [List.length_map, List.length_map] at hj
        rw [List.getElem?_map, List.getElem?_map, List.getElem?_eq_getElem hj] at hz
        have hx : sa[j]? = some sa[j] := List.getElem?_eq_getElem hj
        have lab : sa.length = sb.length := by
          have := congrArg List.length hn
          rw [List.length_map, List.length_map] at this
          exact this
        have hy : sb[j]? = some (sb[j]'(by omega)) := List.getElem?_eq_getElem (by omega)
        have hxy : (sa[j]).1 = (sb[j]'(by omega)).1 := by
          have a : (sa.map (·.1))[j]? = some (sa[j]).1 := by rw [List.getElem?_map, hx]; rfl
          have c : (sb.map (·.1))[j]? = some (sb[j]'(by omega)).1 := by rw [List.getElem?_map, hy]; rfl
          rw [hn, c] at a
          exact (Option.some.inj a).symm
        cases hz
        generalize sa[j] = x at *
        generalize sb[j]'(by omega) = y2 at *
        obtain ⟨ia, hia, eia⟩ := List.getElem_of_mem (oA.1.mem_iff.mp (List.mem_of_getElem? hx))
        obtain ⟨ib, hib, eib⟩ := List.getElem_of_mem (oB.1.mem_iff.mp (List.mem_of_getElem? hy))
        have NA9 := NA.same (s03.trans s9)
        have NB9 := NB.same (s03.trans s9)
        obtain ⟨_, _, _, dA9, _, _, fA9, _⟩ := id NA9
        dsimp only [gName]
        try simp only [L2.start, List.map_cons, List.map_nil, List.length_cons, List.length_nil, List.replicate_succ, List.replicate_zero, List.cons_append, List.nil_append, List.set_cons_succ, List.set_cons_zero, Nat.reduceAdd, Nat.reduceSub, Nat.zero_add]
        refine ⟨_, rfl, pa.x, dA9, _, rfl, fA9, rfl, _, rfl, ZA, pa, ma, ga, na, ia, x.1, x.2, rfl, NA9, by rw [List.getElem?_eq_getElem hia, eia], fun t nt => ?_⟩
        have st := same_upd (o := .lst (nts x.2)) nt
        have et : (upd H10 t (.lst (nts x.2))) t = some (.lst (nts x.2)) := upd_same
        generalize upd H10 t (.lst (nts x.2)) = H11 at *
        refine ⟨t, _, rfl, .inl (SqL.of et), ?_⟩
        obtain ⟨_, _, _, dB9, _, _, fB9, _⟩ := id (NB9.same st)
        refine ⟨_, rfl, pb.x, dB9, _, rfl, fB9, rfl, _, rfl, ZB, pb, ma, gb, nb, ib, y2.1, y2.2, by rw [hxy]; rfl, NB9.same st, by rw [List.getElem?_eq_getElem hib, eib], fun t2 nt2 => ?_⟩
        have st2 := same_upd (o := .lst (nts y2.2)) nt2
        have et2 : (upd H11 t2 (.lst (nts y2.2))) t2 = some (.lst (nts y2.2)) := upd_same
        generalize upd H11 t2 (.lst (nts y2.2)) = H12 at *
        refine ⟨t2, _, rfl, .inl (SqL.of et2), ?_⟩
        have l1 : ∀ l : List Nat, (nts l).length = l.length := fun l => by
          unfold nts
          rw [List.length_map]
        rw [l1, l1]
        have s912 := (s9.trans st).trans st2
        by_cases hl : x.2.length = y2.2.length
        · refine ⟨rfl, _, rfl, ite2 (fun z => ?_) (fun _ => ?_)⟩
          · rw [hl] at z
            simp at z
          · refine ⟨_, rfl, s912, fun i hi x' y' hx' hy' => ?_⟩
            by_cases ij : i = j
            · subst ij
              rw [hx] at hx'
              rw [hy] at hy'
              cases hx'
              cases hy'
              exact hl
            · exact hb i (by omega) x' y' hx' hy'
        · have e := firstD_at hb hx hy hl
          rw [hd] at e
          cases e
      · rintro σ H9 ⟨y, rfl, s9, hb⟩
        exact q H9 (s03.trans s9)
    · exfalso
      unfold dueL at hd
      rw [if_pos rfl, if_neg hn] at hd
      cases hd
end
section
variable {P : Program} {w : World} {K : PySem.W.Frag} {mg : Str → Option Value} {base : Heap}
variable {C : Addr} {za : Nat → Addr} {zl : Nat → FuncData}
/-! ### the net of drawn gates -/
def spNet63 (C : Addr) : Sp := fun vs H Q _ => ∃ (Z : List Addr) (R F : Addr) (m : Nat) (gs : List Gt) (nm : List (Str × List Nat)), vs = [.int (m : Int), .ref R, .ref F] ∧ (∀ z ∈ Z, H z ≠ none) ∧ RowsAt46 H R gs ∧ GsOk m gs ∧ GvL H F nm ∧ Inj nm ∧ (∀ x ∈ nm, ∀ a ∈ x.2, a < m + gs.length) ∧ nm.length ≤ 3 ∧ m ≤ 100 ∧ gs.length ≤ 200 ∧
  ∀ (p : NetP) (H' : Hp), Same H H' → NetAt C Z H' p m gs nm → (H p.x = none ∧ H p.lm = none ∧ H p.ld = none ∧ H p.dn = none) → Q (.ref p.x) H'
theorem ok__law_net (B : Bl mg) (L : LL K mg C za zl) : FnOk P w K mg base CX0 5 (za 21) (zl 21) ["_law_first", "_law_rows", "_law_given_here"] (spNet63 C) := by
  have G_Net___init__ : FnOk P w K mg base CX0 3 (za 34) (zl 34) ["self", "many"] (spNetI C) := (ok_Net___init__ B L).mono (by decide)
  have G_Net_both : FnOk P w K mg base CX0 4 (za 35) (zl 35) ["self", "a", "b"] (spG2 C "both") := (ok_Net_both B L).mono (by decide)
  have G_Net_either : FnOk P w K mg base CX0 4 (za 36) (zl 36) ["self", "a", "b"] (spG2 C "either") := (ok_Net_either B L).mono (by decide)
  have G_Net_unlike : FnOk P w K mg base CX0 4 (za 37) (zl 37) ["self", "a", "b"] (spG2 C "unlike") := (ok_Net_unlike B L).mono (by decide)
  have G_Net_other : FnOk P w K mg base CX0 4 (za 38) (zl 38) ["self", "a"] (spG1 C) := (ok_Net_other B L).mono (by decide)
  have G_Net_fixed : FnOk P w K mg base CX0 4 (za 39) (zl 39) ["self", "bit"] (spFixed C) := (ok_Net_fixed B L).mono (by decide)
  have G_Net_give : FnOk P w K mg base CX0 4 (za 43) (zl 43) ["self", "name", "wires"] (spGive K C) := (ok_Net_give B L).mono (by decide)
  refine L.F__law_net.ok sc__law_net (fun vs H Q E h => ?_) (fun cdv A outer s H vs Q E hr h => ?_)
  · obtain ⟨Z, R, F, m, gs, nm, rfl, _⟩ := h
    rfl
  obtain ⟨Z, R, F, m, gs, nm, rfl, hZ, ⟨ts, lt, eR, hts⟩, ok, ⟨us, lu, eF, hus⟩, inj, gok, hnm3, hm, hg, q⟩ := h
  refine ⟨_, (pss_cons (ps_set (i := 3) sc__law_net.nd rfl (.inl rfl) (pe_make L.M G_Net___init__ hr (by rfl) L.T.mgC L.b_Net___init__ .nil pass0 (pa_cons (pv 0) pa_nil)))
    (pss_cons (ps_for PassesOwn.never rfl (pi_list (pv 1)) (pg_name (i := 4) sc__law_net.nd rfl (.inl rfl)) (pss_one (ps_if (pt_cmpR op_eq (pe_ix ix_tup (pv 4) pe_int (fun _ _ => rfl)) pe_str (nomark _)) (pss_one (ps_expr (pe_meth (pv 3) L.T.cl L.M_Net_both G_Net_both hr L.b_Net_both .nil pass0 (pa_cons (pe_ix ix_tup (pv 4) pe_int (fun _ _ => rfl)) (pa_cons (pe_ix ix_tup (pv 4) pe_int (fun _ _ => rfl)) pa_nil))))) (pss_one (ps_if (pt_cmpR op_eq (pe_ix ix_tup (pv 4) pe_int (fun _ _ => rfl)) pe_str (nomark _)) (pss_one (ps_expr (pe_meth (pv 3) L.T.cl L.M_Net_either G_Net_either hr L.b_Net_either .nil pass0 (pa_cons (pe_ix ix_tup (pv 4) pe_int (fun _ _ => rfl)) (pa_cons (pe_ix ix_tup (pv 4) pe_int (fun _ _ => rfl)) pa_nil))))) (pss_one (ps_if (pt_cmpR op_eq (pe_ix ix_tup (pv 4) pe_int (fun _ _ => rfl)) pe_str (nomark _)) (pss_one (ps_expr (pe_meth (pv 3) L.T.cl L.M_Net_unlike G_Net_unlike hr L.b_Net_unlike .nil pass0 (pa_cons (pe_ix ix_tup (pv 4) pe_int (fun _ _ => rfl)) (pa_cons (pe_ix ix_tup (pv 4) pe_int (fun _ _ => rfl)) pa_nil))))) (pss_one (ps_if (pt_cmpR op_eq (pe_ix ix_tup (pv 4) pe_int (fun _ _ => rfl)) pe_str (nomark _)) (pss_one (ps_expr (pe_meth (pv 3) L.T.cl L.M_Net_other G_Net_other hr L.b_Net_other .nil pass0 (pa_cons (pe_ix ix_tup (pv 4) pe_int (fun _ _ => rfl)) pa_nil)))) (pss_one (ps_expr (pe_meth (pv 3) L.T.cl L.M_Net_fixed G_Net_fixed hr L.b_Net_fixed .nil pass0 (pa_cons (pe_ix ix_tup (pv 4) pe_int (fun _ _ => rfl)) pa_nil)))))))))))))
    (pss_cons (ps_for PassesOwn.never rfl (pi_list (pv 2)) (pg_tup (by rfl) (pgs_cons (pg_name (i := 5) sc__law_net.nd rfl (.inl rfl)) (pgs_cons (pg_name (i := 6) sc__law_net.nd rfl (.inl rfl)) pgs_nil))) (pss_one (ps_expr (pe_meth (pv 3) L.T.cl L.M_Net_give G_Net_give hr L.b_Net_give .nil pass0 (pa_cons (pv 5) (pa_cons (pe_callTy call_list_of (by rfl) B.list PyProof.Rows.boot_list (pa_cons (pv 6) pa_nil)) pa_nil))))))
    (pss_one (ps_ret (pv 3)))))), ?_⟩
  refine ⟨_, rfl, fun x dx nx ndx ne => ?_⟩
  refine ⟨x, dx, m, rfl, upd_same, by omega, fun p H1 px fr ⟨n1, n2, n3⟩ N0 => ⟨rfl, ?_⟩⟩
  have s1 : Same H H1 := made nx ndx ne fr
  subst px
  have up : ∀ {y : Addr}, (upd (upd H dx (.own p.x)) p.x (.ins C dx [])) y = none → H y = none := fun {y} e => by
    cases h : H y with
    | none => rfl
    | some o =>
      rw [upd_ne (ne_of_none h nx), upd_ne (ne_of_none h ndx), h] at e
      cases e
  have N1 := N0 Z (fun z hz => by
    have h := hZ z hz
    have a : z ≠ p.x := fun y => h (by rw [y]; exact nx)
    have b : z ≠ dx := fun y => h (by rw [y]; exact ndx)
    exact ⟨a, by rw [upd_ne a, upd_ne b]; exact h⟩)
  have m1 := up n1
  have m2 := up n2
  have m3 := up n3
  try simp only [L2.start, List.map_cons, List.map_nil, List.length_cons, List.length_nil, List.replicate_succ, List.replicate_zero, List.cons_append, List.nil_append, List.set_cons_succ, List.set_cons_zero, Nat.reduceAdd, Nat.reduceSub, Nat.zero_add]
  have eR1 := s1 _ _ eR
  refine ⟨_, rfl, R, rfl, ⟨_, SqL.of eR1⟩, ?_⟩
  refine for_it (walk_list (K := K) (a := R) (xs := ts.map V.ref)) (fun j σ H9 => ∃ y : Option V, σ = [some (.int (m : Int)), some (.ref R), some (.ref F), some (.ref p.x), y, none, none] ∧ Same H H9 ∧ NetAt C Z H9 p m (gs.take j) []) ⟨_, rfl, s1, N1⟩ (fun j σ H9 _ ⟨_, _, s9, _⟩ => SqL.of (s9 _ _ eR)) ?_ ?_
  · rintro j z σ H9 H10 hj ⟨y, rfl, s9, N9⟩ ⟨rfl, hz⟩
    rw [List.getElem?_map] at hz
    have hj' : j < ts.length := by
      rw [List.length_map] at hj
      exact hj
    rw [List.getElem?_eq_getElem hj'] at hz
    cases hz
    have hgj : gs[j]? = some (gs[j]'(by omega)) := List.getElem?_eq_getElem (by omega)
    have et := s9 _ _ (hts j _ _ (List.getElem?_eq_getElem hj') hgj)
    have okj := ok j _ hgj
    have lj : (gs.take j).length = j := by
      rw [List.length_take]
      omega
    have tk : gs.take (j + 1) = gs.take j ++ [gs[j]'(by omega)] := by
      rw [List.take_add_one, hgj]
      rfl
    obtain ⟨_, _, _, dx9, _, _, e1, _⟩ := id N9
    have kp : ∀ {H' : Hp}, KeepS [p.lm, p.ld] H10 H' → Same H H' := fun k y o e => k.1 y o (s9 _ _ e) (fun z => by
      simp only [List.mem_cons, List.not_mem_nil, or_false] at z
      rcases z with z | z
      · rw [z, m1] at e
        cases e
      · rw [z, m2] at e
        cases e)
    generalize gs[j]'(by omega) = g at et okj tk
    try simp only [L2.start, List.map_cons, List.map_nil, List.length_cons, List.length_nil, List.replicate_succ, List.replicate_zero, List.cons_append, List.nil_append, List.set_cons_succ, List.set_cons_zero, Nat.reduceAdd, Nat.reduceSub, Nat.zero_add]
    have nS : ∀ {x y : Str}, ¬ x = y → ¬ decide (V.str x = V.str y) = true := fun h z => h (V.str.inj (of_decide_eq_true z))
    dsimp only [gName]
    try simp only [L2.start, List.map_cons, List.map_nil, List.length_cons, List.length_nil, List.replicate_succ, List.replicate_zero, List.cons_append, List.nil_append, List.set_cons_succ, List.set_cons_zero, Nat.reduceAdd, Nat.reduceSub, Nat.zero_add]
    cases g with
    | fi b =>
      have r0 : atI (Gt.fi b).row 0 = some (.str "fixed") := rfl
      refine ⟨_, rfl, ts[j], _, _, _, rfl, rfl, .inl (.inl et), r0, rfl, _, rfl, ite2 (fun z => absurd z (nS (by decide +kernel))) (fun _ => ?_)⟩
      refine ⟨_, rfl, ts[j], _, _, _, rfl, rfl, .inl (.inl et), r0, rfl, _, rfl, ite2 (fun z => absurd z (nS (by decide +kernel))) (fun _ => ?_)⟩
      refine ⟨_, rfl, ts[j], _, _, _, rfl, rfl, .inl (.inl et), r0, rfl, _, rfl, ite2 (fun z => absurd z (nS (by decide +kernel))) (fun _ => ?_)⟩
      refine ⟨_, rfl, ts[j], _, _, _, rfl, rfl, .inl (.inl et), r0, rfl, _, rfl, ite2 (fun z => absurd z (nS (by decide +kernel))) (fun _ => ?_)⟩
      refine ⟨_, rfl, p.x, dx9, _, rfl, e1, rfl, _, rfl, ts[j], _, _, _, rfl, rfl, .inl (.inl et), rfl, Z, p, m, gs.take j, [], b, rfl, N9, by rw [lj]; omega, fun H' k' N' => ?_⟩
      exact ⟨_, rfl, kp k', by rw [tk]; exact N'⟩
    | w k ws =>
      have r0 := Gt.row0 k ws
      rcases okj.1 with ⟨hk, l2⟩ | ⟨rfl, l1⟩
      · obtain ⟨a, b, rfl⟩ : ∃ a b, ws = [a, b] := by
          match ws, l2 with
          | [a, b], _ => exact ⟨_, _, rfl⟩
        rcases hk with rfl | rfl | rfl
        · refine ⟨_, rfl, ts[j], _, _, _, rfl, rfl, .inl (.inl et), r0, rfl, _, rfl, ite2 (fun _ => ?_) (fun z => absurd (decide_eq_true rfl) z)⟩
          refine ⟨_, rfl, p.x, dx9, _, rfl, e1, rfl, _, rfl, ts[j], _, _, _, rfl, rfl, .inl (.inl et), rfl, _, rfl, ts[j], _, _, _, rfl, rfl, .inl (.inl et), rfl, Z, p, m, gs.take j, [], a, b, rfl, N9, by rw [lj]; exact okj.2 a (by simp), by rw [lj]; exact okj.2 b (by simp), by rw [lj]; omega, fun H' k' N' => ?_⟩
          exact ⟨_, rfl, kp k', by rw [tk]; exact N'⟩
        · refine ⟨_, rfl, ts[j], _, _, _, rfl, rfl, .inl (.inl et), r0, rfl, _, rfl, ite2 (fun z => absurd z (nS (by decide +kernel))) (fun _ => ?_)⟩
          refine ⟨_, rfl, ts[j], _, _, _, rfl, rfl, .inl (.inl et), r0, rfl, _, rfl, ite2 (fun _ => ?_) (fun z => absurd (decide_eq_true rfl) z)⟩
          refine ⟨_, rfl, p.x, dx9, _, rfl, e1, rfl, _, rfl, ts[j], _, _, _, rfl, rfl, .inl (.inl et), rfl, _, rfl, ts[j], _, _, _, rfl, rfl, .inl (.inl et), rfl, Z, p, m, gs.take j, [], a, b, rfl, N9, by rw [lj]; exact okj.2 a (by simp), by rw [lj]; exact okj.2 b (by simp), by rw [lj]; omega, fun H' k' N' => ?_⟩
          exact ⟨_, rfl, kp k', by rw [tk]; exact N'⟩
        · refine ⟨_, rfl, ts[j], _, _, _, rfl, rfl, .inl (.inl et), r0, rfl, _, rfl, ite2 (fun z => absurd z (nS (by decide +kernel))) (fun _ => ?_)⟩
          refine ⟨_, rfl, ts[j], _, _, _, rfl, rfl, .inl (.inl et), r0, rfl, _, rfl, ite2 (fun z => absurd z (nS (by decide +kernel))) (fun _ => ?_)⟩
          refine ⟨_, rfl, ts[j], _, _, _, rfl, rfl, .inl (.inl et), r0, rfl, _, rfl, ite2 (fun _ => ?_) (fun z => absurd (decide_eq_true rfl) z)⟩
          refine ⟨_, rfl, p.x, dx9, _, rfl, e1, rfl, _, rfl, ts[j], _, _, _, rfl, rfl, .inl (.inl et), rfl, _, rfl, ts[j], _, _, _, rfl, rfl, .inl (.inl et), rfl, Z, p, m, gs.take j, [], a, b, rfl, N9, by rw [lj]; exact okj.2 a (by simp), by rw [lj]; exact okj.2 b (by simp), by rw [lj]; omega, fun H' k' N' => ?_⟩
          exact ⟨_, rfl, kp k', by rw [tk]; exact N'⟩
      · obtain ⟨a, rfl⟩ : ∃ a, ws = [a] := by
          match ws, l1 with
          | [a], _ => exact ⟨_, rfl⟩
        refine ⟨_, rfl, ts[j], _, _, _, rfl, rfl, .inl (.inl et), r0, rfl, _, rfl, ite2 (fun z => absurd z (nS (by decide +kernel))) (fun _ => ?_)⟩
        refine ⟨_, rfl, ts[j], _, _, _, rfl, rfl, .inl (.inl et), r0, rfl, _, rfl, ite2 (fun z => absurd z (nS (by decide +kernel))) (fun _ => ?_)⟩
        refine ⟨_, rfl, ts[j], _, _, _, rfl, rfl, .inl (.inl et), r0, rfl, _, rfl, ite2 (fun z => absurd z (nS (by decide +kernel))) (fun _ => ?_)⟩
        refine ⟨_, rfl, ts[j], _, _, _, rfl, rfl, .inl (.inl et), r0, rfl, _, rfl, ite2 (fun _ => ?_) (fun z => absurd (decide_eq_true rfl) z)⟩
        refine ⟨_, rfl, p.x, dx9, _, rfl, e1, rfl, _, rfl, ts[j], _, _, _, rfl, rfl, .inl (.inl et), rfl, Z, p, m, gs.take j, [], a, rfl, N9, by rw [lj]; exact okj.2 a (by simp), by rw [lj]; omega, fun H' k' N' => ?_⟩
        exact ⟨_, rfl, kp k', by rw [tk]; exact N'⟩
  · rintro σ H9 ⟨y, rfl, s9, N9⟩
    rw [List.length_map, List.take_of_length_le (by omega)] at N9
    dsimp only [tSeq]
    refine ⟨_, rfl, F, rfl, ⟨_, SqL.of (s9 _ _ eF)⟩, ?_⟩
    refine for_it (walk_list (K := K) (a := F) (xs := us.map V.ref)) (fun j σ H9 => ∃ y4 y5 y6 : Option V, σ = [some (.int (m : Int)), some (.ref R), some (.ref F), some (.ref p.x), y4, y5, y6] ∧ Same H H9 ∧ NetAt C Z H9 p m gs (nm.take j)) ⟨_, _, _, rfl, s9, N9⟩ (fun j σ H9 _ ⟨_, _, _, _, s9, _⟩ => SqL.of (s9 _ _ eF)) ?_ ?_
    · rintro j z σ H5 H6 hj ⟨y4, y5, y6, rfl, s5, N5⟩ ⟨rfl, hz⟩
      rw [List.getElem?_map] at hz
      have hj' : j < us.length := by
        rw [List.length_map] at hj
        exact hj
      rw [List.getElem?_eq_getElem hj'] at hz
      cases hz
      obtain ⟨⟨n, ws⟩, hnj⟩ : ∃ x, nm[j]? = some x := ⟨_, List.getElem?_eq_getElem (by omega)⟩
      obtain ⟨l, q2, q3⟩ := hus j _ _ _ (List.getElem?_eq_getElem hj') hnj
      have hws : ∀ a ∈ ws, a < m + gs.length := gok _ (List.mem_of_getElem? hnj)
      have tk : nm.take (j + 1) = nm.take j ++ [(n, ws)] := by
        rw [List.take_add_one, hnj]
        rfl
      refine ⟨us[j], _, rfl, .inl (.inl (s5 _ _ q2)), rfl, ?_⟩
      refine ⟨_, _, rfl, ?_⟩
      dsimp only [gName]
      try simp only [L2.start, List.map_cons, List.map_nil, List.length_cons, List.length_nil, List.replicate_succ, List.replicate_zero, List.cons_append, List.nil_append, List.set_cons_succ, List.set_cons_zero, Nat.reduceAdd, Nat.reduceSub, Nat.zero_add]
      refine ⟨_, _, rfl, ?_⟩
      dsimp only [gName, gNil]
      try simp only [L2.start, List.map_cons, List.map_nil, List.length_cons, List.length_nil, List.replicate_succ, List.replicate_zero, List.cons_append, List.nil_append, List.set_cons_succ, List.set_cons_zero, Nat.reduceAdd, Nat.reduceSub, Nat.zero_add]
      obtain ⟨_, _, _, dx5, _, _, e5, _⟩ := id N5
      refine ⟨trivial, _, rfl, p.x, dx5, _, rfl, e5, rfl, _, rfl, _, rfl, l, _, rfl, .inl (SqL.of (s5 _ _ q3)), fun L nL => ?_⟩
      have sL := same_upd (o := .lst (nts ws)) nL
      have eL : (upd H6 L (.lst (nts ws))) L = some (.lst (nts ws)) := upd_same
      refine ⟨Z, p, m, gs, nm.take j, n, L, ws, rfl, N5.same sL, fun hx => ?_, .inl (SqL.of eL), hws, by rw [List.length_take]; omega, fun H' k' N' => ?_⟩
      · obtain ⟨⟨n', ws'⟩, hx1, hx2⟩ := List.mem_map.mp hx
        obtain ⟨i, hi, ei⟩ := List.getElem_of_mem hx1
        have hi' : i < j := by
          rw [List.length_take] at hi
          omega
        have hni : nm[i]? = some (n', ws') := by
          rw [← ei, List.getElem_take]
          exact List.getElem?_eq_getElem _
        have := inj i j _ _ hni hnj hx2
        omega
      · refine ⟨_, _, _, rfl, fun y o e => k'.1 y o (sL _ _ (s5 _ _ e)) (fun z => ?_), by rw [tk]; exact N'⟩
        rw [List.mem_singleton.mp z, m3] at e
        cases e
    · rintro σ H9 ⟨y4, y5, y6, rfl, s9, N9⟩
      rw [List.length_map, List.take_of_length_le (by omega)] at N9
      exact ⟨_, rfl, q p H9 s9 N9 ⟨nx, m1, m2, m3⟩⟩
end
section
variable {P : Program} {w : World} {K : PySem.W.Frag} {mg : Str → Option Value} {base : Heap}
variable {C : Addr} {za : Nat → Addr} {zl : Nat → FuncData}
/-! ### same -/
theorem big_lt {n : Nat} (h : n ≤ 500000) : n < sizeLine := Nat.lt_of_le_of_lt h (by decide)
def ix45 (x : List Nat) : Nat := (Builtin.Str.occurrences (SX.S x) (SX.S [45]) 0 (SX.S x).length 1).headD 0
theorem sidx {x : List Nat} (h : 45 ∈ x) : ∃ rest, Builtin.Str.occurrences (SX.S x) (SX.S [45]) 0 (SX.S x).length 1 = ix45 x :: rest ∧ x[ix45 x]? = some 45 := by
  have e := PySem.StrLaws.found_one (SX.S x) 45
  have hm : 45 ∈ (SX.S x).cps.toList := h
  rw [decide_eq_true hm] at e
  unfold ix45
  cases q : Builtin.Str.occurrences (SX.S x) (SX.S [45]) 0 (SX.S x).length 1 with
  | nil =>
    rw [show Builtin.Str.occurrences (SX.S x) ⟨#[45]⟩ 0 (SX.S x).length 1 = [] from q] at e
    cases e
  | cons i rest =>
    refine ⟨rest, rfl, ?_⟩
    have s := PySem.StrLaws.occ_spec (SX.S x) (SX.S [45]) 0 (SX.S x).length 1 i (by rw [q]; exact List.mem_cons_self)
    exact (PySem.StrLaws.subAt_one (SX.S x) 45 i).mp s
theorem rep_m : ∀ m : Nat, m ≤ 20 → strRep (Str.ofString "-") m = SX.S (List.replicate m 45) := by decide +kernel
def cV (cs : List (List Nat)) : List V := cs.map fun x => V.str (SX.S x)
theorem cV_app (a b : List (List Nat)) : cV (a ++ b) = cV a ++ cV b := List.map_append ..
theorem cV_len (a : List (List Nat)) : (cV a).length = a.length := List.length_map ..
theorem dp_cV {H : Hp} : ∀ cs : List (List Nat), DpAll K H (cV cs) ((cs.map SX.S).map PyData.str)
  | [] => .nil
  | _ :: cs => .cons (.str _) (dp_cV cs)
def z0 (x : List Nat) : List Nat := x.map fun c => if c = 45 then 48 else c
theorem repl_z0 : ∀ x : List Nat, PySem.StrLaws.replL [45] [48] x = z0 x
  | [] => PySem.StrLaws.replL_nil
  | c :: r => by
    by_cases h : c = 45
    · subst h
      rw [PySem.StrLaws.replL_hit (by decide) rfl]
      show 48 :: PySem.StrLaws.replL [45] [48] r = _
      rw [repl_z0 r]
      rfl
    · rw [PySem.StrLaws.replL_miss (fun z => h (by injection z)), repl_z0 r]
      unfold z0
      rw [List.map_cons, if_neg h]
theorem replace_z0 (x : List Nat) : Txt.replace (SX.S x) (Str.ofString "-") (Str.ofString "0") = SX.S (z0 x) := by
  have h := PySem.StrLaws.replace_list (x := SX.S x) (y := Str.ofString "-") (z := Str.ofString "0") (by decide +kernel)
  have e1 : (Str.ofString "-").cps.toList = [45] := by decide +kernel
  have e2 : (Str.ofString "0").cps.toList = [48] := by decide +kernel
  rw [e1, e2] at h
  have h2 : (Txt.replace (SX.S x) (Str.ofString "-") (Str.ofString "0")).cps.toList = (SX.S (z0 x)).cps.toList := h.trans (repl_z0 x)
  have e := Array.toList_inj.mp h2
  cases q : Txt.replace (SX.S x) (Str.ofString "-") (Str.ofString "0")
  rw [q] at e
  cases q2 : SX.S (z0 x)
  rw [q2] at e
  congr 1
/-- what comes of looking -/
inductive Rs
  | sm (ks : List (List Nat))
  | un (x : List Nat)
def dfs (L : List Nat → Lk) : Nat → List (List Nat) → List (List Nat) → Option Rs
  | _, [], k => some (.sm k)
  | 0, _ :: _, _ => none
  | n + 1, x :: st, k => match L x with
    | .un => some (.un x)
    | .sm => dfs L n st (k ++ [x])
    | .op => dfs L n (x.set (ix45 x) 48 :: x.set (ix45 x) 49 :: st) k
def TolAt (H0 H : Hp) (T : Addr) : Rs → Prop
  | .sm ks => ∃ k0, H T = some (.tup [.str (Str.ofString "same"), .ref k0]) ∧ H k0 = some (.lst (cV ks)) ∧ H0 k0 = none
  | .un x => H T = some (.tup [.str (Str.ofString "unlike"), .str (SX.S (z0 x))])
def Cb (m : Nat) (st : List (List Nat)) : Prop := ∀ x ∈ st, x.length = m ∧ SgL x
theorem Cb.set {m : Nat} {x : List Nat} (h : x.length = m ∧ SgL x) (i c : Nat) (hc : c = 45 ∨ c = 48 ∨ c = 49) : (x.set i c).length = m ∧ SgL (x.set i c) := ⟨by rw [List.length_set, h.1], fun a ha => by
  rcases List.mem_or_eq_of_mem_set ha with w | w
  · exact h.2 a w
  · rw [w]
    exact hc⟩
/-- an open look asks for an open place -/
theorem lk_open {m : Nat} {ga gb : List Gt} {na nb sa sb : List (Str × List Nat)} {x : List Nat} (oa : GsOk m ga) (ob : GsOk m gb) (wa : GvW (m + ga.length) na) (wb : GvW (m + gb.length) nb) (pa : sa.Perm na) (pb : sb.Perm nb) (lx : x.length = m) (sx : SgL x) (h : lk ga gb sa sb x = .op) : 45 ∈ x := by
  have op1 : ∀ {g : List Gt} {n n0 : List (Str × List Nat)}, GsOk m g → GvW (m + g.length) n0 → n.Perm n0 → (setR (sgs x g) n).any opn = true → 45 ∈ x := fun {g n n0} ok gw pn h => by
    refine Classical.byContradiction fun no => ?_
    rw [shut_rows (shut_sgs sx no lx ok) n (fun y hy a ha => by rw [sgs_len, lx]; exact (gw.2 y (pn.mem_iff.mp hy)).2 a ha)] at h
    cases h
  unfold lk at h
  split at h
  · exact op1 oa wa pa (by assumption)
  · split at h
    · exact op1 ob wb pb (by assumption)
    · split at h <;> cases h
end
section
variable {P : Program} {w : World} {K : PySem.W.Frag} {mg : Str → Option Value} {base : Heap}
variable {C : Addr} {za : Nat → Addr} {zl : Nat → FuncData}
/-! ### the law's own look -/
/-- rows and names as the law has them -/
def PrAt (b : Addr) (H : Hp) (P : Addr) (gs : List Gt) (nm : List (Str × List Nat)) : Prop := ∃ R F, H P = some (.tup [.ref R, .ref F]) ∧ RowsAt46 H R gs ∧ GvAt b H F nm
theorem lk_eq {ga gb : List Gt} {sa sb : List (Str × List Nat)} {x : List Nat} : lk ga gb sa sb x = if ((setR (sgs x ga) sa).any opn = true ∨ (setR (sgs x gb) sb).any opn = true) then .op else if PyData.eqv (rwD (setR (sgs x ga) sa)) (rwD (setR (sgs x gb) sb)) = true then .sm else .un := by
  unfold lk
  by_cases h1 : (setR (sgs x ga) sa).any opn = true
  · rw [if_pos h1, if_pos (.inl h1)]
  · rw [if_neg h1]
    by_cases h2 : (setR (sgs x gb) sb).any opn = true
    · rw [if_pos h2, if_pos (.inr h2)]
    · have h3 : ¬ ((setR (sgs x ga) sa).any opn = true ∨ (setR (sgs x gb) sb).any opn = true) := fun z => z.elim h1 h2
      rw [if_neg h2, if_neg h3]
def resV (H : Hp) (T : V) : Option Rs → Prop
  | none => T = .non
  | some (.sm ks) => ∃ t k0, T = .ref t ∧ H t = some (.tup [.str (Str.ofString "same"), .ref k0]) ∧ H k0 = some (.lst (cV ks))
  | some (.un x) => ∃ t, T = .ref t ∧ H t = some (.tup [.str (Str.ofString "unlike"), .str (SX.S (z0 x))])
def spLook : Sp := fun vs H Q _ => ∃ (b PA1 PB1 : Addr) (m lim : Nat) (ga gb : List Gt) (na nb sa sb : List (Str × List Nat)), vs = [.int (m : Int), .ref PA1, .ref PB1, .int (lim : Int)] ∧ PrAt b H PA1 ga na ∧ PrAt b H PB1 gb nb ∧ GsOk m ga ∧ GsOk m gb ∧ GvIn (m + ga.length) na ∧ GvIn (m + gb.length) nb ∧ na.length ≤ 4 ∧ nb.length ≤ 4 ∧ ga.length ≤ 40 ∧ gb.length ≤ 40 ∧ 1 ≤ m ∧ m ≤ 20 ∧ lim ≤ 3000 ∧
  SoOf sa na ∧ SoOf sb nb ∧ ∀ (v : V) (H' : Hp), Same H H' → resV H' v (dfs (lk ga gb sa sb) lim [List.replicate m 45] []) → Q v H'
theorem ok__law_looked (B : Bl mg) (L : LL K mg C za zl) : FnOk P w K mg base CX0 3 (za 24) (zl 24) ["_law_first", "_law_one", "_law_other", "_law_limit"] spLook := by
  have G__law_settled : FnOk P w K mg base CX0 2 (za 22) (zl 22) ["_law_rows", "_law_given_here", "_law_cube"] spSett60 := (ok__law_settled B L).mono (by decide)
  have G__law_is_open : FnOk P w K mg base CX0 2 (za 23) (zl 23) ["_law_told"] spOpen60 := (ok__law_is_open B L).mono (by decide)
  refine L.F__law_looked.ok sc__law_looked (fun vs H Q E h => ?_) (fun cdv A outer s H vs Q E hr h => ?_)
  · obtain ⟨b, PA1, PB1, m, lim, ga, gb, na, nb, sa, sb, rfl, _⟩ := h
    rfl
  obtain ⟨b, PA1, PB1, m, lim, ga, gb, na, nb, sa, sb, rfl, hA, hB, okA, okB, gA, gB, naL, nbL, gaL, gbL, m1, m20, lL, oa, ob, q⟩ := h
  refine ⟨_, (pss_cons (ps_par (by rfl) sc__law_looked.nd (i := 4) (j := 5) rfl rfl (by decide) rfl rfl (pa_cons (pe_lst (pa_cons (pe_op op_mul_str pe_str (pv 0)) pa_nil)) (pa_cons (pe_lst pa_nil) pa_nil)) (by rfl))
    (pss_cons (ps_for PassesOwn.never rfl (pi_range1 (by rfl) B.range (pa_cons (pv 3) pa_nil)) (pg_name (i := 6) sc__law_looked.nd rfl (.inl rfl)) (pss_cons (ps_set (i := 7) sc__law_looked.nd rfl (.inl rfl) (pe_bm0 PySem.F.plainAttrs_list PySem.F.slot_list_pop PySem.F.type_list_pop mt_pop (pv 4)))
    (pss_cons (ps_par (by rfl) sc__law_looked.nd (i := 8) (j := 9) rfl rfl (by decide) rfl rfl (pa_cons (pe_call G__law_settled hr (by rfl) L.m__law_settled L.F__law_settled.kp L.b__law_settled .nil pass0 (pa_cons (pe_ix ix_tup (pv 1) pe_int (fun _ _ => rfl)) (pa_cons (pe_ix ix_tup (pv 1) pe_int (fun _ _ => rfl)) (pa_cons (pv 7) pa_nil)))) (pa_cons (pe_call G__law_settled hr (by rfl) L.m__law_settled L.F__law_settled.kp L.b__law_settled .nil pass0 (pa_cons (pe_ix ix_tup (pv 2) pe_int (fun _ _ => rfl)) (pa_cons (pe_ix ix_tup (pv 2) pe_int (fun _ _ => rfl)) (pa_cons (pv 7) pa_nil)))) pa_nil)) (by rfl))
    (pss_cons (ps_if (PW.pt (pw_or (pt_val (pe_call G__law_is_open hr (by rfl) L.m__law_is_open L.F__law_is_open.kp L.b__law_is_open .nil pass0 (pa_cons (pv 8) pa_nil))) (pw_or1 (pt_val (pe_call G__law_is_open hr (by rfl) L.m__law_is_open L.F__law_is_open.kp L.b__law_is_open .nil pass0 (pa_cons (pv 9) pa_nil)))))) (pss_cons (ps_set (i := 10) sc__law_looked.nd rfl (.inl rfl) (pe_bm PySem.F.plainAttrs_str PySem.F.slot_str_index PySem.F.type_str_index mt_sindex (pv 7) (pa_cons pe_str pa_nil)))
    (pss_one (ps_set (i := 4) sc__law_looked.nd rfl (.inl rfl) (pe_op op_cat (pv 4) (pe_lst (pa_cons (pe_op op_add_str (pe_op op_add_str (pe_slice sl_str (pv 7) po_none (po_some (pv 10))) pe_str) (pe_slice sl_str (pv 7) (po_some (pe_op op_add (pv 10) pe_int)) po_none)) (pa_cons (pe_op op_add_str (pe_op op_add_str (pe_slice sl_str (pv 7) po_none (po_some (pv 10))) pe_str) (pe_slice sl_str (pv 7) (po_some (pe_op op_add (pv 10) pe_int)) po_none)) pa_nil))))))) (pss_one (ps_if (pt_cmpR (op_nePl hr.units) (pv 8) (pv 9) (nomark _)) (pss_one (ps_ret (pe_tup (pa_cons pe_str (pa_cons (pe_bm PySem.F.plainAttrs_str PySem.F.slot_str_join PySem.F.type_str_join mt_join pe_str (pa_cons (pe_lc (own := [("_law_sign", 11)]) (by rfl) sc__law_looked.nd (pi_str (pv 7)) (blkOk_by (own := [("_law_sign", 11)]) (N := ["_law_first", "_law_one", "_law_other", "_law_limit", "_law_waiting", "_law_kept", "_law_turn", "_law_cube", "_law_mine", "_law_its", "_law_at", "_law_sign"]) (sc := defScope s__law_looked) (by decide +kernel)) (fun _ _ _ _ _ => pg_name (i := 11) sc__law_looked.nd rfl (Or.inl rfl)) (fun _ _ _ _ _ => pts_nil) (fun _ _ _ _ _ => (pe_ix (ix_listK (K := K)) (pe_lst (pa_cons (pv 11) (pa_cons pe_str pa_nil))) (pe_callTy call_int1 (by rfl) B.int PyProof.Rows.boot_int (pa_cons (pe_cmpR op_eq (pv 11) pe_str (nomark _)) pa_nil)) (fun _ _ => rfl)))) pa_nil)) pa_nil))))) (pss_one (ps_expr (pe_bm PySem.F.plainAttrs_list PySem.F.slot_list_append PySem.F.type_list_append mt_append (pv 5) (pa_cons (pv 7) pa_nil)))))))
    (pss_one (ps_if (pt_cmpR (op_eqPl hr.units) (pv 4) (pe_lst pa_nil) (nomark _)) (pss_one (ps_ret (pe_tup (pa_cons pe_str (pa_cons (pv 5) pa_nil))))) pss_nil))))))
    (pss_one (ps_ret pe_non)))), ?_⟩
  obtain ⟨RA, FA, eA, rA, fA⟩ := id hA
  obtain ⟨RB, FB, eB, rB, fB⟩ := id hB
  refine ⟨_, rfl, _, m, rfl, rfl, by decide, by omega, ?_⟩
  rw [rep_m m m20]
  refine ⟨(by show 1 ≤ sizeLine; decide), fun W0 nW0 => ?_⟩
  have sW := same_upd (o := .lst (cV [List.replicate m 45])) nW0
  have eW : (upd H W0 (.lst (cV [List.replicate m 45]))) W0 = some (.lst (cV [List.replicate m 45])) := upd_same
  change tCons _ _ _ (upd H W0 (.lst (cV [List.replicate m 45]))) _
  generalize upd H W0 (.lst (cV [List.replicate m 45])) = H1 at *
  refine ⟨(by show 0 ≤ sizeLine; decide), fun K0 nK0 => ?_⟩
  have sK := same_upd (o := .lst (cV [])) nK0
  have eK : (upd H1 K0 (.lst (cV []))) K0 = some (.lst (cV [])) := upd_same
  have eW1 := sK _ _ eW
  have nKW : K0 ≠ W0 := (ne_of_none eW nK0).symm
  have nKH : H K0 = none := by
    cases e : H K0 with
    | none => rfl
    | some o =>
      rw [sW _ _ e] at nK0
      cases nK0
  have s02 := sW.trans sK
  change tNil _ (upd H1 K0 (.lst (cV []))) _
  generalize upd H1 K0 (.lst (cV [])) = H2 at *
  refine ⟨_, _, rfl, ?_⟩
  try simp only [L2.start, List.map_cons, List.map_nil, List.length_cons, List.length_nil, List.replicate_succ, List.replicate_zero, List.cons_append, List.nil_append, List.set_cons_succ, List.set_cons_zero, Nat.reduceAdd, Nat.reduceSub, Nat.zero_add]
  have sgR : SgL (List.replicate m 45) := fun c hc => .inl (List.eq_of_mem_replicate hc)
  have hlk : ∀ x, lk ga gb sa sb x = _ := fun x => lk_eq (ga := ga) (gb := gb) (sa := sa) (sb := sb) (x := x)
  have hop : ∀ x, x.length = m → SgL x → lk ga gb sa sb x = .op → 45 ∈ x := fun x lx sx h => lk_open okA okB ⟨gA.1, fun y hy => by
    obtain ⟨i, hi, ei⟩ := List.getElem_of_mem hy
    have := gA.2 i y.1 y.2 (by rw [List.getElem?_eq_getElem hi, ei])
    exact ⟨by omega, this.2⟩⟩ ⟨gB.1, fun y hy => by
    obtain ⟨i, hi, ei⟩ := List.getElem_of_mem hy
    have := gB.2 i y.1 y.2 (by rw [List.getElem?_eq_getElem hi, ei])
    exact ⟨by omega, this.2⟩⟩ oa.1 ob.1 lx sx h
  generalize lk ga gb sa sb = L' at q hlk hop
  refine ⟨_, rfl, _, rfl, by omega, by omega, ?_⟩
  rw [Int.toNat_natCast]
  refine for_range (n := lim) (fun j σ H9 => ∃ (y6 y7 y8 y9 y10 : Option V) (Wt : Addr) (st ks : List (List Nat)), σ = [some (.int (m : Int)), some (.ref PA1), some (.ref PB1), some (.int (lim : Int)), some (.ref Wt), some (.ref K0), y6, y7, y8, y9, y10, none] ∧ H9 K0 = some (.lst (cV ks)) ∧ H9 Wt = some (.lst (cV st.reverse)) ∧ H Wt = none ∧ Wt ≠ K0 ∧ Same H H9 ∧ Cb m st ∧ st ≠ [] ∧ st.length ≤ j + 1 ∧ ks.length ≤ j ∧ dfs L' lim [List.replicate m 45] [] = dfs L' (lim - j) st ks) ⟨_, _, _, _, _, W0, [List.replicate m 45], [], rfl, eK, eW1, nW0, nKW.symm, s02, fun x hx => by rw [List.mem_singleton.mp hx]; exact ⟨List.length_replicate, sgR⟩, List.cons_ne_nil _ _, Nat.le_refl _, Nat.le_refl _, rfl⟩ ?_ ?_
  · rintro j σ H9 hj ⟨y6, y7, y8, y9, y10, Wt, st, ks, rfl, eK9, eW9, nWH, nWK, s9, hst, hne, ll, lks, hd⟩
    try simp only [L2.start, List.map_cons, List.map_nil, List.length_cons, List.length_nil, List.replicate_succ, List.replicate_zero, List.cons_append, List.nil_append, List.set_cons_succ, List.set_cons_zero, Nat.reduceAdd, Nat.reduceSub, Nat.zero_add]
    dsimp only [gName]
    try simp only [L2.start, List.map_cons, List.map_nil, List.length_cons, List.length_nil, List.replicate_succ, List.replicate_zero, List.cons_append, List.nil_append, List.set_cons_succ, List.set_cons_zero, Nat.reduceAdd, Nat.reduceSub, Nat.zero_add]
    cases st with
    | nil => exact absurd rfl hne
    | cons x st =>
      obtain ⟨lx, sx⟩ := hst x List.mem_cons_self
      have hst' : Cb m st := fun y hy => hst y (List.mem_cons_of_mem _ hy)
      have ecV : cV (x :: st).reverse = cV st.reverse ++ [.str (SX.S x)] := by
        rw [List.reverse_cons, cV_app]
        rfl
      rw [ecV] at eW9
      rw [show lim - j = (lim - (j + 1)) + 1 by omega] at hd
      refine ⟨_, rfl, .inl ⟨rfl, _, SqL.of eW9⟩, Wt, _, .str (SX.S x), rfl, rfl, eW9, by simp, ?_⟩
      rw [List.dropLast_concat]
      have eW10 : (upd H9 Wt (.lst (cV st.reverse))) Wt = some (.lst (cV st.reverse)) := upd_same
      have eK10 : (upd H9 Wt (.lst (cV st.reverse))) K0 = some (.lst (cV ks)) := by
        rw [upd_ne nWK.symm]
        exact eK9
      have s10 : Same H (upd H9 Wt (.lst (cV st.reverse))) := fun y o e => by
        rw [upd_ne (ne_of_none e nWH)]
        exact s9 _ _ e
      generalize upd H9 Wt (.lst (cV st.reverse)) = H10 at *
      try simp only [L2.start, List.map_cons, List.map_nil, List.length_cons, List.length_nil, List.replicate_succ, List.replicate_zero, List.cons_append, List.nil_append, List.set_cons_succ, List.set_cons_zero, Nat.reduceAdd, Nat.reduceSub, Nat.zero_add]
      refine ⟨_, rfl, PA1, _, _, _, rfl, rfl, .inl (.inl (s10 _ _ eA)), (atI_nat (j := 0) rfl), _, rfl, PA1, _, _, _, rfl, rfl, .inl (.inl (s10 _ _ eA)), (atI_nat (j := 1) rfl), _, rfl, RA, FA, b, m, ga, na, x, rfl, rA.same s10, okA, fA.keep (Keep.ofSame s10), gA, naL, lx, sx, by omega, by omega, fun n1 t1 H11 pn1 pw1 s11 S1 => ?_⟩
      obtain rfl : n1 = sa := rows_one gA.1 pn1 pw1 oa.1 oa.2
      have s011 := s10.trans s11
      refine ⟨_, rfl, PB1, _, _, _, rfl, rfl, .inl (.inl (s011 _ _ eB)), (atI_nat (j := 0) rfl), _, rfl, PB1, _, _, _, rfl, rfl, .inl (.inl (s011 _ _ eB)), (atI_nat (j := 1) rfl), _, rfl, RB, FB, b, m, gb, nb, x, rfl, rB.same s011, okB, fB.keep (Keep.ofSame s011), gB, nbL, lx, sx, by omega, by omega, fun n2 t2 H12 pn2 pw2 s12 S2 => ?_⟩
      obtain rfl : n2 = sb := rows_one gB.1 pn2 pw2 ob.1 ob.2
      refine ⟨_, _, rfl, ?_⟩
      try simp only [L2.start, List.map_cons, List.map_nil, List.length_cons, List.length_nil, List.replicate_succ, List.replicate_zero, List.cons_append, List.nil_append, List.set_cons_succ, List.set_cons_zero, Nat.reduceAdd, Nat.reduceSub, Nat.zero_add]
      have hx := hlk x
      have s012 := s011.trans s12
      have eK12 := s12 _ _ (s11 _ _ eK10)
      have eW12 := s12 _ _ (s11 _ _ eW10)
      have R1 := S1.rw.same s12
      have lr : ∀ (f : List Nat) (nn : List (Str × List Nat)), (setR f nn).length = nn.length := setR_len
      refine ifS_ev (fun z H' => Same H12 H' ∧ (z = true ↔ ((setR (sgs x ga) n1).any opn = true ∨ (setR (sgs x gb) n2).any opn = true))) (fun Q' q' => ?_) ?_ ?_
      · refine ⟨_, rfl, t1, _, rfl, R1, by rw [setR_len, pn1.length_eq]; exact naL, fun H13 s13 => ?_⟩
        refine ⟨_, rfl, ite2 (fun z => ?_) (fun z => ?_)⟩
        · exact q' _ _ ⟨s13, fun _ => .inl z, fun _ => rfl⟩
        · refine ⟨_, rfl, t2, _, rfl, S2.rw.same s13, by rw [setR_len, pn2.length_eq]; exact nbL, fun H14 s14 => ?_⟩
          refine ⟨_, rfl, q' _ _ ⟨s13.trans s14, fun h => .inr h, fun h => h.elim (fun w => absurd w z) id⟩⟩
      · rintro H13 ⟨s13, hz⟩
        have ho := hz.mp rfl
        rw [if_pos ho] at hx
        have h45 := hop x lx sx hx
        obtain ⟨rest, ei, ai⟩ := sidx h45
        have pl : ix45 x < x.length := (List.getElem?_eq_some_iff.mp ai).1
        have zx : (SX.S x).length ≤ sizeLine := zS (by omega)
        have dstep : dfs L' lim [List.replicate m 45] [] = dfs L' (lim - (j + 1)) (x.set (ix45 x) 48 :: x.set (ix45 x) 49 :: st) ks := by
          rw [hd]
          show (match L' x with | .un => _ | .sm => _ | .op => _) = _
          rw [hx]
        generalize ix45 x = i at *
        refine ⟨_, rfl, rfl, _, _, i, rest, rfl, rfl, ei, ?_⟩
        dsimp only [gName]
        try simp only [L2.start, List.map_cons, List.map_nil, List.length_cons, List.length_nil, List.replicate_succ, List.replicate_zero, List.cons_append, List.nil_append, List.set_cons_succ, List.set_cons_zero, Nat.reduceAdd, Nat.reduceSub, Nat.zero_add]
        have eK13 := s13 _ _ eK12
        have eW13 := s13 _ _ eW12
        have s013 := s012.trans s13
        have w0 : ∀ d, SX.S (x.take i) ++ SX.S [d] ++ SX.S (x.drop (i + 1)) = SX.S (x.set i d) := fun d => by
          rw [SX.S_cat, SX.S_cat, List.append_assoc]
          exact congrArg SX.S (set_cut d pl)
        have z1 : (SX.S (x.take i)).length + 1 ≤ sizeLine := by
          rw [SX.S_len, List.length_take]
          exact Nat.le_of_lt (small1000 (by omega))
        have z2 : ∀ d, (SX.S (x.take i) ++ SX.S [d]).length + (SX.S (x.drop (i + 1))).length ≤ sizeLine := fun d => by
          rw [SX.S_cat, SX.S_len, SX.S_len, List.length_append, List.length_take, List.length_drop]
          show min i x.length + 1 + _ ≤ sizeLine
          exact Nat.le_of_lt (small1000 (by omega))
        refine ⟨_, rfl, _, rfl, _, rfl, i, rfl, _, rfl, zx, ?_⟩
        rw [cut_to x i (by omega)]
        refine ⟨_, _, rfl, rfl, (by rw [eins]; exact z1), ?_⟩
        rw [eins]
        refine ⟨_, rfl, _, rfl, _, _, rfl, rfl, (i : Int) + 1, rfl, _, rfl, zx, ?_⟩
        rw [show ((i : Int) + 1) = ((i + 1 : Nat) : Int) by omega, cut_from x (i + 1) (by omega)]
        refine ⟨_, _, rfl, rfl, z2 49, ?_⟩
        rw [w0]
        refine ⟨_, rfl, _, rfl, i, rfl, _, rfl, zx, ?_⟩
        rw [cut_to x i (by omega)]
        refine ⟨_, _, rfl, rfl, (by rw [nul]; exact z1), ?_⟩
        rw [nul]
        refine ⟨_, rfl, _, rfl, _, _, rfl, rfl, (i : Int) + 1, rfl, _, rfl, zx, ?_⟩
        rw [show ((i : Int) + 1) = ((i + 1 : Nat) : Int) by omega, cut_from x (i + 1) (by omega)]
        refine ⟨_, _, rfl, rfl, z2 48, ?_⟩
        rw [w0]
        refine ⟨(by show 2 ≤ sizeLine; decide), fun U2 nU2 => ?_⟩
        have sU2 := same_upd (o := .lst (cV [x.set i 49, x.set i 48])) nU2
        have eU2 : (upd H13 U2 (.lst (cV [x.set i 49, x.set i 48]))) U2 = some (.lst (cV [x.set i 49, x.set i 48])) := upd_same
        have eWU := sU2 _ _ eW13
        have eKU := sU2 _ _ eK13
        have s0U := s013.trans sU2
        change rCat _ _ (upd H13 U2 (.lst (cV [x.set i 49, x.set i 48]))) _
        generalize upd H13 U2 (.lst (cV [x.set i 49, x.set i 48])) = H14 at *
        refine ⟨Wt, U2, _, _, rfl, rfl, eWU, eU2, by rw [cV_len, cV_len, List.length_reverse]; exact Nat.le_of_lt (big_lt (show st.length + 2 ≤ _ by have : st.length ≤ j := Nat.le_of_succ_le_succ ll; omega)), fun W2 nW2 => ?_⟩
        have eWc : cV st.reverse ++ cV [x.set i 49, x.set i 48] = cV (x.set i 48 :: x.set i 49 :: st).reverse := by
          rw [← cV_app, List.reverse_cons, List.reverse_cons, List.append_assoc]
          rfl
        rw [eWc]
        have sW2 := same_upd (o := .lst (cV (x.set i 48 :: x.set i 49 :: st).reverse)) nW2
        have eW2 : (upd H14 W2 (.lst (cV (x.set i 48 :: x.set i 49 :: st).reverse))) W2 = some (.lst (cV (x.set i 48 :: x.set i 49 :: st).reverse)) := upd_same
        have eK2 := sW2 _ _ eKU
        have s02 := s0U.trans sW2
        have nW2K : W2 ≠ K0 := (ne_of_none eKU nW2).symm
        have nW2H : H W2 = none := by
          cases e : H W2 with
          | none => rfl
          | some o =>
            rw [s0U _ _ e] at nW2
            cases nW2
        generalize upd H14 W2 (.lst (cV (x.set i 48 :: x.set i 49 :: st).reverse)) = H15 at *
        dsimp only [gName]
        try simp only [L2.start, List.map_cons, List.map_nil, List.length_cons, List.length_nil, List.replicate_succ, List.replicate_zero, List.cons_append, List.nil_append, List.set_cons_succ, List.set_cons_zero, Nat.reduceAdd, Nat.reduceSub, Nat.zero_add]
        refine ⟨_, rfl, (by show 0 ≤ sizeLine; decide), fun U nU => ?_⟩
        have sU := same_upd (o := .lst []) nU
        refine ⟨.list (((x.set i 48 :: x.set i 49 :: st).reverse.map SX.S).map PyData.str), .list (([] : List Str).map PyData.str), .lst (SqL.of (sU _ _ eW2)) (dp_cV _), .lst (SqL.of upd_same) .nil, (pl_strs _).1, rfl, (pl_strs _).2, ?_⟩
        rw [eqv_strs, decide_eq_false (by rw [List.reverse_cons, List.map_append]; simp)]
        refine ⟨_, rfl, iteF ?_⟩
        exact ⟨_, _, _, _, _, W2, _, ks, rfl, sU _ _ eK2, sU _ _ eW2, nW2H, nW2K, s02.trans sU, fun y hy => by
          rcases List.mem_cons.mp hy with w | w
          · rw [w]
            exact Cb.set ⟨lx, sx⟩ i 48 (.inr (.inl rfl))
          · rcases List.mem_cons.mp w with w | w
            · rw [w]
              exact Cb.set ⟨lx, sx⟩ i 49 (.inr (.inr rfl))
            · exact hst' y w, List.cons_ne_nil _ _, (by show st.length + 2 ≤ j + 1 + 1; have : st.length ≤ j := Nat.le_of_succ_le_succ ll; omega), by omega, dstep⟩
      · rintro H13 ⟨s13, hz⟩
        have ho : ¬ ((setR (sgs x ga) n1).any opn = true ∨ (setR (sgs x gb) n2).any opn = true) := fun w => by
          have := hz.mpr w
          cases this
        rw [if_neg ho] at hx
        have eK13 := s13 _ _ eK12
        have eW13 := s13 _ _ eW12
        have s013 := s012.trans s13
        have D1 := (R1.same s13).dp (K := K)
        have D2 := (S2.rw.same s13).dp (K := K)
        refine ⟨_, rfl, _, rfl, _, _, D1, D2, (pl_rw _).1, (pl_rw _).1, (pl_rw _).2, ?_⟩
        by_cases he : PyData.eqv (rwD (setR (sgs x ga) n1)) (rwD (setR (sgs x gb) n2)) = true
        · rw [if_pos he] at hx
          rw [he]
          refine ⟨_, rfl, iteF ?_⟩
          refine ⟨_, rfl, .inl ⟨rfl, _, SqL.of eK13⟩, _, rfl, K0, _, _, rfl, rfl, eK13, by rw [cV_len]; exact big_lt (by omega), ?_⟩
          have eK14 : (upd H13 K0 (.lst (cV ks ++ [.str (SX.S x)]))) K0 = some (.lst (cV (ks ++ [x]))) := by
            rw [upd_same, cV_app]
            rfl
          have eW14 : (upd H13 K0 (.lst (cV ks ++ [.str (SX.S x)]))) Wt = some (.lst (cV st.reverse)) := by
            rw [upd_ne nWK]
            exact eW13
          have s014 : Same H (upd H13 K0 (.lst (cV ks ++ [.str (SX.S x)]))) := fun y o e => by
            rw [upd_ne (ne_of_none e nKH)]
            exact s013 _ _ e
          generalize upd H13 K0 (.lst (cV ks ++ [.str (SX.S x)])) = H14 at *
          have dstep : dfs L' lim [List.replicate m 45] [] = dfs L' (lim - (j + 1)) st (ks ++ [x]) := by
            rw [hd]
            show (match L' x with | .un => _ | .sm => _ | .op => _) = _
            rw [hx]
          refine ⟨_, rfl, (by show 0 ≤ sizeLine; decide), fun U nU => ?_⟩
          have sU := same_upd (o := .lst []) nU
          have eU : (upd H14 U (.lst [])) U = some (.lst []) := upd_same
          have eKU := sU _ _ eK14
          have eWU := sU _ _ eW14
          have s0U := s014.trans sU
          generalize upd H14 U (.lst []) = H15 at *
          refine ⟨.list ((st.reverse.map SX.S).map PyData.str), .list (([] : List Str).map PyData.str), .lst (SqL.of eWU) (dp_cV _), .lst (SqL.of eU) .nil, (pl_strs _).1, rfl, (pl_strs _).2, ?_⟩
          rw [eqv_strs]
          cases st with
          | nil =>
            refine ⟨_, rfl, iteT ?_⟩
            refine ⟨_, rfl, (by show 2 ≤ sizeLine; decide), fun t nt => ?_⟩
            have st' := same_upd (o := .tup [.str (Str.ofString "same"), .ref K0]) nt
            refine q _ _ (s0U.trans st') ?_
            rw [dstep]
            have e : dfs L' (lim - (j + 1)) [] (ks ++ [x]) = some (.sm (ks ++ [x])) := by cases lim - (j + 1) <;> rfl
            rw [e]
            exact ⟨t, K0, rfl, upd_same, st' _ _ eKU⟩
          | cons z st =>
            rw [decide_eq_false (by rw [List.reverse_cons, List.map_append]; simp)]
            refine ⟨_, rfl, iteF ?_⟩
            exact ⟨_, _, _, _, _, Wt, z :: st, ks ++ [x], rfl, eKU, eWU, nWH, nWK, s0U, hst', List.cons_ne_nil _ _, by have := Nat.le_of_succ_le_succ ll; omega, by rw [List.length_append]; exact Nat.succ_le_succ lks, dstep⟩
        · rw [if_neg he] at hx
          rw [Bool.eq_false_iff.mpr he]
          refine ⟨_, rfl, iteT ?_⟩
          refine ⟨rfl, _, rfl, SX.S x, rfl, fun D nD => ?_⟩
          refine lc_it (walk_S (x := x)) (fun i H6 => Same H13 H6 ∧ H6 D = some (.lst (s1s ((z0 x).take i)))) ⟨same_upd nD, upd_same⟩ (fun _ _ _ _ => trivial) ?_ ?_
          · rintro i v H6 H7 hi ⟨s6, eD⟩ ⟨rfl, a, ha, rfl⟩
            refine ⟨rfl, yesT ?_⟩
            refine ⟨_, rfl, (by show 2 ≤ sizeLine; decide), fun P1 nP1 => ?_⟩
            have sP1 := same_upd (o := .lst [.str (SX.S [a]), .str (Str.ofString "0")]) nP1
            refine ⟨_, rfl, rfl, .inr ⟨_, rfl, ?_⟩⟩
            have hat : atI ([.str (SX.S [a]), .str (Str.ofString "0")] : List V) (if decide (V.str (SX.S [a]) = V.str (Str.ofString "-")) = true then 1 else 0) = some (.str (SX.S [if a = 45 then 48 else a])) := by
              rw [dM]
              by_cases c : a = 45
              · rw [decide_eq_true c, if_pos rfl, if_pos c, nul]
                rfl
              · rw [decide_eq_false c, if_neg (by decide), if_neg c]
                rfl
            refine ⟨P1, _, _, _, rfl, rfl, SqL.of upd_same, hat, ?_⟩
            refine ⟨_, sP1 _ _ eD, ?_, fun y o e => ?_, ?_⟩
            · rw [s1s_len, List.length_take]
              have : (z0 x).length = m := by unfold z0; rw [List.length_map, lx]
              exact Nat.lt_of_le_of_lt (Nat.min_le_right _ _) (big_lt (by omega))
            · rw [upd_ne (ne_of_none e nD)]
              exact sP1 _ _ (s6 _ _ e)
            · rw [upd_same, List.take_add_one]
              unfold z0
              rw [List.getElem?_map, ha]
              exact congrArg (fun z => some (HO.lst z)) (s1s_snoc _ _)
          · rintro H6 ⟨s6, eD⟩
            have lz : (z0 x).length = m := by unfold z0; rw [List.length_map, lx]
            rw [List.take_of_length_le (by omega)] at eD
            refine ⟨_, D, _, rfl, rfl, .inl (SqL.of eD), join_z _ (by omega), ?_⟩
            rw [join_1]
            refine ⟨(by show 2 ≤ sizeLine; decide), fun t nt => ?_⟩
            have st' := same_upd (o := .tup [.str (Str.ofString "unlike"), .str (SX.S (z0 x))]) nt
            refine q _ _ ((s013.trans s6).trans st') ?_
            have e : dfs L' lim [List.replicate m 45] [] = some (.un x) := by
              rw [hd]
              show (match L' x with | .un => _ | .sm => _ | .op => _) = _
              rw [hx]
            rw [e]
            exact ⟨t, rfl, upd_same⟩
  · rintro σ H9 ⟨y6, y7, y8, y9, y10, Wt, st, ks, rfl, eK9, eW9, nWH, nWK, s9, hst, hne, ll, lks, hd⟩
    refine q .non H9 s9 ?_
    rw [hd, Nat.sub_self]
    cases st with
    | nil => exact absurd rfl hne
    | cons x st => rfl
end
section
variable {P : Program} {w : World} {K : PySem.W.Frag} {mg : Str → Option Value} {base : Heap}
variable {C : Addr} {za : Nat → Addr} {zl : Nat → FuncData}
/-! ### what looks show -/
theorem S_inj {x y : List Nat} (h : SX.S x = SX.S y) : x = y := by
  have := congrArg (fun s : Str => s.cps.toList) h
  exact this
theorem eqv_rw : ∀ a b : List (Str × List Nat), PyData.eqv (rwD a) (rwD b) = true → a = b
  | [], [], _ => rfl
  | [], _ :: _, h => by cases h
  | _ :: _, [], h => by cases h
  | x :: a, y :: b, h => by
    have ih := eqv_rw a b
    unfold rwD at ih h
    simp only [List.map_cons, PyData.eqv, PyData.eqvAll, Bool.and_eq_true, beq_iff_eq, decide_eq_true_eq, and_true] at ih h
    obtain ⟨⟨h1, h2⟩, h3⟩ := h
    have e : x = y := by
      obtain ⟨x1, x2⟩ := x
      obtain ⟨y1, y2⟩ := y
      have a1 : x1 = y1 := h1
      have a2 : x2 = y2 := S_inj h2
      rw [a1, a2]
    rw [e, ih h3]
theorem lk_sm {ga gb : List Gt} {sa sb : List (Str × List Nat)} {x : List Nat} (h : lk ga gb sa sb x = .sm) : (setR (sgs x ga) sa).any opn = false ∧ (setR (sgs x gb) sb).any opn = false ∧ setR (sgs x ga) sa = setR (sgs x gb) sb := by
  unfold lk at h
  split at h
  · cases h
  · split at h
    · cases h
    · split at h
      · exact ⟨Bool.eq_false_iff.mpr (by assumption), Bool.eq_false_iff.mpr (by assumption), eqv_rw _ _ (by assumption)⟩
      · cases h
theorem lk_un {ga gb : List Gt} {sa sb : List (Str × List Nat)} {x : List Nat} (h : lk ga gb sa sb x = .un) : (setR (sgs x ga) sa).any opn = false ∧ (setR (sgs x gb) sb).any opn = false ∧ setR (sgs x ga) sa ≠ setR (sgs x gb) sb := by
  unfold lk at h
  split at h
  · cases h
  · split at h
    · cases h
    · split at h
      · cases h
      · refine ⟨Bool.eq_false_iff.mpr (by assumption), Bool.eq_false_iff.mpr (by assumption), fun e => ?_⟩
        rename_i he
        rw [e, PySem.SeqAt.eqv_refl_plain _ (pl_rw _).1] at he
        exact he rfl
/-- what is settled by a cube stands for all bits in it -/
theorem kept_eval {m : Nat} {x t : List Nat} {gs : List Gt} {sa na : List (Str × List Nat)} (ok : GsOk m gs) (w : GvW (m + gs.length) na) (p : sa.Perm na) (sx : SgL x) (lx : x.length = m) (st : SgL t) (lt : t.length = m) (k : KeptL x t) (no : (setR (sgs x gs) sa).any opn = false) : setR (sgs x gs) sa = setR (sgs t gs) sa := by
  have kk := kept_sgs sx st lx lt k ok
  refine List.map_congr_left fun r hr => ?_
  have hno : opn (r.1, r.2.map fun a => (sgs x gs).getD a 0) = false := by
    cases e : opn (r.1, r.2.map fun a => (sgs x gs).getD a 0) with
    | false => rfl
    | true =>
      have : (setR (sgs x gs) sa).any opn = true := List.any_eq_true.mpr ⟨_, List.mem_map.mpr ⟨r, hr, rfl⟩, e⟩
      rw [no] at this
      cases this
  refine congrArg (Prod.mk r.1) (List.map_congr_left fun a ha => ?_)
  have la : a < (sgs x gs).length := by
    rw [sgs_len, lx]
    exact (w.2 r (p.mem_iff.mp hr)).2 a ha
  rcases kk.get la with z | z
  · have : 45 ∈ r.2.map fun a => (sgs x gs).getD a 0 := by
      rw [← z]
      exact List.mem_map.mpr ⟨a, ha, rfl⟩
    have h2 : opn (r.1, r.2.map fun a => (sgs x gs).getD a 0) = true := decide_eq_true this
    rw [hno] at h2
    cases h2
  · exact z
def Hop (L : List Nat → Lk) (m : Nat) : Prop := ∀ x, x.length = m → SgL x → L x = .op → 45 ∈ x
theorem dfs_sm {L : List Nat → Lk} {m : Nat} (hop : Hop L m) : ∀ (n : Nat) (st k ks : List (List Nat)), dfs L n st k = some (.sm ks) → Cb m st → (∀ x ∈ k, L x = .sm ∧ x.length = m ∧ SgL x) →
    (∀ x ∈ ks, L x = .sm ∧ x.length = m ∧ SgL x) ∧ ∀ t, t.length = m → BtL t → (∃ x, (x ∈ st ∨ x ∈ k) ∧ KeptL x t) → ∃ x ∈ ks, KeptL x t := by
  intro n
  induction n with
  | zero =>
    intro st k ks h hst hk
    cases st with
    | nil =>
      cases h
      refine ⟨hk, fun t _ _ ⟨x, hx, kx⟩ => ⟨x, hx.elim (fun z => nomatch z) id, kx⟩⟩
    | cons x st => cases h
  | succ n ih =>
    intro st k ks h hst hk
    cases st with
    | nil =>
      cases h
      exact ⟨hk, fun t _ _ ⟨x, hx, kx⟩ => ⟨x, hx.elim (fun z => nomatch z) id, kx⟩⟩
    | cons x st =>
      have hx := hst x List.mem_cons_self
      have hst' : Cb m st := fun y hy => hst y (List.mem_cons_of_mem _ hy)
      cases e : L x with
      | un =>
        have h' : some (Rs.un x) = some (Rs.sm ks) := by
          rw [← h]
          show _ = (match L x with | .un => _ | .sm => _ | .op => _)
          rw [e]
        cases h'
      | sm =>
        have h' : dfs L n st (k ++ [x]) = some (.sm ks) := by
          rw [← h]
          show _ = (match L x with | .un => _ | .sm => _ | .op => _)
          rw [e]
        obtain ⟨i1, i2⟩ := ih st (k ++ [x]) ks h' hst' fun y hy => by
          rcases List.mem_append.mp hy with w | w
          · exact hk y w
          · rw [List.mem_singleton.mp w]
            exact ⟨e, hx⟩
        refine ⟨i1, fun t lt bt ⟨y, hy, ky⟩ => i2 t lt bt ⟨y, ?_, ky⟩⟩
        rcases hy with w | w
        · rcases List.mem_cons.mp w with w | w
          · exact .inr (List.mem_append.mpr (.inr (List.mem_singleton.mpr w)))
          · exact .inl w
        · exact .inr (List.mem_append.mpr (.inl w))
      | op =>
        have h' : dfs L n (x.set (ix45 x) 48 :: x.set (ix45 x) 49 :: st) k = some (.sm ks) := by
          rw [← h]
          show _ = (match L x with | .un => _ | .sm => _ | .op => _)
          rw [e]
        obtain ⟨_, _, a45⟩ := sidx (hop x hx.1 hx.2 e)
        have pl : ix45 x < x.length := (List.getElem?_eq_some_iff.mp a45).1
        obtain ⟨i1, i2⟩ := ih _ k ks h' (fun y hy => by
          rcases List.mem_cons.mp hy with w | w
          · rw [w]
            exact Cb.set hx _ 48 (.inr (.inl rfl))
          · rcases List.mem_cons.mp w with w | w
            · rw [w]
              exact Cb.set hx _ 49 (.inr (.inr rfl))
            · exact hst' y w) hk
        refine ⟨i1, fun t lt bt ⟨y, hy, ky⟩ => i2 t lt bt ?_⟩
        rcases hy with w | w
        · rcases List.mem_cons.mp w with w | w
          · subst w
            have tl : ix45 y < t.length := by rw [lt, ← hx.1]; exact pl
            have ht := bt t[ix45 y] (List.getElem_mem tl)
            have kset : ∀ c, t[ix45 y]? = some c → KeptL (y.set (ix45 y) c) t := fun c hc => by
              refine ⟨by rw [List.length_set, ky.1], fun j a d hj hd => ?_⟩
              by_cases ij : ix45 y = j
              · subst ij
                rw [List.getElem?_set_self pl] at hj
                cases hj
                rw [hc] at hd
                cases hd
                exact .inr rfl
              · rw [List.getElem?_set_ne ij] at hj
                exact ky.2 j a d hj hd
            rcases ht with z | z
            · exact ⟨_, .inl List.mem_cons_self, kset 48 (by rw [List.getElem?_eq_getElem tl, z])⟩
            · exact ⟨_, .inl (List.mem_cons_of_mem _ List.mem_cons_self), kset 49 (by rw [List.getElem?_eq_getElem tl, z])⟩
          · exact ⟨y, .inl (List.mem_cons_of_mem _ (List.mem_cons_of_mem _ w)), ky⟩
        · exact ⟨y, .inr w, ky⟩
theorem dfs_un {L : List Nat → Lk} {m : Nat} : ∀ (n : Nat) (st k : List (List Nat)) (z : List Nat), dfs L n st k = some (.un z) → Cb m st → L z = .un ∧ z.length = m ∧ SgL z := by
  intro n
  induction n with
  | zero =>
    intro st k z h hst
    cases st with
    | nil => cases h
    | cons x st => cases h
  | succ n ih =>
    intro st k z h hst
    cases st with
    | nil => cases h
    | cons x st =>
      have hx := hst x List.mem_cons_self
      have hst' : Cb m st := fun y hy => hst y (List.mem_cons_of_mem _ hy)
      cases e : L x with
      | un =>
        have h' : some (Rs.un x) = some (Rs.un z) := by
          rw [← h]
          show _ = (match L x with | .un => _ | .sm => _ | .op => _)
          rw [e]
        cases h'
        exact ⟨e, hx⟩
      | sm =>
        refine ih st (k ++ [x]) z ?_ hst'
        rw [← h]
        show _ = (match L x with | .un => _ | .sm => _ | .op => _)
        rw [e]
      | op =>
        refine ih (x.set (ix45 x) 48 :: x.set (ix45 x) 49 :: st) k z ?_ fun y hy => ?_
        · rw [← h]
          show _ = (match L x with | .un => _ | .sm => _ | .op => _)
          rw [e]
        · rcases List.mem_cons.mp hy with w | w
          · rw [w]
            exact Cb.set hx _ 48 (.inr (.inl rfl))
          · rcases List.mem_cons.mp w with w | w
            · rw [w]
              exact Cb.set hx _ 49 (.inr (.inr rfl))
            · exact hst' y w
theorem z0_bt {x : List Nat} (h : SgL x) : BtL (z0 x) ∧ (z0 x).length = x.length ∧ KeptL x (z0 x) := by
  refine ⟨fun c hc => ?_, List.length_map .., List.length_map .. |>.symm, fun i a d ha hd => ?_⟩
  · obtain ⟨a, ha, rfl⟩ := List.mem_map.mp hc
    rcases h a ha with w | w | w
    · rw [if_pos w]; exact .inl rfl
    · rw [if_neg (by omega)]; exact .inl w
    · rw [if_neg (by omega)]; exact .inr w
  · unfold z0 at hd
    rw [List.getElem?_map, ha] at hd
    cases hd
    by_cases c : a = 45
    · exact .inl c
    · exact .inr (by show a = if a = 45 then 48 else a; rw [if_neg c])
theorem BtL.sg {l : List Nat} (h : BtL l) : SgL l ∧ 45 ∉ l := ⟨fun c hc => .inr (h c hc), fun z => by
  rcases h 45 z with e | e <;> cases e⟩
end
section
variable {P : Program} {w : World} {K : PySem.W.Frag} {mg : Str → Option Value} {base : Heap}
variable {C : Addr} {za : Nat → Addr} {zl : Nat → FuncData}
/-! ### enough looks -/
def c45 (x : List Nat) : Nat := x.count 45
def wt (st : List (List Nat)) : Nat := (st.map fun x => 2 ^ (c45 x + 1) - 1).sum
theorem c45_set {x : List Nat} (h : 45 ∈ x) {c : Nat} (hc : c ≠ 45) : c45 (x.set (ix45 x) c) + 1 = c45 x := by
  obtain ⟨_, _, a45⟩ := sidx h
  have pl : ix45 x < x.length := (List.getElem?_eq_some_iff.mp a45).1
  have e45 : x[ix45 x] = 45 := (List.getElem?_eq_some_iff.mp a45).2
  unfold c45
  rw [List.count_set pl, e45]
  have : 0 < x.count 45 := List.count_pos_iff.mpr h
  simp [hc]
  omega
theorem dfs_some {L : List Nat → Lk} {m : Nat} (hop : Hop L m) : ∀ (n : Nat) (st k : List (List Nat)), Cb m st → wt st ≤ n → dfs L n st k ≠ none := by
  intro n
  induction n with
  | zero =>
    intro st k hst hw
    cases st with
    | nil => exact fun z => by cases z
    | cons x st =>
      exfalso
      unfold wt at hw
      rw [List.map_cons, List.sum_cons] at hw
      have := Nat.two_pow_pos (c45 x)
      rw [Nat.pow_succ] at hw
      omega
  | succ n ih =>
    intro st k hst hw
    cases st with
    | nil => exact fun z => by cases z
    | cons x st =>
      have hx := hst x List.mem_cons_self
      have hst' : Cb m st := fun y hy => hst y (List.mem_cons_of_mem _ hy)
      have hw' : (2 ^ (c45 x + 1) - 1) + wt st ≤ n + 1 := by
        unfold wt at hw ⊢
        rw [List.map_cons, List.sum_cons] at hw
        exact hw
      have p := Nat.two_pow_pos (c45 x)
      rw [Nat.pow_succ] at hw'
      show (match L x with | .un => _ | .sm => _ | .op => _) ≠ none
      cases e : L x with
      | un => exact fun z => by cases z
      | sm => exact ih st _ hst' (by omega)
      | op =>
        have h45 := hop x hx.1 hx.2 e
        have a0 := c45_set h45 (c := 48) (by decide)
        have a1 := c45_set h45 (c := 49) (by decide)
        refine ih _ k (fun y hy => ?_) ?_
        · rcases List.mem_cons.mp hy with w | w
          · rw [w]
            exact Cb.set hx _ 48 (.inr (.inl rfl))
          · rcases List.mem_cons.mp w with w | w
            · rw [w]
              exact Cb.set hx _ 49 (.inr (.inr rfl))
            · exact hst' y w
        · show (List.map _ (_ :: _ :: st)).sum ≤ n
          rw [List.map_cons, List.map_cons, List.sum_cons, List.sum_cons]
          rw [show c45 (x.set (ix45 x) 48) + 1 = c45 x from a0, show c45 (x.set (ix45 x) 49) + 1 = c45 x from a1]
          have : (st.map fun x => 2 ^ (c45 x + 1) - 1).sum = wt st := rfl
          omega
theorem dfs_full {L : List Nat → Lk} {m : Nat} (hop : Hop L m) {n : Nat} (h : 2 ^ (m + 1) ≤ n) : dfs L n [List.replicate m 45] [] ≠ none := by
  refine dfs_some hop n _ [] (fun x hx => ?_) ?_
  · rw [List.mem_singleton.mp hx]
    exact ⟨List.length_replicate, fun a ha => .inl (List.eq_of_mem_replicate ha)⟩
  · unfold wt c45
    rw [List.map_cons, List.map_nil, List.sum_cons, List.sum_nil, List.count_replicate_self]
    omega
def resD : Rs → PyData
  | .sm ks => .tuple [.str (Str.ofString "same"), .list ((ks.map SX.S).map PyData.str)]
  | .un x => .tuple [.str (Str.ofString "unlike"), .str (SX.S (z0 x))]
theorem cV_str (ks : List (List Nat)) : cV ks = (ks.map SX.S).map V.str := by
  unfold cV
  rw [List.map_map]
  rfl
theorem TolAt.dp {H0 H H' : Hp} {T : Addr} {r : Rs} (h : TolAt H0 H T r) (s : Same H H') : Dp K H' (.ref T) (resD r) := by
  cases r with
  | sm ks =>
    obtain ⟨k0, a, c, _⟩ := h
    rw [cV_str] at c
    exact .tup (.inl (.inl (s _ _ a))) (.cons (.str _) (.cons (.lst (SqL.of (s _ _ c)) (dp_strs3 _)) .nil))
  | un x => exact .tup (.inl (.inl (s _ _ h))) (.cons (.str _) (.cons (.str _) .nil))
theorem resV_dp {H H' : Hp} {v : V} {r : Rs} (h : resV H v (some r)) (s : Same H H') : Dp K H' v (resD r) := by
  cases r with
  | sm ks =>
    obtain ⟨t, k0, rfl, a, c⟩ := h
    rw [cV_str] at c
    exact .tup (.inl (.inl (s _ _ a))) (.cons (.str _) (.cons (.lst (SqL.of (s _ _ c)) (dp_strs3 _)) .nil))
  | un x =>
    obtain ⟨t, rfl, a⟩ := h
    exact .tup (.inl (.inl (s _ _ a))) (.cons (.str _) (.cons (.str _) .nil))
theorem dfs_len {L : List Nat → Lk} : ∀ (n : Nat) (st k ks : List (List Nat)), dfs L n st k = some (.sm ks) → ks.length ≤ k.length + n := by
  intro n
  induction n with
  | zero =>
    intro st k ks h
    cases st with
    | nil => cases h; exact Nat.le_refl _
    | cons x st => cases h
  | succ n ih =>
    intro st k ks h
    cases st with
    | nil => cases h; exact Nat.le_add_right _ _
    | cons x st =>
      replace h : (match L x with | .un => some (Rs.un x) | .sm => dfs L n st (k ++ [x]) | .op => dfs L n (x.set (ix45 x) 48 :: x.set (ix45 x) 49 :: st) k) = some (.sm ks) := h
      cases e : L x with
      | un => rw [e] at h; cases h
      | sm =>
        rw [e] at h
        have := ih _ _ _ h
        rw [List.length_append, List.length_cons, List.length_nil] at this
        omega
      | op =>
        rw [e] at h
        have := ih _ _ _ h
        omega
theorem lv_res {j : Nat} {L : List Nat → Lk} {n : Nat} {st : List (List Nat)} {r : Rs} (hn : n ≤ 3000) (h : dfs L n st [] = some r) : Lv (j + 2) (resD r) := by
  cases r with
  | sm ks =>
    have l := dfs_len _ _ _ _ h
    rw [List.length_nil] at l
    refine ⟨by show 2 ≤ 1000000; decide, fun d hd => ?_⟩
    simp only [List.mem_cons, List.not_mem_nil, or_false] at hd
    rcases hd with rfl | rfl
    · exact True.intro
    · refine ⟨by rw [List.length_map, List.length_map]; omega, fun d hd => ?_⟩
      obtain ⟨y, _, rfl⟩ := List.mem_map.mp hd
      cases j <;> exact True.intro
  | un x =>
    refine ⟨by show 2 ≤ 1000000; decide, fun d hd => ?_⟩
    simp only [List.mem_cons, List.not_mem_nil, or_false] at hd
    rcases hd with rfl | rfl <;> exact True.intro
theorem GvIn.gw {M : Nat} {nm : List (Str × List Nat)} (h : GvIn M nm) : GvW M nm := ⟨h.1, fun y hy => by
  obtain ⟨i, hi, ei⟩ := List.getElem_of_mem hy
  have := h.2 i y.1 y.2 (by rw [List.getElem?_eq_getElem hi, ei])
  exact ⟨by omega, this.2⟩⟩
theorem inj_nodup {l : List (Str × List Nat)} (h : Inj l) : (l.map (·.1)).Nodup := by
  rw [List.Nodup, List.pairwise_iff_getElem]
  intro i j hi hj hij e
  rw [List.getElem_map, List.getElem_map] at e
  rw [List.length_map] at hi hj
  have := h i j _ _ (List.getElem?_eq_getElem hi) (List.getElem?_eq_getElem hj) e
  omega
theorem inj_of {l : List (Str × List Nat)} (h : (l.map (·.1)).Nodup) : Inj l := fun i j x y hx hy e => by
  have hi := (List.getElem?_eq_some_iff.mp hx).1
  refine (List.getElem?_inj (l := l.map (·.1)) (by rw [List.length_map]; exact hi) h).mp ?_
  rw [List.getElem?_map, List.getElem?_map, hx, hy]
  exact congrArg some e
theorem Inj.perm {a b : List (Str × List Nat)} (h : Inj a) (p : a.Perm b) : Inj b := inj_of ((p.map (·.1)).nodup_iff.mp (inj_nodup h))
theorem GsOk.snoc {m : Nat} {gs : List Gt} {g : Gt} (h : GsOk m gs) (hg : g.ok (m + gs.length)) : GsOk m (gs ++ [g]) := fun i g' hi => by
  by_cases d : i < gs.length
  · rw [List.getElem?_append_left d] at hi
    exact h i g' hi
  · have i0 : i = gs.length := by
      have := (List.getElem?_eq_some_iff.mp hi).1
      rw [List.length_append, List.length_cons, List.length_nil] at this
      omega
    rw [List.getElem?_append_right (by omega), i0, Nat.sub_self] at hi
    cases hi
    rw [i0]
    exact hg
theorem kept_rep {m : Nat} {t : List Nat} (h : t.length = m) : KeptL (List.replicate m 45) t := ⟨by rw [List.length_replicate, h], fun i a c ha _ => .inl (List.eq_of_mem_replicate (List.mem_of_getElem? ha))⟩
end
section
variable {P : Program} {w : World} {K : PySem.W.Frag} {mg : Str → Option Value} {base : Heap}
variable {C : Addr} {za : Nat → Addr} {zl : Nat → FuncData}
/-! ### bent rows -/
theorem ixn {n a : Nat} (h : a < n) : ixN n (a : Int) = some a := by
  unfold ixN
  rw [if_pos (by omega), if_pos (by omega)]
  rfl
def spBent : Sp := fun vs H Q _ => ∃ (b R : Addr) (c : Int) (m : Nat) (gs : List Gt), vs = [.ref b, .int (m : Int), .ref R] ∧ BoxAt c H b ∧ c ≤ 800000000 ∧ 1 ≤ m ∧ m ≤ 100 ∧ RowsAt46 H R gs ∧ GsOk m gs ∧ 1 ≤ gs.length ∧ gs.length ≤ 40 ∧
  ∀ (R' : Addr) (gs' : List Gt) (H' : Hp), gs'.length = gs.length → GsOk m gs' → RowsAt46 H' R' gs' → BoxAt (c + 5) H' b → Keep b H H' → Q (.ref R') H'
theorem ok__law_bent_rows (B : Bl mg) (L : LL K mg C za zl) : FnOk P w K mg base CX0 2 (za 27) (zl 27) ["_law_box_here", "_law_first", "_law_rows"] spBent := by
  have G__law_take : FnOk P w K mg base CX0 1 (za 17) (zl 17) ["_law_box_here", "_law_size"] (spTake 1) := (ok_take L.F__law_take L.b__law_take L.m__law_take B 1).mono (by decide)
  refine L.F__law_bent_rows.ok sc__law_bent_rows (fun vs H Q E h => ?_) (fun cdv A outer s H vs Q E hr h => ?_)
  · obtain ⟨b, R, c, m, gs, rfl, _⟩ := h
    rfl
  obtain ⟨b, R, c, m, gs, rfl, hB, hc, m1, m8, hR, ok, g1, g40, q⟩ := h
  refine ⟨_, (pss_cons (ps_par (by rfl) sc__law_bent_rows.nd (i := 3) (j := 4) rfl rfl (by decide) rfl rfl (pa_cons (pe_callTy call_list_of (by rfl) B.list PyProof.Rows.boot_list (pa_cons (pv 2) pa_nil)) (pa_cons (pe_call G__law_take hr (by rfl) L.m__law_take L.F__law_take.kp L.b__law_take .nil pass0 (pa_cons (pv 0) (pa_cons (pe_callB call_len_seq (by rfl) B.len PySem.boot_len (pa_cons (pv 2) pa_nil)) pa_nil))) pa_nil)) (by rfl))
    (pss_cons (ps_par (by rfl) sc__law_bent_rows.nd (i := 5) (j := 6) rfl rfl (by decide) rfl rfl (pa_cons (pe_ix ix_list (pv 2) (pv 4) (fun _ _ => rfl)) (pa_cons (pe_call G__law_take hr (by rfl) L.m__law_take L.F__law_take.kp L.b__law_take .nil pass0 (pa_cons (pv 0) (pa_cons pe_int pa_nil))) pa_nil)) (by rfl))
    (pss_cons (ps_if (pt_cmpR op_in_seq (pe_ix ix_tup (pv 5) pe_int (fun _ _ => rfl)) (pe_tup (pa_cons pe_str (pa_cons pe_str (pa_cons pe_str pa_nil)))) (by rfl)) (pss_cons (ps_set (i := 7) sc__law_bent_rows.nd rfl (.inl rfl) (pe_lst (pa_cons (pe_tup (pa_cons pe_str (pa_cons pe_str pa_nil))) (pa_cons (pe_tup (pa_cons pe_str (pa_cons pe_str pa_nil))) (pa_cons (pe_tup (pa_cons pe_str (pa_cons pe_str pa_nil))) pa_nil)))))
    (pss_cons (ps_set (i := 8) sc__law_bent_rows.nd rfl (.inl rfl) (pe_callTy (call_dictP rfl) (by rfl) L.z_dict PyProof.Rows.boot_dict (pa_cons (pv 7) pa_nil)))
    (pss_one (ps_asg (pe_ix ix_list (pe_lst (pa_cons (pe_op op_catT (pe_tup (pa_cons (pe_dget (units1 hr) (pv 8) (pe_ix ix_tup (pv 5) pe_int (fun _ _ => rfl)) (fun _ _ => rfl)) pa_nil)) (pe_slice sl_tup (pv 5) (po_some pe_int) po_none)) (pa_cons (pe_tup (pa_cons (pe_ix ix_tup (pv 5) pe_int (fun _ _ => rfl)) (pa_cons (pe_ix ix_tup (pv 5) pe_int (fun _ _ => rfl)) (pa_cons (pe_ix ix_tup (pv 5) pe_int (fun _ _ => rfl)) pa_nil)))) (pa_cons (pe_tup (pa_cons (pe_ix ix_tup (pv 5) pe_int (fun _ _ => rfl)) (pa_cons (pe_ix ix_tup (pv 5) pe_int (fun _ _ => rfl)) (pa_cons (pe_call G__law_take hr (by rfl) L.m__law_take L.F__law_take.kp L.b__law_take .nil pass0 (pa_cons (pv 0) (pa_cons (pe_op op_add (pv 1) (pv 4)) pa_nil))) pa_nil)))) (pa_cons (pe_tup (pa_cons (pe_ix ix_tup (pv 5) pe_int (fun _ _ => rfl)) (pa_cons (pe_ix ix_tup (pv 5) pe_int (fun _ _ => rfl)) (pa_cons (pe_ix ix_tup (pv 5) pe_int (fun _ _ => rfl)) pa_nil)))) (pa_cons (pe_tup (pa_cons pe_str (pa_cons (pe_ix ix_tup (pv 5) pe_int (fun _ _ => rfl)) pa_nil))) pa_nil)))))) (pv 6) (fun _ _ => rfl)) (pg_sub (pv 3) (pv 4) set_list))))) (pss_one (ps_if (pt_cmpR op_eq (pe_ix ix_tup (pv 5) pe_int (fun _ _ => rfl)) pe_str (nomark _)) (pss_one (ps_asg (pe_tup (pa_cons (pe_ix ix_tup (pv 5) pe_int (fun _ _ => rfl)) (pa_cons (pe_ix ix_list (pe_lst (pa_cons (pe_op op_sub pe_int (pe_ix ix_tup (pv 5) pe_int (fun _ _ => rfl))) (pa_cons (pe_ix ix_tup (pv 5) pe_int (fun _ _ => rfl)) pa_nil))) (pe_op op_mod (pv 6) pe_int) (fun _ _ => rfl)) pa_nil))) (pg_sub (pv 3) (pv 4) set_list))) (pss_one (ps_asg (pe_tup (pa_cons pe_str (pa_cons (pe_call G__law_take hr (by rfl) L.m__law_take L.F__law_take.kp L.b__law_take .nil pass0 (pa_cons (pv 0) (pa_cons (pe_op op_add (pv 1) (pv 4)) pa_nil))) pa_nil))) (pg_sub (pv 3) (pv 4) set_list))))))
    (pss_one (ps_ret (pv 3)))))), ?_⟩
  obtain ⟨ts, lt, eR, hts⟩ := id hR
  have lR : (ts.map V.ref).length = gs.length := by rw [List.length_map, lt]
  refine ⟨_, rfl, R, _, rfl, .inl (SqL.of eR), fun M nM => ?_⟩
  have sM := same_upd (o := .lst (ts.map V.ref)) nM
  have eM : (upd H M (.lst (ts.map V.ref))) M = some (.lst (ts.map V.ref)) := upd_same
  have nMb : M ≠ b := fun z => by
    obtain ⟨_, _, _, e, _⟩ := hB
    rw [← z, nM] at e
    cases e
  generalize upd H M (.lst (ts.map V.ref)) = H1 at *
  refine ⟨_, rfl, _, rfl, R, _, rfl, .inl (SqL.of (sM _ _ eR)), ?_⟩
  rw [lR]
  refine ⟨b, _, c, rfl, hB.same sM, by omega, by omega, by omega, by omega, by decide, fun r H2 r0 r1 B2 k2 => ?_⟩
  obtain ⟨a, rfl⟩ := Int.eq_ofNat_of_zero_le r0
  have al : a < gs.length := by omega
  refine ⟨_, _, rfl, ?_⟩
  try simp only [L2.start, List.map_cons, List.map_nil, List.length_cons, List.length_nil, List.replicate_succ, List.replicate_zero, List.cons_append, List.nil_append, List.set_cons_succ, List.set_cons_zero, Nat.reduceAdd, Nat.reduceSub, Nat.zero_add]
  have hR2 := (hR.same sM).keepB k2 (hB.same sM)
  have eM2 := k2 _ _ eM nMb
  obtain ⟨ts', lt', eR2, hts'⟩ := id hR2
  have eRR : ts' = ts := by
    have e1 := k2 _ _ (sM _ _ eR) (hR.ne hB)
    rw [eR2] at e1
    have e2 : ts'.map V.ref = ts.map V.ref := by
      injection e1 with e1
      injection e1
    exact (List.map_inj_right (fun x y h => by injection h)).mp e2
  subst eRR
  obtain ⟨g, hg⟩ : ∃ g, gs[a]? = some g := ⟨_, List.getElem?_eq_getElem al⟩
  obtain ⟨u, hu⟩ : ∃ u, ts'[a]? = some u := ⟨_, List.getElem?_eq_getElem (by omega)⟩
  have et := hts' a u g hu hg
  have okg := ok a g hg
  refine ⟨_, rfl, _, rfl, R, _, _, _, rfl, rfl, SqL.of eR2, atI_nat (j := a) (by rw [List.getElem?_map, hu]; rfl), ?_⟩
  refine ⟨_, rfl, b, 5, c + 1, rfl, B2, by decide, by decide, by decide, by omega, by decide, fun wy H3 w0 w5 B3 k3 => ?_⟩
  refine ⟨_, _, rfl, ?_⟩
  try simp only [L2.start, List.map_cons, List.map_nil, List.length_cons, List.length_nil, List.replicate_succ, List.replicate_zero, List.cons_append, List.nil_append, List.set_cons_succ, List.set_cons_zero, Nat.reduceAdd, Nat.reduceSub, Nat.zero_add]
  have hR3 := hR2.keepB k3 B2
  have eM3 := k3 _ _ eM2 nMb
  have nub : u ≠ b := fun z => by
    obtain ⟨_, _, _, e, _⟩ := B2
    rw [← z, et] at e
    cases e
  have et3 := k3 _ _ et nub
  have kH3 : Keep b H H3 := fun y o e n => k3 _ _ (k2 _ _ (sM _ _ e) n) n
  have fin : ∀ (g' : Gt) (H4 : Hp) (t' : Addr), g'.ok (m + a) → H4 t' = some (.tup g'.row) → Keep b H3 H4 → BoxAt (c + 5) H4 b → Q (.ref M) (upd H4 M (.lst ((ts'.map V.ref).set a (.ref t')))) := fun g' H4 t' og et' k4 B4 => by
    have eM4 := k4 _ _ eM3 nMb
    refine q M (gs.set a g') _ List.length_set (fun i x hi => ?_) ⟨ts'.set a t', by rw [List.length_set, List.length_set, lt'], by rw [upd_same, List.map_set], fun i t x ht hx => ?_⟩ ?_ ?_
    · by_cases ia : a = i
      · subst ia
        rw [List.getElem?_set_self al] at hi
        cases hi
        exact og
      · rw [List.getElem?_set_ne ia] at hi
        exact ok i x hi
    · by_cases ia : a = i
      · subst ia
        rw [List.getElem?_set_self (by omega)] at ht hx
        cases ht
        cases hx
        rw [upd_ne (fun z => by rw [z, eM4] at et'; cases et')]
        exact et'
      · rw [List.getElem?_set_ne ia] at ht hx
        have e := hR3
        have e2 := hts' i t x ht hx
        have tb : t ≠ b := fun z => by
          obtain ⟨_, _, _, e, _⟩ := B2
          rw [← z, e2] at e
          cases e
        have e4 := k4 _ _ (k3 _ _ e2 tb) tb
        rw [upd_ne (fun z => by rw [z, eM4] at e4; cases e4)]
        exact e4
    · exact B4.at (upd_ne nMb.symm)
    · exact fun y o e n => by
        rw [upd_ne (ne_of_none e nM)]
        exact k4 _ _ (kH3 _ _ e n) n
  cases g with
  | fi bb =>
    have r0 : atI (Gt.fi bb).row 0 = some (.str "fixed") := rfl
    refine ⟨_, rfl, u, _, _, _, rfl, rfl, .inl (.inl et3), r0, (by show 3 ≤ sizeLine; decide), fun U nU => ?_⟩
    refine ⟨U, _, rfl, .inr (.inl (.inl upd_same)), rfl, rfl, _, rfl, ite2 (fun z => absurd z (by decide +kernel)) (fun _ => ?_)⟩
    have sU := same_upd (o := .tup [.str "both", .str "either", .str "unlike"]) nU
    have et4 := sU _ _ et3
    have k4 : Keep b H3 _ := .ofSame sU
    have B4 := B3.same sU
    generalize upd H3 U _ = H4 at *
    refine ⟨_, rfl, u, _, _, _, rfl, rfl, .inl (.inl et4), r0, rfl, _, rfl, ite2 (fun _ => ?_) (fun z => absurd (decide_eq_true rfl) z)⟩
    refine ⟨_, rfl, u, _, _, _, rfl, rfl, .inl (.inl et4), r0, _, rfl, u, _, _, _, rfl, rfl, .inl (.inl et4), rfl, _, _, rfl, rfl, _, rfl, u, _, _, _, rfl, rfl, .inl (.inl et4), rfl, (by show 2 ≤ sizeLine; decide), fun D nD => ?_⟩
    have sD := same_upd (o := .lst [.int (1 - (bb : Int)), .int (bb : Int)]) nD
    have eD : (upd H4 D (.lst [.int (1 - (bb : Int)), .int (bb : Int)])) D = some (.lst [.int (1 - (bb : Int)), .int (bb : Int)]) := upd_same
    have k5 := k4.trans (.ofSame sD)
    have B5 := B4.same sD
    generalize upd H4 D _ = H5 at *
    have b1 : bb ≤ 1 := okg
    obtain ⟨bb', hb', h01⟩ : ∃ b' : Nat, atI [V.int (1 - (bb : Int)), .int (bb : Int)] (wy % 2) = some (.int (b' : Int)) ∧ b' ≤ 1 := by
      have : wy % 2 = 0 ∨ wy % 2 = 1 := by omega
      rcases this with e | e <;> rw [e]
      · exact ⟨1 - bb, congrArg (fun z => some (V.int z)) (by omega), by omega⟩
      · exact ⟨bb, rfl, by omega⟩
    refine ⟨_, rfl, _, _, rfl, rfl, (by show (0 : Int) < 2; decide), D, _, _, _, rfl, rfl, SqL.of eD, hb', (by show 2 ≤ sizeLine; decide), fun T nT => ?_⟩
    have sT := same_upd (o := .tup [.str "fixed", .int (bb' : Int)]) nT
    have eT : (upd H5 T (.tup [.str "fixed", .int (bb' : Int)])) T = some (.tup [.str "fixed", .int (bb' : Int)]) := upd_same
    have k6 := k5.trans (.ofSame sT)
    have B6 := B5.same sT
    generalize upd H5 T _ = H6 at *
    refine ⟨_, rfl, _, rfl, M, _, _, a, rfl, rfl, k6 _ _ eM3 nMb, ixn (by rw [List.length_map]; omega), ?_⟩
    exact ⟨_, rfl, fin (.fi bb') H6 T h01 eT k6 (B6.mono (by omega))⟩
  | w k l =>
    have r0 := Gt.row0 k l
    rcases okg.1 with ⟨hk, l2⟩ | ⟨rfl, l1⟩
    · obtain ⟨p, p2, rfl⟩ : ∃ p p2, l = [p, p2] := by
        match l, l2 with
        | [p, p2], _ => exact ⟨_, _, rfl⟩
      refine ⟨_, rfl, u, _, _, _, rfl, rfl, .inl (.inl et3), r0, (by show 3 ≤ sizeLine; decide), fun U nU => ?_⟩
      refine ⟨U, _, rfl, .inr (.inl (.inl upd_same)), rfl, rfl, _, rfl, ite2 (fun _ => ?_) (fun z => absurd (by rcases hk with rfl | rfl | rfl <;> decide +kernel) z)⟩
      have sU := same_upd (o := .tup [.str "both", .str "either", .str "unlike"]) nU
      have et4 := sU _ _ et3
      have k4 : Keep b H3 _ := .ofSame sU
      have B4 := B3.same sU
      generalize upd H3 U _ = H4 at *
      refine ⟨(by show 2 ≤ sizeLine; decide), fun S1 nS1 => ?_⟩
      have s5 := same_upd (o := .tup [.str "both", .str "either"]) nS1
      have eS1 : (upd H4 S1 (.tup [.str "both", .str "either"])) S1 = some (.tup [.str "both", .str "either"]) := upd_same
      have k5 := k4.trans (.ofSame s5)
      have B5 := B4.same s5
      have et5 := s5 _ _ et4
      generalize upd H4 S1 _ = H5 at *
      refine ⟨(by show 2 ≤ sizeLine; decide), fun S2 nS2 => ?_⟩
      have s6 := same_upd (o := .tup [.str "either", .str "unlike"]) nS2
      have eS2 : (upd H5 S2 (.tup [.str "either", .str "unlike"])) S2 = some (.tup [.str "either", .str "unlike"]) := upd_same
      have k6 := k5.trans (.ofSame s6)
      have B6 := B5.same s6
      have et6 := s6 _ _ et5
      generalize upd H5 S2 _ = H6 at *
      refine ⟨(by show 2 ≤ sizeLine; decide), fun S3 nS3 => ?_⟩
      have s7 := same_upd (o := .tup [.str "unlike", .str "both"]) nS3
      have eS3 : (upd H6 S3 (.tup [.str "unlike", .str "both"])) S3 = some (.tup [.str "unlike", .str "both"]) := upd_same
      have k7 := k6.trans (.ofSame s7)
      have B7 := B6.same s7
      have et7 := s7 _ _ et6
      generalize upd H6 S3 _ = H7 at *
      have eS1 := s7 _ _ (s6 _ _ eS1)
      have eS2 := s7 _ _ eS2
      refine ⟨(by show 3 ≤ sizeLine; decide), fun S nS => ?_⟩
      have s8 := same_upd (o := .lst [.ref S1, .ref S2, .ref S3]) nS
      have eS : (upd H7 S (.lst [.ref S1, .ref S2, .ref S3])) S = some (.lst [.ref S1, .ref S2, .ref S3]) := upd_same
      have k8 := k7.trans (.ofSame s8)
      have B8 := B7.same s8
      have et8 := s8 _ _ et7
      generalize upd H7 S _ = H8 at *
      refine ⟨_, rfl, S, [S1, S2, S3], [(.inr "both", .str "either"), (.inr "either", .str "unlike"), (.inr "unlike", .str "both")], rfl, SqL.of eS, .cons (.inl (.inl (s8 _ _ eS1))) (.cons (.inl (.inl (s8 _ _ eS2))) (.cons (.inl (.inl (s8 _ _ eS3))) .nil)), fun Dk nDk => ?_⟩
      have s9 := same_upd (o := .dK (mergeK [] [(.inr "both", .str "either"), (.inr "either", .str "unlike"), (.inr "unlike", .str "both")])) nDk
      have eDk : (upd H8 Dk (.dK (mergeK [] [(.inr "both", .str "either"), (.inr "either", .str "unlike"), (.inr "unlike", .str "both")]))) Dk = some (.dK (mergeK [] [(.inr "both", .str "either"), (.inr "either", .str "unlike"), (.inr "unlike", .str "both")])) := upd_same
      have k9 := k8.trans (.ofSame s9)
      have B9 := B8.same s9
      have et9 := s9 _ _ et8
      generalize upd H8 Dk _ = H9 at *
      obtain ⟨k', hk', hkk⟩ : ∃ k' : Str, valV (mergeK [] [(Sum.inr ("both" : Str), V.str "either"), (.inr "either", .str "unlike"), (.inr "unlike", .str "both")] : List (Key × V)) (.inr k) = some (.str k') ∧ (k' = "both" ∨ k' = "either" ∨ k' = "unlike") := by
        rcases hk with rfl | rfl | rfl
        · exact ⟨"either", rfl, .inr (.inl rfl)⟩
        · exact ⟨"unlike", rfl, .inr (.inr rfl)⟩
        · exact ⟨"both", rfl, .inl rfl⟩
      dsimp only [gName]
      try simp only [L2.start, List.map_cons, List.map_nil, List.length_cons, List.length_nil, List.replicate_succ, List.replicate_zero, List.cons_append, List.nil_append, List.set_cons_succ, List.set_cons_zero, Nat.reduceAdd, Nat.reduceSub, Nat.zero_add]
      refine ⟨_, rfl, _, rfl, u, _, _, _, rfl, rfl, .inl (.inl et9), r0, Dk, _, rfl, .inl ⟨_, .inr k, .inl eDk, rfl, hk'.symm⟩, (by show 1 ≤ sizeLine; decide), fun T1 nT1 => ?_⟩
      have s10 := same_upd (o := .tup [.str k']) nT1
      have eT1 : (upd H9 T1 (.tup [.str k'])) T1 = some (.tup [.str k']) := upd_same
      have k10 := k9.trans (.ofSame s10)
      have B10 := B9.same s10
      have et10 := s10 _ _ et9
      generalize upd H9 T1 _ = H10 at *
      refine ⟨_, rfl, _, rfl, u, _, rfl, .inl (.inl et10), (by show ¬ (HT.sIx 3 0 (some 1) = 0 ∧ HT.sIx 3 3 none = 3); decide), fun T2 nT2 => ?_⟩
      have s11 := same_upd (o := .tup (cutV (Gt.w k [p, p2]).row (some 1) none)) nT2
      have eT2 : (upd H10 T2 (.tup (cutV (Gt.w k [p, p2]).row (some 1) none))) T2 = some (.tup (cutV (Gt.w k [p, p2]).row (some 1) none)) := upd_same
      have k11 := k10.trans (.ofSame s11)
      have B11 := B10.same s11
      have et11 := s11 _ _ et10
      generalize upd H10 T2 _ = H11 at *
      refine ⟨T1, T2, _, _, rfl, rfl, .inl (.inl (s11 _ _ eT1)), .inl (.inl eT2), (by simp), (by show 3 ≤ sizeLine; decide), (fun z => by cases z), fun _ T3 nT3 => ?_⟩
      have z3 : T3 ≠ b := (B11.ne nT3).symm
      have s12 := same_upd (o := .tup ([.str k'] ++ cutV (Gt.w k [p, p2]).row (some 1) none)) nT3
      have eT3 : (upd H11 T3 (.tup ([.str k'] ++ cutV (Gt.w k [p, p2]).row (some 1) none))) T3 = some (.tup ([.str k'] ++ cutV (Gt.w k [p, p2]).row (some 1) none)) := upd_same
      have k12 := k11.trans (.ofSame s12)
      have B12 := B11.same s12
      have et12 := s12 _ _ et11
      generalize upd H11 T3 _ = H12 at *
      refine ⟨_, rfl, u, _, _, _, rfl, rfl, .inl (.inl et12), r0, _, rfl, u, _, _, _, rfl, rfl, .inl (.inl et12), rfl, _, rfl, u, _, _, _, rfl, rfl, .inl (.inl et12), rfl, (by show 3 ≤ sizeLine; decide), fun T4 nT4 => ?_⟩
      have z4 : T4 ≠ b := (B12.ne nT4).symm
      have s13 := same_upd (o := .tup [.str k, .int (p2 : Int), .int (p : Int)]) nT4
      have eT4 : (upd H12 T4 (.tup [.str k, .int (p2 : Int), .int (p : Int)])) T4 = some (.tup [.str k, .int (p2 : Int), .int (p : Int)]) := upd_same
      have k13_ := k12.trans (.ofSame s13)
      have B13 := B12.same s13
      have et13 := s13 _ _ et12
      generalize upd H12 T4 _ = H13 at *
      refine ⟨_, rfl, u, _, _, _, rfl, rfl, .inl (.inl et13), r0, _, rfl, u, _, _, _, rfl, rfl, .inl (.inl et13), rfl, _, rfl, _, rfl, _, rfl, _, _, rfl, rfl, ?_⟩
      refine ⟨b, _, c + 2, rfl, B13.mono (by omega), by omega, by omega, by omega, by omega, by decide, fun r H14 q0 q1 B14 j14 => ?_⟩
      obtain ⟨p', rfl⟩ := Int.eq_ofNat_of_zero_le q0
      have et14 := j14 _ _ et13 nub
      have k14 := k13_.trans j14
      refine ⟨(by show 3 ≤ sizeLine; decide), fun T5 nT5 => ?_⟩
      have s15 := same_upd (o := .tup [.str k, .int (p : Int), .int (p' : Int)]) nT5
      have eT5 : (upd H14 T5 (.tup [.str k, .int (p : Int), .int (p' : Int)])) T5 = some (.tup [.str k, .int (p : Int), .int (p' : Int)]) := upd_same
      have k15 := k14.trans (.ofSame s15)
      have B15 := B14.same s15
      have et15 := s15 _ _ et14
      generalize upd H14 T5 _ = H15 at *
      refine ⟨_, rfl, u, _, _, _, rfl, rfl, .inl (.inl et15), r0, _, rfl, u, _, _, _, rfl, rfl, .inl (.inl et15), rfl, _, rfl, u, _, _, _, rfl, rfl, .inl (.inl et15), rfl, (by show 3 ≤ sizeLine; decide), fun T6 nT6 => ?_⟩
      have s16 := same_upd (o := .tup [.str k, .int (p2 : Int), .int (p : Int)]) nT6
      have eT6 : (upd H15 T6 (.tup [.str k, .int (p2 : Int), .int (p : Int)])) T6 = some (.tup [.str k, .int (p2 : Int), .int (p : Int)]) := upd_same
      have k16 := k15.trans (.ofSame s16)
      have B16 := B15.same s16
      have et16 := s16 _ _ et15
      generalize upd H15 T6 _ = H16 at *
      refine ⟨_, rfl, u, _, _, _, rfl, rfl, .inl (.inl et16), rfl, (by show 2 ≤ sizeLine; decide), fun T7 nT7 => ?_⟩
      have s17 := same_upd (o := .tup [.str "other", .int (p : Int)]) nT7
      have eT7 : (upd H16 T7 (.tup [.str "other", .int (p : Int)])) T7 = some (.tup [.str "other", .int (p : Int)]) := upd_same
      have k17 := k16.trans (.ofSame s17)
      have B17 := B16.same s17
      have et17 := s17 _ _ et16
      generalize upd H16 T7 _ = H17 at *
      refine ⟨(by show 5 ≤ sizeLine; decide), fun W nW => ?_⟩
      have s18 := same_upd (o := .lst [.ref T3, .ref T4, .ref T5, .ref T6, .ref T7]) nW
      have eW : (upd H17 W (.lst [.ref T3, .ref T4, .ref T5, .ref T6, .ref T7])) W = some (.lst [.ref T3, .ref T4, .ref T5, .ref T6, .ref T7]) := upd_same
      have k18 := k17.trans (.ofSame s18)
      have B18 := B17.same s18
      have et18 := s18 _ _ et17
      generalize upd H17 W _ = H18 at *
      have f3 := s18 _ _ (s17 _ _ (s16 _ _ (s15 _ _ (j14 _ _ (s13 _ _ eT3) z3))))
      have f4 := s18 _ _ (s17 _ _ (s16 _ _ (s15 _ _ (j14 _ _ eT4 z4))))
      have f5 := s18 _ _ (s17 _ _ (s16 _ _ eT5))
      have f6 := s18 _ _ (s17 _ _ eT6)
      have f7 := s18 _ _ eT7
      have lp : p < m + a := okg.2 p (by simp)
      have lp2 : p2 < m + a := okg.2 p2 (by simp)
      have two : ∀ x y : Nat, x < m + a → y < m + a → ∀ z ∈ [x, y], z < m + a := fun x y hx hy z hz => by
        simp only [List.mem_cons, List.not_mem_nil, or_false] at hz
        rcases hz with rfl | rfl <;> assumption
      obtain ⟨t', g', ha', ht', hg'⟩ : ∃ (t' : Addr) (g' : Gt), atI [V.ref T3, .ref T4, .ref T5, .ref T6, .ref T7] wy = some (.ref t') ∧ H18 t' = some (.tup g'.row) ∧ g'.ok (m + a) := by
        have : wy = 0 ∨ wy = 1 ∨ wy = 2 ∨ wy = 3 ∨ wy = 4 := by omega
        rcases this with rfl | rfl | rfl | rfl | rfl
        · exact ⟨T3, .w k' [p, p2], rfl, f3, .inl ⟨hkk, rfl⟩, two _ _ lp lp2⟩
        · exact ⟨T4, .w k [p2, p], rfl, f4, .inl ⟨hk, rfl⟩, two _ _ lp2 lp⟩
        · exact ⟨T5, .w k [p, p'], rfl, f5, .inl ⟨hk, rfl⟩, two _ _ lp (by omega)⟩
        · exact ⟨T6, .w k [p2, p], rfl, f6, .inl ⟨hk, rfl⟩, two _ _ lp2 lp⟩
        · exact ⟨T7, .w "other" [p], rfl, f7, .inr ⟨rfl, rfl⟩, fun x hx => by rw [List.mem_singleton.mp hx]; exact lp⟩
      refine ⟨_, rfl, W, _, _, _, rfl, rfl, SqL.of eW, ha', ?_⟩
      refine ⟨_, rfl, _, rfl, M, _, _, a, rfl, rfl, k18 _ _ eM3 nMb, ixn (by rw [List.length_map]; omega), ?_⟩
      exact ⟨_, rfl, fin g' H18 t' hg' ht' k18 (B18.mono (by omega))⟩
    · obtain ⟨p, rfl⟩ : ∃ p, l = [p] := by
        match l, l1 with
        | [p], _ => exact ⟨_, rfl⟩
      refine ⟨_, rfl, u, _, _, _, rfl, rfl, .inl (.inl et3), r0, (by show 3 ≤ sizeLine; decide), fun U nU => ?_⟩
      refine ⟨U, _, rfl, .inr (.inl (.inl upd_same)), rfl, rfl, _, rfl, ite2 (fun z => absurd z (by decide +kernel)) (fun _ => ?_)⟩
      have sU := same_upd (o := .tup [.str "both", .str "either", .str "unlike"]) nU
      have et4 := sU _ _ et3
      have k4 : Keep b H3 _ := .ofSame sU
      have B4 := B3.same sU
      generalize upd H3 U _ = H4 at *
      refine ⟨_, rfl, u, _, _, _, rfl, rfl, .inl (.inl et4), r0, rfl, _, rfl, ite2 (fun z => absurd z (by decide +kernel)) (fun _ => ?_)⟩
      refine ⟨_, rfl, _, rfl, _, rfl, _, _, rfl, rfl, ?_⟩
      refine ⟨b, _, c + 2, rfl, B4.mono (by omega), by omega, by omega, by omega, by omega, by decide, fun r H5 r0' r1' B5 k5 => ?_⟩
      obtain ⟨p', rfl⟩ := Int.eq_ofNat_of_zero_le r0'
      refine ⟨(by show 2 ≤ sizeLine; decide), fun T nT => ?_⟩
      have sT := same_upd (o := .tup [.str "other", .int (p' : Int)]) nT
      have eT : (upd H5 T (.tup [.str "other", .int (p' : Int)])) T = some (.tup [.str "other", .int (p' : Int)]) := upd_same
      have k6 := (k4.trans k5).trans (.ofSame sT)
      have B6 := B5.same sT
      generalize upd H5 T _ = H6 at *
      refine ⟨_, rfl, _, rfl, M, _, _, a, rfl, rfl, k6 _ _ eM3 nMb, ixn (by rw [List.length_map]; omega), ?_⟩
      exact ⟨_, rfl, fin (.w "other" [p']) H6 T ⟨.inr ⟨rfl, rfl⟩, fun x hx => by rw [List.mem_singleton.mp hx]; omega⟩ eT k6 (B6.mono (by omega))⟩
end
section
variable {P : Program} {w : World} {K : PySem.W.Frag} {mg : Str → Option Value} {base : Heap}
variable {C : Addr} {za : Nat → Addr} {zl : Nat → FuncData}
theorem walk_zlS {t : Bool} {x : List Nat} {a : Addr} {ys : List V} {n : Nat} (hx : x.length = n) (hy : ys.length = n) : Walk (Itzl t K (SX.S x) a) n (fun H => bif t then SqT K H a ys else SqL K H a ys) (YPair (fun i => (x[i]?).map fun c => .str (SX.S [c])) (fun i => ys[i]?)) := by
  have w := walk_zl (K := K) (t := t) (x := SX.S x) (a := a) (ys := ys) (n := n) (by show x.toArray.size = n; rw [List.size_toArray, hx]) hy
  refine ⟨w.goes, w.stops, fun i H v H' hi g z => ?_⟩
  obtain ⟨T, u, v', e1, e2, e3, e4, e5⟩ := w.yields i H v H' hi g z
  refine ⟨T, u, v', e1, e2, e3, ?_, e5⟩
  rw [← e4]
  show _ = (x.toArray[i]?).map _
  rw [List.getElem?_toArray]
def tb (x : Int) (k : Nat) : Int := x / 2 ^ k % 2
theorem tb_01 (x : Int) (k : Nat) : tb x k = 0 ∨ tb x k = 1 := by
  unfold tb
  omega
theorem tb_succ (x : Int) (k : Nat) : tb x (k + 1) = tb (x / 2) k := by
  unfold tb
  rw [Int.ediv_ediv_of_nonneg (by decide)]
  rw [show (2 : Int) * 2 ^ k = 2 ^ (k + 1) from by rw [GM.pow_s, Int.mul_comm]]
theorem tb_zero (x : Int) : tb x 0 = x % 2 := by
  unfold tb
  rw [Int.pow_zero, Int.ediv_one]
theorem and_bit {a b : Int} (ha : a = 0 ∨ a = 1) (hb : b = 0 ∨ b = 1) : Builtin.bitAnd a b = if a = 1 ∧ b = 1 then 1 else 0 := by
  rcases ha with rfl | rfl <;> rcases hb with rfl | rfl <;> decide
theorem tb_and : ∀ (k : Nat) (x y : Int), tb (Builtin.bitAnd x y) k = Builtin.bitAnd (tb x k) (tb y k)
  | 0, x, y => by
    rw [tb_zero, tb_zero, tb_zero, PySem.W.kbt_halves, and_bit (a := x % 2) (b := y % 2) (by omega) (by omega)]
    split <;> omega
  | k + 1, x, y => by
    rw [tb_succ, tb_succ, tb_succ, ← tb_and k]
    congr 1
    rw [PySem.W.kbt_halves]
    split <;> omega
theorem or_halves (x y : Int) : Builtin.bitOr x y = 2 * Builtin.bitOr (x / 2) (y / 2) + (if x % 2 = 1 ∨ y % 2 = 1 then 1 else 0) := by
  rw [PyProof.Rows.bitOr_and, PyProof.Rows.bitOr_and, PySem.W.kbt_halves]
  split <;> split <;> omega
theorem or_bit {a b : Int} (ha : a = 0 ∨ a = 1) (hb : b = 0 ∨ b = 1) : Builtin.bitOr a b = if a = 1 ∨ b = 1 then 1 else 0 := by
  rcases ha with rfl | rfl <;> rcases hb with rfl | rfl <;> decide
theorem tb_or : ∀ (k : Nat) (x y : Int), tb (Builtin.bitOr x y) k = Builtin.bitOr (tb x k) (tb y k)
  | 0, x, y => by
    rw [tb_zero, tb_zero, tb_zero, or_halves, or_bit (a := x % 2) (b := y % 2) (by omega) (by omega)]
    split <;> omega
  | k + 1, x, y => by
    rw [tb_succ, tb_succ, tb_succ, ← tb_or k]
    congr 1
    rw [or_halves]
    split <;> omega
theorem xor_halves (x y : Int) : Builtin.bitXor x y = 2 * Builtin.bitXor (x / 2) (y / 2) + (if x % 2 = y % 2 then 0 else 1) := by
  rw [bitXor_and, bitXor_and, PySem.W.kbt_halves]
  split <;> split <;> omega
theorem xor_bit {a b : Int} (ha : a = 0 ∨ a = 1) (hb : b = 0 ∨ b = 1) : Builtin.bitXor a b = if a = b then 0 else 1 := by
  rcases ha with rfl | rfl <;> rcases hb with rfl | rfl <;> decide
theorem tb_xor : ∀ (k : Nat) (x y : Int), tb (Builtin.bitXor x y) k = Builtin.bitXor (tb x k) (tb y k)
  | 0, x, y => by
    rw [tb_zero, tb_zero, tb_zero, xor_halves, xor_bit (a := x % 2) (b := y % 2) (by omega) (by omega)]
    split <;> omega
  | k + 1, x, y => by
    rw [tb_succ, tb_succ, tb_succ, ← tb_xor k]
    congr 1
    rw [xor_halves]
    split <;> omega
theorem tb_full : ∀ {n k : Nat}, k < n → tb (2 ^ n - 1) k = 1
  | n + 1, 0, _ => by
    rw [tb_zero, GM.pow_s]
    omega
  | n + 1, k + 1, h => by
    rw [tb_succ, show ((2 : Int) ^ (n + 1) - 1) / 2 = 2 ^ n - 1 from by rw [GM.pow_s]; omega]
    exact tb_full (by omega)
theorem tb_nul (k : Nat) : tb 0 k = 0 := by
  unfold tb
  rw [Int.zero_ediv]
  rfl
theorem tb_mod {n k : Nat} (x : Int) (h : k < n) : tb (x % 2 ^ n) k = tb x k := by
  rw [← PySem.W.kbt_mask, tb_and, tb_full h]
  rcases tb_01 x k with z | z <;> rw [z] <;> decide
/-! ### wires run -/
/-! ### cases -/
theorem tb_shl (x : Int) (s c : Nat) : tb (x * 2 ^ s) c = if c < s then 0 else tb x (c - s) := by
  have ps := GM.pow_pos' s
  have pc := GM.pow_pos' c
  split
  · rename_i h
    unfold tb
    obtain ⟨d, rfl⟩ : ∃ d, s = c + (d + 1) := ⟨s - c - 1, by omega⟩
    rw [GM.pow_add', ← Int.mul_assoc, Int.mul_comm x, Int.mul_assoc, Int.mul_ediv_cancel_left _ (by omega), GM.pow_s, ← Int.mul_assoc, Int.mul_emod_left]
  · rename_i h
    unfold tb
    obtain ⟨d, rfl⟩ : ∃ d, c = s + d := ⟨c - s, by omega⟩
    rw [GM.pow_add', Nat.add_sub_cancel_left, ← Int.ediv_ediv_of_nonneg (Int.le_of_lt ps), Int.mul_ediv_cancel _ (by omega)]
theorem tb_small {x : Int} {n c : Nat} (h0 : 0 ≤ x) (h : x < 2 ^ n) (hc : n ≤ c) : tb x c = 0 := by
  unfold tb
  have : (2 : Int) ^ n ≤ 2 ^ c := GM.pow_le' hc
  rw [Int.ediv_eq_zero_of_lt h0 (by omega)]
  rfl
theorem or_range {x y : Int} (hx : 0 ≤ x) (hy : 0 ≤ y) : x ≤ Builtin.bitOr x y ∧ Builtin.bitOr x y ≤ x + y := by
  have := bitAnd_range x hy
  rw [PyProof.Rows.bitOr_and]
  omega
def pcs (place : Nat) : Nat → Int
  | 0 => (2 ^ 2 ^ place - 1) * 2 ^ 2 ^ place
  | k + 1 => Builtin.bitOr (pcs place k) (pcs place k * 2 ^ 2 ^ (place + 1 + k))
theorem pcs_in (place : Nat) : ∀ k, 0 ≤ pcs place k ∧ pcs place k < 2 ^ 2 ^ (place + 1 + k)
  | 0 => by
    have ps := GM.pow_pos' (2 ^ place)
    have e : (2 : Int) ^ 2 ^ (place + 1 + 0) = 2 ^ 2 ^ place * 2 ^ 2 ^ place := by
      rw [← GM.pow_add']
      congr 1
      rw [Nat.add_zero, Nat.pow_succ]
      omega
    unfold pcs
    rw [e]
    exact ⟨Int.mul_nonneg (by omega) (by omega), Int.mul_lt_mul_of_pos_right (by omega) ps⟩
  | k + 1 => by
    obtain ⟨h0, h1⟩ := pcs_in place k
    have ps := GM.pow_pos' (2 ^ (place + 1 + k))
    have e : (2 : Int) ^ 2 ^ (place + 1 + (k + 1)) = 2 ^ 2 ^ (place + 1 + k) * 2 ^ 2 ^ (place + 1 + k) := by
      rw [← GM.pow_add']
      congr 1
      rw [← Nat.add_assoc, Nat.pow_succ]
      omega
    have y0 : 0 ≤ pcs place k * 2 ^ 2 ^ (place + 1 + k) := Int.mul_nonneg h0 (by omega)
    have r := or_range h0 y0
    have y1 : pcs place k * 2 ^ 2 ^ (place + 1 + k) ≤ (2 ^ 2 ^ (place + 1 + k) - 1) * 2 ^ 2 ^ (place + 1 + k) := Int.mul_le_mul_of_nonneg_right (by omega) (by omega)
    rw [Int.sub_mul, Int.one_mul] at y1
    show 0 ≤ Builtin.bitOr _ _ ∧ Builtin.bitOr _ _ < _
    rw [e]
    omega
theorem pcs_bit (place : Nat) : ∀ (k c : Nat), c < 2 ^ (place + 1 + k) → tb (pcs place k) c = ((c / 2 ^ place % 2 : Nat) : Int)
  | 0, c, h => by
    have h : c < 2 ^ place * 2 := by
      rw [Nat.add_zero, Nat.pow_succ] at h
      exact h
    have pp : 0 < 2 ^ place := Nat.pow_pos (by decide)
    unfold pcs
    rw [tb_shl]
    split
    · rename_i d
      rw [Nat.div_eq_of_lt d]
      rfl
    · rename_i d
      rw [tb_full (by omega)]
      have : c / 2 ^ place = 1 := by
        refine Nat.div_eq_of_lt_le (by omega) (by omega)
      rw [this]
      rfl
  | k + 1, c, h => by
    have h : c < 2 ^ (place + 1 + k) * 2 := by
      rw [← Nat.add_assoc, Nat.pow_succ] at h
      exact h
    obtain ⟨h0, h1⟩ := pcs_in place k
    have pp : 0 < 2 ^ place := Nat.pow_pos (by decide)
    unfold pcs
    rw [tb_or, tb_shl]
    by_cases d : c < 2 ^ (place + 1 + k)
    · rw [if_pos d, pcs_bit place k c d]
      rcases Nat.mod_two_eq_zero_or_one (c / 2 ^ place) with z | z <;> rw [z] <;> decide
    · rw [if_neg d, tb_small h0 h1 (by omega), pcs_bit place k _ (by omega)]
      have e : (c - 2 ^ (place + 1 + k)) / 2 ^ place % 2 = c / 2 ^ place % 2 := by
        have e1 : 2 ^ (place + 1 + k) = 2 ^ place * (2 * 2 ^ k) := by
          rw [← Nat.pow_add_one', ← Nat.pow_add]
          congr 1
          omega
        have e2 : c = (c - 2 ^ (place + 1 + k)) + 2 ^ place * (2 * 2 ^ k) := by omega
        have e3 : c / 2 ^ place = (c - 2 ^ (place + 1 + k)) / 2 ^ place + 2 * 2 ^ k := by
          conv => lhs; rw [e2]
          rw [Nat.add_mul_div_left _ _ pp]
        omega
      rw [e]
      rcases Nat.mod_two_eq_zero_or_one (c / 2 ^ place) with z | z <;> rw [z] <;> decide
def spPic : Sp := fun vs H Q _ => ∃ (place many : Nat), vs = [.int (place : Int), .int (many : Int)] ∧ place < many ∧ many ≤ 12 ∧ Q (.int (pcs place (many - 1 - place))) H
theorem ok_place_in_cases (B : Bl mg) (L : LL K mg C za zl) : FnOk P w K mg base CX0 1 (za 2) (zl 2) ["place", "many"] spPic := by
  refine L.F_place_in_cases.ok sc_place_in_cases (fun vs H Q E h => ?_) (fun cdv A outer s H vs Q E hr h => ?_)
  · obtain ⟨place, many, rfl, _⟩ := h
    rfl
  obtain ⟨place, many, rfl, hp, hm, q⟩ := h
  refine ⟨_, (pss_cons (ps_set (i := 2) sc_place_in_cases.nd rfl (.inl rfl) (pe_op op_oneShl pe_int (pv 0)))
    (pss_cons (ps_set (i := 3) sc_place_in_cases.nd rfl (.inl rfl) (pe_op op_shlN (pe_op op_sub (pe_op op_oneShl pe_int (pv 2)) pe_int) (pv 2)))
    (pss_cons (ps_for PassesOwn.never rfl (pi_range2 (by rfl) B.range (pa_cons (pe_op op_add (pv 0) pe_int) (pa_cons (pv 1) pa_nil))) (pg_name (i := 4) sc_place_in_cases.nd rfl (.inl rfl)) (pss_one (ps_aug (i := 3) sc_place_in_cases.nd rfl (.inl rfl) (pe_op op_shlN (pv 3) (pe_op op_oneShl pe_int (pv 4))) iop_or)))
    (pss_one (ps_ret (pv 3)))))), ?_⟩
  have b12 : ∀ {k : Nat}, k ≤ 12 → (2 : Nat) ^ k ≤ 4096 := fun h => Nat.le_trans (Nat.pow_le_pow_right (by decide) h) (by decide)
  have c12 : ∀ k : Nat, (2 : Int) ^ k = ((2 ^ k : Nat) : Int) := fun k => (PySem.W.kbt_cast k).symm
  refine ⟨_, rfl, place, rfl, rfl, by omega, ?_⟩
  try simp only [L2.start, List.map_cons, List.map_nil, List.length_cons, List.length_nil, List.replicate_succ, List.replicate_zero, List.cons_append, List.nil_append, List.set_cons_succ, List.set_cons_zero, Nat.reduceAdd, Nat.reduceSub, Nat.zero_add]
  have bp := b12 (k := place) (by omega)
  have shl : ∀ {x : Int} {d j : Nat}, 0 ≤ x → x < 2 ^ 2 ^ d → d ≤ 12 → j ≤ 4096 → CShl x (j : Int) := fun {x d j} h0 h1 hd hj => by
    have e1 : (2 : Int) ^ 2 ^ d ≤ 2 ^ 4096 := GM.pow_le' (b12 hd)
    have e2 : ((2 ^ 4096 : Nat) : Int) = (2 : Int) ^ 4096 := PySem.W.kbt_cast _
    exact shl_ok (n := 4096) (by omega) (by omega)
  have s0 := GM.pow_pos' (2 ^ place)
  refine ⟨_, rfl, 2 ^ place, rfl, congrArg V.int (c12 place), by omega, _, _, rfl, rfl, _, rfl, _, 2 ^ place, rfl, congrArg V.int (c12 place), shl (d := place) (by omega) (by omega) (by omega) bp, ?_⟩
  try simp only [L2.start, List.map_cons, List.map_nil, List.length_cons, List.length_nil, List.replicate_succ, List.replicate_zero, List.cons_append, List.nil_append, List.set_cons_succ, List.set_cons_zero, Nat.reduceAdd, Nat.reduceSub, Nat.zero_add]
  refine ⟨_, rfl, _, _, rfl, rfl, _, rfl, _, _, rfl, ⟨by omega, by omega, by omega, by omega⟩, ?_⟩
  rw [show ((many : Int) - ((place : Int) + 1)).toNat = many - 1 - place by omega]
  refine for_range (n := many - 1 - place) (fun j σ H9 => ∃ y : Option V, σ = [some (.int (place : Int)), some (.int (many : Int)), some (.int (2 ^ place)), some (.int (pcs place j)), y] ∧ H9 = H) ⟨_, rfl, rfl⟩ ?_ ?_
  · rintro j σ H9 hj ⟨y, rfl, rfl⟩
    obtain ⟨h0, h1⟩ := pcs_in place j
    have bj := b12 (k := place + 1 + j) (by omega)
    try simp only [L2.start, List.map_cons, List.map_nil, List.length_cons, List.length_nil, List.replicate_succ, List.replicate_zero, List.cons_append, List.nil_append, List.set_cons_succ, List.set_cons_zero, Nat.reduceAdd, Nat.reduceSub, Nat.zero_add]
    refine ⟨_, rfl, _, rfl, _, rfl, place + 1 + j, rfl, congrArg V.int (by omega), by omega, _, 2 ^ (place + 1 + j), rfl, congrArg V.int (c12 _), shl (d := place + 1 + j) h0 h1 (by omega) bj, _, _, rfl, rfl, ?_⟩
    exact ⟨some _, rfl, rfl⟩
  · rintro σ H9 ⟨y, rfl, rfl⟩
    exact ⟨_, rfl, q⟩
def acs (m : Nat) : List Int := (List.range m).map fun i => pcs (m - 1 - i) i
theorem place46 {m i : Nat} (h : i < m) : (m : Int) - 1 + (i : Nat) * (-1) = ((m - 1 - i : Nat) : Int) := by omega
def spAllC : Sp := fun vs H Q _ => ∃ (m : Nat), vs = [.int (m : Int)] ∧ m ≤ 12 ∧ ∀ (t : Addr) (H' : Hp), H t = none → Same H H' → H' t = some (.lst ((acs m).map V.int)) → Q (.ref t) H'
theorem take_rng {f : Nat → Int} {m i : Nat} (h : i < m) : (((List.range m).map f).take (i + 1)) = ((List.range m).map f).take i ++ [f i] := by
  rw [List.take_add_one, List.getElem?_map, List.getElem?_range h]
  rfl
theorem ok_all_cases (B : Bl mg) (L : LL K mg C za zl) : FnOk P w K mg base CX0 2 (za 1) (zl 1) ["many"] spAllC := by
  have G_place_in_cases : FnOk P w K mg base CX0 1 (za 2) (zl 2) ["place", "many"] spPic := (ok_place_in_cases B L).mono (by decide)
  refine L.F_all_cases.ok sc_all_cases (fun vs H Q E h => ?_) (fun cdv A outer s H vs Q E hr h => ?_)
  · obtain ⟨m, rfl, _⟩ := h
    rfl
  obtain ⟨m, rfl, hm, q⟩ := h
  refine ⟨_, (pss_one (ps_ret (pe_lc (own := [("place", 1)]) (by rfl) sc_all_cases.nd (pi_range3 (by rfl) B.range (pa_cons (pe_op op_sub (pv 0) pe_int) (pa_cons (pe_un un_neg pe_int) (pa_cons (pe_un un_neg pe_int) pa_nil)))) (blkOk_by (own := [("place", 1)]) (N := ["many", "place"]) (sc := defScope s_all_cases) (by decide +kernel)) (fun _ _ _ _ _ => pg_name (i := 1) sc_all_cases.nd rfl (Or.inl rfl)) (fun _ _ _ _ _ => pts_nil) (fun _ _ _ _ _ => (pe_call G_place_in_cases hr (by rfl) L.m_place_in_cases L.F_place_in_cases.kp L.b_place_in_cases .nil pass0 (pa_cons (pv 1) (pa_cons (pv 0) pa_nil))))))), ?_⟩
  refine ⟨_, rfl, _, _, rfl, rfl, _, rfl, _, rfl, _, _, _, ((m : Int) - 1 - -1).toNat, rfl, RgC.neg (by omega) (by omega) (by decide) (by decide), fun D nD => ?_⟩
  rw [show ((m : Int) - 1 - -1).toNat = m by omega]
  refine lc_it walk_rangeC (fun i H3 => Same H H3 ∧ H3 D = some (.lst (((acs m).take i).map V.int))) ⟨same_upd nD, upd_same⟩ (fun _ _ _ _ => trivial) ?_ ?_
  · rintro i x H3 H4 hi ⟨s3, eD⟩ ⟨rfl, rfl⟩
    show gName _ (V.int ((m : Int) - 1 + (i : Nat) * (-1))) _ _ _
    rw [place46 hi]
    refine ⟨rfl, yesT ?_⟩
    refine ⟨_, rfl, _, rfl, m - 1 - i, m, rfl, by omega, hm, ?_⟩
    refine ⟨_, eD, ?_, fun b o e => ?_, ?_⟩
    · rw [List.length_map, List.length_take]
      exact Nat.lt_of_le_of_lt (Nat.min_le_left _ _) (small1000 (by omega))
    · rw [upd_ne (ne_of_none e nD)]
      exact s3 _ _ e
    · unfold acs
      rw [upd_same, take_rng hi, List.map_append, show m - 1 - (m - 1 - i) = i by omega]
      rfl
  rintro H3 ⟨s3, eD⟩
  rw [List.take_of_length_le (by unfold acs; rw [List.length_map, List.length_range]; exact Nat.le_refl _)] at eD
  exact q D H3 nD s3 eD
theorem pad_ok : ∀ k : Nat, k < 101 → PadOk (k : Int) = true := by decide +kernel
def zb (n : Int) (k : Nat) : Str := Txt.zfill (binT n.toNat) (k : Int)
def spBits : Sp := fun vs H Q _ => ∃ (n k : Nat), vs = [.int (n : Int), .int (k : Int)] ∧ (binT n).length ≤ 100 ∧ k ≤ 100 ∧ Q (.str (zb (n : Int) k)) H
theorem ok_bits_text (B : Bl mg) (L : LL K mg C za zl) : FnOk P w K mg base CX0 1 (za 3) (zl 3) ["number", "many"] spBits := by
  refine L.F_bits_text.ok sc_bits_text (fun vs H Q E h => ?_) (fun cdv A outer s H vs Q E hr h => ?_)
  · obtain ⟨n, k, rfl, _⟩ := h
    rfl
  obtain ⟨n, k, rfl, hl, hp, q⟩ := h
  refine ⟨_, (pss_one (ps_ret (pe_bm PySem.F.plainAttrs_str PySem.F.slot_str_zfill PySem.F.type_str_zfill mt_zfill (pe_joined1 (pe_fmtB (pv 0) (pe_joined1 pe_str))) (pa_cons (pv 1) pa_nil)))), ?_⟩
  refine ⟨_, rfl, n, rfl, rfl, Nat.le_trans hl (by decide), rfl, _, rfl, _, _, rfl, rfl, pad_ok k (by omega), q⟩
end
section
variable {P : Program} {w : World} {K : PySem.W.Frag} {mg : Str → Option Value} {base : Heap}
variable {C : Addr} {za : Nat → Addr} {zl : Nat → FuncData}
/-! ### holes -/
def cstep (f : Int) (p : Nat × Int) : Int := if p.1 = 49 then Builtin.bitAnd f p.2 else if p.1 = 48 then Builtin.bitAnd f (Builtin.bitNot p.2) else f
def cinV (m : Nat) (x : List Nat) : Int := if x.length = m then (x.zip (acs m)).foldl cstep (2 ^ 2 ^ m - 1) else 0
def holeV (m : Nat) (cs : List (List Nat)) : Int := cs.foldl (fun l x => Builtin.bitAnd l (Builtin.bitNot (cinV m x))) (2 ^ 2 ^ m - 1)
theorem acs_len (m : Nat) : (acs m).length = m := by
  unfold acs
  rw [List.length_map, List.length_range]
def spCin : Sp := fun vs H Q _ => ∃ (x : List Nat) (v : Addr) (m : Nat), vs = [.str (SX.S x), .ref v, .int (m : Int)] ∧ H v = some (.lst ((acs m).map V.int)) ∧ m ≤ 12 ∧ x.length ≤ 900 ∧ ∀ H', Same H H' → Q (.int (cinV m x)) H'
theorem ok_cases_in (B : Bl mg) (L : LL K mg C za zl) : FnOk P w K mg base CX0 1 (za 5) (zl 5) ["cube", "values", "many"] spCin := by
  refine L.F_cases_in.ok sc_cases_in (fun vs H Q E h => ?_) (fun cdv A outer s H vs Q E hr h => ?_)
  · obtain ⟨x, v, m, rfl, _⟩ := h
    rfl
  obtain ⟨x, v, m, rfl, ev, hm, hx, q⟩ := h
  refine ⟨_, (pss_cons (ps_if (pt_cmpR op_ne (pe_callB call_len_str (by rfl) B.len PySem.boot_len (pa_cons (pv 0) pa_nil)) (pv 2) (nomark _)) (pss_one (ps_ret pe_int)) pss_nil)
    (pss_cons (ps_set (i := 3) sc_cases_in.nd rfl (.inl rfl) (pe_op op_sub (pe_op op_oneShl pe_int (pe_op op_oneShl pe_int (pv 2))) pe_int))
    (pss_cons (ps_for PassesOwn.never rfl (pi_zl (by rfl) B.zip (pa_cons (pv 0) (pa_cons (pv 1) pa_nil))) (pg_tup (by rfl) (pgs_cons (pg_name (i := 4) sc_cases_in.nd rfl (.inl rfl)) (pgs_cons (pg_name (i := 5) sc_cases_in.nd rfl (.inl rfl)) pgs_nil))) (pss_one (ps_if (pt_cmpR op_eq (pv 4) pe_str (nomark _)) (pss_one (ps_aug (i := 3) sc_cases_in.nd rfl (.inl rfl) (pv 5) iop_and)) (pss_one (ps_if (pt_cmpR op_eq (pv 4) pe_str (nomark _)) (pss_one (ps_aug (i := 3) sc_cases_in.nd rfl (.inl rfl) (pe_un un_inv (pv 5)) iop_and)) pss_nil)))))
    (pss_one (ps_ret (pv 3)))))), ?_⟩
  have b12 : (2 : Nat) ^ m ≤ 4096 := Nat.le_trans (Nat.pow_le_pow_right (by decide) hm) (by decide)
  have c12 : (2 : Int) ^ m = ((2 ^ m : Nat) : Int) := (PySem.W.kbt_cast m).symm
  refine ⟨_, rfl, _, rfl, zS (by omega), ?_⟩
  rw [SX.S_len]
  unfold cinV at q
  by_cases hl : x.length = m
  · rw [if_pos hl] at q
    refine ⟨_, rfl, rfl, _, rfl, ite2 (fun z => ?_) (fun _ => ?_)⟩
    · rw [hl] at z
      simp at z
    dsimp only [tNext]
    refine ⟨_, rfl, m, rfl, rfl, by omega, 2 ^ m, rfl, congrArg V.int c12, by omega, _, _, rfl, rfl, ?_⟩
    try simp only [L2.start, List.map_cons, List.map_nil, List.length_cons, List.length_nil, List.replicate_succ, List.replicate_zero, List.cons_append, List.nil_append, List.set_cons_succ, List.set_cons_zero, Nat.reduceAdd, Nat.reduceSub, Nat.zero_add]
    refine ⟨_, rfl, _, rfl, false, SX.S x, v, _, rfl, SqL.of ev, ?_⟩
    refine for_it (walk_zlS (K := K) (t := false) (x := x) (a := v) (ys := (acs m).map V.int) (n := m) hl (by rw [List.length_map, acs_len])) (fun j σ H9 => ∃ y4 y5 : Option V, σ = [some (.str (SX.S x)), some (.ref v), some (.int (m : Int)), some (.int (((x.zip (acs m)).take j).foldl cstep (2 ^ 2 ^ m - 1))), y4, y5] ∧ Same H H9) ⟨_, _, rfl, Same.refl _⟩ (fun j σ H9 _ ⟨_, _, _, s9⟩ => SqL.of (s9 _ _ ev)) ?_ ?_
    · rintro j w σ H9 H10 hj ⟨y4, y5, rfl, s9⟩ ⟨T, u1, u2, rfl, nT, rfl, e1, e2⟩
      obtain ⟨c, hc, rfl⟩ := Option.map_eq_some_iff.mp e1
      replace e2 : ((acs m).map V.int)[j]? = some u2 := e2
      rw [List.getElem?_map] at e2
      obtain ⟨i, hi, rfl⟩ := Option.map_eq_some_iff.mp e2
      have sT := same_upd (o := .tup [.str (SX.S [c]), .int i]) nT
      have tk : (x.zip (acs m)).take (j + 1) = (x.zip (acs m)).take j ++ [(c, i)] := by
        rw [List.take_add_one, (List.getElem?_zip_eq_some (z := (c, i))).mpr ⟨hc, hi⟩]
        rfl
      rw [tk, List.foldl_append]
      refine ⟨T, _, rfl, .inl (.inl upd_same), rfl, _, _, rfl, _, _, rfl, rfl, ?_⟩
      generalize upd H9 T (.tup [.str (SX.S [c]), .int i]) = Ha at *
      generalize ((x.zip (acs m)).take j).foldl cstep (2 ^ 2 ^ m - 1) = f at *
      dsimp only [gNil]
      try simp only [L2.start, List.map_cons, List.map_nil, List.length_cons, List.length_nil, List.replicate_succ, List.replicate_zero, List.cons_append, List.nil_append, List.set_cons_succ, List.set_cons_zero, Nat.reduceAdd, Nat.reduceSub, Nat.zero_add]
      have sTT := s9.trans sT
      refine ⟨_, rfl, rfl, _, rfl, ite2 (fun z => ?_) (fun z => ?_)⟩
      · rw [d49] at z
        have z := of_decide_eq_true z
        refine ⟨_, rfl, _, rfl, _, _, rfl, rfl, ?_⟩
        exact ⟨_, _, by rw [show List.foldl cstep f [(c, i)] = Builtin.bitAnd f i from if_pos z]; rfl, sTT⟩
      · rw [d49] at z
        have z := of_decide_eq_false (Bool.eq_false_iff.mpr z)
        refine ⟨_, rfl, rfl, _, rfl, ite2 (fun y => ?_) (fun y => ?_)⟩
        · rw [d48] at y
          have y := of_decide_eq_true y
          refine ⟨_, rfl, _, rfl, _, rfl, _, _, rfl, rfl, ?_⟩
          exact ⟨_, _, by rw [show List.foldl cstep f [(c, i)] = Builtin.bitAnd f (Builtin.bitNot i) from (if_neg z).trans (if_pos y)]; rfl, sTT⟩
        · rw [d48] at y
          have y := of_decide_eq_false (Bool.eq_false_iff.mpr y)
          exact ⟨_, _, by rw [show List.foldl cstep f [(c, i)] = f from (if_neg z).trans (if_neg y)], sTT⟩
    · rintro σ H9 ⟨y4, y5, rfl, s9⟩
      rw [List.take_of_length_le (by rw [List.length_zip, acs_len, hl]; omega)]
      exact ⟨_, rfl, q H9 s9⟩
  · rw [if_neg hl] at q
    refine ⟨_, rfl, rfl, _, rfl, ite2 (fun _ => ?_) (fun z => ?_)⟩
    · exact q H (Same.refl _)
    · refine absurd ?_ z
      simp only [Bool.not_eq_true', decide_eq_false_iff_not]
      intro e
      have := V.int.inj e
      omega
theorem and_pos0 {x y : Int} (h : 0 ≤ x) : 0 ≤ Builtin.bitAnd x y ∧ Builtin.bitAnd x y ≤ x := by
  obtain ⟨n, rfl⟩ : ∃ n : Nat, x = (n : Int) := ⟨x.toNat, by omega⟩
  clear h
  induction n using Nat.strongRecOn generalizing y with
  | ind n ih =>
    by_cases n0 : n = 0
    · subst n0
      have e : Builtin.bitAnd ((0 : Nat) : Int) y = 0 := by
        have := PySem.W.kbt_mask' y 0
        rw [Int.pow_zero] at this
        rw [show (((0 : Nat) : Int)) = 1 - 1 from rfl, this]
        omega
      rw [e]
      exact ⟨by decide, by decide⟩
    · have hh := PySem.W.kbt_halves (n : Int) y
      have i := ih (n / 2) (by omega) (y := y / 2)
      rw [show ((n / 2 : Nat) : Int) = (n : Int) / 2 by omega] at i
      rw [hh]
      split <;> omega
theorem holeV_in (m : Nat) : ∀ cs : List (List Nat), 0 ≤ holeV m cs ∧ holeV m cs < 2 ^ 2 ^ m := by
  intro cs
  have h0 := PySem.W.kbt_pos (2 ^ m)
  unfold holeV
  have key : ∀ (cs : List (List Nat)) (l : Int), 0 ≤ l → l < 2 ^ 2 ^ m → 0 ≤ cs.foldl (fun l x => Builtin.bitAnd l (Builtin.bitNot (cinV m x))) l ∧ cs.foldl (fun l x => Builtin.bitAnd l (Builtin.bitNot (cinV m x))) l < 2 ^ 2 ^ m := by
    intro cs
    induction cs with
    | nil => exact fun l a c => ⟨a, c⟩
    | cons x cs ih =>
      intro l a c
      have h := and_pos0 (x := l) (y := Builtin.bitNot (cinV m x)) a
      exact ih _ h.1 (Int.lt_of_le_of_lt h.2 c)
  exact key cs _ (by omega) (by omega)
/-- a whole number is a power of two times an odd one -/
theorem odd_part : ∀ n : Nat, 0 < n → ∃ k a : Nat, n = 2 ^ k * (2 * a + 1) := by
  intro n
  induction n using Nat.strongRecOn with
  | ind n ih =>
    intro h
    by_cases c : n % 2 = 1
    · exact ⟨0, n / 2, by rw [Nat.pow_zero]; omega⟩
    · obtain ⟨k, a, e⟩ := ih (n / 2) (by omega) (by omega)
      exact ⟨k + 1, a, by rw [Nat.pow_succ, Nat.mul_comm (2 ^ k) 2, Nat.mul_assoc, ← e]; omega⟩
theorem low_bit {l : Int} {m : Nat} (h0 : 0 < l) (h1 : l < 2 ^ 2 ^ m) : ∃ k : Nat, Builtin.bitAnd l (-l) = 2 ^ k ∧ k < 2 ^ m := by
  obtain ⟨n, rfl⟩ : ∃ n : Nat, l = (n : Int) := ⟨l.toNat, by omega⟩
  obtain ⟨k, a, e⟩ := odd_part n (by omega)
  have e2 : (n : Int) = 2 ^ k * (2 * (a : Int) + 1) := by
    rw [e, Int.natCast_mul, PySem.W.kbt_cast]
    rfl
  refine ⟨k, by rw [e2]; exact PySem.W.kbt_low k a, ?_⟩
  have c : n < 2 ^ 2 ^ m := by
    have : ((2 ^ 2 ^ m : Nat) : Int) = 2 ^ 2 ^ m := PySem.W.kbt_cast _
    omega
  have d : 2 ^ k ≤ n := by
    rw [e]
    exact Nat.le_mul_of_pos_right _ (by omega)
  exact (Nat.pow_lt_pow_iff_right (by decide : 1 < 2)).mp (Nat.lt_of_le_of_lt d c)
theorem bin_len : ∀ n : Nat, n < 4096 → (binT n).length ≤ 100 := by decide +kernel
def spHole : Sp := fun vs H Q _ => ∃ (t : Addr) (m : Nat) (cs : List (List Nat)), vs = [.ref t, .int (m : Int)] ∧ H t = some (.lst (cs.map fun x => V.str (SX.S x))) ∧ m ≤ 12 ∧ (∀ x ∈ cs, x.length ≤ 900) ∧
  (holeV m cs = 0 → ∀ H', Same H H' → Q .non H') ∧ (holeV m cs ≠ 0 → ∀ (k : Nat) (H' : Hp), Same H H' → Builtin.bitAnd (holeV m cs) (-holeV m cs) = 2 ^ k → k < 2 ^ m → Q (.str (zb (k : Int) m)) H')
theorem ok_hole (B : Bl mg) (L : LL K mg C za zl) : FnOk P w K mg base CX0 4 (za 4) (zl 4) ["cubes", "many"] spHole := by
  have G_all_cases : FnOk P w K mg base CX0 3 (za 1) (zl 1) ["many"] spAllC := (ok_all_cases B L).mono (by decide)
  have G_cases_in : FnOk P w K mg base CX0 3 (za 5) (zl 5) ["cube", "values", "many"] spCin := (ok_cases_in B L).mono (by decide)
  have G_bits_text : FnOk P w K mg base CX0 3 (za 3) (zl 3) ["number", "many"] spBits := (ok_bits_text B L).mono (by decide)
  refine L.F_hole.ok sc_hole (fun vs H Q E h => ?_) (fun cdv A outer s H vs Q E hr h => ?_)
  · obtain ⟨t, m, cs, rfl, _⟩ := h
    rfl
  obtain ⟨t, m, cs, rfl, et, hm, hcs, q0, q1⟩ := h
  refine ⟨_, (pss_cons (ps_set (i := 2) sc_hole.nd rfl (.inl rfl) (pe_call G_all_cases hr (by rfl) L.m_all_cases L.F_all_cases.kp L.b_all_cases .nil pass0 (pa_cons (pv 1) pa_nil)))
    (pss_cons (ps_set (i := 3) sc_hole.nd rfl (.inl rfl) (pe_op op_sub (pe_op op_oneShl pe_int (pe_op op_oneShl pe_int (pv 1))) pe_int))
    (pss_cons (ps_for PassesOwn.never rfl (pi_list (pv 0)) (pg_name (i := 4) sc_hole.nd rfl (.inl rfl)) (pss_one (ps_aug (i := 3) sc_hole.nd rfl (.inl rfl) (pe_un un_inv (pe_call G_cases_in hr (by rfl) L.m_cases_in L.F_cases_in.kp L.b_cases_in .nil pass0 (pa_cons (pv 4) (pa_cons (pv 2) (pa_cons (pv 1) pa_nil))))) iop_and)))
    (pss_cons (ps_if (pt_cmpR op_eq (pv 3) pe_int (nomark _)) (pss_one (ps_ret pe_non)) pss_nil)
    (pss_one (ps_ret (pe_call G_bits_text hr (by rfl) L.m_bits_text L.F_bits_text.kp L.b_bits_text .nil pass0 (pa_cons (pe_op op_sub (pe_bits (pe_op op_and (pv 3) (pe_un un_neg (pv 3)))) pe_int) (pa_cons (pv 1) pa_nil))))))))), ?_⟩
  have b12 : (2 : Nat) ^ m ≤ 4096 := Nat.le_trans (Nat.pow_le_pow_right (by decide) hm) (by decide)
  have c12 : (2 : Int) ^ m = ((2 ^ m : Nat) : Int) := (PySem.W.kbt_cast m).symm
  refine ⟨_, rfl, m, rfl, hm, fun D H1 nD s1 eD => ?_⟩
  try simp only [L2.start, List.map_cons, List.map_nil, List.length_cons, List.length_nil, List.replicate_succ, List.replicate_zero, List.cons_append, List.nil_append, List.set_cons_succ, List.set_cons_zero, Nat.reduceAdd, Nat.reduceSub, Nat.zero_add]
  refine ⟨_, rfl, m, rfl, rfl, by omega, 2 ^ m, rfl, congrArg V.int c12, by omega, _, _, rfl, rfl, ?_⟩
  try simp only [L2.start, List.map_cons, List.map_nil, List.length_cons, List.length_nil, List.replicate_succ, List.replicate_zero, List.cons_append, List.nil_append, List.set_cons_succ, List.set_cons_zero, Nat.reduceAdd, Nat.reduceSub, Nat.zero_add]
  have et1 := s1 _ _ et
  refine ⟨_, rfl, t, rfl, ⟨_, SqL.of et1⟩, ?_⟩
  refine for_it (walk_list (K := K) (a := t) (xs := cs.map fun x => V.str (SX.S x))) (fun j σ H9 => ∃ y4 : Option V, σ = [some (.ref t), some (.int (m : Int)), some (.ref D), some (.int (holeV m (cs.take j))), y4] ∧ Same H1 H9) ⟨_, rfl, Same.refl _⟩ (fun j σ H9 _ ⟨_, _, s9⟩ => SqL.of (s9 _ _ et1)) ?_ ?_
  · rintro j v σ H9 H10 hj ⟨y4, rfl, s9⟩ ⟨rfl, hz⟩
    rw [List.getElem?_map] at hz
    obtain ⟨x, hx, rfl⟩ := Option.map_eq_some_iff.mp hz
    dsimp only [gName]
    try simp only [L2.start, List.map_cons, List.map_nil, List.length_cons, List.length_nil, List.replicate_succ, List.replicate_zero, List.cons_append, List.nil_append, List.set_cons_succ, List.set_cons_zero, Nat.reduceAdd, Nat.reduceSub, Nat.zero_add]
    refine ⟨_, rfl, _, rfl, _, rfl, _, rfl, x, D, m, rfl, s9 _ _ eD, hm, hcs x (List.mem_of_getElem? hx), fun H11 s11 => ?_⟩
    refine ⟨_, rfl, _, _, rfl, rfl, ?_⟩
    refine ⟨some (.str (SX.S x)), ?_, s9.trans s11⟩
    rw [List.take_add_one, hx]
    unfold holeV
    rw [List.foldl_append]
    rfl
  · rintro σ H9 ⟨y4, rfl, s9⟩
    rw [List.length_map, List.take_length]
    have s09 := s1.trans s9
    obtain ⟨h0, h1⟩ := holeV_in m cs
    by_cases hz : holeV m cs = 0
    · dsimp only [tSeq]
      refine ⟨_, rfl, rfl, _, rfl, ite2 (fun _ => ?_) (fun z => absurd (by rw [hz]; rfl) z)⟩
      exact q0 hz H9 s09
    · dsimp only [tSeq]
      refine ⟨_, rfl, rfl, _, rfl, ite2 (fun z => absurd (V.int.inj (of_decide_eq_true z)) hz) (fun _ => ?_)⟩
      dsimp only [tNext]
      obtain ⟨k, ek, lk⟩ := low_bit (by omega) h1
      refine ⟨_, rfl, _, rfl, _, rfl, _, _, rfl, rfl, _, rfl, _, _, rfl, rfl, ?_⟩
      refine ⟨_, rfl, ?_⟩
      have eb : Builtin.Int.intBits (Builtin.bitAnd (holeV m cs) (-holeV m cs)) = k + 1 := by
        rw [ek]
        have a : ((2 : Int) ^ k).natAbs = 2 ^ k := by
          rw [← PySem.W.kbt_cast k]
          rfl
        have u : Builtin.Int.intBits ((2 : Int) ^ k) ≤ k + 1 := PySem.intBits_le_iff.mpr (by rw [a]; exact Nat.pow_lt_pow_succ (by decide))
        have v : ¬ Builtin.Int.intBits ((2 : Int) ^ k) ≤ k := fun z => by
          have := PySem.intBits_le_iff.mp z
          rw [a] at this
          exact Nat.lt_irrefl _ this
        omega
      refine ⟨k, m, ?_, bin_len k (by omega), by omega, q1 hz k H9 s09 ek lk⟩
      show [V.int (((Builtin.Int.intBits (Builtin.bitAnd (holeV m cs) (-holeV m cs)) : Nat) : Int) - 1), V.int (m : Int)] = _
      rw [eb, show (((k + 1 : Nat) : Int) - 1) = (k : Int) by omega]
end
section
variable {P : Program} {w : World} {K : PySem.W.Frag} {mg : Str → Option Value} {base : Heap}
variable {C : Addr} {za : Nat → Addr} {zl : Nat → FuncData}
/-! ### what was handed in -/
/-- a thing and whether it's a text of these signs -/
inductive Thg (H : Hp) : V → Option (List Nat) → Prop
  | non : Thg H .non none
  | int (i : Int) : Thg H (.int i) none
  | bl (b : Bool) : Thg H (.bl b) none
  | tup {t : Addr} {xs : List V} (e : H t = some (.tup xs)) : Thg H (.ref t) none
  | lst {t : Addr} {xs : List V} (e : H t = some (.lst xs)) : Thg H (.ref t) none
  | str {x : List Nat} (h : x.length ≤ 900) : Thg H (.str (SX.S x)) (some x)
theorem Thg.same {H H' : Hp} {v : V} {o : Option (List Nat)} (h : Thg H v o) (s : Same H H') : Thg H' v o := by
  cases h with
  | non => exact .non
  | int i => exact .int i
  | bl b => exact .bl b
  | tup e => exact .tup (s _ _ e)
  | lst e => exact .lst (s _ _ e)
  | str h => exact .str h
def isT (G : List Nat) (m : Nat) : Option (List Nat) → Bool
  | none => false
  | some x => decide (x.length = m) && x.all fun c => decide (c ∈ G)
def spIsT : Sp := fun vs H Q _ => ∃ (G : List Nat) (m : Nat) (v : V) (o : Option (List Nat)), vs = [.str (SX.S G), .int (m : Int), v] ∧ Thg H v o ∧ G.length ≤ 20 ∧ ∀ H', Same H H' → Q (.bl (isT G m o)) H'
theorem ok_is_text_of (B : Bl mg) (L : LL K mg C za zl) : FnOk P w K mg base CX0 1 (za 6) (zl 6) ["signs", "many", "thing"] spIsT := by
  refine L.F_is_text_of.ok sc_is_text_of (fun vs H Q E h => ?_) (fun cdv A outer s H vs Q E hr h => ?_)
  · obtain ⟨G, m, v, o, rfl, _⟩ := h
    rfl
  obtain ⟨G, m, v, o, rfl, hv, hG, q⟩ := h
  refine ⟨_, (pss_one (ps_ret (pe_and (pe_callB call_isi (by rfl) B.isinstance boot_isinstance (pa_cons (pv 2) (pa_cons (pe_bltn (v := .ty "str") (by rfl) B.str PyProof.Rows.boot_str rfl) pa_nil))) (pe_and (pe_cmpR op_eq (pe_callB call_len_str (by rfl) B.len PySem.boot_len (pa_cons (pv 2) pa_nil)) (pv 1) (nomark _)) (pe_one (pe_callB (cr_all rfl) (by rfl) B.all boot_all (pa_cons (pe_lc (own := [("sign", 3)]) (by rfl) sc_is_text_of.nd (pi_str (pv 2)) (blkOk_by (own := [("sign", 3)]) (N := ["signs", "many", "thing", "sign"]) (sc := defScope s_is_text_of) (by decide +kernel)) (fun _ _ _ _ _ => pg_name (i := 3) sc_is_text_of.nd rfl (Or.inl rfl)) (fun _ _ _ _ _ => pts_nil) (fun _ _ _ _ _ => (pe_cmpR op_in_sign (pv 3) (pv 0) (by rfl)))) pa_nil))))))), ?_⟩
  cases hv with
  | non => exact ⟨_, rfl, _, _, _, _, _, rfl, .ty _, .base .non, kit_ty (by decide +kernel : kitB "NoneType" "str" = some false), _, rfl, iteF (q H (Same.refl _))⟩
  | int i => exact ⟨_, rfl, _, _, _, _, _, rfl, .ty _, .base (.int _), kit_ty (by decide +kernel : kitB "int" "str" = some false), _, rfl, iteF (q H (Same.refl _))⟩
  | bl b => exact ⟨_, rfl, _, _, _, _, _, rfl, .ty _, .base (.bl _), kit_ty (by decide +kernel : kitB "bool" "str" = some false), _, rfl, iteF (q H (Same.refl _))⟩
  | tup e => exact ⟨_, rfl, _, _, _, _, _, rfl, .ty _, ty_tup (SqT.of e), kit_ty (by decide +kernel : kitB "tuple" "str" = some false), _, rfl, iteF (q H (Same.refl _))⟩
  | lst e => exact ⟨_, rfl, _, _, _, _, _, rfl, .ty _, ty_lst (SqL.of e), kit_ty (by decide +kernel : kitB "list" "str" = some false), _, rfl, iteF (q H (Same.refl _))⟩
  | @str x hx =>
    refine ⟨_, rfl, _, _, _, _, _, rfl, .ty _, .base (.str _), kit_ty (by decide +kernel : kitB "str" "str" = some true), _, rfl, iteT ?_⟩
    refine ⟨_, rfl, _, rfl, zS (by omega), ?_⟩
    rw [SX.S_len]
    refine ⟨_, rfl, rfl, _, rfl, ite2 (fun z => ?_) (fun z => ?_)⟩
    · have lx : x.length = m := by
        have := V.int.inj (of_decide_eq_true z)
        omega
      refine ⟨_, rfl, SX.S x, rfl, fun D nD => ?_⟩
      refine lc_it (walk_S (x := x)) (fun i H6 => Same H H6 ∧ H6 D = some (.lst (((x.map fun c => decide (c ∈ G)).take i).map V.bl))) ⟨same_upd nD, upd_same⟩ (fun _ _ _ _ => trivial) ?_ ?_
      · rintro i v H6 H7 hi ⟨s6, eD⟩ ⟨rfl, c, hc, rfl⟩
        refine ⟨rfl, yesT ?_⟩
        refine ⟨_, rfl, _, rfl, c, _, rfl, rfl, ?_⟩
        refine ⟨_, eD, ?_, fun y o e => ?_, ?_⟩
        · rw [List.length_map, List.length_take, List.length_map]
          exact Nat.lt_of_le_of_lt (Nat.min_le_right _ _) (small1000 (by omega))
        · rw [upd_ne (ne_of_none e nD)]
          exact s6 _ _ e
        · rw [upd_same, List.take_add_one, List.getElem?_map, hc, List.map_append]
          rfl
      · rintro H6 ⟨s6, eD⟩
        rw [List.take_of_length_le (by rw [List.length_map]; exact Nat.le_refl _)] at eD
        refine ⟨D, _, rfl, SqL.of eD, ?_⟩
        have e : (x.map fun c => decide (c ∈ G)).all id = isT G m (some x) := by
          show _ = (decide (x.length = m) && x.all fun c => decide (c ∈ G))
          rw [decide_eq_true lx, List.all_map]
          rfl
        rw [e]
        exact q H6 s6
    · have lx : ¬ x.length = m := fun y => z (decide_eq_true (by rw [y]))
      have e : isT G m (some x) = false := by
        show (decide (x.length = m) && x.all fun c => decide (c ∈ G)) = false
        rw [decide_eq_false lx]
        rfl
      have q := q H (Same.refl _)
      rw [e] at q
      exact q
end
section
variable {P : Program} {w : World} {K : PySem.W.Frag} {mg : Str → Option Value} {base : Heap}
variable {C : Addr} {za : Nat → Addr} {zl : Nat → FuncData}
/-! ### what is drawn stands while the net grows -/
def GvS (S : List Addr) (H : Hp) (F : Addr) (nm : List (Str × List Nat)) : Prop := F ∉ S ∧ ∃ ts : List Addr, ts.length = nm.length ∧ H F = some (.lst (ts.map V.ref)) ∧ ∀ (i : Nat) (t : Addr) (n : Str) (ws : List Nat), ts[i]? = some t → nm[i]? = some (n, ws) → t ∉ S ∧ ∃ l, l ∉ S ∧ l ≠ F ∧ H t = some (.tup [.str n, .ref l]) ∧ H l = some (.lst (nts ws))
theorem GvAt.toS {b F : Addr} {S : List Addr} {H : Hp} {nm : List (Str × List Nat)} (h : GvAt b H F nm) (hS : ∀ y ∈ S, H y = none) : GvS (b :: S) H F nm := by
  obtain ⟨h0, ts, h1, h2, h3⟩ := h
  have no : ∀ {y : Addr} {o : HO}, H y = some o → y ≠ b → y ∉ b :: S := fun {y o} e n z => by
    rcases List.mem_cons.mp z with z | z
    · exact n z
    · rw [hS y z] at e
      cases e
  refine ⟨no h2 h0, ts, h1, h2, fun i t n ws ht hn => ?_⟩
  obtain ⟨q0, l, q1, qF, q2, q3⟩ := h3 i t n ws ht hn
  exact ⟨no q2 q0, l, no q3 q1, qF, q2, q3⟩
theorem GvS.keep {S T : List Addr} {F : Addr} {H H' : Hp} {nm : List (Str × List Nat)} (h : GvS S H F nm) (k : KeepS T H H') (hT : ∀ y ∈ T, y ∈ S) : GvS S H' F nm := by
  obtain ⟨h0, ts, h1, h2, h3⟩ := h
  have f : ∀ {y : Addr} {o : HO}, H y = some o → y ∉ S → H' y = some o := fun {y o} e n => k.1 y o e (fun z => n (hT y z))
  refine ⟨h0, ts, h1, f h2 h0, fun i t n ws ht hn => ?_⟩
  obtain ⟨q0, l, q1, qF, q2, q3⟩ := h3 i t n ws ht hn
  exact ⟨q0, l, q1, qF, f q2 q0, f q3 q1⟩
theorem GvS.at {b : Addr} {S : List Addr} {F : Addr} {H : Hp} {nm : List (Str × List Nat)} (h : GvS S H F nm) (hb : b ∈ S) : GvAt b H F nm := by
  obtain ⟨h0, ts, h1, h2, h3⟩ := h
  refine ⟨fun z => h0 (by rw [z]; exact hb), ts, h1, h2, fun i t n ws ht hn => ?_⟩
  obtain ⟨q0, l, q1, qF, q2, q3⟩ := h3 i t n ws ht hn
  exact ⟨fun z => q0 (by rw [z]; exact hb), l, fun z => q1 (by rw [z]; exact hb), qF, q2, q3⟩
def RwS (S : List Addr) (H : Hp) (R : Addr) (gs : List Gt) : Prop := R ∉ S ∧ ∃ ts : List Addr, ts.length = gs.length ∧ H R = some (.lst (ts.map V.ref)) ∧ ∀ (i : Nat) (t : Addr) (g : Gt), ts[i]? = some t → gs[i]? = some g → t ∉ S ∧ H t = some (.tup g.row)
theorem RwS.keep {S T : List Addr} {R : Addr} {H H' : Hp} {gs : List Gt} (h : RwS S H R gs) (k : KeepS T H H') (hT : ∀ y ∈ T, y ∈ S) : RwS S H' R gs := by
  obtain ⟨h0, ts, h1, h2, h3⟩ := h
  have f : ∀ {y : Addr} {o : HO}, H y = some o → y ∉ S → H' y = some o := fun {y o} e n => k.1 y o e (fun z => n (hT y z))
  refine ⟨h0, ts, h1, f h2 h0, fun i t g ht hg => ?_⟩
  obtain ⟨q0, q1⟩ := h3 i t g ht hg
  exact ⟨q0, f q1 q0⟩
theorem RwS.at {S : List Addr} {R : Addr} {H : Hp} {gs : List Gt} (h : RwS S H R gs) : RowsAt46 H R gs := by
  obtain ⟨_, ts, h1, h2, h3⟩ := h
  exact ⟨ts, h1, h2, fun i t g ht hg => (h3 i t g ht hg).2⟩
theorem RowsAt46.toS {b R : Addr} {c : Int} {S : List Addr} {H : Hp} {gs : List Gt} (h : RowsAt46 H R gs) (nb : R ≠ b) (hB : BoxAt c H b) (hS : ∀ y ∈ S, H y = none) : RwS (b :: S) H R gs := by
  obtain ⟨ts, h1, h2, h3⟩ := h
  have no : ∀ {y : Addr} {o : HO}, H y = some o → y ≠ b → y ∉ b :: S := fun {y o} e n z => by
    rcases List.mem_cons.mp z with z | z
    · exact n z
    · rw [hS y z] at e
      cases e
  refine ⟨no h2 nb, ts, h1, h2, fun i t g ht hg => ?_⟩
  have q := h3 i t g ht hg
  exact ⟨no q (fun z => by
    obtain ⟨_, _, _, eb, _⟩ := hB
    rw [z, eb] at q
    cases q), q⟩
/-! ### a gate and a name more -/
theorem rows_snoc60 {H : Hp} {P T : Addr} {gs : List Gt} {g : Gt} {ts : List Addr} (lt : ts.length = gs.length) (h : ∀ (i : Nat) (t : Addr) (g : Gt), ts[i]? = some t → gs[i]? = some g → H t = some (.tup g.row)) (eT : H T = some (.tup g.row)) (eP : H P = some (.lst (ts.map V.ref ++ [.ref T]))) : RowsAt46 H P (gs ++ [g]) := by
  refine ⟨ts ++ [T], by rw [List.length_append, List.length_append, lt]; rfl, by rw [eP, List.map_append]; rfl, fun i t g' ht hg => ?_⟩
  by_cases l : i < ts.length
  · rw [List.getElem?_append_left l] at ht
    rw [List.getElem?_append_left (by omega)] at hg
    exact h i t g' ht hg
  · have i0 : i = ts.length := by
      have := (List.getElem?_eq_some_iff.mp ht).1
      rw [List.length_append, List.length_cons, List.length_nil] at this
      omega
    rw [List.getElem?_append_right (by omega), i0, Nat.sub_self] at ht
    rw [List.getElem?_append_right (by omega), i0, lt, Nat.sub_self] at hg
    cases ht
    cases hg
    exact eT
theorem gv_snoc60 {b : Addr} {H : Hp} {P T L : Addr} {nm : List (Str × List Nat)} {n : Str} {ws : List Nat} {ts : List Addr} (lt : ts.length = nm.length) (h : ∀ (i : Nat) (t : Addr) (n : Str) (ws : List Nat), ts[i]? = some t → nm[i]? = some (n, ws) → t ≠ b ∧ ∃ l, l ≠ b ∧ l ≠ P ∧ H t = some (.tup [.str n, .ref l]) ∧ H l = some (.lst (nts ws)))
    (nP : P ≠ b) (nT : T ≠ b) (nL : L ≠ b) (nLP : L ≠ P) (eT : H T = some (.tup [.str n, .ref L])) (eL : H L = some (.lst (nts ws))) (eP : H P = some (.lst (ts.map V.ref ++ [.ref T]))) : GvAt b H P (nm ++ [(n, ws)]) := by
  refine ⟨nP, ts ++ [T], by rw [List.length_append, List.length_append, lt]; rfl, by rw [eP, List.map_append]; rfl, fun i t n' ws' ht hn => ?_⟩
  by_cases l : i < ts.length
  · rw [List.getElem?_append_left l] at ht
    rw [List.getElem?_append_left (by omega)] at hn
    exact h i t n' ws' ht hn
  · have i0 : i = ts.length := by
      have := (List.getElem?_eq_some_iff.mp ht).1
      rw [List.length_append, List.length_cons, List.length_nil] at this
      omega
    rw [List.getElem?_append_right (by omega), i0, Nat.sub_self] at ht
    rw [List.getElem?_append_right (by omega), i0, lt, Nat.sub_self] at hn
    cases ht
    cases hn
    exact ⟨nT, L, nL, nLP, eT, eL⟩
/-! ### both nets grown -/
theorem NetAt.grow {C : Addr} {Z : List Addr} {H H' : Hp} {p : NetP} {m : Nat} {gs : List Gt} {nm : List (Str × List Nat)} {D : Addr} (h : NetAt C Z H p m gs nm) (k : Same H H') (n : H D = none) (e' : H' D ≠ none) : NetAt C (D :: Z) H' p m gs nm := by
  obtain ⟨a, b, ⟨c1, c2, c3, c4⟩, dx, ps, kvs, e1, e2, e3, e4, ⟨g1, g2⟩, n1, n2, n3⟩ := h
  have ne : ∀ {y : Addr} {u : HO}, H y = some u → y ≠ D := fun e z => by rw [z, n] at e; cases e
  have ni : ∀ {y : Addr} {u : HO}, H y = some u → y ∉ Z → y ∉ D :: Z := fun e z y => by
    rcases List.mem_cons.mp y with w | w
    · exact ne e w
    · exact z w
  refine ⟨fun z hz => ?_, b, ⟨ni e1 c1, ni e2 c2, ni e3 c3, ni e4 c4⟩, dx, ps, kvs, k _ _ e1, k _ _ e2, k _ _ e3, k _ _ e4, ⟨g1, fun i q g hi hg => ?_⟩, n1, n2, fun i k' v n' ws hi hn => ?_⟩
  · rcases List.mem_cons.mp hz with w | w
    · rw [w]
      exact e'
    · exact (KeepS.ofSame (S := []) k).2 z (a z w)
  · have := g2 i q g hi hg
    exact ⟨ni this.2 this.1, k _ _ this.2⟩
  · obtain ⟨ek, l, ev, l1, l2, l3, l4⟩ := n3 i k' v n' ws hi hn
    exact ⟨ek, l, ev, ni l4 l1, l2, l3, k _ _ l4⟩
def lnR (nm : List (Str × List Nat)) : List (Str × List Nat) := nm.map fun r => (r.1, List.replicate r.2.length 0)
theorem lnR_so {sa na : List (Str × List Nat)} (h : SoOf sa na) : SoOf (lnR sa) (lnR na) := ⟨h.1.map _, by
  have := h.2
  unfold Rise lnR at *
  rw [List.map_map]
  exact this⟩
theorem lnR_inj {nm : List (Str × List Nat)} (h : Inj nm) : Inj (lnR nm) := fun i j x y hx hy e => by
  unfold lnR at hx hy
  rw [List.getElem?_map] at hx hy
  obtain ⟨x', hx', rfl⟩ := Option.map_eq_some_iff.mp hx
  obtain ⟨y', hy', rfl⟩ := Option.map_eq_some_iff.mp hy
  exact h i j x' y' hx' hy' e
theorem firstD_ln : ∀ sa sb : List (Str × List Nat), lnR sa = lnR sb → firstD sa sb = none
  | [], _, _ => rfl
  | _ :: _, [], h => by cases h
  | x :: xs, y :: ys, h => by
    unfold lnR at h
    rw [List.map_cons, List.map_cons, List.cons.injEq] at h
    have l := congrArg List.length (Prod.mk.inj h.1).2
    rw [List.length_replicate, List.length_replicate] at l
    show (if x.2.length = y.2.length then firstD xs ys else some x.1) = none
    rw [if_pos l, firstD_ln xs ys h.2]
theorem due_ln {m : Nat} {na nb sa sb : List (Str × List Nat)} (inj : Inj nb) (oa : SoOf sa na) (ob : SoOf sb nb) (p : (lnR na).Perm (lnR nb)) : dueL m m sa sb = none := by
  have oa' : SoOf (lnR sa) (lnR nb) := ⟨(lnR_so oa).1.trans p, (lnR_so oa).2⟩
  have e : lnR sa = lnR sb := so_one (lnR_inj inj) oa' (lnR_so ob)
  unfold dueL
  rw [if_pos rfl]
  have e1 : sa.map (·.1) = sb.map (·.1) := by
    have := congrArg (fun l : List (Str × List Nat) => l.map (·.1)) e
    unfold lnR at this
    simp only [List.map_map] at this
    exact this
  rw [if_pos e1, firstD_ln _ _ e]
def T7 (b : Addr) (pa pb : NetP) : List Addr := [b, pa.lm, pa.ld, pa.dn, pb.lm, pb.ld, pb.dn]
/-! ### one box -/
def dInts (ws : List Nat) : List PyData := ws.map fun (a : Nat) => PyData.int (a : Int)
def dGt : Gt → PyData
  | .w k ws => .tuple (.str k :: dInts ws)
  | .fi b => .tuple [.str "fixed", .int (b : Int)]
theorem dpa_nts {H : Hp} : ∀ ws : List Nat, DpAll K H (nts ws) (dInts ws)
  | [] => .nil
  | a :: ws => .cons (.int _) (dpa_nts ws)
theorem dp_row {H : Hp} {t : Addr} {g : Gt} (h : H t = some (.tup g.row)) : Dp K H (.ref t) (dGt g) := by
  cases g with
  | w k ws => exact .tup (.inl (.inl h)) (.cons (.str _) (dpa_nts ws))
  | fi b => exact .tup (.inl (.inl h)) (.cons (.str _) (.cons (.int _) .nil))
theorem dpa_rows {H : Hp} : ∀ (ts : List Addr) (gs : List Gt), ts.length = gs.length → (∀ (i : Nat) (t : Addr) (g : Gt), ts[i]? = some t → gs[i]? = some g → H t = some (.tup g.row)) → DpAll K H (ts.map V.ref) (gs.map dGt)
  | [], [], _, _ => .nil
  | [], _ :: _, h, _ => by cases h
  | _ :: _, [], h, _ => by cases h
  | t :: ts, g :: gs, h, f => .cons (dp_row (f 0 t g rfl rfl)) (dpa_rows ts gs (Nat.succ.inj h) fun i a b h1 h2 => f (i + 1) a b h1 h2)
theorem dpa_strs {H : Hp} : ∀ ys : List Str, DpAll K H (ys.map V.str) (ys.map PyData.str)
  | [] => .nil
  | y :: ys => .cons (.str _) (dpa_strs ys)
theorem lv_rows60 {m : Nat} {gs : List Gt} (ok : GsOk m gs) (h : gs.length ≤ 200) : Lv 3 (.list (gs.map dGt)) := by
  refine ⟨by rw [List.length_map]; omega, fun d hd => ?_⟩
  obtain ⟨g, hg, rfl⟩ := List.mem_map.mp hd
  obtain ⟨i, hi⟩ := List.mem_iff_getElem?.mp hg
  have k := ok i g hi
  cases g with
  | w k' ws =>
    refine ⟨by rw [List.length_cons]; unfold dInts; rw [List.length_map]; rcases k.1 with ⟨_, e⟩ | ⟨_, e⟩ <;> omega, fun d hd => ?_⟩
    rcases List.mem_cons.mp hd with e | hd
    · rw [e]; exact True.intro
    · obtain ⟨a, _, rfl⟩ := List.mem_map.mp hd
      exact True.intro
  | fi b =>
    refine ⟨by show 2 ≤ 1000000; decide, fun d hd => ?_⟩
    simp only [List.mem_cons, List.not_mem_nil, or_false] at hd
    rcases hd with e | e <;> rw [e] <;> exact True.intro
theorem NetAt.growL {C : Addr} {Z Z' : List Addr} {H H' : Hp} {p : NetP} {m : Nat} {gs : List Gt} {nm : List (Str × List Nat)} (h : NetAt C Z H p m gs nm) (k : Same H H') (n : ∀ y ∈ Z', (H y = none ∧ H' y ≠ none) ∨ y ∈ Z) : NetAt C Z' H' p m gs nm := by
  obtain ⟨a, b, ⟨c1, c2, c3, c4⟩, dx, ps, kvs, e1, e2, e3, e4, ⟨g1, g2⟩, n1, n2, n3⟩ := h
  have ni : ∀ {y : Addr} {u : HO}, H y = some u → y ∉ Z → y ∉ Z' := fun e z y => by
    rcases n _ y with ⟨w, _⟩ | w
    · rw [w] at e; cases e
    · exact z w
  refine ⟨fun z hz => ?_, b, ⟨ni e1 c1, ni e2 c2, ni e3 c3, ni e4 c4⟩, dx, ps, kvs, k _ _ e1, k _ _ e2, k _ _ e3, k _ _ e4, ⟨g1, fun i q g hi hg => ?_⟩, n1, n2, fun i k' v n' ws hi hn => ?_⟩
  · rcases n z hz with ⟨_, w⟩ | w
    · exact w
    · exact (KeepS.ofSame (S := []) k).2 z (a z w)
  · have := g2 i q g hi hg
    exact ⟨ni this.2 this.1, k _ _ this.2⟩
  · obtain ⟨ek, l, ev, l1, l2, l3, l4⟩ := n3 i k' v n' ws hi hn
    exact ⟨ek, l, ev, ni l4 l1, l2, l3, k _ _ l4⟩
end
section
variable {P : Program} {w : World} {K : PySem.W.Frag} {mg : Str → Option Value} {base : Heap}
variable {C : Addr} {za : Nat → Addr} {zl : Nat → FuncData}
/-! ### cubes that hold all inputs -/
def bc (m c : Nat) : List Nat := (List.range m).map fun i => 48 + c / 2 ^ (m - 1 - i) % 2
theorem bc_len (m c : Nat) : (bc m c).length = m := by
  unfold bc
  rw [List.length_map, List.length_range]
theorem bc_bt (m c : Nat) : BtL (bc m c) := fun d hd => by
  obtain ⟨i, _, rfl⟩ := List.mem_map.mp hd
  have : c / 2 ^ (m - 1 - i) % 2 < 2 := Nat.mod_lt _ (by decide)
  omega
def cov (x b : List Nat) : Bool := (x.zip b).all fun p => decide (p.1 = 45 ∨ p.1 = p.2)
theorem tb_not (x : Int) (k : Nat) : tb (Builtin.bitNot x) k = 1 - tb x k := by
  unfold tb
  have e : Builtin.bitNot x = -x - 1 := rfl
  rw [e]
  have hp : (0 : Int) < 2 ^ k := PySem.W.kbt_pos k
  generalize (2 : Int) ^ k = p at *
  have h1 := Int.mul_ediv_add_emod x p
  have h2 := Int.emod_nonneg x (by omega : p ≠ 0)
  have h3 := Int.emod_lt_of_pos x hp
  have : (-x - 1) / p = -(x / p) - 1 := by
    refine ((Int.ediv_emod_unique hp).mpr ⟨?_, ?_, ?_⟩ : _ ∧ (-x - 1) % p = p - 1 - x % p).1
    · have : p * (-(x / p) - 1) = -(p * (x / p)) - p := by rw [Int.mul_sub, Int.mul_neg, Int.mul_one]
      omega
    · omega
    · omega
  rw [this]
  omega
theorem tb_cstep {f i : Int} {c k : Nat} (hc : c = 45 ∨ c = 48 ∨ c = 49) (hf : tb f k = 0 ∨ tb f k = 1) {d : Nat} (hd : d < 2) (hi : tb i k = (d : Int)) : tb (cstep f (c, i)) k = if (c = 45 ∨ c = 48 + d) then tb f k else 0 := by
  have d01 : d = 0 ∨ d = 1 := by omega
  unfold cstep
  rcases hc with rfl | rfl | rfl
  · simp
  · rw [if_neg (by show ¬ (48 : Nat) = 49; decide), if_pos rfl, tb_and, tb_not, hi]
    rcases d01 with rfl | rfl <;> rcases hf with h | h <;> rw [h] <;> decide
  · rw [if_pos rfl, tb_and, hi]
    rcases d01 with rfl | rfl <;> rcases hf with h | h <;> rw [h] <;> decide
theorem tb_cfold {k : Nat} : ∀ (x : List Nat) (is : List Int) (ds : List Nat) (f : Int), SgL x → is.length = ds.length → (∀ (j : Nat) (i : Int) (d : Nat), is[j]? = some i → ds[j]? = some d → d < 2 ∧ tb i k = (d : Int)) → (tb f k = 0 ∨ tb f k = 1) →
    tb ((x.zip is).foldl cstep f) k = if cov x (ds.map (48 + ·)) = true then tb f k else 0
  | [], _, _, f, _, _, _, _ => by simp [cov]
  | c :: x, [], [], f, _, _, _, _ => by simp [cov]
  | c :: x, [], _ :: _, _, _, h, _, _ => by cases h
  | c :: x, _ :: _, [], _, _, h, _, _ => by cases h
  | c :: x, i :: is, d :: ds, f, sx, l, h, hf => by
    obtain ⟨hd, hi⟩ := h 0 i d rfl rfl
    have e := tb_cstep (sx c List.mem_cons_self) hf hd hi
    have ih := tb_cfold x is ds (cstep f (c, i)) (fun y hy => sx y (List.mem_cons_of_mem _ hy)) (Nat.succ.inj l) (fun j i d a b => h (j + 1) i d a b) (tb_01 _ _)
    rw [List.zip_cons_cons, List.foldl_cons, ih, e]
    have ec : cov (c :: x) ((d :: ds).map (48 + ·)) = (decide (c = 45 ∨ c = 48 + d) && cov x (ds.map (48 + ·))) := rfl
    rw [ec]
    by_cases a : (c = 45 ∨ c = 48 + d)
    · rw [if_pos a, decide_eq_true a, Bool.true_and]
    · rw [if_neg a, decide_eq_false a, Bool.false_and, if_neg Bool.false_ne_true]
      split <;> rfl
theorem tb_cin {m n : Nat} {x : List Nat} (lx : x.length = m) (sx : SgL x) (hn : n < 2 ^ m) : tb (cinV m x) n = if cov x (bc m n) = true then 1 else 0 := by
  unfold cinV
  rw [if_pos lx]
  have e : bc m n = ((List.range m).map fun i => n / 2 ^ (m - 1 - i) % 2).map (48 + ·) := by
    unfold bc
    rw [List.map_map]
    rfl
  rw [e, tb_cfold x (acs m) ((List.range m).map fun i => n / 2 ^ (m - 1 - i) % 2) _ sx (by rw [acs_len, List.length_map, List.length_range]) (fun j i d hi hd => ?_) (tb_01 _ _), tb_full hn]
  have hj : j < m := by
    have := (List.getElem?_eq_some_iff.mp hi).1
    rw [acs_len] at this
    exact this
  rw [List.getElem?_map, List.getElem?_range hj] at hd
  cases hd
  unfold acs at hi
  rw [List.getElem?_map, List.getElem?_range hj] at hi
  cases hi
  exact ⟨Nat.mod_lt _ (by decide), pcs_bit (m - 1 - j) j n (by rw [show m - 1 - j + 1 + j = m by omega]; exact hn)⟩
theorem tb_hole {m n : Nat} (hn : n < 2 ^ m) : ∀ (cs : List (List Nat)) (l : Int), (∀ x ∈ cs, x.length = m ∧ SgL x) →
    tb (cs.foldl (fun l x => Builtin.bitAnd l (Builtin.bitNot (cinV m x))) l) n = if (cs.any fun x => cov x (bc m n)) = true then 0 else tb l n
  | [], _, _ => rfl
  | x :: cs, l, h => by
    obtain ⟨lx, sx⟩ := h x List.mem_cons_self
    rw [List.foldl_cons, tb_hole hn cs _ fun y hy => h y (List.mem_cons_of_mem _ hy), List.any_cons, tb_and, tb_not, tb_cin lx sx hn]
    cases cov x (bc m n)
    · rw [Bool.false_or, if_neg Bool.false_ne_true]
      rcases tb_01 l n with e | e <;> rw [e] <;> rfl
    · rw [Bool.true_or, if_pos rfl, if_pos rfl]
      split
      · rfl
      · rcases tb_01 l n with e | e <;> rw [e] <;> rfl
theorem zero_of_tb {l : Int} {N : Nat} (h0 : 0 ≤ l) (h1 : l < 2 ^ N) (h : ∀ n, n < N → tb l n = 0) : l = 0 := by
  obtain ⟨n, rfl⟩ : ∃ n : Nat, l = (n : Int) := ⟨l.toNat, by omega⟩
  by_cases z : n = 0
  · rw [z]
    rfl
  exfalso
  obtain ⟨k, a, e⟩ := odd_part n (by omega)
  have c : n < 2 ^ N := by
    have : ((2 ^ N : Nat) : Int) = 2 ^ N := PySem.W.kbt_cast _
    omega
  have d : 2 ^ k ≤ n := by
    rw [e]
    exact Nat.le_mul_of_pos_right _ (by omega)
  have kN := (Nat.pow_lt_pow_iff_right (by decide : 1 < 2)).mp (Nat.lt_of_le_of_lt d c)
  have t := h k kN
  unfold tb at t
  rw [show (2 : Int) ^ k = ((2 ^ k : Nat) : Int) from (PySem.W.kbt_cast _).symm] at t
  have e2 : n / 2 ^ k = 2 * a + 1 := by
    rw [e]
    exact Nat.mul_div_cancel_left _ (Nat.two_pow_pos k)
  have : ((n : Int) / ((2 ^ k : Nat) : Int)) = ((n / 2 ^ k : Nat) : Int) := rfl
  rw [this, e2] at t
  omega
theorem hole_iff {m : Nat} {cs : List (List Nat)} (h : ∀ x ∈ cs, x.length = m ∧ SgL x) : holeV m cs = 0 ↔ ∀ n, n < 2 ^ m → (cs.any fun x => cov x (bc m n)) = true := by
  obtain ⟨h0, h1⟩ := holeV_in m cs
  constructor
  · intro z n hn
    have t := tb_hole hn cs (2 ^ 2 ^ m - 1) h
    have e : tb (holeV m cs) n = 0 := by rw [z]; exact tb_nul n
    unfold holeV at e
    rw [e, tb_full hn] at t
    by_cases c : (cs.any fun x => cov x (bc m n)) = true
    · exact c
    · rw [if_neg c] at t
      cases t
  · intro a
    refine zero_of_tb h0 h1 fun n hn => ?_
    unfold holeV
    rw [tb_hole hn cs _ h, if_pos (a n hn)]
/-! ### what papers are asked -/
def covA (m : Nat) (os : List (Option (List Nat))) : Bool := (List.range (2 ^ m)).all fun n => os.any fun o => cov (o.getD []) (bc m n)
def showsV (m : Nat) (L : List Nat → Lk) : Option (List (Option (List Nat))) → Bool
  | none => false
  | some os => os.all (isT [48, 49, 45] m) && (covA m os && os.all fun o => decide (L (o.getD []) = .sm))
def unlV (m : Nat) (L : List Nat → Lk) (o : Option (List Nat)) : Bool := isT [48, 49] m o && decide (L (o.getD []) = .un)
theorem isT_cs {m : Nat} : ∀ {os : List (Option (List Nat))}, os.all (isT [48, 49, 45] m) = true → ∃ cs : List (List Nat), os = cs.map some ∧ ∀ x ∈ cs, x.length = m ∧ SgL x
  | [], _ => ⟨[], rfl, fun _ z => nomatch z⟩
  | o :: os, h => by
    rw [List.all_cons, Bool.and_eq_true] at h
    obtain ⟨cs, e, hc⟩ := isT_cs h.2
    cases o with
    | none => cases h.1
    | some x =>
      have hx := h.1
      simp only [isT, Bool.and_eq_true, decide_eq_true_eq, List.all_eq_true] at hx
      refine ⟨x :: cs, by rw [e]; rfl, fun y hy => ?_⟩
      rcases List.mem_cons.mp hy with rfl | hy
      · refine ⟨hx.1, fun c hc => ?_⟩
        have := hx.2 c hc
        simp only [List.mem_cons, List.not_mem_nil, or_false] at this
        omega
      · exact hc y hy
theorem covA_cs {m : Nat} {cs : List (List Nat)} (h : ∀ x ∈ cs, x.length = m ∧ SgL x) : covA m (cs.map some) = true ↔ holeV m cs = 0 := by
  rw [hole_iff h]
  unfold covA
  rw [List.all_eq_true]
  constructor
  · intro a n hn
    have := a n (List.mem_range.mpr hn)
    rw [List.any_map] at this
    exact this
  · intro a n hn
    rw [List.any_map]
    exact a n (List.mem_range.mp hn)
end
section
variable {P : Program} {w : World} {K : PySem.W.Frag} {mg : Str → Option Value} {base : Heap}
variable {C : Addr} {za : Nat → Addr} {zl : Nat → FuncData}
/-! ### papers -/
inductive Top62 (H : Hp) : V → Option (List (Option (List Nat))) → Prop
  | lst {t : Addr} {xs : List V} {os : List (Option (List Nat))} (e : H t = some (.lst xs)) (ll : xs.length = os.length) (h : ∀ (i : Nat) (v : V) (o : Option (List Nat)), xs[i]? = some v → os[i]? = some o → Thg H v o) (l : os.length ≤ 900) : Top62 H (.ref t) (some os)
  | non : Top62 H .non none
  | int (i : Int) : Top62 H (.int i) none
  | bl (b : Bool) : Top62 H (.bl b) none
  | str (x : Str) : Top62 H (.str x) none
  | tup {t : Addr} {xs : List V} (e : H t = some (.tup xs)) : Top62 H (.ref t) none
theorem Top62.same {H H' : Hp} {v : V} {l : Option (List (Option (List Nat)))} (h : Top62 H v l) (s : Same H H') : Top62 H' v l := by
  cases h with
  | lst e ll h l => exact .lst (s _ _ e) ll (fun i v o a b => (h i v o a b).same s) l
  | non => exact .non
  | int i => exact .int i
  | bl b => exact .bl b
  | str x => exact .str x
  | tup e => exact .tup (s _ _ e)
theorem s01m : Str.ofString "01-" = SX.S [48, 49, 45] := by decide +kernel
theorem s01 : Str.ofString "01" = SX.S [48, 49] := by decide +kernel
theorem lkT_eq (w : Lk) (u : Lk) : decide (V.str (lkT w) = V.str (lkT u)) = decide (w = u) := by
  cases w <;> cases u <;> decide +kernel
def spShU (C : Addr) : Sp := fun vs H Q _ => ∃ (pa pb : NetP) (m : Nat) (ga gb : List Gt) (na nb sa sb : List (Str × List Nat)) (v : V) (o : Option (List Nat)), vs = [.ref pa.x, .ref pb.x, v] ∧ Two C H pa pb m ga gb na nb sa sb ∧ Thg H v o ∧
  ∀ H', Same H H' → Q (.bl (unlV m (lk ga gb sa sb) o)) H'
theorem ok_shows_unlike (B : Bl mg) (L : LL K mg C za zl) : FnOk P w K mg base CX0 6 (za 15) (zl 15) ["one", "other", "thing"] (spShU C) := by
  have G_need_fit : FnOk P w K mg base CX0 5 (za 13) (zl 13) ["one", "other"] (spFits C) := (ok_need_fit B L).mono (by decide)
  have G_looked : FnOk P w K mg base CX0 5 (za 11) (zl 11) ["one", "other", "cube"] (spLooked C) := (ok_looked B L).mono (by decide)
  have G_is_text_of : FnOk P w K mg base CX0 5 (za 6) (zl 6) ["signs", "many", "thing"] spIsT := (ok_is_text_of B L).mono (by decide)
  have G_Net_inputs : FnOk P w K mg base CX0 5 (za 46) (zl 46) ["self"] (spInputs C) := (ok_Net_inputs B L).mono (by decide)
  refine L.F_shows_unlike.ok sc_shows_unlike (fun vs H Q E h => ?_) (fun cdv A outer s H vs Q E hr h => ?_)
  · obtain ⟨pa, pb, m, ga, gb, na, nb, sa, sb, v, o, rfl, _⟩ := h
    rfl
  obtain ⟨pa, pb, m, ga, gb, na, nb, sa, sb, v, o, rfl, hT, hv, q⟩ := h
  refine ⟨_, (pss_cons (ps_expr (pe_call G_need_fit hr (by rfl) L.m_need_fit L.F_need_fit.kp L.b_need_fit .nil pass0 (pa_cons (pv 0) (pa_cons (pv 1) pa_nil))))
    (pss_one (ps_ret (pe_and (pe_call G_is_text_of hr (by rfl) L.m_is_text_of L.F_is_text_of.kp L.b_is_text_of .nil pass0 (pa_cons pe_str (pa_cons (pe_meth0 (pv 0) L.T.cl L.M_Net_inputs G_Net_inputs hr L.b_Net_inputs .nil pass0) (pa_cons (pv 2) pa_nil)))) (pe_one (pe_cmpR op_eq (pe_call G_looked hr (by rfl) L.m_looked L.F_looked.kp L.b_looked .nil pass0 (pa_cons (pv 0) (pa_cons (pv 1) (pa_cons (pv 2) pa_nil)))) pe_str (nomark _))))))), ?_⟩
  refine ⟨_, rfl, _, rfl, pa, pb, m, ga, gb, na, nb, sa, sb, rfl, hT, fun H1 s1 => ?_⟩
  have hT1 := hT.same s1
  obtain ⟨⟨ZA, NA⟩, okA, gA, mA20, gaL, naL⟩ := id hT1.a
  obtain ⟨_, _, _, dxA, _, _, eA, _⟩ := id NA
  have hv1 := hv.same s1
  refine ⟨_, rfl, pa.x, dxA, _, rfl, eA, rfl, ZA, pa, m, ga, na, rfl, NA, ?_⟩
  refine ⟨_, rfl, [48, 49], m, v, o, by rw [s01]; rfl, hv1, by decide, fun H2 s2 => ?_⟩
  unfold unlV at q
  refine ⟨_, rfl, ite2 (fun z => ?_) (fun z => ?_)⟩
  · have z' := z
    cases hv1 with
    | @str x hx =>
      simp only [isT, Bool.and_eq_true, decide_eq_true_eq] at z'
      refine ⟨_, rfl, _, rfl, _, rfl, pa, pb, m, ga, gb, na, nb, sa, sb, x, rfl, hT1.same s2, z'.1, fun H3 s3 => ?_⟩
      rw [z, Bool.true_and] at q
      have := q H3 ((s1.trans s2).trans s3)
      rw [← lkT_eq] at this
      exact ⟨rfl, this⟩
    | _ => cases z
  · rw [Bool.eq_false_iff.mpr z, Bool.false_and] at q
    exact q H2 (s1.trans s2)
def spShS (C : Addr) : Sp := fun vs H Q _ => ∃ (pa pb : NetP) (m : Nat) (ga gb : List Gt) (na nb sa sb : List (Str × List Nat)) (v : V) (l : Option (List (Option (List Nat)))), vs = [.ref pa.x, .ref pb.x, v] ∧ Two C H pa pb m ga gb na nb sa sb ∧ m ≤ 12 ∧ Top62 H v l ∧
  ∀ H', Same H H' → Q (.bl (showsV m (lk ga gb sa sb) l)) H'
theorem ok_shows_same (B : Bl mg) (L : LL K mg C za zl) : FnOk P w K mg base CX0 6 (za 14) (zl 14) ["one", "other", "thing"] (spShS C) := by
  have G_need_fit : FnOk P w K mg base CX0 5 (za 13) (zl 13) ["one", "other"] (spFits C) := (ok_need_fit B L).mono (by decide)
  have G_looked : FnOk P w K mg base CX0 5 (za 11) (zl 11) ["one", "other", "cube"] (spLooked C) := (ok_looked B L).mono (by decide)
  have G_is_text_of : FnOk P w K mg base CX0 5 (za 6) (zl 6) ["signs", "many", "thing"] spIsT := (ok_is_text_of B L).mono (by decide)
  have G_hole : FnOk P w K mg base CX0 5 (za 4) (zl 4) ["cubes", "many"] spHole := (ok_hole B L).mono (by decide)
  have G_Net_inputs : FnOk P w K mg base CX0 5 (za 46) (zl 46) ["self"] (spInputs C) := (ok_Net_inputs B L).mono (by decide)
  refine L.F_shows_same.ok sc_shows_same (fun vs H Q E h => ?_) (fun cdv A outer s H vs Q E hr h => ?_)
  · obtain ⟨pa, pb, m, ga, gb, na, nb, sa, sb, v, l, rfl, _⟩ := h
    rfl
  obtain ⟨pa, pb, m, ga, gb, na, nb, sa, sb, v, l, rfl, hT, h12, hv, q⟩ := h
  refine ⟨_, (pss_cons (ps_expr (pe_call G_need_fit hr (by rfl) L.m_need_fit L.F_need_fit.kp L.b_need_fit .nil pass0 (pa_cons (pv 0) (pa_cons (pv 1) pa_nil))))
    (pss_cons (ps_set (i := 3) sc_shows_same.nd rfl (.inr rfl) (pe_meth0 (pv 0) L.T.cl L.M_Net_inputs G_Net_inputs hr L.b_Net_inputs .nil pass0))
    (pss_cons (ps_if (PW.pt (pw_or (pt_not (pt_val (pe_callB call_isi (by rfl) B.isinstance boot_isinstance (pa_cons (pv 2) (pa_cons (pe_bltn (v := .ty "list") (by rfl) B.list PyProof.Rows.boot_list rfl) pa_nil))))) (pw_or1 (pt_not (pt_val (pe_callB (cr_all rfl) (by rfl) B.all boot_all (pa_cons (pe_lc (own := [("cube", 4)]) (by rfl) sc_shows_same.nd (pi_list (pv 2)) (blkOk_by (own := [("cube", 4)]) (N := ["one", "other", "thing", "many", "cube"]) (sc := defScope s_shows_same) (by decide +kernel)) (fun _ _ _ _ _ => pg_name (i := 4) sc_shows_same.nd rfl (Or.inl rfl)) (fun _ _ _ _ _ => pts_nil) (fun _ _ _ _ _ => (pe_call G_is_text_of hr (by rfl) L.m_is_text_of L.F_is_text_of.kp L.b_is_text_of .nil pass0 (pa_cons pe_str (pa_cons (pv 3) (pa_cons (pv 4) pa_nil)))))) pa_nil))))))) (pss_one (ps_ret pe_bl)) pss_nil)
    (pss_one (ps_ret (pe_and (pe_cmpR op_isN (pe_call G_hole hr (by rfl) L.m_hole L.F_hole.kp L.b_hole .nil pass0 (pa_cons (pv 2) (pa_cons (pv 3) pa_nil))) pe_non (nomark _)) (pe_one (pe_callB (cr_all rfl) (by rfl) B.all boot_all (pa_cons (pe_lc (own := [("cube", 4)]) (by rfl) sc_shows_same.nd (pi_list (pv 2)) (blkOk_by (own := [("cube", 4)]) (N := ["one", "other", "thing", "many", "cube"]) (sc := defScope s_shows_same) (by decide +kernel)) (fun _ _ _ _ _ => pg_name (i := 4) sc_shows_same.nd rfl (Or.inl rfl)) (fun _ _ _ _ _ => pts_nil) (fun _ _ _ _ _ => (pe_cmpR op_eq (pe_call G_looked hr (by rfl) L.m_looked L.F_looked.kp L.b_looked .nil pass0 (pa_cons (pv 0) (pa_cons (pv 1) (pa_cons (pv 4) pa_nil)))) pe_str (nomark _)))) pa_nil))))))))), ?_⟩
  refine ⟨_, rfl, _, rfl, pa, pb, m, ga, gb, na, nb, sa, sb, rfl, hT, fun H1 s1 => ?_⟩
  have hT1 := hT.same s1
  obtain ⟨⟨ZA, NA⟩, okA, gA, mA20, gaL, naL⟩ := id hT1.a
  obtain ⟨_, _, _, dxA, _, _, eA, _⟩ := id NA
  have hv1 := hv.same s1
  refine ⟨_, rfl, pa.x, dxA, _, rfl, eA, rfl, ZA, pa, m, ga, na, rfl, NA, ?_⟩
  try simp only [L2.start, List.map_cons, List.map_nil, List.length_cons, List.length_nil, List.replicate_succ, List.replicate_zero, List.cons_append, List.nil_append, List.set_cons_succ, List.set_cons_zero, Nat.reduceAdd, Nat.reduceSub, Nat.zero_add]
  cases hv1 with
  | non => exact ⟨_, rfl, _, _, _, _, _, rfl, .ty _, .base .non, kit_ty (by decide +kernel : kitB "NoneType" "list" = some false), _, rfl, iteT (q H1 s1)⟩
  | int i => exact ⟨_, rfl, _, _, _, _, _, rfl, .ty _, .base (.int _), kit_ty (by decide +kernel : kitB "int" "list" = some false), _, rfl, iteT (q H1 s1)⟩
  | bl b => exact ⟨_, rfl, _, _, _, _, _, rfl, .ty _, .base (.bl _), kit_ty (by decide +kernel : kitB "bool" "list" = some false), _, rfl, iteT (q H1 s1)⟩
  | str x => exact ⟨_, rfl, _, _, _, _, _, rfl, .ty _, .base (.str _), kit_ty (by decide +kernel : kitB "str" "list" = some false), _, rfl, iteT (q H1 s1)⟩
  | tup e => exact ⟨_, rfl, _, _, _, _, _, rfl, .ty _, ty_tup (SqT.of e), kit_ty (by decide +kernel : kitB "tuple" "list" = some false), _, rfl, iteT (q H1 s1)⟩
  | @lst t xs os e ll h lc =>
    refine ⟨_, rfl, _, _, _, _, _, rfl, .ty _, ty_lst (SqL.of e), kit_ty (by decide +kernel : kitB "list" "list" = some true), _, rfl, iteF ?_⟩
    refine ⟨_, rfl, t, rfl, ⟨_, SqL.of e⟩, fun D nD => ?_⟩
    refine lc_it (walk_list (K := K) (a := t) (xs := xs)) (fun i H6 => Same H1 H6 ∧ H6 D = some (.lst (((os.map (isT [48, 49, 45] m)).take i).map V.bl))) ⟨same_upd nD, upd_same⟩ (fun i H6 _ ⟨s6, _⟩ => SqL.of (s6 _ _ e)) ?_ ?_
    · rintro j z H6 H7 hj ⟨s6, eD⟩ ⟨rfl, hz⟩
      have ho : os[j]? = some (os[j]'(by omega)) := List.getElem?_eq_getElem (by omega)
      have ht := (h j z _ hz ho).same s6
      generalize os[j]'(by omega) = o at *
      refine ⟨rfl, yesT ?_⟩
      refine ⟨_, rfl, _, rfl, [48, 49, 45], m, _, o, by rw [s01m]; rfl, ht, by decide, fun H8 s8 => ?_⟩
      refine ⟨_, s8 _ _ eD, ?_, fun y o e => ?_, ?_⟩
      · rw [List.length_map, List.length_take]
        exact big_lt (by omega)
      · rw [upd_ne (ne_of_none e nD)]
        exact s8 _ _ (s6 _ _ e)
      · rw [upd_same, List.take_add_one, List.getElem?_map, ho, List.map_append]
        rfl
    · rintro H6 ⟨s6, eD⟩
      rw [List.take_of_length_le (by rw [List.length_map]; omega)] at eD
      refine ⟨D, _, rfl, SqL.of eD, ?_⟩
      rw [List.all_map, show (id ∘ isT [48, 49, 45] m) = isT [48, 49, 45] m from rfl]
      have e6 := s6 _ _ e
      have s16 := s1.trans s6
      replace q : ∀ H', Same H H' → Q (.bl (os.all (isT [48, 49, 45] m) && (covA m os && os.all fun o => decide (lk ga gb sa sb (o.getD []) = .sm)))) H' := q
      by_cases ha : os.all (isT [48, 49, 45] m) = true
      · rw [ha, Bool.true_and] at q
        rw [ha]
        refine ⟨_, rfl, iteF ?_⟩
        dsimp only [tNext]
        try simp only [L2.start, List.map_cons, List.map_nil, List.length_cons, List.length_nil, List.replicate_succ, List.replicate_zero, List.cons_append, List.nil_append, List.set_cons_succ, List.set_cons_zero, Nat.reduceAdd, Nat.reduceSub, Nat.zero_add]
        obtain ⟨cs, rfl, hcs⟩ := isT_cs ha
        have ex : xs = cs.map fun x => V.str (SX.S x) := by
          apply List.ext_getElem?
          intro i
          rw [List.getElem?_map]
          by_cases hi : i < cs.length
          · have a : xs[i]? = some (xs[i]'(by rw [ll, List.length_map]; exact hi)) := List.getElem?_eq_getElem _
            have b : (cs.map some)[i]? = some (some cs[i]) := by rw [List.getElem?_map, List.getElem?_eq_getElem hi]; rfl
            have := h i _ _ a b
            rw [a, List.getElem?_eq_getElem hi]
            generalize xs[i]'(by rw [ll, List.length_map]; exact hi) = u at *
            cases this
            rfl
          · rw [List.getElem?_eq_none (by rw [ll, List.length_map]; omega), List.getElem?_eq_none (by omega)]
            rfl
        subst ex
        rw [List.length_map] at lc
        have hc := covA_cs hcs
        refine ⟨_, rfl, _, rfl, t, m, cs, rfl, e6, h12, fun x hx => by rw [(hcs x hx).1]; omega, fun h0 H7 s7 => ?_, fun h0 k H7 s7 _ _ => ?_⟩
        · rw [hc.mpr h0, Bool.true_and, List.all_map] at q
          refine ⟨rfl, _, rfl, iteT ?_⟩
          have e7 := s7 _ _ e6
          have s17 := s16.trans s7
          refine ⟨_, rfl, t, rfl, ⟨_, SqL.of e7⟩, fun D2 nD2 => ?_⟩
          refine lc_it (walk_list (K := K) (a := t) (xs := cs.map fun x => V.str (SX.S x))) (fun i H6 => Same H7 H6 ∧ H6 D2 = some (.lst (((cs.map fun x => decide (lk ga gb sa sb x = .sm)).take i).map V.bl))) ⟨same_upd nD2, upd_same⟩ (fun i H6 _ ⟨s6, _⟩ => SqL.of (s6 _ _ e7)) ?_ ?_
          · rintro j z H8 H9 hj ⟨s8, eD2⟩ ⟨rfl, hz⟩
            rw [List.getElem?_map] at hz
            obtain ⟨x, hx, rfl⟩ := Option.map_eq_some_iff.mp hz
            obtain ⟨lx, sx⟩ := hcs x (List.mem_of_getElem? hx)
            refine ⟨rfl, yesT ?_⟩
            refine ⟨_, rfl, _, rfl, _, rfl, pa, pb, m, ga, gb, na, nb, sa, sb, x, rfl, hT1.same ((s6.trans s7).trans s8), lx, fun H10 s10 => ?_⟩
            refine ⟨rfl, _, s10 _ _ eD2, ?_, fun y o e => ?_, ?_⟩
            · rw [List.length_map, List.length_take, List.length_map]
              exact big_lt (by omega)
            · rw [upd_ne (ne_of_none e nD2)]
              exact s10 _ _ (s8 _ _ e)
            · rw [upd_same, List.take_add_one, List.getElem?_map, hx, List.map_append]
              show some (HO.lst (_ ++ [V.bl (decide (V.str (lkT (lk ga gb sa sb x)) = V.str (lkT .sm)))])) = _
              rw [lkT_eq]
              rfl
          · rintro H8 ⟨s8, eD2⟩
            rw [List.take_of_length_le (by rw [List.length_map, List.length_map]; omega)] at eD2
            refine ⟨D2, _, rfl, SqL.of eD2, ?_⟩
            rw [List.all_map]
            exact q H8 (s17.trans s8)
        · rw [Bool.eq_false_iff.mpr (fun z => h0 (hc.mp z)), Bool.false_and] at q
          refine ⟨rfl, _, rfl, iteF ?_⟩
          exact q H7 (s16.trans s7)
      · rw [Bool.eq_false_iff.mpr ha, Bool.false_and] at q
        rw [Bool.eq_false_iff.mpr ha]
        exact ⟨_, rfl, iteT (q H6 s16)⟩
end
section
variable {P : Program} {w : World} {K : PySem.W.Frag} {mg : Str → Option Value} {base : Heap}
variable {C : Addr} {za : Nat → Addr} {zl : Nat → FuncData}
/-! ### all bits, cubes -/
def spAB : Sp := fun vs H Q _ => ∃ (m : Nat), vs = [.int (m : Int)] ∧ m ≤ 12 ∧ ∀ (t : Addr) (H' : Hp), Same H H' → H t = none → H' t = some (.lst (cV ((List.range (2 ^ m)).map (bc m)))) → Q (.ref t) H'
theorem ok__law_all_bits (B : Bl mg) (L : LL K mg C za zl) : FnOk P w K mg base CX0 1 (za 28) (zl 28) ["_law_many"] spAB := by
  refine L.F__law_all_bits.ok sc__law_all_bits (fun vs H Q E h => ?_) (fun cdv A outer s H vs Q E hr h => ?_)
  · obtain ⟨m, rfl, _⟩ := h
    rfl
  obtain ⟨m, rfl, hm, q⟩ := h
  refine ⟨_, (pss_one (ps_ret (pe_lc (own := [("_law_number", 1)]) (by rfl) sc__law_all_bits.nd (pi_range1 (by rfl) B.range (pa_cons (pe_op op_oneShl pe_int (pv 0)) pa_nil)) (blkOk_by (own := [("_law_number", 1)]) (N := ["_law_many", "_law_number", "_law_place"]) (sc := defScope s__law_all_bits) (by decide +kernel)) (fun _ _ _ _ _ => pg_name (i := 1) sc__law_all_bits.nd rfl (Or.inr rfl)) (fun _ _ _ _ _ => pts_nil) (fun _ _ _ _ _ => (pe_bmKX (K := K) PySem.F.plainAttrs_str PySem.F.slot_str_join PySem.F.type_str_join (mt_joinKX (K := K)) pe_str (pa_cons (pe_lc (own := [("_law_place", 2)]) (by rfl) sc__law_all_bits.nd (pi_range3 (by rfl) B.range (pa_cons (pe_op op_sub (pv 0) pe_int) (pa_cons (pe_un un_neg pe_int) (pa_cons (pe_un un_neg pe_int) pa_nil)))) (blkOk_by (own := [("_law_place", 2)]) (N := ["_law_many", "_law_number", "_law_place"]) (sc := ({ kind := ScopeKind.function, names := [(".0", NameKind.local), ("_law_number", NameKind.cell), ("range", NameKind.globalImplicit), ("_law_many", NameKind.cell)], isGenerator := false, isCoroutine := false } : Scope)) (by decide +kernel)) (fun _ _ _ _ _ => pg_name (i := 2) sc__law_all_bits.nd rfl (Or.inl rfl)) (fun _ _ _ _ _ => pts_nil) (fun _ _ _ _ _ => (pe_callTy call_str_int (by rfl) B.str PyProof.Rows.boot_str (pa_cons (pe_op op_andM (pe_op op_shrN (pv 1) (pv 2)) pe_int) pa_nil)))) pa_nil)))))), ?_⟩
  have b12 : (2 : Nat) ^ m ≤ 4096 := Nat.le_trans (Nat.pow_le_pow_right (by decide) hm) (by decide)
  have c12 : (2 : Int) ^ m = ((2 ^ m : Nat) : Int) := (PySem.W.kbt_cast m).symm
  obtain ⟨N, eN⟩ : ∃ N : Nat, N = 2 ^ m := ⟨_, rfl⟩
  rw [← eN] at b12 c12 q
  refine ⟨_, rfl, m, rfl, rfl, by omega, (N : Int), congrArg (fun x => [V.int x]) c12, by omega, by omega, fun D nD => ?_⟩
  rw [Int.toNat_natCast]
  refine lc_it (walk_range (lo := 0) (n := N)) (fun j H6 => Same H H6 ∧ H6 D = some (.lst ((List.range j).map fun n => V.str (SX.S (bc m n))))) ⟨same_upd nD, upd_same⟩ (fun _ _ _ _ => trivial) ?_ ?_
  · rintro j z H6 H7 hj ⟨s6, eD⟩ ⟨rfl, rfl⟩
    show gName _ (V.int (0 + ((j : Nat) : Int))) _ _ _
    rw [show (0 : Int) + ((j : Nat) : Int) = ((j : Nat) : Int) by omega]
    dsimp only [gName]
    refine ⟨rfl, yesT ?_⟩
    refine ⟨rfl, _, rfl, _, _, rfl, rfl, _, rfl, _, rfl, _, _, _, ((m : Int) - 1 - -1).toNat, rfl, RgC.neg (by omega) (by omega) (by decide) (by decide), fun D2 nD2 => ?_⟩
    rw [show ((m : Int) - 1 - -1).toNat = m by omega]
    have sD2 := same_upd (o := .lst []) nD2
    refine lc_it (walk_rangeC (n := m)) (fun i Ha => Same H7 Ha ∧ Ha D2 = some (.lst ((((bc m j).take i).map fun c => SX.S [c]).map V.str))) ⟨sD2, upd_same⟩ (fun _ _ _ _ => trivial) ?_ ?_
    · rintro i z Ha Hb hi ⟨sa, e2⟩ ⟨rfl, rfl⟩
      show gName _ (V.int ((m : Int) - 1 + (i : Nat) * (-1))) _ _ _
      rw [place46 hi]
      dsimp only [gName]
      refine ⟨rfl, yesT ?_⟩
      refine ⟨_, rfl, _, rfl, _, m - 1 - i, rfl, rfl, _, 1, rfl, rfl, ?_⟩
      have hb : ((j : Int) / 2 ^ (m - 1 - i) % 2 ^ 1) = ((j / 2 ^ (m - 1 - i) % 2 : Nat) : Int) := by
        have e1 : (2 : Int) ^ (m - 1 - i) = ((2 ^ (m - 1 - i) : Nat) : Int) := (PySem.W.kbt_cast _).symm
        rw [e1]
        omega
      rw [hb]
      have gi : (bc m j)[i]? = some (48 + j / 2 ^ (m - 1 - i) % 2) := by
        unfold bc
        rw [List.getElem?_map, List.getElem?_range hi]
        rfl
      have d2 : j / 2 ^ (m - 1 - i) % 2 < 2 := by omega
      generalize j / 2 ^ (m - 1 - i) % 2 = d at *
      have st : Str.ofString (toString ((d : Nat) : Int)) = SX.S [48 + d] ∧ ((d : Nat) : Int).natAbs.log2 < 1920 := by
        have hd : d = 0 ∨ d = 1 := by omega
        rcases hd with rfl | rfl <;> exact ⟨by decide +kernel, by decide⟩
      refine ⟨_, rfl, st.2, ?_⟩
      rw [st.1]
      refine ⟨_, e2, ?_, fun y o e => ?_, ?_⟩
      · rw [List.length_map, List.length_map, List.length_take]
        exact Nat.lt_of_le_of_lt (Nat.min_le_left _ _) (big_lt (by omega))
      · rw [upd_ne (ne_of_none e nD2)]
        exact sa _ _ e
      · rw [upd_same, List.take_add_one, gi, List.map_append, List.map_append]
        rfl
    rintro Ha ⟨sa, e2⟩
    have lb : (bc m j).length = m := bc_len m j
    rw [List.take_of_length_le (by omega)] at e2
    refine ⟨_, D2, _, rfl, rfl, .inl (SqL.of e2), join_z (bc m j) (by omega), ?_⟩
    rw [join_1]
    refine ⟨_, sa _ _ eD, ?_, fun y o e => ?_, ?_⟩
    · rw [List.length_map, List.length_range]
      exact big_lt (by omega)
    · rw [upd_ne (ne_of_none e nD)]
      exact sa _ _ (s6 _ _ e)
    · rw [upd_same, List.range_succ, List.map_append]
      rfl
  rintro H3 ⟨s3, eD⟩
  refine q D H3 s3 nD ?_
  rw [eD]
  unfold cV
  rw [List.map_map]
  rfl
def spIsC : Sp := fun vs H Q _ => ∃ (G : List Nat) (m : Nat) (v : V) (o : Option (List Nat)), vs = [v, .str (SX.S G), .int (m : Int)] ∧ Thg H v o ∧ G.length ≤ 20 ∧ ∀ H', Same H H' → Q (.bl (isT G m o)) H'
theorem ok__law_is_cube (B : Bl mg) (L : LL K mg C za zl) : FnOk P w K mg base CX0 1 (za 29) (zl 29) ["_law_thing", "_law_signs", "_law_many"] spIsC := by
  refine L.F__law_is_cube.ok sc__law_is_cube (fun vs H Q E h => ?_) (fun cdv A outer s H vs Q E hr h => ?_)
  · obtain ⟨G, m, v, o, rfl, _⟩ := h
    rfl
  obtain ⟨G, m, v, o, rfl, hv, hG, q⟩ := h
  refine ⟨_, (pss_one (ps_ret (pe_and (pe_callB call_isi (by rfl) B.isinstance boot_isinstance (pa_cons (pv 0) (pa_cons (pe_bltn (v := .ty "str") (by rfl) B.str PyProof.Rows.boot_str rfl) pa_nil))) (pe_and (pe_cmpR op_eq (pe_callB call_len_str (by rfl) B.len PySem.boot_len (pa_cons (pv 0) pa_nil)) (pv 2) (nomark _)) (pe_one (pe_callB (cr_all rfl) (by rfl) B.all boot_all (pa_cons (pe_lc (own := [("_law_sign", 3)]) (by rfl) sc__law_is_cube.nd (pi_str (pv 0)) (blkOk_by (own := [("_law_sign", 3)]) (N := ["_law_thing", "_law_signs", "_law_many", "_law_sign"]) (sc := defScope s__law_is_cube) (by decide +kernel)) (fun _ _ _ _ _ => pg_name (i := 3) sc__law_is_cube.nd rfl (Or.inl rfl)) (fun _ _ _ _ _ => pts_nil) (fun _ _ _ _ _ => (pe_cmpR op_in_sign (pv 3) (pv 1) (by rfl)))) pa_nil))))))), ?_⟩
  cases hv with
  | non => exact ⟨_, rfl, _, _, _, _, _, rfl, .ty _, .base .non, kit_ty (by decide +kernel : kitB "NoneType" "str" = some false), _, rfl, iteF (q H (Same.refl _))⟩
  | int i => exact ⟨_, rfl, _, _, _, _, _, rfl, .ty _, .base (.int _), kit_ty (by decide +kernel : kitB "int" "str" = some false), _, rfl, iteF (q H (Same.refl _))⟩
  | bl b => exact ⟨_, rfl, _, _, _, _, _, rfl, .ty _, .base (.bl _), kit_ty (by decide +kernel : kitB "bool" "str" = some false), _, rfl, iteF (q H (Same.refl _))⟩
  | tup e => exact ⟨_, rfl, _, _, _, _, _, rfl, .ty _, ty_tup (SqT.of e), kit_ty (by decide +kernel : kitB "tuple" "str" = some false), _, rfl, iteF (q H (Same.refl _))⟩
  | lst e => exact ⟨_, rfl, _, _, _, _, _, rfl, .ty _, ty_lst (SqL.of e), kit_ty (by decide +kernel : kitB "list" "str" = some false), _, rfl, iteF (q H (Same.refl _))⟩
  | @str x hx =>
    refine ⟨_, rfl, _, _, _, _, _, rfl, .ty _, .base (.str _), kit_ty (by decide +kernel : kitB "str" "str" = some true), _, rfl, iteT ?_⟩
    refine ⟨_, rfl, _, rfl, zS (by omega), ?_⟩
    rw [SX.S_len]
    refine ⟨_, rfl, rfl, _, rfl, ite2 (fun z => ?_) (fun z => ?_)⟩
    · have lx : x.length = m := by
        have := V.int.inj (of_decide_eq_true z)
        omega
      refine ⟨_, rfl, SX.S x, rfl, fun D nD => ?_⟩
      refine lc_it (walk_S (x := x)) (fun i H6 => Same H H6 ∧ H6 D = some (.lst (((x.map fun c => decide (c ∈ G)).take i).map V.bl))) ⟨same_upd nD, upd_same⟩ (fun _ _ _ _ => trivial) ?_ ?_
      · rintro i v H6 H7 hi ⟨s6, eD⟩ ⟨rfl, c, hc, rfl⟩
        refine ⟨rfl, yesT ?_⟩
        refine ⟨_, rfl, _, rfl, c, _, rfl, rfl, ?_⟩
        refine ⟨_, eD, ?_, fun y o e => ?_, ?_⟩
        · rw [List.length_map, List.length_take, List.length_map]
          exact Nat.lt_of_le_of_lt (Nat.min_le_right _ _) (small1000 (by omega))
        · rw [upd_ne (ne_of_none e nD)]
          exact s6 _ _ e
        · rw [upd_same, List.take_add_one, List.getElem?_map, hc, List.map_append]
          rfl
      · rintro H6 ⟨s6, eD⟩
        rw [List.take_of_length_le (by rw [List.length_map]; exact Nat.le_refl _)] at eD
        refine ⟨D, _, rfl, SqL.of eD, ?_⟩
        have e : (x.map fun c => decide (c ∈ G)).all id = isT G m (some x) := by
          show _ = (decide (x.length = m) && x.all fun c => decide (c ∈ G))
          rw [decide_eq_true lx, List.all_map]
          rfl
        rw [e]
        exact q H6 s6
    · have lx : ¬ x.length = m := fun y => z (decide_eq_true (by rw [y]))
      have e : isT G m (some x) = false := by
        show (decide (x.length = m) && x.all fun c => decide (c ∈ G)) = false
        rw [decide_eq_false lx]
        rfl
      have q := q H (Same.refl _)
      rw [e] at q
      exact q
end
section
variable {P : Program} {w : World} {K : PySem.W.Frag} {mg : Str → Option Value} {base : Heap}
variable {C : Addr} {za : Nat → Addr} {zl : Nat → FuncData}
/-! ### what is due -/
theorem in62 (a b : Nat) : inV (.str (SX.S [a])) [.str (Str.ofString "-"), .str (SX.S [b])] = decide (a = 45 ∨ a = b) := by
  apply Bool.eq_iff_iff.mpr
  rw [mns, show ([.str (SX.S [45]), .str (SX.S [b])] : List V) = ([SX.S [45], SX.S [b]] : List Str).map V.str from rfl, in_strs, decide_eq_true_iff, List.mem_cons, List.mem_singleton]
  exact ⟨fun z => z.imp S1_inj S1_inj, fun z => z.imp (fun e => by rw [e]) (fun e => by rw [e])⟩
theorem dp_ones {H : Hp} : ∀ k : Nat, DpAll K H (List.replicate k (V.int 1)) (List.replicate k (PyData.int 1))
  | 0 => .nil
  | k + 1 => .cons (.int 1) (dp_ones k)
theorem eqv_ones : ∀ k : Nat, PyData.eqv (.list (List.replicate k (PyData.int 1))) (.list []) = decide (k = 0)
  | 0 => rfl
  | _ + 1 => rfl
theorem pl_ones (k : Nat) : (PyData.list (List.replicate k (PyData.int 1))).plain = true ∧ (PyData.list (List.replicate k (PyData.int 1))).depth ≤ 64 := pl_list fun d hd => by
  rw [List.eq_of_mem_replicate hd]
  exact ⟨rfl, by simp [PyData.depth]⟩
def spSD : Sp := fun vs H Q _ => ∃ (b PA1 PB1 : Addr) (m : Nat) (ga gb : List Gt) (na nb sa sb : List (Str × List Nat)) (v : V) (l : Option (List (Option (List Nat)))), vs = [.int (m : Int), .ref PA1, .ref PB1, v] ∧ PrAt b H PA1 ga na ∧ PrAt b H PB1 gb nb ∧ GsOk m ga ∧ GsOk m gb ∧ GvIn (m + ga.length) na ∧ GvIn (m + gb.length) nb ∧ na.length ≤ 4 ∧ nb.length ≤ 4 ∧ ga.length ≤ 40 ∧ gb.length ≤ 40 ∧ 1 ≤ m ∧ m ≤ 12 ∧
  SoOf sa na ∧ SoOf sb nb ∧ Top62 H v l ∧ ∀ (H' : Hp), Same H H' → Q (.bl (showsV m (lk ga gb sa sb) l)) H'
theorem ok__law_same_due (B : Bl mg) (L : LL K mg C za zl) : FnOk P w K mg base CX0 3 (za 30) (zl 30) ["_law_first", "_law_one", "_law_other", "_law_thing"] spSD := by
  have G__law_settled : FnOk P w K mg base CX0 2 (za 22) (zl 22) ["_law_rows", "_law_given_here", "_law_cube"] spSett60 := (ok__law_settled B L).mono (by decide)
  have G__law_is_open : FnOk P w K mg base CX0 2 (za 23) (zl 23) ["_law_told"] spOpen60 := (ok__law_is_open B L).mono (by decide)
  have G__law_all_bits : FnOk P w K mg base CX0 2 (za 28) (zl 28) ["_law_many"] spAB := (ok__law_all_bits B L).mono (by decide)
  have G__law_is_cube : FnOk P w K mg base CX0 2 (za 29) (zl 29) ["_law_thing", "_law_signs", "_law_many"] spIsC := (ok__law_is_cube B L).mono (by decide)
  refine L.F__law_same_due.ok sc__law_same_due (fun vs H Q E h => ?_) (fun cdv A outer s H vs Q E hr h => ?_)
  · obtain ⟨b, PA1, PB1, m, ga, gb, na, nb, sa, sb, v, l, rfl, _⟩ := h
    rfl
  obtain ⟨b, PA1, PB1, m, ga, gb, na, nb, sa, sb, v, l, rfl, hA, hB, okA, okB, gA, gB, naL, nbL, gaL, gbL, m1, m12, oa, ob, hv, q⟩ := h
  refine ⟨_, (pss_cons (ps_if (PW.pt (pw_or (pt_not (pt_val (pe_callB call_isi (by rfl) B.isinstance boot_isinstance (pa_cons (pv 3) (pa_cons (pe_bltn (v := .ty "list") (by rfl) B.list PyProof.Rows.boot_list rfl) pa_nil))))) (pw_or1 (pt_not (pt_val (pe_callB (cr_all rfl) (by rfl) B.all boot_all (pa_cons (pe_lc (own := [("_law_cube", 4)]) (by rfl) sc__law_same_due.nd (pi_list (pv 3)) (blkOk_by (own := [("_law_cube", 4)]) (N := ["_law_first", "_law_one", "_law_other", "_law_thing", "_law_cube", "_law_told", "_law_bits", "_law_sign", "_law_bit"]) (sc := defScope s__law_same_due) (by decide +kernel)) (fun _ _ _ _ _ => pg_name (i := 4) sc__law_same_due.nd rfl (Or.inl rfl)) (fun _ _ _ _ _ => pts_nil) (fun _ _ _ _ _ => (pe_call G__law_is_cube hr (by rfl) L.m__law_is_cube L.F__law_is_cube.kp L.b__law_is_cube .nil pass0 (pa_cons (pv 4) (pa_cons pe_str (pa_cons (pv 0) pa_nil)))))) pa_nil))))))) (pss_one (ps_ret pe_bl)) pss_nil)
    (pss_cons (ps_for PassesOwn.never rfl (pi_list (pe_sortSetT rfl (by rfl) L.z_sorted (by rfl) L.z_set (pv 3))) (pg_name (i := 4) sc__law_same_due.nd rfl (.inl rfl)) (pss_cons (ps_set (i := 5) sc__law_same_due.nd rfl (.inl rfl) (pe_call G__law_settled hr (by rfl) L.m__law_settled L.F__law_settled.kp L.b__law_settled .nil pass0 (pa_cons (pe_ix ix_tup (pv 1) pe_int (fun _ _ => rfl)) (pa_cons (pe_ix ix_tup (pv 1) pe_int (fun _ _ => rfl)) (pa_cons (pv 4) pa_nil)))))
    (pss_one (ps_if (PW.pt (pw_or (pt_val (pe_call G__law_is_open hr (by rfl) L.m__law_is_open L.F__law_is_open.kp L.b__law_is_open .nil pass0 (pa_cons (pv 5) pa_nil))) (pw_or1 (pt_cmpR (op_nePl hr.units) (pv 5) (pe_call G__law_settled hr (by rfl) L.m__law_settled L.F__law_settled.kp L.b__law_settled .nil pass0 (pa_cons (pe_ix ix_tup (pv 2) pe_int (fun _ _ => rfl)) (pa_cons (pe_ix ix_tup (pv 2) pe_int (fun _ _ => rfl)) (pa_cons (pv 4) pa_nil)))) (nomark _))))) (pss_one (ps_ret pe_bl)) pss_nil))))
    (pss_cons (ps_for PassesOwn.never rfl (pi_list (pe_call G__law_all_bits hr (by rfl) L.m__law_all_bits L.F__law_all_bits.kp L.b__law_all_bits .nil pass0 (pa_cons (pv 0) pa_nil))) (pg_name (i := 6) sc__law_same_due.nd rfl (.inr rfl)) (pss_one (ps_if (pt_not (pt_val (pe_callB (cr_any rfl) (by rfl) B.any boot_any (pa_cons (pe_lc (own := [("_law_cube", 4)]) (by rfl) sc__law_same_due.nd (pi_list (pv 3)) (blkOk_by (own := [("_law_cube", 4)]) (N := ["_law_first", "_law_one", "_law_other", "_law_thing", "_law_cube", "_law_told", "_law_bits", "_law_sign", "_law_bit"]) (sc := defScope s__law_same_due) (by decide +kernel)) (fun _ _ _ _ _ => pg_name (i := 4) sc__law_same_due.nd rfl (Or.inl rfl)) (fun _ _ _ _ _ => pts_nil) (fun _ _ _ _ _ => (pe_cmpR (op_eqPlK (K := K) (Room.units hr)) (pe_lc (own := [("_law_sign", 7), ("_law_bit", 8)]) (g := gTup K 2 (gCons (gName 7) (gCons (gName 8) gNil))) (by rfl) sc__law_same_due.nd (pi_zx (by rfl) B.zip (pa_cons (pv 4) (pa_cons (pv 6) pa_nil))) (blkOk_by (own := [("_law_sign", 7), ("_law_bit", 8)]) (N := ["_law_first", "_law_one", "_law_other", "_law_thing", "_law_cube", "_law_told", "_law_bits", "_law_sign", "_law_bit"]) (sc := ({ kind := ScopeKind.function, names := [(".0", NameKind.local), ("_law_cube", NameKind.local), ("zip", NameKind.globalImplicit), ("_law_bits", NameKind.cell)], isGenerator := false, isCoroutine := false } : Scope)) (by decide +kernel)) (fun _ _ _ _ _ => pg_tup rfl (pgs_cons (pg_name (i := 7) sc__law_same_due.nd rfl (Or.inl rfl) (.inr rfl)) (pgs_cons (pg_name (i := 8) sc__law_same_due.nd rfl (Or.inl rfl) (.inr rfl)) pgs_nil))) (fun _ _ _ _ _ => pts_one (pt_cmpR (op_notIn_seqK (K := K)) (pv 7) (pe_tup (pa_cons pe_str (pa_cons (pv 8) pa_nil))) (by rfl))) (fun _ _ _ _ _ => pe_int)) (pe_lst pa_nil) (nomark _)))) pa_nil)))) (pss_one (ps_ret pe_bl)) pss_nil)))
    (pss_one (ps_ret pe_bl))))), ?_⟩
  obtain ⟨RA, FA, eA, rA, fA⟩ := id hA
  obtain ⟨RB, FB, eB, rB, fB⟩ := id hB
  cases hv with
  | non => exact ⟨_, rfl, _, _, _, _, _, rfl, .ty _, .base .non, kit_ty (by decide +kernel : kitB "NoneType" "list" = some false), _, rfl, iteT (q H (Same.refl _))⟩
  | int i => exact ⟨_, rfl, _, _, _, _, _, rfl, .ty _, .base (.int _), kit_ty (by decide +kernel : kitB "int" "list" = some false), _, rfl, iteT (q H (Same.refl _))⟩
  | bl b => exact ⟨_, rfl, _, _, _, _, _, rfl, .ty _, .base (.bl _), kit_ty (by decide +kernel : kitB "bool" "list" = some false), _, rfl, iteT (q H (Same.refl _))⟩
  | str x => exact ⟨_, rfl, _, _, _, _, _, rfl, .ty _, .base (.str _), kit_ty (by decide +kernel : kitB "str" "list" = some false), _, rfl, iteT (q H (Same.refl _))⟩
  | tup e => exact ⟨_, rfl, _, _, _, _, _, rfl, .ty _, ty_tup (SqT.of e), kit_ty (by decide +kernel : kitB "tuple" "list" = some false), _, rfl, iteT (q H (Same.refl _))⟩
  | @lst t xs os e ll h lc =>
    refine ⟨_, rfl, _, _, _, _, _, rfl, .ty _, ty_lst (SqL.of e), kit_ty (by decide +kernel : kitB "list" "list" = some true), _, rfl, iteF ?_⟩
    refine ⟨_, rfl, t, rfl, ⟨_, SqL.of e⟩, fun D nD => ?_⟩
    refine lc_it (walk_list (K := K) (a := t) (xs := xs)) (fun i H6 => Same H H6 ∧ H6 D = some (.lst (((os.map (isT [48, 49, 45] m)).take i).map V.bl))) ⟨same_upd nD, upd_same⟩ (fun i H6 _ ⟨s6, _⟩ => SqL.of (s6 _ _ e)) ?_ ?_
    · rintro j z H6 H7 hj ⟨s6, eD⟩ ⟨rfl, hz⟩
      have ho : os[j]? = some (os[j]'(by omega)) := List.getElem?_eq_getElem (by omega)
      have ht := (h j z _ hz ho).same s6
      generalize os[j]'(by omega) = o at *
      refine ⟨rfl, yesT ?_⟩
      refine ⟨_, rfl, _, rfl, [48, 49, 45], m, _, o, by rw [s01m]; rfl, ht, by decide, fun H8 s8 => ?_⟩
      refine ⟨_, s8 _ _ eD, ?_, fun y o e => ?_, ?_⟩
      · rw [List.length_map, List.length_take]
        exact big_lt (by omega)
      · rw [upd_ne (ne_of_none e nD)]
        exact s8 _ _ (s6 _ _ e)
      · rw [upd_same, List.take_add_one, List.getElem?_map, ho, List.map_append]
        rfl
    · rintro H6 ⟨s6, eD⟩
      rw [List.take_of_length_le (by rw [List.length_map]; omega)] at eD
      refine ⟨D, _, rfl, SqL.of eD, ?_⟩
      rw [List.all_map, show (id ∘ isT [48, 49, 45] m) = isT [48, 49, 45] m from rfl]
      have e6 := s6 _ _ e
      replace q : ∀ H', Same H H' → Q (.bl (os.all (isT [48, 49, 45] m) && (covA m os && os.all fun o => decide (lk ga gb sa sb (o.getD []) = .sm)))) H' := q
      by_cases ha : os.all (isT [48, 49, 45] m) = true
      · rw [ha, Bool.true_and] at q
        rw [ha]
        refine ⟨_, rfl, iteF ?_⟩
        dsimp only [tNext]
        try simp only [L2.start, List.map_cons, List.map_nil, List.length_cons, List.length_nil, List.replicate_succ, List.replicate_zero, List.cons_append, List.nil_append, List.set_cons_succ, List.set_cons_zero, Nat.reduceAdd, Nat.reduceSub, Nat.zero_add]
        obtain ⟨cs, rfl, hcs⟩ := isT_cs ha
        have ex : xs = cs.map fun x => V.str (SX.S x) := by
          apply List.ext_getElem?
          intro i
          rw [List.getElem?_map]
          by_cases hi : i < cs.length
          · have a : xs[i]? = some (xs[i]'(by rw [ll, List.length_map]; exact hi)) := List.getElem?_eq_getElem _
            have b : (cs.map some)[i]? = some (some cs[i]) := by rw [List.getElem?_map, List.getElem?_eq_getElem hi]; rfl
            have := h i _ _ a b
            rw [a, List.getElem?_eq_getElem hi]
            generalize xs[i]'(by rw [ll, List.length_map]; exact hi) = u at *
            cases this
            rfl
          · rw [List.getElem?_eq_none (by rw [ll, List.length_map]; omega), List.getElem?_eq_none (by omega)]
            rfl
        subst ex
        rw [List.length_map] at lc
        rw [List.all_map] at q
        have hL : ∀ x, lk ga gb sa sb x = _ := fun x => lk_eq (ga := ga) (gb := gb) (sa := sa) (sb := sb) (x := x)
        generalize hlk : lk ga gb sa sb = L' at q hL
        replace q : ∀ H', Same H H' → Q (.bl (covA m (cs.map some) && cs.all fun x => decide (L' x = .sm))) H' := q
        have inj : ∀ {y : Str}, y ∈ cs.map SX.S → ∃ x, x ∈ cs ∧ y = SX.S x := fun {y} hy => by
          obtain ⟨x, hx, rfl⟩ := List.mem_map.mp hy
          exact ⟨x, hx, rfl⟩
        refine ⟨_, rfl, t, cs.map SX.S, rfl, by rw [List.map_map]; exact SqL.of e6, by rw [List.length_map]; omega, fun ys p hys lys np => ?_⟩
        have sp := s6.trans (same_upd (o := .lst (ys.map V.str)) np)
        have ep : (upd H6 p (.lst (ys.map V.str))) p = some (.lst (ys.map V.str)) := upd_same
        have e7 := (same_upd (o := .lst (ys.map V.str)) np) _ _ e6
        generalize upd H6 p (.lst (ys.map V.str)) = H7 at *
        refine ⟨p, rfl, ⟨_, SqL.of ep⟩, ?_⟩
        refine for_it (walk_list (K := K) (a := p) (xs := ys.map V.str)) (fun j σ H9 => ∃ y4 y5 : Option V, σ = [some (.int (m : Int)), some (.ref PA1), some (.ref PB1), some (.ref t), y4, y5, none, none, none] ∧ Same H7 H9 ∧ ∀ i, i < j → ∀ x, ys[i]? = some (SX.S x) → L' x = .sm) ⟨_, _, rfl, Same.refl _, fun i hi => absurd hi (Nat.not_lt_zero i)⟩ (fun j σ H9 _ ⟨_, _, _, s9, _⟩ => SqL.of (s9 _ _ ep)) ?_ ?_
        · rintro j v σ H9 H10 hj ⟨y4, y5, rfl, s9, hb⟩ ⟨rfl, hz⟩
          rw [List.getElem?_map] at hz
          obtain ⟨y, hy, rfl⟩ := Option.map_eq_some_iff.mp hz
          obtain ⟨x, hx, rfl⟩ := inj ((hys y).mp (List.mem_of_getElem? hy))
          obtain ⟨lx, sx⟩ := hcs x hx
          have s09 := sp.trans s9
          dsimp only [gName]
          try simp only [L2.start, List.map_cons, List.map_nil, List.length_cons, List.length_nil, List.replicate_succ, List.replicate_zero, List.cons_append, List.nil_append, List.set_cons_succ, List.set_cons_zero, Nat.reduceAdd, Nat.reduceSub, Nat.zero_add]
          refine ⟨_, rfl, PA1, _, _, _, rfl, rfl, .inl (.inl (s09 _ _ eA)), (atI_nat (j := 0) rfl), _, rfl, PA1, _, _, _, rfl, rfl, .inl (.inl (s09 _ _ eA)), (atI_nat (j := 1) rfl), _, rfl, RA, FA, b, m, ga, na, x, rfl, rA.same s09, okA, fA.keep (Keep.ofSame s09), gA, naL, lx, sx, by omega, by omega, fun n1 t1 H11 pn1 pw1 s11 S1 => ?_⟩
          obtain rfl : n1 = sa := rows_one gA.1 pn1 pw1 oa.1 oa.2
          dsimp only [gName]
          try simp only [L2.start, List.map_cons, List.map_nil, List.length_cons, List.length_nil, List.replicate_succ, List.replicate_zero, List.cons_append, List.nil_append, List.set_cons_succ, List.set_cons_zero, Nat.reduceAdd, Nat.reduceSub, Nat.zero_add]
          have hx' := hL x
          have s011 := s09.trans s11
          have hno : L' x ≠ .sm → ∀ H', Same H H' → Q (.bl false) H' := fun hn => by
            rw [show (cs.all fun x => decide (L' x = .sm)) = false from List.all_eq_false.mpr ⟨x, hx, by rw [decide_eq_false hn]; decide⟩, Bool.and_false] at q
            exact q
          refine ⟨_, rfl, t1, _, rfl, S1.rw, by rw [setR_len, pn1.length_eq]; exact naL, fun H12 s12 => ?_⟩
          refine ⟨_, rfl, ite2 (fun z => ?_) (fun z => ?_)⟩
          · rw [if_pos (.inl z)] at hx'
            exact hno (by rw [hx']; decide) H12 (s011.trans s12)
          have s012 := s011.trans s12
          refine ⟨_, rfl, _, rfl, PB1, _, _, _, rfl, rfl, .inl (.inl (s012 _ _ eB)), (atI_nat (j := 0) rfl), _, rfl, PB1, _, _, _, rfl, rfl, .inl (.inl (s012 _ _ eB)), (atI_nat (j := 1) rfl), _, rfl, RB, FB, b, m, gb, nb, x, rfl, rB.same s012, okB, fB.keep (Keep.ofSame s012), gB, nbL, lx, sx, by omega, by omega, fun n2 t2 H13 pn2 pw2 s13 S2 => ?_⟩
          obtain rfl : n2 = sb := rows_one gB.1 pn2 pw2 ob.1 ob.2
          have D1 := (S1.rw.same (s12.trans s13)).dp (K := K)
          have D2 := S2.rw.dp (K := K)
          have s013 := s012.trans s13
          refine ⟨_, _, D1, D2, (pl_rw _).1, (pl_rw _).1, (pl_rw _).2, ?_⟩
          by_cases he : PyData.eqv (rwD (setR (sgs x ga) n1)) (rwD (setR (sgs x gb) n2)) = true
          · have ee := eqv_rw _ _ he
            refine ⟨_, rfl, ite2 (fun z2 => ?_) (fun _ => ?_)⟩
            · rw [he] at z2
              cases z2
            refine ⟨_, _, rfl, ((s9.trans s11).trans s12).trans s13, fun i hi x' hx2 => ?_⟩
            by_cases ij : i = j
            · subst ij
              rw [hy] at hx2
              obtain rfl := S_inj (Option.some.inj hx2)
              rw [if_neg (fun w => w.elim z (fun w => z (by rw [ee]; exact w))), if_pos he] at hx'
              exact hx'
            · exact hb i (by omega) x' hx2
          · refine ⟨_, rfl, ite2 (fun _ => ?_) (fun z2 => ?_)⟩
            · refine hno (fun w => ?_) H13 s013
              rw [hx', if_neg he] at w
              split at w <;> cases w
            · rw [Bool.eq_false_iff.mpr he] at z2
              exact absurd rfl z2
        · rintro σ H9 ⟨y4, y5, rfl, s9, hb⟩
          rw [List.length_map] at hb
          have hall : (cs.all fun x => decide (L' x = .sm)) = true := List.all_eq_true.mpr fun x hx => by
            obtain ⟨i, hi, ei⟩ := List.getElem_of_mem ((hys (SX.S x)).mpr (List.mem_map.mpr ⟨x, hx, rfl⟩))
            exact decide_eq_true (hb i hi x (by rw [List.getElem?_eq_getElem hi, ei]))
          rw [hall, Bool.and_true] at q
          have s09 := sp.trans s9
          have e9 := s9 _ _ e7
          dsimp only [tSeq]
          refine ⟨_, rfl, m, rfl, m12, fun u H10 s10 nu eu => ?_⟩
          have s010 := s09.trans s10
          have e10 := s10 _ _ e9
          refine ⟨u, rfl, ⟨_, SqL.of eu⟩, ?_⟩
          refine for_it (walk_list (K := K) (a := u) (xs := cV ((List.range (2 ^ m)).map (bc m)))) (fun j σ H11 => ∃ y4 y5 y6 : Option V, σ = [some (.int (m : Int)), some (.ref PA1), some (.ref PB1), some (.ref t), y4, y5, y6, none, none] ∧ Same H10 H11 ∧ ∀ i, i < j → (cs.any fun x => cov x (bc m i)) = true) ⟨_, _, _, rfl, Same.refl _, fun i hi => absurd hi (Nat.not_lt_zero i)⟩ (fun j σ H11 _ ⟨_, _, _, _, s11, _⟩ => SqL.of (s11 _ _ eu)) ?_ ?_
          · rintro j v σ H11 H12 hj ⟨y4, y5, y6, rfl, s11, hb2⟩ ⟨rfl, hz⟩
            have lr : (cV ((List.range (2 ^ m)).map (bc m))).length = 2 ^ m := by rw [cV_len, List.length_map, List.length_range]
            rw [lr] at hj
            unfold cV at hz
            rw [List.getElem?_map, List.getElem?_map, List.getElem?_range hj] at hz
            cases hz
            dsimp only [gName]
            try simp only [L2.start, List.map_cons, List.map_nil, List.length_cons, List.length_nil, List.replicate_succ, List.replicate_zero, List.cons_append, List.nil_append, List.set_cons_succ, List.set_cons_zero, Nat.reduceAdd, Nat.reduceSub, Nat.zero_add]
            have e11 := s11 _ _ e10
            refine ⟨_, rfl, t, rfl, ⟨_, SqL.of e11⟩, fun D2 nD2 => ?_⟩
            refine lc_it (walk_list (K := K) (a := t) (xs := cs.map fun x => V.str (SX.S x))) (fun i H13 => Same H12 H13 ∧ H13 D2 = some (.lst (((cs.map fun x => cov x (bc m j)).take i).map V.bl))) ⟨same_upd nD2, upd_same⟩ (fun i H13 _ ⟨s13, _⟩ => SqL.of (s13 _ _ e11)) ?_ ?_
            · rintro i z H13 H14 hi ⟨s13, eD2⟩ ⟨rfl, hz⟩
              rw [List.getElem?_map] at hz
              obtain ⟨x, hx, rfl⟩ := Option.map_eq_some_iff.mp hz
              obtain ⟨lx, sx⟩ := hcs x (List.mem_of_getElem? hx)
              refine ⟨rfl, yesT ?_⟩
              have lb := bc_len m j
              generalize hbb : bc m j = bb at *
              refine ⟨_, rfl, _, rfl, SX.S x, SX.S bb, rfl, fun D3 nD3 => ?_⟩
              refine lc_it (walk_zS (x := x) (y := bb) lx lb) (fun i H15 => Same H14 H15 ∧ ∃ k : Nat, k ≤ i ∧ (k = 0 ↔ (((x.zip bb).take i).all fun p => decide (p.1 = 45 ∨ p.1 = p.2)) = true) ∧ H15 D3 = some (.lst (List.replicate k (V.int 1)))) ⟨same_upd nD3, 0, Nat.le_refl _, ⟨fun _ => rfl, fun _ => rfl⟩, upd_same⟩ (fun _ _ _ _ => trivial) ?_ ?_
              · rintro i3 v3 H15 H16 hi3 ⟨s15, k, k1, k2, eD3⟩ ⟨T, u1, u2, rfl, nT, rfl, e1, e2⟩
                obtain ⟨c1, f1, rfl⟩ := Option.map_eq_some_iff.mp e1
                obtain ⟨c2, f2, rfl⟩ := Option.map_eq_some_iff.mp e2
                have sT := same_upd (o := .tup [.str (SX.S [c1]), .str (SX.S [c2])]) nT
                have tk : (x.zip bb).take (i3 + 1) = (x.zip bb).take i3 ++ [(c1, c2)] := by
                  rw [List.take_add_one, (List.getElem?_zip_eq_some (z := (c1, c2))).mpr ⟨f1, f2⟩]
                  rfl
                refine ⟨T, _, rfl, .inl (.inl upd_same), rfl, _, _, rfl, _, _, rfl, rfl, rfl, ?_⟩
                refine ⟨_, rfl, _, rfl, (by show 2 ≤ sizeLine; decide), fun U nU => ?_⟩
                have sU := sT.trans (same_upd (o := .tup [.str (Str.ofString "-"), .str (SX.S [c2])]) nU)
                refine ⟨U, _, rfl, .inr (.inl (.inl upd_same)), rfl, rfl, ?_⟩
                rw [if_pos rfl, in62, tk]
                simp only [List.all_append, List.all_cons, List.all_nil, Bool.and_true, Bool.and_eq_true]
                by_cases hc : c1 = 45 ∨ c1 = c2
                · rw [decide_eq_true hc]
                  refine ⟨_, rfl, ite2 (fun z => by cases z) (fun _ => ?_)⟩
                  refine ⟨fun y o e => sU _ _ (s15 _ _ e), k, Nat.le_succ_of_le k1, ?_, sU _ _ eD3⟩
                  rw [k2]
                  simp
                · rw [decide_eq_false hc]
                  refine ⟨_, rfl, ite2 (fun _ => ?_) (fun z => absurd rfl z)⟩
                  refine ⟨_, sU _ _ eD3, ?_, fun y o e => ?_, k + 1, Nat.succ_le_succ k1, ?_, ?_⟩
                  · rw [List.length_replicate]
                    exact big_lt (by omega)
                  · rw [upd_ne (ne_of_none e nD3)]
                    exact sU _ _ (s15 _ _ e)
                  · simp
                  · rw [upd_same, List.replicate_succ']
              rintro H15 ⟨s15, k, k1, k2, eD3⟩
              rw [List.take_of_length_le (by rw [List.length_zip]; omega)] at k2
              refine ⟨(by show 0 ≤ sizeLine; decide), fun U nU => ?_⟩
              have sU := same_upd (o := .lst []) nU
              refine ⟨_, .list [], .lst (SqL.of (sU _ _ eD3)) (dp_ones k), .lst (SqL.of upd_same) .nil, (pl_ones k).1, rfl, (pl_ones k).2, ?_⟩
              rw [eqv_ones]
              refine ⟨_, sU _ _ (s15 _ _ eD2), ?_, fun y o e => ?_, ?_⟩
              · rw [List.length_map, List.length_take, List.length_map]
                exact big_lt (by omega)
              · rw [upd_ne (ne_of_none e nD2)]
                exact sU _ _ (s15 _ _ (s13 _ _ e))
              · rw [upd_same, List.take_add_one, List.getElem?_map, hx, List.map_append]
                have : decide (k = 0) = cov x bb := by
                  rw [Bool.eq_iff_iff, decide_eq_true_iff, k2]
                  rfl
                rw [this]
                rfl
            · rintro H13 ⟨s13, eD2⟩
              rw [List.take_of_length_le (by rw [List.length_map, List.length_map]; omega)] at eD2
              refine ⟨D2, _, rfl, SqL.of eD2, ?_⟩
              rw [List.any_map, show (id ∘ fun x => cov x (bc m j)) = fun x => cov x (bc m j) from rfl]
              by_cases hc : (cs.any fun x => cov x (bc m j)) = true
              · rw [hc]
                refine ⟨_, rfl, iteF ?_⟩
                refine ⟨_, _, _, rfl, s11.trans s13, fun i hi => ?_⟩
                by_cases ij : i = j
                · rw [ij]
                  exact hc
                · exact hb2 i (by omega)
              · rw [Bool.eq_false_iff.mpr hc]
                refine ⟨_, rfl, iteT ?_⟩
                rw [show covA m (cs.map some) = false from List.all_eq_false.mpr ⟨j, List.mem_range.mpr hj, by rw [List.any_map]; exact hc⟩] at q
                exact q H13 (s010.trans (s11.trans s13))
          · rintro σ H11 ⟨y4, y5, y6, rfl, s11, hb2⟩
            rw [cV_len, List.length_map, List.length_range] at hb2
            rw [show covA m (cs.map some) = true from List.all_eq_true.mpr fun n hn => by rw [List.any_map]; exact hb2 n (List.mem_range.mp hn)] at q
            exact q H11 (s010.trans s11)
      · rw [Bool.eq_false_iff.mpr ha, Bool.false_and] at q
        rw [Bool.eq_false_iff.mpr ha]
        exact ⟨_, rfl, iteT (q H6 s6)⟩
end
section
variable {P : Program} {w : World} {K : PySem.W.Frag} {mg : Str → Option Value} {base : Heap}
variable {C : Addr} {za : Nat → Addr} {zl : Nat → FuncData}
theorem lk_hop {m : Nat} {ga gb : List Gt} {na nb sa sb : List (Str × List Nat)} (okA : GsOk m ga) (okB : GsOk m gb) (gA : GvIn (m + ga.length) na) (gB : GvIn (m + gb.length) nb) (oa : SoOf sa na) (ob : SoOf sb nb) : Hop (lk ga gb sa sb) m := fun x lx sx h => lk_open okA okB ⟨gA.1, fun y hy => by
    obtain ⟨i, hi, ei⟩ := List.getElem_of_mem hy
    have := gA.2 i y.1 y.2 (by rw [List.getElem?_eq_getElem hi, ei])
    exact ⟨by omega, this.2⟩⟩ ⟨gB.1, fun y hy => by
    obtain ⟨i, hi, ei⟩ := List.getElem_of_mem hy
    have := gB.2 i y.1 y.2 (by rw [List.getElem?_eq_getElem hi, ei])
    exact ⟨by omega, this.2⟩⟩ oa.1 ob.1 lx sx h
def spUD : Sp := fun vs H Q _ => ∃ (b PA1 PB1 : Addr) (m : Nat) (ga gb : List Gt) (na nb sa sb : List (Str × List Nat)) (v : V) (o : Option (List Nat)), vs = [.int (m : Int), .ref PA1, .ref PB1, v] ∧ PrAt b H PA1 ga na ∧ PrAt b H PB1 gb nb ∧ GsOk m ga ∧ GsOk m gb ∧ GvIn (m + ga.length) na ∧ GvIn (m + gb.length) nb ∧ na.length ≤ 4 ∧ nb.length ≤ 4 ∧ ga.length ≤ 40 ∧ gb.length ≤ 40 ∧ 1 ≤ m ∧ m ≤ 12 ∧
  SoOf sa na ∧ SoOf sb nb ∧ Thg H v o ∧ ∀ (H' : Hp), Same H H' → Q (.bl (unlV m (lk ga gb sa sb) o)) H'
theorem ok__law_unlike_due (B : Bl mg) (L : LL K mg C za zl) : FnOk P w K mg base CX0 3 (za 31) (zl 31) ["_law_first", "_law_one", "_law_other", "_law_thing"] spUD := by
  have G__law_settled : FnOk P w K mg base CX0 2 (za 22) (zl 22) ["_law_rows", "_law_given_here", "_law_cube"] spSett60 := (ok__law_settled B L).mono (by decide)
  have G__law_is_cube : FnOk P w K mg base CX0 2 (za 29) (zl 29) ["_law_thing", "_law_signs", "_law_many"] spIsC := (ok__law_is_cube B L).mono (by decide)
  refine L.F__law_unlike_due.ok sc__law_unlike_due (fun vs H Q E h => ?_) (fun cdv A outer s H vs Q E hr h => ?_)
  · obtain ⟨b, PA1, PB1, m, ga, gb, na, nb, sa, sb, v, o, rfl, _⟩ := h
    rfl
  obtain ⟨b, PA1, PB1, m, ga, gb, na, nb, sa, sb, v, o, rfl, hA, hB, okA, okB, gA, gB, naL, nbL, gaL, gbL, m1, m12, oa, ob, hv, q⟩ := h
  refine ⟨_, (pss_cons (ps_if (pt_not (pt_val (pe_call G__law_is_cube hr (by rfl) L.m__law_is_cube L.F__law_is_cube.kp L.b__law_is_cube .nil pass0 (pa_cons (pv 3) (pa_cons pe_str (pa_cons (pv 0) pa_nil)))))) (pss_one (ps_ret pe_bl)) pss_nil)
    (pss_one (ps_ret (pe_cmpR (op_nePl hr.units) (pe_call G__law_settled hr (by rfl) L.m__law_settled L.F__law_settled.kp L.b__law_settled .nil pass0 (pa_cons (pe_ix ix_tup (pv 1) pe_int (fun _ _ => rfl)) (pa_cons (pe_ix ix_tup (pv 1) pe_int (fun _ _ => rfl)) (pa_cons (pv 3) pa_nil)))) (pe_call G__law_settled hr (by rfl) L.m__law_settled L.F__law_settled.kp L.b__law_settled .nil pass0 (pa_cons (pe_ix ix_tup (pv 2) pe_int (fun _ _ => rfl)) (pa_cons (pe_ix ix_tup (pv 2) pe_int (fun _ _ => rfl)) (pa_cons (pv 3) pa_nil)))) (nomark _))))), ?_⟩
  obtain ⟨RA, FA, eA, rA, fA⟩ := id hA
  obtain ⟨RB, FB, eB, rB, fB⟩ := id hB
  have hL : ∀ x, lk ga gb sa sb x = _ := fun x => lk_eq (ga := ga) (gb := gb) (sa := sa) (sb := sb) (x := x)
  have hop := lk_hop okA okB gA gB oa ob
  generalize hlk : lk ga gb sa sb = L' at q hL hop
  refine ⟨_, rfl, _, rfl, [48, 49], m, v, o, by rw [s01]; rfl, hv, by decide, fun H1 s1 => ?_⟩
  unfold unlV at q
  by_cases hi : isT [48, 49] m o = true
  · rw [hi, Bool.true_and] at q
    rw [hi]
    refine ⟨_, rfl, iteF ?_⟩
    dsimp only [tNext]
    cases hv with
    | @str x hx =>
      simp only [isT, Bool.and_eq_true, decide_eq_true_eq, List.all_eq_true, List.mem_cons, List.not_mem_nil, or_false] at hi
      obtain ⟨lx, bx⟩ := hi
      have sx : SgL x := fun c hc => .inr (bx c hc)
      have no : L' x ≠ .op := fun z => by
        have := bx _ (hop x lx sx z)
        omega
      have hx' := hL x
      refine ⟨_, rfl, PA1, _, _, _, rfl, rfl, .inl (.inl (s1 _ _ eA)), (atI_nat (j := 0) rfl), _, rfl, PA1, _, _, _, rfl, rfl, .inl (.inl (s1 _ _ eA)), (atI_nat (j := 1) rfl), _, rfl, RA, FA, b, m, ga, na, x, rfl, rA.same s1, okA, fA.keep (Keep.ofSame s1), gA, naL, lx, sx, by omega, by omega, fun n1 t1 H11 pn1 pw1 s11 S1 => ?_⟩
      obtain rfl : n1 = sa := rows_one gA.1 pn1 pw1 oa.1 oa.2
      have s2 := s1.trans s11
      refine ⟨_, rfl, PB1, _, _, _, rfl, rfl, .inl (.inl (s2 _ _ eB)), (atI_nat (j := 0) rfl), _, rfl, PB1, _, _, _, rfl, rfl, .inl (.inl (s2 _ _ eB)), (atI_nat (j := 1) rfl), _, rfl, RB, FB, b, m, gb, nb, x, rfl, rB.same s2, okB, fB.keep (Keep.ofSame s2), gB, nbL, lx, sx, by omega, by omega, fun n2 t2 H12 pn2 pw2 s12 S2 => ?_⟩
      obtain rfl : n2 = sb := rows_one gB.1 pn2 pw2 ob.1 ob.2
      have D1 := (S1.rw.same s12).dp (K := K)
      have D2 := S2.rw.dp (K := K)
      refine ⟨_, _, D1, D2, (pl_rw _).1, (pl_rw _).1, (pl_rw _).2, ?_⟩
      have e : (!PyData.eqv (rwD (setR (sgs x ga) n1)) (rwD (setR (sgs x gb) n2))) = decide (L' x = .un) := by
        by_cases ho : (setR (sgs x ga) n1).any opn = true ∨ (setR (sgs x gb) n2).any opn = true
        · rw [if_pos ho] at hx'
          exact absurd hx' no
        · rw [if_neg ho] at hx'
          by_cases he : PyData.eqv (rwD (setR (sgs x ga) n1)) (rwD (setR (sgs x gb) n2)) = true
          · rw [if_pos he] at hx'
            rw [he, hx']
            rfl
          · rw [if_neg he] at hx'
            rw [Bool.eq_false_iff.mpr he, hx']
            rfl
      rw [e]
      exact q H12 (s2.trans s12)
    | _ => cases hi
  · rw [Bool.eq_false_iff.mpr hi, Bool.false_and] at q
    rw [Bool.eq_false_iff.mpr hi]
    exact ⟨_, rfl, iteT (q H1 s1)⟩
end
section
variable {P : Program} {w : World} {K : PySem.W.Frag} {mg : Str → Option Value} {base : Heap}
variable {C : Addr} {za : Nat → Addr} {zl : Nat → FuncData}
/-! ### bent papers -/
def Thk (K : PySem.W.Frag) (H : Hp) (v : V) (l : Option (List (Option (List Nat)))) : Prop := Top62 H v l ∧ ∃ d, Dp K H v d ∧ Shw 20000 5 d
/-- a thing among those that are drawn -/
def Od (U1 U2 : Addr) (v : V) : Prop := v = .non ∨ v = .int 0 ∨ v = .bl true ∨ v = .ref U1 ∨ v = .ref U2 ∨ ∃ x, v = .str (SX.S x) ∧ x.length ≤ 20 ∧ ∀ c ∈ x, c < 1000
def OdAt (H : Hp) (U1 U2 : Addr) : Prop := H U1 = some (.tup []) ∧ H U2 = some (.lst [.str (SX.S [45])])
theorem shwA_nil (m : Nat) : ShwA 0 m [] := ShwA.nil.mono (Nat.le_refl _) (Nat.zero_le _)
theorem shw_S {x : List Nat} (h : x.length ≤ 20) (hc : ∀ c ∈ x, c < 1000) : Shw 25 3 (.str (SX.S x)) := (Shw.str (x := SX.S x) fun c hm => Nat.lt_trans (hc c hm) (by decide)).mono (by show x.toArray.size ≤ 25; rw [List.size_toArray]; omega) (by decide)
theorem Od.it {H : Hp} {U1 U2 : Addr} {v : V} (h : Od U1 U2 v) (a : OdAt H U1 U2) : ∃ o d, Thg H v o ∧ Dp K H v d ∧ Shw 25 3 d := by
  rcases h with rfl | rfl | rfl | rfl | rfl | ⟨x, rfl, l, c⟩
  · exact ⟨_, _, .non, .non, Shw.non.mono (by decide) (by decide)⟩
  · exact ⟨_, _, .int 0, .int 0, (Shw.int (by decide) (by decide)).mono (by decide) (by decide)⟩
  · exact ⟨_, _, .bl true, .bl true, (Shw.bl true).mono (by decide) (by decide)⟩
  · exact ⟨_, _, .tup a.1, .tup (.inl (.inl a.1)) .nil, (Shw.tup ShwA.nil).mono (by decide) (by decide)⟩
  · exact ⟨_, _, .lst a.2, .lst (SqL.of a.2) (.cons (.str _) .nil), (Shw.lst (ShwA.cons ((Shw.str (x := SX.S [45]) (fun c hm => by rw [List.mem_singleton.mp (show c ∈ [45] from hm)]; decide)).mono (show _ ≤ 1 by decide) (Nat.zero_le 2)) (shwA_nil 2))).mono (by decide) (by decide)⟩
  · exact ⟨_, _, .str (by omega), .str _, shw_S l c⟩
theorem od_all {H : Hp} {U1 U2 : Addr} (a : OdAt H U1 U2) : ∀ xs : List V, (∀ v ∈ xs, Od U1 U2 v) → ∃ (os : List (Option (List Nat))) (ds : List PyData), xs.length = os.length ∧ (∀ (i : Nat) (v : V) (o : Option (List Nat)), xs[i]? = some v → os[i]? = some o → Thg H v o) ∧ DpAll K H xs ds ∧ ShwA (26 * xs.length) 3 ds
  | [], _ => ⟨[], [], rfl, fun i v o e => by simp at e, .nil, (shwA_nil _)⟩
  | v :: xs, h => by
    obtain ⟨o, d, h1, h2, h3⟩ := (h v List.mem_cons_self).it (K := K) a
    obtain ⟨os, ds, g1, g2, g3, g4⟩ := od_all a xs fun u hu => h u (List.mem_cons_of_mem _ hu)
    refine ⟨o :: os, d :: ds, congrArg (· + 1) g1, fun i u p e1 e2 => ?_, .cons h2 g3, (ShwA.cons h3 g4).mono (by rw [List.length_cons]; omega) (Nat.le_refl _)⟩
    cases i with
    | zero =>
      cases e1
      cases e2
      exact h1
    | succ i => exact g2 i u p e1 e2
theorem od_top {H : Hp} {U1 U2 t : Addr} {xs : List V} (a : OdAt H U1 U2) (h : ∀ v ∈ xs, Od U1 U2 v) (l : xs.length ≤ 700) (e : H t = some (.lst xs)) : ∃ os, Thk K H (.ref t) (some os) := by
  obtain ⟨os, ds, g1, g2, g3, g4⟩ := od_all (K := K) a xs h
  exact ⟨os, .lst e g1 g2 (by omega), _, .lst (SqL.of e) g3, (Shw.lst g4).mono (by omega) (by decide)⟩
theorem od_cV {U1 U2 : Addr} {m : Nat} {cs : List (List Nat)} (m12 : m ≤ 12) (h : ∀ x ∈ cs, x.length = m ∧ SgL x) : ∀ v ∈ cV cs, Od U1 U2 v := fun v hv => by
  obtain ⟨x, hx, rfl⟩ := List.mem_map.mp hv
  obtain ⟨lx, sx⟩ := h x hx
  refine .inr (.inr (.inr (.inr (.inr ⟨x, rfl, by omega, fun c hc => ?_⟩))))
  have := sx c hc
  omega
def odL (m : Nat) (U1 U2 : Addr) : List V := [.non, .int 0, .bl true, .str (SX.S []), .ref U1, .str (SX.S (List.replicate m 48)), .ref U2, .str (SX.S [45, 49, 45, 49, 45, 49, 45, 49, 45, 49, 45, 49, 45, 49, 45, 49, 45, 49])]
theorem odL_od {m : Nat} {U1 U2 : Addr} (m12 : m ≤ 12) : ∀ v ∈ odL m U1 U2, Od U1 U2 v := fun v hv => by
  unfold odL at hv
  simp only [List.mem_cons, List.not_mem_nil, or_false] at hv
  rcases hv with rfl | rfl | rfl | rfl | rfl | rfl | rfl | rfl
  · exact .inl rfl
  · exact .inr (.inl rfl)
  · exact .inr (.inr (.inl rfl))
  · exact .inr (.inr (.inr (.inr (.inr ⟨[], rfl, by decide, fun c hc => nomatch hc⟩))))
  · exact .inr (.inr (.inr (.inl rfl)))
  · refine .inr (.inr (.inr (.inr (.inr ⟨_, rfl, by rw [List.length_replicate]; omega, fun c hc => by rw [List.eq_of_mem_replicate hc]; decide⟩))))
  · exact .inr (.inr (.inr (.inr (.inl rfl))))
  · exact .inr (.inr (.inr (.inr (.inr ⟨_, rfl, by decide, by decide⟩))))
theorem odL_at {m : Nat} {U1 U2 : Addr} {r : Int} (h0 : 0 ≤ r) (h1 : r < 8) : ∃ v, atI (odL m U1 U2) r = some v := by
  obtain ⟨j, rfl⟩ := Int.eq_ofNat_of_zero_le h0
  have hj : j < (odL m U1 U2).length := by show j < 8; omega
  exact ⟨_, atI_nat (List.getElem?_eq_getElem hj)⟩
theorem mem_atI {α : Type} {xs : List α} {r : Int} {v : α} (h : atI xs r = some v) : v ∈ xs := by
  obtain ⟨j, _, hj⟩ := Option.bind_eq_some_iff.mp h
  exact List.mem_of_getElem? hj
theorem Od.top {H : Hp} {U1 U2 : Addr} {v : V} (h : Od U1 U2 v) (a : OdAt H U1 U2) : ∃ l, Thk K H v l := by
  obtain ⟨o, d, _, h2, h3⟩ := h.it (K := K) a
  have h4 := h3.mono (n' := 20000) (m' := 5) (by decide) (by decide)
  rcases h with rfl | rfl | rfl | rfl | rfl | ⟨x, rfl, l, c⟩
  · exact ⟨_, .non, d, h2, h4⟩
  · exact ⟨_, .int 0, d, h2, h4⟩
  · exact ⟨_, .bl true, d, h2, h4⟩
  · exact ⟨_, .tup a.1, d, h2, h4⟩
  · exact ⟨_, .lst (os := [some [45]]) a.2 rfl (fun i v o e1 e2 => by
      cases i with
      | zero =>
        cases e1
        cases e2
        exact .str (by decide)
      | succ i => cases e1) (by decide), d, h2, h4⟩
  · exact ⟨_, .str _, d, h2, h4⟩
theorem rep0 : ∀ m : Nat, m ≤ 20 → strRep (Str.ofString "0") m = SX.S (List.replicate m 48) := by decide +kernel
theorem rep19 : strRep (Str.ofString "-1") 9 = SX.S [45, 49, 45, 49, 45, 49, 45, 49, 45, 49, 45, 49, 45, 49, 45, 49, 45, 49] := by decide +kernel
theorem at4 {r : Int} (h0 : 0 ≤ r) (h1 : r < 4) : ∃ c, atI (Str.ofString "01-2").cps.toList r = some c ∧ c < 1000 := by
  have : r = 0 ∨ r = 1 ∨ r = 2 ∨ r = 3 := by omega
  rcases this with rfl | rfl | rfl | rfl
  · exact ⟨48, by decide +kernel, by decide⟩
  · exact ⟨49, by decide +kernel, by decide⟩
  · exact ⟨45, by decide +kernel, by decide⟩
  · exact ⟨50, by decide +kernel, by decide⟩
theorem at3 {r : Int} (h0 : 0 ≤ r) (h1 : r < 3) : ∃ c, atI (Str.ofString "01-").cps.toList r = some c ∧ c < 1000 := by
  have : r = 0 ∨ r = 1 ∨ r = 2 := by omega
  rcases this with rfl | rfl | rfl
  · exact ⟨48, by decide +kernel, by decide⟩
  · exact ⟨49, by decide +kernel, by decide⟩
  · exact ⟨45, by decide +kernel, by decide⟩
theorem ln4 : (Str.ofString "01-2").length ≤ sizeLine := by decide +kernel
theorem ln3 : (Str.ofString "01-").length ≤ sizeLine := by decide +kernel
def spBn (K : PySem.W.Frag) : Sp := fun vs H Q _ => ∃ (b t : Addr) (c : Int) (m : Nat) (cs : List (List Nat)), vs = [.ref b, .ref t, .int (m : Int)] ∧ BoxAt c H b ∧ c ≤ 800000000 ∧ 1 ≤ m ∧ m ≤ 12 ∧ H t = some (.lst (cV cs)) ∧ t ≠ b ∧ cs.length ≤ 300 ∧ (∀ x ∈ cs, x.length = m ∧ SgL x) ∧
  ∀ (v : V) (l : Option (List (Option (List Nat)))) (H' : Hp), Keep b H H' → BoxAt (c + 100) H' b → Thk K H' v l → Q v H'
theorem ok__law_bent (B : Bl mg) (L : LL K mg C za zl) : FnOk P w K mg base CX0 2 (za 32) (zl 32) ["_law_box_here", "_law_cubes", "_law_first"] (spBn K) := by
  have G__law_take : FnOk P w K mg base CX0 1 (za 17) (zl 17) ["_law_box_here", "_law_size"] (spTake 1) := (ok_take L.F__law_take L.b__law_take L.m__law_take B 1).mono (by decide)
  refine L.F__law_bent.ok sc__law_bent (fun vs H Q E h => ?_) (fun cdv A outer s H vs Q E hr h => ?_)
  · obtain ⟨b, t, c, m, cs, rfl, _⟩ := h
    rfl
  obtain ⟨b, t, c, m, cs, rfl, hB, hc, m1, m12, et, tb, lcs, hcs, q⟩ := h
  refine ⟨_, (pss_cons (ps_par3 (by rfl) sc__law_bent.nd (i := 3) (j := 4) (l := 5) rfl rfl rfl (by decide) (by decide) (by decide) rfl rfl rfl (pa_cons (pe_callTy call_list_of (by rfl) B.list PyProof.Rows.boot_list (pa_cons (pv 1) pa_nil)) (pa_cons (pe_call G__law_take hr (by rfl) L.m__law_take L.F__law_take.kp L.b__law_take .nil pass0 (pa_cons (pv 0) (pa_cons pe_int pa_nil))) (pa_cons (pe_lst (pa_cons pe_non (pa_cons pe_int (pa_cons pe_bl (pa_cons pe_str (pa_cons (pe_tup pa_nil) (pa_cons (pe_op op_mul_str pe_str (pv 2)) (pa_cons (pe_lst (pa_cons pe_str pa_nil)) (pa_cons (pe_op op_mul_str pe_str pe_int) pa_nil))))))))) pa_nil))) (by rfl))
    (pss_cons (ps_par3 (by rfl) sc__law_bent.nd (i := 6) (j := 7) (l := 8) rfl rfl rfl (by decide) (by decide) (by decide) rfl rfl rfl (pa_cons (pe_call G__law_take hr (by rfl) L.m__law_take L.F__law_take.kp L.b__law_take .nil pass0 (pa_cons (pv 0) (pa_cons (pe_op op_add (pe_callB call_len_seq (by rfl) B.len PySem.boot_len (pa_cons (pv 3) pa_nil)) pe_int) pa_nil))) (pa_cons (pe_call G__law_take hr (by rfl) L.m__law_take L.F__law_take.kp L.b__law_take .nil pass0 (pa_cons (pv 0) (pa_cons (pv 2) pa_nil))) (pa_cons (pe_ix ix_str pe_str (pe_call G__law_take hr (by rfl) L.m__law_take L.F__law_take.kp L.b__law_take .nil pass0 (pa_cons (pv 0) (pa_cons pe_int pa_nil))) (fun _ _ => rfl)) pa_nil))) (by rfl))
    (pss_cons (ps_if (pt_cmpR op_eq (pv 4) pe_int (nomark _)) (pss_one (ps_expr (pe_bm PySem.F.plainAttrs_list PySem.F.slot_list_append PySem.F.type_list_append mt_append (pv 3) (pa_cons (pe_bm PySem.F.plainAttrs_str PySem.F.slot_str_join PySem.F.type_str_join mt_join pe_str (pa_cons (pe_lc (own := [("_law_turn", 10)]) (by rfl) sc__law_bent.nd (pi_range1 (by rfl) B.range (pa_cons (pv 2) pa_nil)) (blkOk_by (own := [("_law_turn", 10)]) (N := ["_law_box_here", "_law_cubes", "_law_first", "_law_made", "_law_way", "_law_odd", "_law_at", "_law_place", "_law_sign", "_law_cube", "_law_turn"]) (sc := defScope s__law_bent) (by decide +kernel)) (fun _ _ _ _ _ => pg_name (i := 10) sc__law_bent.nd rfl (Or.inl rfl)) (fun _ _ _ _ _ => pts_nil) (fun _ _ _ _ _ => (pe_ix ix_str pe_str (pe_call G__law_take hr (by rfl) L.m__law_take L.F__law_take.kp L.b__law_take .nil pass0 (pa_cons (pv 0) (pa_cons pe_int pa_nil))) (fun _ _ => rfl)))) pa_nil)) pa_nil)))) (pss_one (ps_if (pt_cmpR op_eq (pv 4) pe_int (nomark _)) (pss_one (ps_expr (pe_bm PySem.F.plainAttrs_list PySem.F.slot_list_insert PySem.F.type_list_insert mt_insert (pv 3) (pa_cons (pv 6) (pa_cons (pe_ix ix_list (pv 5) (pe_call G__law_take hr (by rfl) L.m__law_take L.F__law_take.kp L.b__law_take .nil pass0 (pa_cons (pv 0) (pa_cons pe_int pa_nil))) (fun _ _ => rfl)) pa_nil))))) (pss_one (ps_if (pt_cmpR op_eq (pv 4) pe_int (nomark _)) (pss_one (ps_ret (pe_ix ix_list (pe_lst (pa_cons (pe_callTy call_tuple_of (by rfl) B.tuple PyProof.Rows.boot_tuple (pa_cons (pv 3) pa_nil)) (pa_cons (pe_ix ix_list (pv 5) (pe_call G__law_take hr (by rfl) L.m__law_take L.F__law_take.kp L.b__law_take .nil pass0 (pa_cons (pv 0) (pa_cons pe_int pa_nil))) (fun _ _ => rfl)) (pa_cons (pe_lst pa_nil) (pa_cons (pe_lst (pa_cons (pv 3) pa_nil)) pa_nil))))) (pe_call G__law_take hr (by rfl) L.m__law_take L.F__law_take.kp L.b__law_take .nil pass0 (pa_cons (pv 0) (pa_cons pe_int pa_nil))) (fun _ _ => rfl)))) (pss_one (ps_if (pt_cmpR op_eq (pv 4) pe_int (nomark _)) (pss_one (ps_expr (pe_bm0 PySem.F.plainAttrs_list PySem.F.slot_list_reverse PySem.F.type_list_reverse mt_reverse (pv 3)))) (pss_one (ps_if (pt_cmpR op_lt (pv 6) (pe_callB call_len_seq (by rfl) B.len PySem.boot_len (pa_cons (pv 3) pa_nil)) (nomark _)) (pss_cons (ps_set (i := 9) sc__law_bent.nd rfl (.inl rfl) (pe_ix ix_list (pv 3) (pv 6) (fun _ _ => rfl)))
    (pss_one (ps_if (pt_cmpR op_lt (pv 4) pe_int (nomark _)) (pss_one (ps_asg (pe_ix ix_list (pe_lst (pa_cons (pe_op op_add_str (pe_op op_add_str (pe_slice sl_str (pv 9) po_none (po_some (pv 7))) (pv 8)) (pe_slice sl_str (pv 9) (po_some (pe_op op_add (pv 7) pe_int)) po_none)) (pa_cons (pe_op op_add_str (pv 9) (pv 8)) (pa_cons (pe_slice sl_str (pv 9) (po_some pe_int) po_none) pa_nil)))) (pe_op op_sub (pv 4) pe_int) (fun _ _ => rfl)) (pg_sub (pv 3) (pv 6) set_list))) (pss_one (ps_set (i := 3) sc__law_bent.nd rfl (.inl rfl) (pe_op op_cat (pe_op op_cat (pe_slice sl_list (pv 3) po_none (po_some (pv 6))) (pe_op op_rep (pe_lst (pa_cons (pv 9) pa_nil)) (pe_op op_mul pe_int (pe_op op_sub (pv 4) pe_int)))) (pe_slice sl_list (pv 3) (po_some (pe_op op_add (pv 6) pe_int)) po_none))))))) pss_nil)))))))))
    (pss_one (ps_ret (pv 3)))))), ?_⟩
  refine ⟨_, rfl, t, _, rfl, .inl (SqL.of et), fun M nM => ?_⟩
  have sM := same_upd (o := .lst (cV cs)) nM
  have eM : (upd H M (.lst (cV cs))) M = some (.lst (cV cs)) := upd_same
  have nMb : M ≠ b := fun z => by
    obtain ⟨_, _, _, e, _⟩ := hB
    rw [← z, nM] at e
    cases e
  generalize upd H M (.lst (cV cs)) = H1 at *
  refine ⟨_, rfl, b, _, c, rfl, hB.same sM, by decide, by decide, by decide, by omega, by decide, fun wy H2 w0 w1 B2 k2 => ?_⟩
  have eM2 := k2 _ _ eM nMb
  refine ⟨(by show 0 ≤ sizeLine; decide), fun U1 nU1 => ?_⟩
  have sU1 := same_upd (o := .tup []) nU1
  have eU1 : (upd H2 U1 (.tup [])) U1 = some (.tup []) := upd_same
  change tCons _ _ _ (upd H2 U1 (.tup [])) _
  generalize upd H2 U1 (.tup []) = H3 at *
  refine ⟨_, rfl, _, m, rfl, rfl, by decide, by omega, ?_⟩
  rw [rep0 m (by omega)]
  refine ⟨(by show 1 ≤ sizeLine; decide), fun U2 nU2 => ?_⟩
  have sU2 := same_upd (o := .lst [.str (SX.S [45])]) nU2
  have eU2 : (upd H3 U2 (.lst [.str (SX.S [45])])) U2 = some (.lst [.str (SX.S [45])]) := upd_same
  rw [mns]
  change tCons _ _ _ (upd H3 U2 (.lst [.str (SX.S [45])])) _
  generalize upd H3 U2 (.lst [.str (SX.S [45])]) = H4 at *
  refine ⟨_, 9, rfl, rfl, by decide, by decide, ?_⟩
  rw [rep19]
  refine ⟨(by show 8 ≤ sizeLine; decide), fun O nO => ?_⟩
  have sO := same_upd (o := .lst (odL m U1 U2)) nO
  have eO : (upd H4 O (.lst (odL m U1 U2))) O = some (.lst (odL m U1 U2)) := upd_same
  have s24 := (sU1.trans sU2).trans sO
  have aO : OdAt (upd H4 O (.lst (odL m U1 U2))) U1 U2 := ⟨sO _ _ (sU2 _ _ eU1), sO _ _ eU2⟩
  refine ⟨_, _, _, rfl, ?_⟩
  change Ends.nx _ _ (upd H4 O (.lst (odL m U1 U2)))
  generalize upd H4 O (.lst (odL m U1 U2)) = H5 at *
  have eM5 := s24 _ _ eM2
  have B5 := B2.same s24
  dsimp only
  try simp only [L2.start, List.map_cons, List.map_nil, List.length_cons, List.length_nil, List.replicate_succ, List.replicate_zero, List.cons_append, List.nil_append, List.set_cons_succ, List.set_cons_zero, Nat.reduceAdd, Nat.reduceSub, Nat.zero_add]
  refine ⟨_, rfl, _, rfl, M, _, rfl, .inl (SqL.of eM5), ?_⟩
  rw [cV_len]
  refine ⟨_, _, rfl, rfl, b, _, c + 1, rfl, B5, by omega, by omega, by omega, by omega, by decide, fun at_ H6 a0 a1 B6 k6 => ?_⟩
  replace B6 : BoxAt (c + 2) H6 b := B6.mono (by show c + 1 + 1 ≤ c + 2; omega)
  refine ⟨_, rfl, _, rfl, b, _, c + 2, rfl, B6, by omega, by omega, by omega, by omega, by decide, fun pl H7 p0 p1 B7 k7 => ?_⟩
  replace B7 : BoxAt (c + 3) H7 b := B7.mono (by show c + 2 + 1 ≤ c + 3; omega)
  refine ⟨_, rfl, b, _, c + 3, rfl, B7, by decide, by decide, by decide, by omega, by decide, fun sg H8 g0 g1 B8 k8 => ?_⟩
  replace B8 : BoxAt (c + 4) H8 b := B8.mono (by show c + 3 + 1 ≤ c + 4; omega)
  obtain ⟨sc, hsc, hs1⟩ := at4 g0 g1
  refine ⟨_, sg, sc, rfl, rfl, ln4, hsc, ?_⟩
  refine ⟨_, _, _, rfl, ?_⟩
  dsimp only
  try simp only [L2.start, List.map_cons, List.map_nil, List.length_cons, List.length_nil, List.replicate_succ, List.replicate_zero, List.cons_append, List.nil_append, List.set_cons_succ, List.set_cons_zero, Nat.reduceAdd, Nat.reduceSub, Nat.zero_add]
  rw [show (⟨#[sc]⟩ : Str) = SX.S [sc] from rfl]
  have nb : ∀ {Hx : Hp} {u : Addr} {cc : Int}, BoxAt cc Hx b → Hx u = none → u ≠ b := fun ⟨_, _, _, e, _⟩ n z => by
    rw [← z, n] at e
    cases e
  have nU1b := nb B2 nU1
  have B3 : BoxAt (c + 2 ^ (1 - 1)) H3 b := B2.same sU1
  have nU2b := nb B3 nU2
  have nOb := nb (B3.same sU2) nO
  have nU1M : U1 ≠ M := (ne_of_none eM2 nU1).symm
  have nU2M : U2 ≠ M := (ne_of_none (sU1 _ _ eM2) nU2).symm
  have nOM : O ≠ M := (ne_of_none (sU2 _ _ (sU1 _ _ eM2)) nO).symm
  have k58 : Keep b H5 H8 := (k6.trans k7).trans k8
  have k05 : Keep b H H5 := ((Keep.ofSame sM).trans k2).trans (Keep.ofSame s24)
  have eM8 := k58 _ _ eM5 nMb
  have eO8 := k58 _ _ eO nOb
  have aO8 : OdAt H8 U1 U2 := ⟨k58 _ _ aO.1 nU1b, k58 _ _ aO.2 nU2b⟩
  have k08 := k05.trans k58
  have fin : ∀ (xs : List V) (Pp : Addr) (H' : Hp), (∀ v ∈ xs, Od U1 U2 v) → xs.length ≤ 700 → Keep b H H' → BoxAt (c + 100) H' b → OdAt H' U1 U2 → H' Pp = some (.lst xs) → Q (.ref Pp) H' := fun xs Pp H' ho hl kk BB oo ee => by
    obtain ⟨os, ht⟩ := od_top (K := K) oo ho hl ee
    exact q _ _ H' kk BB ht
  have finM : ∀ (xs : List V) (Hx : Hp), (∀ v ∈ xs, Od U1 U2 v) → xs.length ≤ 700 → Keep b H8 Hx → BoxAt (c + 100) Hx b → Q (.ref M) (upd Hx M (.lst xs)) := fun xs Hx ho hl kk BB => by
    refine fin xs M _ ho hl (fun y o e n => ?_) ?_ ⟨?_, ?_⟩ upd_same
    · rw [upd_ne (ne_of_none e nM)]
      exact (k08.trans kk) _ _ e n
    · obtain ⟨x0, x1, x2, e, r⟩ := BB
      exact ⟨x0, x1, x2, by rw [upd_ne nMb.symm]; exact e, r⟩
    · rw [upd_ne nU1M]
      exact kk _ _ aO8.1 nU1b
    · rw [upd_ne nU2M]
      exact kk _ _ aO8.2 nU2b
  obtain ⟨a, rfl⟩ := Int.eq_ofNat_of_zero_le a0
  obtain ⟨pp, rfl⟩ := Int.eq_ofNat_of_zero_le p0
  have ocs := od_cV (U1 := U1) (U2 := U2) m12 hcs
  have lcV := cV_len cs
  refine ⟨_, rfl, rfl, _, rfl, ite2 (fun z => ?_) (fun z => ?_)⟩
  · refine ⟨_, rfl, .inl ⟨rfl, _, SqL.of eM8⟩, rfl, _, rfl, _, rfl, by omega, by omega, fun D nD => ?_⟩
    have nDb : D ≠ b := nb B8 nD
    have nDM : D ≠ M := (ne_of_none eM8 nD).symm
    rw [Int.toNat_natCast]
    refine lc_range (n := m) (fun j H9 => Keep b H8 H9 ∧ BoxAt (c + 4 + j) H9 b ∧ ∃ l : List Nat, l.length = j ∧ (∀ x ∈ l, x < 1000) ∧ H9 D = some (.lst (s1s l))) ⟨Keep.new nD, (B8.same (same_upd nD)).mono (by omega), [], rfl, (fun _ z => nomatch z), upd_same⟩ ?_ ?_
    · rintro j H9 hj ⟨k9, B9, l, ll, sl, eD⟩
      refine ⟨rfl, yesT ?_⟩
      refine ⟨_, rfl, b, _, _, rfl, B9, by decide, by decide, by decide, by omega, by decide, fun r H10 u1 v1 B10 k10 => ?_⟩
      obtain ⟨d, ed, hd⟩ := at3 u1 v1
      refine ⟨_, _, d, rfl, rfl, ln3, ed, ?_⟩
      refine ⟨_, k10 _ _ eD nDb, ?_, fun x u e n => ?_, BoxAt.mono (B10.at (upd_ne nDb.symm)) (by show c + 4 + (j : Int) + 1 ≤ c + 4 + ((j + 1 : Nat) : Int); omega), l ++ [d], by rw [List.length_append, ll]; rfl, fun x hx => ?_, ?_⟩
      · rw [s1s_len]
        exact small1000 (by omega)
      · rw [upd_ne (ne_of_none e nD)]
        exact k10 _ _ (k9 _ _ e n) n
      · rcases List.mem_append.mp hx with w | w
        · exact sl x w
        · rw [List.mem_singleton.mp w]
          exact hd
      · rw [upd_same]
        exact congrArg (fun z => some (HO.lst z)) (s1s_snoc l d)
    · rintro H9 ⟨k9, B9, l, ll, sl, eD⟩
      refine ⟨_, D, _, rfl, rfl, .inl (SqL.of eD), join_z l (by omega), ?_⟩
      rw [join_1]
      refine ⟨M, _, _, rfl, rfl, k9 _ _ eM8 nMb, by rw [lcV]; exact big_lt (by omega), ?_⟩
      refine ⟨_, rfl, finM _ H9 (fun v hv => ?_) (by rw [List.length_append, lcV, List.length_singleton]; omega) k9 (B9.mono (by omega))⟩
      rcases List.mem_append.mp hv with w | w
      · exact ocs v w
      · rw [List.mem_singleton.mp w]
        exact .inr (.inr (.inr (.inr (.inr ⟨l, rfl, by omega, sl⟩))))
  refine ⟨_, rfl, rfl, _, rfl, ite2 (fun z1 => ?_) (fun z1 => ?_)⟩
  · refine ⟨_, rfl, .inl ⟨rfl, _, SqL.of eM8⟩, _, rfl, _, rfl, _, rfl, b, _, c + 4, rfl, B8, by decide, by decide, by decide, by omega, by decide, fun r H9 u1 v1 B9 k9 => ?_⟩
    obtain ⟨v, hv⟩ := odL_at (m := m) (U1 := U1) (U2 := U2) u1 v1
    refine ⟨O, _, r, v, rfl, rfl, SqL.of (k9 _ _ eO8 nOb), hv, ?_⟩
    refine ⟨M, _, _, v, rfl, rfl, k9 _ _ eM8 nMb, by rw [lcV]; exact big_lt (by omega), by omega, by omega, ?_⟩
    rw [Int.toNat_natCast]
    refine ⟨_, rfl, finM _ H9 (fun u hu => ?_) (by rw [List.length_append, List.length_append, List.length_take, List.length_drop, lcV, List.length_singleton]; omega) k9 (B9.mono (by show c + 4 + 1 ≤ _; omega))⟩
    rcases List.mem_append.mp hu with w | w
    · rcases List.mem_append.mp w with w | w
      · exact ocs u (List.mem_of_mem_take w)
      · rw [List.mem_singleton.mp w]
        exact odL_od m12 v (mem_atI hv)
    · exact ocs u (List.mem_of_mem_drop w)
  refine ⟨_, rfl, rfl, _, rfl, ite2 (fun z2 => ?_) (fun z2 => ?_)⟩
  · refine ⟨_, rfl, M, _, rfl, .inl ⟨SqL.of eM8, fun T nT => ?_⟩⟩
    have nTb := nb B8 nT
    have nTM : T ≠ M := (ne_of_none eM8 nT).symm
    have sT := same_upd (o := .tup (cV cs)) nT
    have eT : (upd H8 T (.tup (cV cs))) T = some (.tup (cV cs)) := upd_same
    change tCons _ _ _ (upd H8 T (.tup (cV cs))) _
    generalize upd H8 T (.tup (cV cs)) = G1 at *
    refine ⟨_, rfl, _, rfl, b, _, c + 4, rfl, B8.same sT, by decide, by decide, by decide, by omega, by decide, fun r H9 u1 v1 B9 k9 => ?_⟩
    obtain ⟨v, hv⟩ := odL_at (m := m) (U1 := U1) (U2 := U2) u1 v1
    refine ⟨O, _, r, v, rfl, rfl, SqL.of (k9 _ _ (sT _ _ eO8) nOb), hv, ?_⟩
    refine ⟨(by show 0 ≤ sizeLine; decide), fun E0 nE0 => ?_⟩
    have sE := same_upd (o := .lst []) nE0
    have eE : (upd H9 E0 (.lst [])) E0 = some (.lst []) := upd_same
    change tCons _ _ _ (upd H9 E0 (.lst [])) _
    generalize upd H9 E0 (.lst []) = G2 at *
    refine ⟨_, rfl, (by show 1 ≤ sizeLine; decide), fun W nW => ?_⟩
    have sW := same_upd (o := .lst [.ref M]) nW
    have eW : (upd G2 W (.lst [.ref M])) W = some (.lst [.ref M]) := upd_same
    change tNil _ (upd G2 W (.lst [.ref M])) _
    generalize upd G2 W (.lst [.ref M]) = G3 at *
    refine ⟨(by show 4 ≤ sizeLine; decide), fun Z nZ => ?_⟩
    have sZ := same_upd (o := .lst [.ref T, v, .ref E0, .ref W]) nZ
    have eZ : (upd G3 Z (.lst [.ref T, v, .ref E0, .ref W])) Z = some (.lst [.ref T, v, .ref E0, .ref W]) := upd_same
    have s9Z := (sE.trans sW).trans sZ
    have k8Z : Keep b H8 (upd G3 Z (.lst [.ref T, v, .ref E0, .ref W])) := ((Keep.ofSame sT).trans k9).trans (Keep.ofSame s9Z)
    have BZ := B9.same s9Z
    have eTZ := s9Z _ _ (k9 _ _ eT nTb)
    have eEZ := sZ _ _ (sW _ _ eE)
    have eWZ := sZ _ _ eW
    refine ⟨_, rfl, b, _, _, rfl, BZ, by decide, by decide, by decide, by show c + 4 + 1 + 2 ^ 1 ≤ 1000000000; omega, by decide, fun r2 H10 u2 v2 B10 k10 => ?_⟩
    have nEb : E0 ≠ b := nb B9 nE0
    have nWb : W ≠ b := nb (B9.same sE) nW
    have nZb : Z ≠ b := nb ((B9.same sE).same sW) nZ
    have k810 := k8Z.trans k10
    have oo : OdAt H10 U1 U2 := ⟨k810 _ _ aO8.1 nU1b, k810 _ _ aO8.2 nU2b⟩
    have BB : BoxAt (c + 100) H10 b := B10.mono (by show c + 4 + 1 + 1 ≤ _; omega)
    have kk := k08.trans k810
    have eM10 := k810 _ _ eM8 nMb
    have eT10 := k10 _ _ eTZ nTb
    have eW10 := k10 _ _ eWZ nWb
    obtain ⟨os, ds, g1, g2, g3, g4⟩ := od_all (K := K) oo _ ocs
    rw [lcV] at g1 g4
    have r4 : r2 = 0 ∨ r2 = 1 ∨ r2 = 2 ∨ r2 = 3 := by omega
    refine ⟨Z, [.ref T, v, .ref E0, .ref W], r2, ?_⟩
    rcases r4 with rfl | rfl | rfl | rfl
    · exact ⟨_, rfl, rfl, SqL.of (k10 _ _ eZ nZb), rfl, q _ _ H10 kk BB ⟨.tup eT10, _, .tup (.inl (.inl eT10)) g3, (Shw.tup g4).mono (by omega) (by decide)⟩⟩
    · obtain ⟨l, hl⟩ := (odL_od (U1 := U1) (U2 := U2) m12 v (mem_atI hv)).top (K := K) oo
      exact ⟨_, rfl, rfl, SqL.of (k10 _ _ eZ nZb), rfl, q _ _ H10 kk BB hl⟩
    · exact ⟨_, rfl, rfl, SqL.of (k10 _ _ eZ nZb), rfl, fin [] E0 H10 (fun _ z => nomatch z) (by decide) kk BB oo (k10 _ _ eEZ nEb)⟩
    · refine ⟨_, rfl, rfl, SqL.of (k10 _ _ eZ nZb), rfl, q _ (some [none]) H10 kk BB ⟨.lst eW10 rfl (fun i v o e1 e2 => ?_) (by decide), _, .lst (SqL.of eW10) (.cons (.lst (SqL.of eM10) g3) .nil), (Shw.lst (ShwA.cons (Shw.lst g4) (shwA_nil _))).mono (by omega) (by decide)⟩⟩
      cases i with
      | zero =>
        cases e1
        cases e2
        exact .lst eM10
      | succ i => cases e1
  refine ⟨_, rfl, rfl, _, rfl, ite2 (fun z3 => ?_) (fun z3 => ?_)⟩
  · refine ⟨_, rfl, .inl ⟨rfl, _, SqL.of eM8⟩, M, _, rfl, rfl, eM8, ?_⟩
    exact ⟨_, rfl, finM _ H8 (fun u hu => ocs u (List.mem_reverse.mp hu)) (by rw [List.length_reverse, lcV]; omega) (Keep.refl b H8) (B8.mono (by omega))⟩
  refine ⟨_, rfl, _, rfl, M, _, rfl, .inl (SqL.of eM8), ?_⟩
  rw [lcV]
  refine ⟨_, _, rfl, rfl, _, rfl, ite2 (fun z4 => ?_) (fun z4 => ?_)⟩
  · have al : a < cs.length := by
      have := of_decide_eq_true z4
      omega
    have hx : cs[a]? = some cs[a] := List.getElem?_eq_getElem al
    generalize cs[a] = x at *
    obtain ⟨lx, sx⟩ := hcs x (List.mem_of_getElem? hx)
    have hxV : (cV cs)[a]? = some (.str (SX.S x)) := by
      unfold cV
      rw [List.getElem?_map, hx]
      rfl
    refine ⟨_, rfl, _, rfl, M, _, _, _, rfl, rfl, SqL.of eM8, atI_nat (j := a) hxV, ?_⟩
    dsimp only [gName]
    try simp only [L2.start, List.map_cons, List.map_nil, List.length_cons, List.length_nil, List.replicate_succ, List.replicate_zero, List.cons_append, List.nil_append, List.set_cons_succ, List.set_cons_zero, Nat.reduceAdd, Nat.reduceSub, Nat.zero_add]
    refine ⟨_, rfl, _, _, rfl, rfl, _, rfl, ite2 (fun z5 => ?_) (fun z5 => ?_)⟩
    · have w456 : wy = 4 ∨ wy = 5 ∨ wy = 6 := by
        have a0 : ¬ wy = 0 := fun y => z (by rw [y]; rfl)
        have a1 : ¬ wy = 1 := fun y => z1 (by rw [y]; rfl)
        have a2 : ¬ wy = 2 := fun y => z2 (by rw [y]; rfl)
        have a3 : ¬ wy = 3 := fun y => z3 (by rw [y]; rfl)
        have := of_decide_eq_true z5
        omega
      have zx : (SX.S x).length ≤ sizeLine := zS (by omega)
      refine ⟨_, rfl, _, rfl, (pp : Int), rfl, _, rfl, zx, ?_⟩
      rw [cut_to x pp (by omega)]
      refine ⟨_, rfl, _, _, rfl, rfl, ?_, ?_⟩
      · rw [SX.S_len, SX.S_len, List.length_take]
        exact Nat.le_of_lt (small1000 (show min pp x.length + 1 ≤ _ by omega))
      refine ⟨_, rfl, _, rfl, _, _, rfl, rfl, (pp : Int) + 1, rfl, _, rfl, zx, ?_⟩
      rw [show ((pp : Int) + 1) = ((pp + 1 : Nat) : Int) by omega, cut_from x (pp + 1) (by omega), SX.S_cat]
      refine ⟨_, _, rfl, rfl, ?_, ?_⟩
      · rw [SX.S_len, SX.S_len, List.length_append, List.length_take, List.length_drop]
        exact Nat.le_of_lt (small1000 (show min pp x.length + 1 + (x.length - (pp + 1)) ≤ _ by omega))
      rw [SX.S_cat]
      refine ⟨_, rfl, _, rfl, _, _, rfl, rfl, ?_, ?_⟩
      · rw [SX.S_len, SX.S_len]
        exact Nat.le_of_lt (small1000 (show x.length + 1 ≤ _ by omega))
      rw [SX.S_cat]
      refine ⟨_, rfl, (1 : Int), rfl, _, rfl, zx, ?_⟩
      rw [show (1 : Int) = ((1 : Nat) : Int) from rfl, cut_from x 1 (by omega)]
      refine ⟨(by show 3 ≤ sizeLine; decide), fun Z nZ => ?_⟩
      have sc1000 : ∀ c ∈ x, c < 1000 := fun c hc => by
        have := sx c hc
        omega
      have ho : ∀ u ∈ ([.str (SX.S (x.take pp ++ [sc] ++ x.drop (pp + 1))), .str (SX.S (x ++ [sc])), .str (SX.S (x.drop 1))] : List V), Od U1 U2 u := fun u hu => by
        simp only [List.mem_cons, List.not_mem_nil, or_false] at hu
        refine .inr (.inr (.inr (.inr (.inr ?_))))
        rcases hu with rfl | rfl | rfl
        · refine ⟨_, rfl, by rw [List.length_append, List.length_append, List.length_take, List.length_drop, List.length_singleton]; omega, fun c hc => ?_⟩
          rcases List.mem_append.mp hc with w | w
          · rcases List.mem_append.mp w with w | w
            · exact sc1000 c (List.mem_of_mem_take w)
            · rw [List.mem_singleton.mp w]
              exact hs1
          · exact sc1000 c (List.mem_of_mem_drop w)
        · refine ⟨_, rfl, by rw [List.length_append, List.length_singleton]; omega, fun c hc => ?_⟩
          rcases List.mem_append.mp hc with w | w
          · exact sc1000 c w
          · rw [List.mem_singleton.mp w]
            exact hs1
        · exact ⟨_, rfl, by rw [List.length_drop]; omega, fun c hc => sc1000 c (List.mem_of_mem_drop hc)⟩
      obtain ⟨u, hu⟩ : ∃ u, atI ([.str (SX.S (x.take pp ++ [sc] ++ x.drop (pp + 1))), .str (SX.S (x ++ [sc])), .str (SX.S (x.drop 1))] : List V) (wy - 4) = some u := by
        rcases w456 with rfl | rfl | rfl <;> exact ⟨_, rfl⟩
      have hm := ho u (mem_atI hu)
      have sZ := same_upd (o := .lst [.str (SX.S (x.take pp ++ [sc] ++ x.drop (pp + 1))), .str (SX.S (x ++ [sc])), .str (SX.S (x.drop 1))]) nZ
      refine ⟨_, rfl, _, _, rfl, rfl, Z, _, _, u, rfl, rfl, SqL.of upd_same, hu, ?_⟩
      generalize upd H8 Z _ = G1 at *
      refine ⟨_, rfl, _, rfl, M, _, _, a, rfl, rfl, sZ _ _ eM8, ixn (by rw [lcV]; exact al), ?_⟩
      refine ⟨_, rfl, finM _ G1 (fun w hw => ?_) (by rw [List.length_set, lcV]; omega) (Keep.ofSame sZ) ((B8.same sZ).mono (by omega))⟩
      rcases List.mem_or_eq_of_mem_set hw with y | y
      · exact ocs w y
      · rw [y]
        exact hm
    · have w78 : wy = 7 ∨ wy = 8 := by
        have := of_decide_eq_false (Bool.eq_false_iff.mpr z5)
        omega
      refine ⟨_, rfl, _, rfl, (a : Int), rfl, M, _, rfl, SqL.of eM8, fun L1 nL1 => ?_⟩
      have s1 := same_upd (o := .lst (cutV (cV cs) none (some (a : Int)))) nL1
      have e1 : (upd H8 L1 (.lst (cutV (cV cs) none (some (a : Int))))) L1 = some (.lst (cutV (cV cs) none (some (a : Int)))) := upd_same
      have l1 := cutV_length (cV cs) none (some (a : Int))
      have o1 : ∀ u ∈ cutV (cV cs) none (some (a : Int)), Od U1 U2 u := fun u hu => ocs u (List.mem_of_mem_drop (List.mem_of_mem_take hu))
      generalize hc1 : cutV (cV cs) none (some (a : Int)) = c1 at *
      generalize upd H8 L1 (.lst c1) = G1 at *
      refine ⟨_, rfl, (by show 1 ≤ sizeLine; decide), fun L5 nL5 => ?_⟩
      have s5 := same_upd (o := .lst [.str (SX.S x)]) nL5
      have e5 : (upd G1 L5 (.lst [.str (SX.S x)])) L5 = some (.lst [.str (SX.S x)]) := upd_same
      generalize upd G1 L5 (.lst [.str (SX.S x)]) = G2 at *
      refine ⟨_, rfl, _, _, rfl, rfl, _, _, rfl, rfl, .inl ⟨by decide, by decide⟩, ?_⟩
      refine ⟨L5, 2 * (wy - 7), _, rfl, rfl, e5, by omega, by omega, by show 1 * _ ≤ sizeLine; exact Nat.le_of_lt (small1000 (by omega)), fun L3 nL3 => ?_⟩
      have lf : (List.replicate (2 * (wy - 7)).toNat ([.str (SX.S x)] : List V)).flatten.length ≤ 2 := by
        rcases w78 with rfl | rfl
        · exact Nat.zero_le _
        · exact Nat.le_refl 2
      have of_ : ∀ u ∈ (List.replicate (2 * (wy - 7)).toNat ([.str (SX.S x)] : List V)).flatten, Od U1 U2 u := fun u hu => by
        obtain ⟨y, hy, hu⟩ := List.mem_flatten.mp hu
        rw [List.eq_of_mem_replicate hy] at hu
        rw [List.mem_singleton.mp hu]
        exact ocs _ (List.mem_of_getElem? hxV)
      generalize (List.replicate (2 * (wy - 7)).toNat ([.str (SX.S x)] : List V)).flatten = c2 at *
      have s3 := same_upd (o := .lst c2) nL3
      have e3 : (upd G2 L3 (.lst c2)) L3 = some (.lst c2) := upd_same
      have e13 := s3 _ _ (s5 _ _ e1)
      have s03 := (s1.trans s5).trans s3
      change rCat _ _ (upd G2 L3 (.lst c2)) _
      generalize upd G2 L3 (.lst c2) = G3 at *
      refine ⟨L1, L3, _, _, rfl, rfl, e13, e3, by have := Nat.le_of_lt (small1000 (show 302 ≤ _ by decide)); omega, fun L4 nL4 => ?_⟩
      have s4 := same_upd (o := .lst (c1 ++ c2)) nL4
      have e4 : (upd G3 L4 (.lst (c1 ++ c2))) L4 = some (.lst (c1 ++ c2)) := upd_same
      have s04 := s03.trans s4
      have eM4 := s04 _ _ eM8
      dsimp only
      generalize upd G3 L4 (.lst (c1 ++ c2)) = G4 at *
      refine ⟨_, rfl, _, rfl, _, _, rfl, rfl, (a : Int) + 1, rfl, M, _, rfl, SqL.of eM4, fun L6 nL6 => ?_⟩
      have l3 := cutV_length (cV cs) (some ((a : Int) + 1)) none
      have o3 : ∀ u ∈ cutV (cV cs) (some ((a : Int) + 1)) none, Od U1 U2 u := fun u hu => ocs u (List.mem_of_mem_drop (List.mem_of_mem_take hu))
      generalize cutV (cV cs) (some ((a : Int) + 1)) none = c3 at *
      have s6 := same_upd (o := .lst c3) nL6
      have e6 : (upd G4 L6 (.lst c3)) L6 = some (.lst c3) := upd_same
      have e46 := s6 _ _ e4
      dsimp only
      generalize upd G4 L6 (.lst c3) = G5 at *
      refine ⟨L4, L6, _, _, rfl, rfl, e46, e6, by rw [List.length_append]; have := Nat.le_of_lt (small1000 (show 700 ≤ _ by decide)); omega, fun L7 nL7 => ?_⟩
      have s7 := same_upd (o := .lst (c1 ++ c2 ++ c3)) nL7
      have s07 := (s04.trans s6).trans s7
      dsimp only [gName]
      try simp only [L2.start, List.map_cons, List.map_nil, List.length_cons, List.length_nil, List.replicate_succ, List.replicate_zero, List.cons_append, List.nil_append, List.set_cons_succ, List.set_cons_zero, Nat.reduceAdd, Nat.reduceSub, Nat.zero_add]
      refine ⟨_, rfl, fin _ L7 _ (fun u hu => ?_) (by rw [List.length_append, List.length_append]; omega) (k08.trans (Keep.ofSame s07)) ((B8.same s07).mono (by omega)) ⟨s07 _ _ aO8.1, s07 _ _ aO8.2⟩ upd_same⟩
      rcases List.mem_append.mp hu with y | y
      · rcases List.mem_append.mp y with y | y
        · exact o1 u y
        · exact of_ u y
      · exact o3 u y
  · exact ⟨_, rfl, fin _ M H8 ocs (by rw [lcV]; omega) k08 (B8.mono (by omega)) aO8 eM8⟩
end
section
variable {P : Program} {w : World} {K : PySem.W.Frag} {mg : Str → Option Value} {base : Heap}
variable {C : Addr} {za : Nat → Addr} {zl : Nat → FuncData}
/-! ### one box -/
mutual
theorem dp_same {K : PySem.W.Frag} {H H' : Hp} (s : Same H H') : ∀ {v : V} {d : PyData}, Dp K H v d → Dp K H' v d
  | _, _, .non => .non
  | _, _, .bl b => .bl b
  | _, _, .int i => .int i
  | _, _, .str x => .str x
  | _, _, .lst h k => .lst (SqL.ext h (fun a u e => s a u e)) (dp_sameAll s k)
  | _, _, .tup h k => .tup (SqT.ext h (fun a u e => s a u e)) (dp_sameAll s k)
theorem dp_sameAll {K : PySem.W.Frag} {H H' : Hp} (s : Same H H') : ∀ {vs : List V} {ds : List PyData}, DpAll K H vs ds → DpAll K H' vs ds
  | _, _, .nil => .nil
  | _, _, .cons h k => .cons (dp_same s h) (dp_sameAll s k)
end
theorem Thg.keepB {H H' : Hp} {b : Addr} {c c' : Int} {v : V} {o : Option (List Nat)} (h : Thg H v o) (k : Keep b H H') (B : BoxAt c H b) (B' : BoxAt c' H' b) : Thg H' v o := by
  cases h with
  | non => exact .non
  | int i => exact .int i
  | bl b => exact .bl b
  | @tup t xs e =>
    refine .tup (k _ _ e fun z => ?_)
    obtain ⟨_, _, _, eb, _⟩ := B
    rw [z, eb] at e
    cases e
  | @lst t xs e =>
    by_cases z : t = b
    · obtain ⟨_, _, _, eb, _⟩ := B'
      rw [z]
      exact .lst eb
    · exact .lst (k _ _ e z)
  | str h => exact .str h
theorem rep2 : ∀ m : Nat, m ≤ 20 → strRep (Str.ofString "2") m = SX.S (List.replicate m 50) := by decide +kernel
theorem shw_cs {m : Nat} (m12 : m ≤ 12) : ∀ cs : List (List Nat), (∀ x ∈ cs, x.length = m ∧ SgL x) → ShwA (26 * cs.length) 3 ((cs.map SX.S).map PyData.str)
  | [], _ => shwA_nil 3
  | x :: cs, h => by
    obtain ⟨lx, sx⟩ := h x List.mem_cons_self
    exact (ShwA.cons (shw_S (x := x) (by omega) fun c hc => by have := sx c hc; omega) (shw_cs m12 cs fun y hy => h y (List.mem_cons_of_mem _ hy))).mono (by rw [List.length_cons]; omega) (Nat.le_refl _)
theorem cs_top {H : Hp} {t : Addr} {m : Nat} {cs : List (List Nat)} (m12 : m ≤ 12) (e : H t = some (.lst (cV cs))) (l : cs.length ≤ 300) (h : ∀ x ∈ cs, x.length = m ∧ SgL x) : Top62 H (.ref t) (some (cs.map some)) := by
  refine .lst e (by rw [cV_len, List.length_map]) (fun i v o hv ho => ?_) (by rw [List.length_map]; omega)
  unfold cV at hv
  rw [List.getElem?_map] at hv ho
  obtain ⟨x, hx, rfl⟩ := Option.map_eq_some_iff.mp hv
  rw [hx] at ho
  cases ho
  have := (h x (List.mem_of_getElem? hx)).1
  exact .str (by omega)
theorem cs_thk {H : Hp} {t : Addr} {m : Nat} {cs : List (List Nat)} (m12 : m ≤ 12) (e : H t = some (.lst (cV cs))) (l : cs.length ≤ 300) (h : ∀ x ∈ cs, x.length = m ∧ SgL x) : Thk K H (.ref t) (some (cs.map some)) :=
  ⟨cs_top m12 e l h, _, .lst (SqL.of e) (dp_cV cs), (Shw.lst (shw_cs m12 cs h)).mono (by omega) (by decide)⟩
theorem Thk.same {H H' : Hp} {v : V} {l : Option (List (Option (List Nat)))} (h : Thk K H v l) (s : Same H H') : Thk K H' v l := by
  obtain ⟨a, d, b, c⟩ := h
  exact ⟨a.same s, d, dp_same s b, c⟩
def spRight62 : Sp := fun vs H Q _ => ∃ (b : Addr) (c : Int), vs = [.ref b] ∧ BoxAt c H b ∧ c ≤ 100 ∧ ∀ H', Keep b H H' → Q (.bl true) H'
theorem ok__law_right (B : Bl mg) (L : LL K mg C za zl) : FnOkG P w K mg base CX0 12 (za 33) (zl 33) ["_law_box_here"] spRight62 := by
  have G__law_take : FnOk P w K mg base CX0 11 (za 17) (zl 17) ["_law_box_here", "_law_size"] (spTake 1) := (ok_take L.F__law_take L.b__law_take L.m__law_take B 1).mono (by decide)
  have G__law_gate_rows : FnOk P w K mg base CX0 11 (za 20) (zl 20) ["_law_box_here", "_law_first", "_law_many"] spRows60 := (ok__law_gate_rows B L).mono (by decide)
  have G__law_given : FnOk P w K mg base CX0 11 (za 26) (zl 26) ["_law_box_here", "_law_far"] spGiven60 := (ok__law_given B L).mono (by decide)
  have G__law_bent_rows : FnOk P w K mg base CX0 11 (za 27) (zl 27) ["_law_box_here", "_law_first", "_law_rows"] spBent := (ok__law_bent_rows B L).mono (by decide)
  have G__law_net : FnOk P w K mg base CX0 11 (za 21) (zl 21) ["_law_first", "_law_rows", "_law_given_here"] (spNet63 C) := (ok__law_net B L).mono (by decide)
  have G__law_looked : FnOk P w K mg base CX0 11 (za 24) (zl 24) ["_law_first", "_law_one", "_law_other", "_law_limit"] spLook := (ok__law_looked B L).mono (by decide)
  have G__law_same : FnOk P w K mg base CX0 11 (za 19) (zl 19) ["_law_found", "_law_due"] (spSame K 5) := (ok_same L.F__law_same L.b__law_same L.m__law_same B 5).mono (by decide)
  have G__law_all_bits : FnOk P w K mg base CX0 11 (za 28) (zl 28) ["_law_many"] spAB := (ok__law_all_bits B L).mono (by decide)
  have G__law_bent : FnOk P w K mg base CX0 11 (za 32) (zl 32) ["_law_box_here", "_law_cubes", "_law_first"] (spBn K) := (ok__law_bent B L).mono (by decide)
  have G__law_same_due : FnOk P w K mg base CX0 11 (za 30) (zl 30) ["_law_first", "_law_one", "_law_other", "_law_thing"] spSD := (ok__law_same_due B L).mono (by decide)
  have G__law_unlike_due : FnOk P w K mg base CX0 11 (za 31) (zl 31) ["_law_first", "_law_one", "_law_other", "_law_thing"] spUD := (ok__law_unlike_due B L).mono (by decide)
  have G_shows_same : FnOk P w K mg base CX0 11 (za 14) (zl 14) ["one", "other", "thing"] (spShS C) := (ok_shows_same B L).mono (by decide)
  have G_shows_unlike : FnOk P w K mg base CX0 11 (za 15) (zl 15) ["one", "other", "thing"] (spShU C) := (ok_shows_unlike B L).mono (by decide)
  have G_Net_give : FnOk P w K mg base CX0 11 (za 43) (zl 43) ["self", "name", "wires"] (spGive K C) := (ok_Net_give B L).mono (by decide)
  refine L.F__law_right.okG sc__law_right (fun vs H Q E h => ?_) (fun cdv A outer s H vs Q E gd hr h => ?_)
  · obtain ⟨b, c, rfl, _⟩ := h
    rfl
  obtain ⟨b, c, rfl, hB, hc, q⟩ := h
  refine ⟨_, (pss_cons (ps_set (i := 1) sc__law_right.nd rfl (.inr rfl) (pe_op op_add pe_int (pe_call G__law_take hr (by rfl) L.m__law_take L.F__law_take.kp L.b__law_take .nil pass0 (pa_cons (pv 0) (pa_cons pe_int pa_nil)))))
    (pss_cons (ps_set (i := 2) sc__law_right.nd rfl (.inl rfl) (pe_call G__law_gate_rows hr (by rfl) L.m__law_gate_rows L.F__law_gate_rows.kp L.b__law_gate_rows .nil pass0 (pa_cons (pv 0) (pa_cons (pv 1) (pa_cons (pe_op op_add pe_int (pe_call G__law_take hr (by rfl) L.m__law_take L.F__law_take.kp L.b__law_take .nil pass0 (pa_cons (pv 0) (pa_cons pe_int pa_nil)))) pa_nil)))))
    (pss_cons (ps_par (by rfl) sc__law_right.nd (i := 3) (j := 4) rfl rfl (by decide) rfl rfl (pa_cons (pe_call G__law_given hr (by rfl) L.m__law_given L.F__law_given.kp L.b__law_given .nil pass0 (pa_cons (pv 0) (pa_cons (pe_op op_add (pv 1) (pe_callB call_len_seq (by rfl) B.len PySem.boot_len (pa_cons (pv 2) pa_nil))) pa_nil))) (pa_cons (pv 2) pa_nil)) (by rfl))
    (pss_cons (ps_for PassesOwn.never rfl (pi_range1 (by rfl) B.range (pa_cons (pe_call G__law_take hr (by rfl) L.m__law_take L.F__law_take.kp L.b__law_take .nil pass0 (pa_cons (pv 0) (pa_cons pe_int pa_nil))) pa_nil)) (pg_name (i := 5) sc__law_right.nd rfl (.inl rfl)) (pss_one (ps_set (i := 4) sc__law_right.nd rfl (.inl rfl) (pe_call G__law_bent_rows hr (by rfl) L.m__law_bent_rows L.F__law_bent_rows.kp L.b__law_bent_rows .nil pass0 (pa_cons (pv 0) (pa_cons (pv 1) (pa_cons (pv 4) pa_nil)))))))
    (pss_cons (ps_asg (pe_tup (pa_cons (pe_tup (pa_cons (pv 2) (pa_cons (pv 3) pa_nil))) (pa_cons (pe_tup (pa_cons (pv 4) (pa_cons (pv 3) pa_nil))) pa_nil))) (pg_tup (by rfl) (pgs_cons (pg_name (i := 6) sc__law_right.nd rfl (.inr rfl)) (pgs_cons (pg_name (i := 7) sc__law_right.nd rfl (.inr rfl)) pgs_nil))))
    (pss_cons (ps_set (i := 8) sc__law_right.nd rfl (.inr rfl) (pe_lst (pa_cons (pe_call G__law_net hr (by rfl) L.m__law_net L.F__law_net.kp L.b__law_net .nil pass0 (pa_cons (pv 1) (pa_cons (pv 2) (pa_cons (pv 3) pa_nil)))) (pa_cons (pe_call G__law_net hr (by rfl) L.m__law_net L.F__law_net.kp L.b__law_net .nil pass0 (pa_cons (pv 1) (pa_cons (pv 4) (pa_cons (pe_revL (pv 3)) pa_nil)))) pa_nil))))
    (pss_cons (ps_set (i := 9) sc__law_right.nd rfl (.inl rfl) (pe_call G__law_looked hr (by rfl) L.m__law_looked L.F__law_looked.kp L.b__law_looked .nil pass0 (pa_cons (pv 1) (pa_cons (pv 6) (pa_cons (pv 7) (pa_cons (pe_op op_oneShl pe_int (pe_op op_add (pv 1) pe_int)) pa_nil))))))
    (pss_cons (ps_set (i := 10) sc__law_right.nd rfl (.inl rfl) (pe_ix ix_list (pe_lst (pa_cons (pe_call G__law_all_bits hr (by rfl) L.m__law_all_bits L.F__law_all_bits.kp L.b__law_all_bits .nil pass0 (pa_cons (pv 1) pa_nil)) (pa_cons (pe_ix ix_tup (pv 9) pe_int (fun _ _ => rfl)) pa_nil))) (pe_callTy call_int1 (by rfl) B.int PyProof.Rows.boot_int (pa_cons (pe_cmpR op_eq (pe_ix ix_tup (pv 9) pe_int (fun _ _ => rfl)) pe_str (nomark _)) pa_nil)) (fun _ _ => rfl)))
    (pss_cons (ps_for PassesOwn.never rfl (pi_range1 (by rfl) B.range (pa_cons pe_int pa_nil)) (pg_name (i := 5) sc__law_right.nd rfl (.inl rfl)) (pss_cons (ps_set (i := 11) sc__law_right.nd rfl (.inl rfl) (pe_ifExp (pt_cmpR op_gt (pv 5) pe_int (nomark _)) (pe_call G__law_bent hr (by rfl) L.m__law_bent L.F__law_bent.kp L.b__law_bent .nil pass0 (pa_cons (pv 0) (pa_cons (pv 10) (pa_cons (pv 1) pa_nil)))) (pv 10)))
    (pss_cons (ps_par (by rfl) sc__law_right.nd (i := 12) (j := 13) rfl rfl (by decide) rfl rfl (pa_cons (pe_callB (call_reprA gd (roomS hr)) (by rfl) L.z_repr PyProof.Rows.boot_repr (pa_cons (pv 11) pa_nil)) (pa_cons (pe_call G_shows_same hr (by rfl) L.m_shows_same L.F_shows_same.kp L.b_shows_same .nil pass0 (pa_cons (pe_ix ix_list (pv 8) pe_int (fun _ _ => rfl)) (pa_cons (pe_ix ix_list (pv 8) pe_int (fun _ _ => rfl)) (pa_cons (pv 11) pa_nil)))) pa_nil)) (by rfl))
    (pss_one (ps_if (PW.pt (pw_or (pt_not (pt_val (pe_call G__law_same hr (by rfl) L.m__law_same L.F__law_same.kp L.b__law_same .nil pass0 (pa_cons (pv 13) (pa_cons (pe_call G__law_same_due hr (by rfl) L.m__law_same_due L.F__law_same_due.kp L.b__law_same_due .nil pass0 (pa_cons (pv 1) (pa_cons (pv 6) (pa_cons (pv 7) (pa_cons (pv 11) pa_nil))))) pa_nil))))) (pw_or1 (pt_cmpR op_ne (pe_callB (call_reprA gd (roomS hr)) (by rfl) L.z_repr PyProof.Rows.boot_repr (pa_cons (pv 11) pa_nil)) (pv 12) (nomark _))))) (pss_one (ps_ret pe_bl)) pss_nil)))))
    (pss_cons (ps_set (i := 14) sc__law_right.nd rfl (.inl rfl) (pe_op op_cat (pe_slice sl_list (pe_call G__law_all_bits hr (by rfl) L.m__law_all_bits L.F__law_all_bits.kp L.b__law_all_bits .nil pass0 (pa_cons (pv 1) pa_nil)) po_none (po_some pe_int)) (pe_lst (pa_cons pe_str (pa_cons (pe_op op_mul_str pe_str (pe_op op_add (pv 1) pe_int)) (pa_cons (pe_op op_mul_str pe_str (pv 1)) (pa_cons (pe_op op_mul_str pe_str (pv 1)) (pa_cons pe_non (pa_cons pe_int (pa_cons pe_bl (pa_cons (pe_op op_rep (pe_lst (pa_cons pe_str pa_nil)) (pv 1)) pa_nil)))))))))))
    (pss_cons (ps_for PassesOwn.never rfl (pi_list (pe_op op_cat (pv 14) (pe_lst (pa_cons (pe_ix ix_tup (pv 9) pe_int (fun _ _ => rfl)) pa_nil)))) (pg_name (i := 11) sc__law_right.nd rfl (.inl rfl)) (pss_one (ps_if (pt_not (pt_val (pe_call G__law_same hr (by rfl) L.m__law_same L.F__law_same.kp L.b__law_same .nil pass0 (pa_cons (pe_call G_shows_unlike hr (by rfl) L.m_shows_unlike L.F_shows_unlike.kp L.b_shows_unlike .nil pass0 (pa_cons (pe_ix ix_list (pv 8) pe_int (fun _ _ => rfl)) (pa_cons (pe_ix ix_list (pv 8) pe_int (fun _ _ => rfl)) (pa_cons (pv 11) pa_nil)))) (pa_cons (pe_call G__law_unlike_due hr (by rfl) L.m__law_unlike_due L.F__law_unlike_due.kp L.b__law_unlike_due .nil pass0 (pa_cons (pv 1) (pa_cons (pv 6) (pa_cons (pv 7) (pa_cons (pv 11) pa_nil))))) pa_nil))))) (pss_one (ps_ret pe_bl)) pss_nil)))
    (pss_cons (ps_par (by rfl) sc__law_right.nd (i := 15) (j := 16) rfl rfl (by decide) rfl rfl (pa_cons (pe_call G__law_take hr (by rfl) L.m__law_take L.F__law_take.kp L.b__law_take .nil pass0 (pa_cons (pv 0) (pa_cons (pv 1) pa_nil))) (pa_cons (pe_call G__law_take hr (by rfl) L.m__law_take L.F__law_take.kp L.b__law_take .nil pass0 (pa_cons (pv 0) (pa_cons (pv 1) pa_nil))) pa_nil)) (by rfl))
    (pss_cons (ps_expr (pe_meth (pe_ix ix_list (pv 8) pe_int (fun _ _ => rfl)) L.T.cl L.M_Net_give G_Net_give hr L.b_Net_give .nil pass0 (pa_cons pe_str (pa_cons (pe_lst (pa_cons (pv 15) pa_nil)) pa_nil))))
    (pss_cons (ps_expr (pe_meth (pe_ix ix_list (pv 8) pe_int (fun _ _ => rfl)) L.T.cl L.M_Net_give G_Net_give hr L.b_Net_give .nil pass0 (pa_cons pe_str (pa_cons (pe_lst (pa_cons (pv 16) pa_nil)) pa_nil))))
    (pss_cons (ps_asg (pe_tup (pa_cons (pe_tup (pa_cons (pv 2) (pa_cons (pe_op op_cat (pv 3) (pe_lst (pa_cons (pe_tup (pa_cons pe_str (pa_cons (pe_lst (pa_cons (pv 15) pa_nil)) pa_nil))) pa_nil))) pa_nil))) (pa_cons (pe_tup (pa_cons (pv 4) (pa_cons (pe_op op_cat (pv 3) (pe_lst (pa_cons (pe_tup (pa_cons pe_str (pa_cons (pe_lst (pa_cons (pv 16) pa_nil)) pa_nil))) pa_nil))) pa_nil))) pa_nil))) (pg_tup (by rfl) (pgs_cons (pg_name (i := 6) sc__law_right.nd rfl (.inr rfl)) (pgs_cons (pg_name (i := 7) sc__law_right.nd rfl (.inr rfl)) pgs_nil))))
    (pss_cons (ps_if (pt_not (pt_val (pe_call G__law_same hr (by rfl) L.m__law_same L.F__law_same.kp L.b__law_same .nil pass0 (pa_cons (pe_call G_shows_same hr (by rfl) L.m_shows_same L.F_shows_same.kp L.b_shows_same .nil pass0 (pa_cons (pe_ix ix_list (pv 8) pe_int (fun _ _ => rfl)) (pa_cons (pe_ix ix_list (pv 8) pe_int (fun _ _ => rfl)) (pa_cons (pv 10) pa_nil)))) (pa_cons (pe_call G__law_same_due hr (by rfl) L.m__law_same_due L.F__law_same_due.kp L.b__law_same_due .nil pass0 (pa_cons (pv 1) (pa_cons (pv 6) (pa_cons (pv 7) (pa_cons (pv 10) pa_nil))))) pa_nil))))) (pss_one (ps_ret pe_bl)) pss_nil)
    (pss_cons (ps_set (i := 17) sc__law_right.nd rfl (.inl rfl) (pe_slice sl_list (pe_call G__law_all_bits hr (by rfl) L.m__law_all_bits L.F__law_all_bits.kp L.b__law_all_bits .nil pass0 (pa_cons (pv 1) pa_nil)) po_none (po_some pe_int)))
    (pss_cons (ps_setLc (i := 13) (own := [("_law_bits", 18)]) (by rfl) sc__law_right.nd rfl rfl (sw_true rfl rfl rfl (by decide +kernel)) (pi_list (pv 17)) (blkOk_by (own := [("_law_bits", 18)]) (N := ["_law_box_here", "_law_first", "_law_rows", "_law_given_here", "_law_others", "_law_turn", "_law_one", "_law_other", "_law_nets", "_law_told", "_law_cubes", "_law_thing", "_law_kept", "_law_found", "_law_some", "_law_a", "_law_b", "_law_texts", "_law_bits"]) (sc := defScope s__law_right) (by decide +kernel)) (fun _ _ _ _ _ => pg_name (i := 18) sc__law_right.nd rfl (Or.inl rfl)) (fun _ _ _ _ _ => pts_nil) (fun _ _ _ _ _ => (pe_call G_shows_unlike hr (by rfl) L.m_shows_unlike L.F_shows_unlike.kp L.b_shows_unlike .nil pass0 (pa_cons (pe_ix (ix_listK (K := K)) (pv 8) pe_int (fun _ _ => rfl)) (pa_cons (pe_ix (ix_listK (K := K)) (pv 8) pe_int (fun _ _ => rfl)) (pa_cons (pv 18) pa_nil))))))
    (pss_one (ps_ret (pe_call G__law_same hr (by rfl) L.m__law_same L.F__law_same.kp L.b__law_same .nil pass0 (pa_cons (pv 13) (pa_cons (pe_lc (own := [("_law_bits", 18)]) (by rfl) sc__law_right.nd (pi_list (pv 17)) (blkOk_by (own := [("_law_bits", 18)]) (N := ["_law_box_here", "_law_first", "_law_rows", "_law_given_here", "_law_others", "_law_turn", "_law_one", "_law_other", "_law_nets", "_law_told", "_law_cubes", "_law_thing", "_law_kept", "_law_found", "_law_some", "_law_a", "_law_b", "_law_texts", "_law_bits"]) (sc := defScope s__law_right) (by decide +kernel)) (fun _ _ _ _ _ => pg_name (i := 18) sc__law_right.nd rfl (Or.inl rfl)) (fun _ _ _ _ _ => pts_nil) (fun _ _ _ _ _ => (pe_call G__law_unlike_due hr (by rfl) L.m__law_unlike_due L.F__law_unlike_due.kp L.b__law_unlike_due .nil pass0 (pa_cons (pv 1) (pa_cons (pv 6) (pa_cons (pv 7) (pa_cons (pv 18) pa_nil))))))) pa_nil))))))))))))))))))))))), ?_⟩
  refine ⟨_, rfl, b, _, _, rfl, hB, by decide, by decide, by decide, by omega, by decide, fun r2 H2 u2 v2 B2 k02 => ?_⟩
  replace B2 := bx1 B2
  refine ⟨_, _, rfl, rfl, ?_⟩
  obtain ⟨m, em, m1, m6⟩ : ∃ m : Nat, 1 + r2 = (m : Int) ∧ 1 ≤ m ∧ m ≤ 5 := ⟨(1 + r2).toNat, by omega, by omega, by omega⟩
  dsimp only [gName]
  rw [em]
  try simp only [L2.start, List.map_cons, List.map_nil, List.length_cons, List.length_nil, List.replicate_succ, List.replicate_zero, List.cons_append, List.nil_append, List.set_cons_succ, List.set_cons_zero, Nat.reduceAdd, Nat.reduceSub, Nat.zero_add]
  refine ⟨_, rfl, _, rfl, _, rfl, b, _, _, rfl, B2, by decide, by decide, by decide, by omega, by decide, fun r3 H3 u3 v3 B3 k3 => ?_⟩
  replace B3 := bx1 B3
  obtain ⟨n, en, n1, n12⟩ : ∃ n : Nat, 1 + r3 = (n : Int) ∧ 1 ≤ n ∧ n ≤ 10 := ⟨(1 + r3).toNat, by omega, by omega, by omega⟩
  refine ⟨_, _, rfl, rfl, ?_⟩
  refine ⟨b, _, m, n, (by show [V.ref b, V.int (m : Int), V.int (1 + r3)] = _; rw [en]), B3, by omega, m1, by omega, by omega, fun R gs H4 lg ok nRb rA B4 k4 => ?_⟩
  have k04 := (k02.trans k3).trans k4
  obtain ⟨ts, lt, eR, hts⟩ := id rA
  try simp only [L2.start, List.map_cons, List.map_nil, List.length_cons, List.length_nil, List.replicate_succ, List.replicate_zero, List.cons_append, List.nil_append, List.set_cons_succ, List.set_cons_zero, Nat.reduceAdd, Nat.reduceSub, Nat.zero_add]
  refine ⟨_, rfl, _, rfl, _, rfl, R, _, rfl, .inl (SqL.of eR), _, _, rfl, rfl, ?_⟩
  have hM : (m : Int) + ((ts.map V.ref).length : Nat) = ((m + gs.length : Nat) : Int) := by
    rw [List.length_map, lt]
    omega
  refine ⟨b, _, m + gs.length, (by show [V.ref b, V.int ((m : Int) + ((ts.map V.ref).length : Nat))] = _; rw [hM]), B4, by omega, by omega, by omega, fun F nm H5 nm1 nm3 gok gA B5 k5 => ?_⟩
  have k05 := k04.trans k5
  have rA5 : RowsAt46 H5 R gs := rA.keepB k5 B4
  refine ⟨_, rfl, _, _, rfl, ?_⟩
  try simp only [L2.start, List.map_cons, List.map_nil, List.length_cons, List.length_nil, List.replicate_succ, List.replicate_zero, List.cons_append, List.nil_append, List.set_cons_succ, List.set_cons_zero, Nat.reduceAdd, Nat.reduceSub, Nat.zero_add]
  refine ⟨_, rfl, b, _, _, rfl, B5, by decide, by decide, by decide, by omega, by decide, fun r4 H6 u4 v4 B6 k6 => ?_⟩
  replace B6 := bx1 B6
  obtain ⟨n4, rfl⟩ := Int.eq_ofNat_of_zero_le u4
  refine ⟨(n4 : Int), rfl, by omega, by omega, ?_⟩
  rw [Int.toNat_natCast]
  refine for_range (n := n4) (fun j σ H9 => ∃ (y5 : Option V) (O : Addr) (go : List Gt), σ = [some (.ref b), some (.int (m : Int)), some (.ref R), some (.ref F), some (.ref O), y5, none, none, none, none, none, none, none, none, none, none, none, none, none] ∧ go.length = gs.length ∧ GsOk m go ∧ RowsAt46 H9 O go ∧ RowsAt46 H9 R gs ∧ GvAt b H9 F nm ∧ BoxAt (c + 500 + 5 * j) H9 b ∧ Keep b H H9) ⟨_, R, gs, rfl, rfl, ok, rA5.keepB k6 B5, rA5.keepB k6 B5, gA.keep k6, B6.mono (by omega), k05.trans k6⟩ ?_ ?_
  · rintro j σ H9 hj ⟨y5, O, go, rfl, lgo, oko, rO, rR, g9, B9, k9⟩
    dsimp only [gName]
    try simp only [L2.start, List.map_cons, List.map_nil, List.length_cons, List.length_nil, List.replicate_succ, List.replicate_zero, List.cons_append, List.nil_append, List.set_cons_succ, List.set_cons_zero, Nat.reduceAdd, Nat.reduceSub, Nat.zero_add]
    refine ⟨_, rfl, _, rfl, _, rfl, b, O, _, m, go, rfl, B9, by omega, m1, by omega, rO, oko, by omega, by omega, fun O' go' H10 l' ok' rO' B10 k10 => ?_⟩
    exact ⟨_, O', go', rfl, by omega, ok', rO', rR.keepB k10 B9, g9.keep k10, B10.mono (by omega), k9.trans k10⟩
  rintro σ H7 ⟨y5, O, go, rfl, lgo, oko, rO, rR, g7, B7, k07⟩
  dsimp only [tSeq]
  refine ⟨_, rfl, _, rfl, (by show 2 ≤ sizeLine; decide), fun PA1 nPA => ?_⟩
  have sPA := same_upd (o := .tup [.ref R, .ref F]) nPA
  have ePA : (upd H7 PA1 (.tup [.ref R, .ref F])) PA1 = some (.tup [.ref R, .ref F]) := upd_same
  have nPAb := (B7.ne nPA).symm
  have B8 := B7.same sPA
  have rO8 := rO.same sPA
  have rR8 := rR.same sPA
  have g8 := g7.keep (.ofSame sPA)
  have k08 := k07.trans (.ofSame sPA)
  generalize upd H7 PA1 _ = H8 at *
  refine ⟨_, rfl, _, rfl, (by show 2 ≤ sizeLine; decide), fun PB1 nPB => ?_⟩
  have sPB := same_upd (o := .tup [.ref O, .ref F]) nPB
  have ePB : (upd H8 PB1 (.tup [.ref O, .ref F])) PB1 = some (.tup [.ref O, .ref F]) := upd_same
  have ePA' := sPB _ _ ePA
  generalize upd H8 PB1 _ = Hd at *
  refine ⟨(by show 2 ≤ sizeLine; decide), fun TT nTT => ?_⟩
  have sTT := same_upd (o := .tup [.ref PA1, .ref PB1]) nTT
  refine ⟨TT, _, rfl, .inl (.inl upd_same), rfl, _, _, rfl, _, _, rfl, rfl, ?_⟩
  have ePB := sTT _ _ ePB
  have ePAe := sTT _ _ ePA'
  have sPT := sPB.trans sTT
  have rQe := rO8.same sPT
  have rRe := rR8.same sPT
  have ge := g8.keep (.ofSame sPT)
  have Be := B8.same sPT
  have k0e := k08.trans (.ofSame sPT)
  generalize upd Hd TT _ = He at *
  clear rO8 rR8 g8 B8 k08 k07 rO rR g7 B7
  dsimp only [gName]
  skip
  try simp only [L2.start, List.map_cons, List.map_nil, List.length_cons, List.length_nil, List.replicate_succ, List.replicate_zero, List.cons_append, List.nil_append, List.set_cons_succ, List.set_cons_zero, Nat.reduceAdd, Nat.reduceSub, Nat.zero_add]
  have inj : Inj nm := fun i j x y hx hy e => gok.inj (show nm.length ≤ 4 by omega) hx hy e
  refine ⟨_, rfl, _, rfl, _, rfl, [b], R, F, m, gs, nm, rfl, fun z hz => by rw [List.mem_singleton.mp hz]; exact Be.some, rRe, ok, ge.L, inj, fun x hx => ?_, by omega, by omega, by omega, fun pa Hf sf Na ⟨wx, wl, wd', wn⟩ => ?_⟩
  · obtain ⟨i, hi, ei⟩ := List.getElem_of_mem hx
    exact (gok i x.1 x.2 (by rw [List.getElem?_eq_getElem hi, ei])).2.2
  have ePBf := sf _ _ ePB
  have gf := ge.keep (.ofSame sf)
  obtain ⟨us, lu, eFf, hus⟩ := id gf.L
  refine ⟨_, rfl, _, rfl, _, rfl, F, _, rfl, SqL.of eFf, fun FR nFR => ?_⟩
  have sFR := same_upd (o := .lst (us.map V.ref).reverse) nFR
  have gFR : GvL (upd Hf FR (.lst (us.map V.ref).reverse)) FR nm.reverse := GvL.rev lu (fun i t n ws ht hn => by
    obtain ⟨l, a, c⟩ := hus i t n ws ht hn
    exact ⟨l, sFR _ _ a, sFR _ _ c⟩) upd_same
  have sfg := sf.trans sFR
  have Nag := Na.same sFR
  generalize upd Hf FR _ = Hg at *
  have some4 : ∀ {Z : List Addr} {G : Hp} {p : NetP} {mm : Nat} {g : List Gt} {nn : List (Str × List Nat)}, NetAt C Z G p mm g nn → ∀ y ∈ [p.x, p.lm, p.ld, p.dn], G y ≠ none := fun {Z G p mm g nn} h y hy => by
    obtain ⟨_, _, _, _, _, _, e1, e2, e3, e4, _⟩ := h
    simp only [List.mem_cons, List.not_mem_nil, or_false] at hy
    rcases hy with z | z | z | z <;> rw [z]
    · rw [e1]; exact fun z => nomatch z
    · rw [e2]; exact fun z => nomatch z
    · rw [e3]; exact fun z => nomatch z
    · rw [e4]; exact fun z => nomatch z
  refine ⟨[b, pa.lm, pa.ld, pa.dn], O, FR, m, go, nm.reverse, rfl, fun z hz => ?_, rQe.same sfg, oko, gFR, inj.rev, fun x hx a ha => ?_, by rw [List.length_reverse]; omega, by omega, by omega, fun pb Hh sh Nb ⟨vx, vl, vd, vn⟩ => ?_⟩
  · rcases List.mem_cons.mp hz with w | w
    · rw [w]; exact (Be.same sfg).some
    · exact some4 Nag z (List.mem_cons_of_mem _ w)
  · obtain ⟨i, hi, ei⟩ := List.getElem_of_mem (List.mem_reverse.mp hx)
    have := (gok i x.1 x.2 (by rw [List.getElem?_eq_getElem hi, ei])).2.2 a ha
    omega
  refine ⟨(by show 2 ≤ sizeLine; decide), fun NL nNL => ?_⟩
  have seh := sfg.trans sh
  have sNL := same_upd (o := .lst [.ref pa.x, .ref pb.x]) nNL
  have eNL : (upd Hh NL (.lst [.ref pa.x, .ref pb.x])) NL = some (.lst [.ref pa.x, .ref pb.x]) := upd_same
  have s7b : ∀ y ∈ [pb.lm, pb.ld, pb.dn], Hg y = none ∧ Hh y ≠ none := fun y hy => by
    have h4 := some4 Nb
    simp only [List.mem_cons, List.not_mem_nil, or_false] at hy
    rcases hy with z | z | z <;> rw [z]
    · exact ⟨vl, h4 _ (by simp)⟩
    · exact ⟨vd, h4 _ (by simp)⟩
    · exact ⟨vn, h4 _ (by simp)⟩
  have Nah : NetAt C [pb.dn, pb.ld, pb.lm, b] Hh pa m gs nm := by
    exact Nag.growL sh (fun y hy => by
        simp only [List.mem_cons, List.not_mem_nil, or_false] at hy
        rcases hy with z | z | z | z
        · exact .inl (by rw [z]; exact s7b _ (by simp))
        · exact .inl (by rw [z]; exact s7b _ (by simp))
        · exact .inl (by rw [z]; exact s7b _ (by simp))
        · exact .inr (by rw [z]; simp))
  have Nbi := Nb.same sNL
  have Nai := Nah.same sNL
  have sei := seh.trans sNL
  have hNL : Hh NL = none := nNL
  have T7n : ∀ y ∈ [pa.lm, pa.ld, pa.dn, pb.lm, pb.ld, pb.dn], He y = none := fun y hy => by
    have f : ∀ {z : Addr}, Hg z = none → He z = none := fun {z} e => by
      cases e2 : He z with
      | none => rfl
      | some o => rw [sfg _ _ e2] at e; cases e
    simp only [List.mem_cons, List.not_mem_nil, or_false] at hy
    rcases hy with z | z | z | z | z | z <;> rw [z]
    · exact wl
    · exact wd'
    · exact wn
    · exact f vl
    · exact f vd
    · exact f vn
  have R7 : RwS (T7 b pa pb) He R gs := rRe.toS (rRe.ne Be) Be T7n
  have Q7 : RwS (T7 b pa pb) He O go := rQe.toS (rQe.ne Be) Be T7n
  have G7 : GvS (T7 b pa pb) He F nm := ge.toS T7n
  have nNL7 : NL ∉ T7 b pa pb := fun z => by
    have hb := (Be.same seh).some
    have h1 := some4 Nah
    have h2 := some4 Nb
    simp only [T7, List.mem_cons, List.not_mem_nil, or_false] at z
    rcases z with z | z | z | z | z | z | z <;> rw [z] at hNL
    · exact hb hNL
    · exact h1 pa.lm (by simp) hNL
    · exact h1 pa.ld (by simp) hNL
    · exact h1 pa.dn (by simp) hNL
    · exact h2 pb.lm (by simp) hNL
    · exact h2 pb.ld (by simp) hNL
    · exact h2 pb.dn (by simp) hNL
  have nNLb : NL ≠ b := fun z => nNL7 (by rw [z]; simp [T7])
  have R7i := R7.keep (.ofSame sei) (T := []) (fun _ z => nomatch z)
  have Q7i := Q7.keep (.ofSame sei) (T := []) (fun _ z => nomatch z)
  have G7i := G7.keep (.ofSame sei) (T := []) (fun _ z => nomatch z)
  have ePAi := sei _ _ ePAe
  have ePBi := sei _ _ ePB
  have Bi := Be.same sei
  have k0i := k0e.trans (.ofSame sei)
  have T7H : ∀ y ∈ T7 b pa pb, y ≠ b → H y = none := fun y hy n => by
    rcases List.mem_cons.mp hy with z | z
    · exact absurd z n
    · exact k0e.none n (T7n y z)
  generalize upd Hh NL _ = Hi at *
  clear Nah Nb Nag Na R7 Q7 G7 rRe rQe ge gf gFR
  have bT : b ∈ T7 b pa pb := by simp [T7]
  have ginA : GvIn (m + gs.length) nm := gok.gin (by omega)
  have ginB : GvIn (m + go.length) nm := ⟨ginA.1, fun i n ws h => ⟨(ginA.2 i n ws h).1, fun a ha => Nat.lt_of_lt_of_le ((ginA.2 i n ws h).2 a ha) (by omega)⟩⟩
  obtain ⟨sa, oa⟩ := so_ex nm
  dsimp only [gName]
  try simp only [L2.start, List.map_cons, List.map_nil, List.length_cons, List.length_nil, List.replicate_succ, List.replicate_zero, List.cons_append, List.nil_append, List.set_cons_succ, List.set_cons_zero, Nat.reduceAdd, Nat.reduceSub, Nat.zero_add]
  have lrev : nm.reverse.length = nm.length := List.length_reverse
  have ginR : GvW (m + go.length) nm.reverse := ⟨inj.rev, fun x hx => ginB.gw.2 x (List.mem_reverse.mp hx)⟩
  have oar : SoOf sa nm.reverse := ⟨oa.1.trans (List.reverse_perm nm).symm, oa.2⟩
  have due0 : dueL m m sa sa = none := due_ln inj.rev oa oar ((List.reverse_perm nm).symm.map _)
  have hop : Hop (lk gs go sa sa) m := lk_hop ok oko ginA ginB oa oa
  have full : dfs (lk gs go sa sa) (2 ^ (m + 1)) [List.replicate m 45] [] ≠ none := dfs_full hop (Nat.le_refl _)
  have subb : ∀ y ∈ [b], y ∈ T7 b pa pb := fun y hy => by rw [List.mem_singleton.mp hy]; exact bT
  have bi : ∀ {y : Addr} {xs : List V}, Hi y = some (.tup xs) → y ≠ b := fun {y xs} e z => by
    obtain ⟨_, _, _, eb, _⟩ := Bi
    rw [z, eb] at e
    cases e
  have stp : ∀ {G : Hp} {cc : Int}, Keep b Hi G → BoxAt cc G b → PrAt b G PA1 gs nm ∧ PrAt b G PB1 go nm ∧ Two C G pa pb m gs go nm nm.reverse sa sa ∧ G NL = some (.lst [.ref pa.x, .ref pb.x]) := fun {G cc} kj Bj => by
    have kij : KeepS [b] Hi G := .ofKeep kj (List.mem_singleton.mpr rfl) Bj.some
    have R7j := R7i.keep kij subb
    have Q7j := Q7i.keep kij subb
    have G7j := G7i.keep kij subb
    have Naj := Nai.keep kij (fun y hy => by rw [List.mem_singleton.mp hy]; simp)
    have Nbj := Nbi.keep kij (fun y hy => by rw [List.mem_singleton.mp hy]; simp)
    exact ⟨⟨R, F, kj _ _ ePAi (bi ePAi), R7j.at, G7j.at bT⟩, ⟨O, F, kj _ _ ePBi (bi ePBi), Q7j.at, G7j.at bT⟩, ⟨⟨⟨_, Naj⟩, ok, ginA.gw, by omega, by omega, by omega⟩, ⟨⟨_, Nbj⟩, oko, ginR, by omega, by omega, by omega⟩, oa, oar, due0⟩, kj _ _ eNL nNLb⟩
  obtain ⟨prA, prB, two0, eNLi⟩ := stp (Keep.refl b Hi) Bi
  have m5 : (2 : Nat) ^ (m + 1) ≤ 64 := Nat.le_trans (Nat.pow_le_pow_right (by decide) (show m + 1 ≤ 6 by omega)) (by decide)
  have c5 : (2 : Int) ^ (m + 1) = ((2 ^ (m + 1) : Nat) : Int) := (PySem.W.kbt_cast (m + 1)).symm
  obtain ⟨N, eN⟩ : ∃ N : Nat, N = 2 ^ (m + 1) := ⟨_, rfl⟩
  rw [← eN] at m5 c5 full
  refine ⟨_, rfl, _, rfl, _, rfl, _, rfl, _, _, rfl, rfl, m + 1, rfl, congrArg V.int (by omega), by omega, ?_⟩
  refine ⟨b, PA1, PB1, m, N, gs, go, nm, nm, sa, sa, congrArg (fun x => [V.int (m : Int), .ref PA1, .ref PB1, V.int x]) c5, prA, prB, ok, oko, ginA, ginB, by omega, by omega, by omega, by omega, m1, by omega, by omega, oa, oa, fun dv H11 s11 hdv => ?_⟩
  dsimp only [gName]
  try simp only [L2.start, List.map_cons, List.map_nil, List.length_cons, List.length_nil, List.replicate_succ, List.replicate_zero, List.cons_append, List.nil_append, List.set_cons_succ, List.set_cons_zero, Nat.reduceAdd, Nat.reduceSub, Nat.zero_add]
  generalize hr0 : dfs (lk gs go sa sa) N [List.replicate m 45] [] = r0 at *
  obtain ⟨r, rfl⟩ : ∃ r, r0 = some r := by
    cases r0 with
    | none => exact absurd rfl full
    | some r => exact ⟨r, rfl⟩
  have hcb0 : Cb m [List.replicate m 45] := fun x hx => by
    rw [List.mem_singleton.mp hx]
    exact ⟨List.length_replicate, fun a ha => .inl (List.eq_of_mem_replicate ha)⟩
  -- told: a tuple of a text and a list or a text
  obtain ⟨t0, w0, v1, kd, et0, hw0, hv1, hkd⟩ : ∃ (t0 : Addr) (w0 : Str) (v1 : V) (kd : Option (List (List Nat))), H11 t0 = some (.tup [.str w0, v1]) ∧ dv = .ref t0 ∧ (∃ o, Thg H11 v1 o) ∧ (match kd with | none => w0 ≠ Str.ofString "same" | some ks => w0 = Str.ofString "same" ∧ (∃ k0, v1 = .ref k0 ∧ H11 k0 = some (.lst (cV ks))) ∧ ks.length ≤ 64 ∧ ∀ x ∈ ks, x.length = m ∧ SgL x) := by
    cases r with
    | sm ks =>
      obtain ⟨t, k0, e1, e2, e3⟩ := hdv
      obtain ⟨i1, _⟩ := dfs_sm hop N _ [] ks hr0 hcb0 (fun x hx => nomatch hx)
      have lks := dfs_len _ _ _ _ hr0
      rw [List.length_nil] at lks
      exact ⟨t, _, _, some ks, e2, e1, ⟨_, .lst e3⟩, rfl, ⟨k0, rfl, e3⟩, by omega, fun x hx => (i1 x hx).2⟩
    | un x =>
      obtain ⟨t, e1, e2⟩ := hdv
      obtain ⟨_, l2, l3⟩ := dfs_un N _ [] x hr0 hcb0
      exact ⟨t, _, _, none, e2, e1, ⟨_, .str (x := z0 x) (by rw [(z0_bt l3).2.1]; omega)⟩, by show Str.ofString "unlike" ≠ Str.ofString "same"; decide +kernel⟩
  subst hw0
  refine ⟨_, rfl, m, rfl, by omega, fun AB H12 s12 nAB eAB => ?_⟩
  refine ⟨_, rfl, t0, _, _, _, rfl, rfl, .inl (.inl (s12 _ _ et0)), (atI_nat (j := 1) rfl), ?_⟩
  refine ⟨(by show 2 ≤ sizeLine; decide), fun CL nCL => ?_⟩
  have sCL := same_upd (o := .lst [.ref AB, v1]) nCL
  have eCL : (upd H12 CL (.lst [.ref AB, v1])) CL = some (.lst [.ref AB, v1]) := upd_same
  have s1b := s12.trans sCL
  have eAB' := sCL _ _ eAB
  try dsimp only
  generalize upd H12 CL (.lst [.ref AB, v1]) = H13 at *
  refine ⟨_, rfl, t0, _, _, _, rfl, rfl, .inl (.inl (s1b _ _ et0)), (atI_nat (j := 0) rfl), rfl, ?_⟩
  refine .inr ⟨_, rfl, ?_⟩
  obtain ⟨Ct, cs, hat, eCt, lcs, hcs⟩ : ∃ (Ct : Addr) (cs : List (List Nat)), atI [V.ref AB, v1] (if decide (V.str w0 = V.str (Str.ofString "same")) = true then 1 else 0) = some (.ref Ct) ∧ H13 Ct = some (.lst (cV cs)) ∧ cs.length ≤ 64 ∧ ∀ x ∈ cs, x.length = m ∧ SgL x := by
    cases kd with
    | none =>
      refine ⟨AB, _, ?_, eAB', ?_, fun x hx => ?_⟩
      · rw [decide_eq_false (fun z => hkd (V.str.inj z))]
        rfl
      · rw [List.length_map, List.length_range]
        exact Nat.le_trans (Nat.pow_le_pow_right (by decide) (show m ≤ 6 by omega)) (by decide)
      · obtain ⟨n, _, rfl⟩ := List.mem_map.mp hx
        exact ⟨bc_len m n, (bc_bt m n).sg.1⟩
    | some ks =>
      obtain ⟨rfl, ⟨k0, rfl, ek⟩, lk, hk⟩ := hkd
      exact ⟨k0, ks, by rw [decide_eq_true rfl]; rfl, s1b _ _ ek, lk, hk⟩
  refine ⟨CL, _, _, _, rfl, rfl, SqL.of eCL, hat, ?_⟩
  dsimp only [gName]
  try simp only [L2.start, List.map_cons, List.map_nil, List.length_cons, List.length_nil, List.replicate_succ, List.replicate_zero, List.cons_append, List.nil_append, List.set_cons_succ, List.set_cons_zero, Nat.reduceAdd, Nat.reduceSub, Nat.zero_add]
  have s013 := s11.trans s1b
  have B13 := Bi.same s013
  have k013 : Keep b Hi H13 := .ofSame s013
  have nCb : Ct ≠ b := fun z => by
    obtain ⟨x0, x1, x2, e, _⟩ := B13
    rw [z, e] at eCt
    injection eCt with eCt
    injection eCt with eCt
    cases cs with
    | nil => cases eCt
    | cons x cs => cases eCt
  refine ⟨8, rfl, by decide, by decide, ?_⟩
  refine for_range (n := 8) (fun j σ H9 => ∃ (y5 y11 y12 y13 : Option V), σ = [some (.ref b), some (.int (m : Int)), some (.ref R), some (.ref F), some (.ref O), y5, some (.ref PA1), some (.ref PB1), some (.ref NL), some (.ref t0), some (.ref Ct), y11, y12, y13, none, none, none, none, none] ∧ BoxAt (c + 1000 + 200 * j) H9 b ∧ Keep b H13 H9) ⟨_, _, _, _, rfl, B13.mono (by omega), Keep.refl b H13⟩ ?_ ?_
  · rintro j σ H9 hj ⟨y5, y11, y12, y13, rfl, B9, k9⟩
    dsimp only [gName]
    try simp only [L2.start, List.map_cons, List.map_nil, List.length_cons, List.length_nil, List.replicate_succ, List.replicate_zero, List.cons_append, List.nil_append, List.set_cons_succ, List.set_cons_zero, Nat.reduceAdd, Nat.reduceSub, Nat.zero_add]
    have eC9 := k9 _ _ eCt nCb
    refine if_ev (fun z H' => ∃ l, Thk K H' z l ∧ Keep b H9 H' ∧ BoxAt (c + 1000 + 200 * j + 100) H' b) (fun Q' q' => ?_) ?_
    · refine ⟨_, rfl, _, _, rfl, rfl, _, rfl, ite2 (fun z => ?_) (fun z => ?_)⟩
      · refine ⟨_, rfl, _, rfl, _, rfl, b, Ct, _, m, cs, rfl, B9, by omega, m1, by omega, eC9, nCb, by omega, hcs, fun v l H' kk BB ht => ?_⟩
        exact q' _ _ ⟨l, ht, kk, BB⟩
      · exact ⟨_, rfl, q' _ _ ⟨_, cs_thk (by omega) eC9 (by omega) hcs, Keep.refl b H9, B9.mono (by omega)⟩⟩
    rintro v H10 ⟨l, ht, k10, B10⟩
    dsimp only [gName]
    try simp only [L2.start, List.map_cons, List.map_nil, List.length_cons, List.length_nil, List.replicate_succ, List.replicate_zero, List.cons_append, List.nil_append, List.set_cons_succ, List.set_cons_zero, Nat.reduceAdd, Nat.reduceSub, Nat.zero_add]
    have k0a := (k013.trans k9).trans k10
    obtain ⟨prA', prB', two', eNL'⟩ := stp k0a B10
    obtain ⟨htop, d, hd, hs⟩ := id ht
    refine ⟨_, rfl, v, d, 20000, 5, rfl, hd, hs, by decide, by decide, ?_⟩
    refine ⟨_, rfl, NL, _, _, _, rfl, rfl, SqL.of eNL', rfl, _, rfl, NL, _, _, _, rfl, rfl, SqL.of eNL', rfl, _, rfl, ?_⟩
    refine ⟨pa, pb, m, gs, go, nm, nm.reverse, sa, sa, v, l, rfl, two', by omega, htop, fun H15 s15 => ?_⟩
    refine ⟨_, _, rfl, ?_⟩
    try simp only [L2.start, List.map_cons, List.map_nil, List.length_cons, List.length_nil, List.replicate_succ, List.replicate_zero, List.cons_append, List.nil_append, List.set_cons_succ, List.set_cons_zero, Nat.reduceAdd, Nat.reduceSub, Nat.zero_add]
    have B15 := B10.same s15
    obtain ⟨prA2, prB2, _, _⟩ := stp (k0a.trans (.ofSame s15)) B15
    refine ⟨_, rfl, _, rfl, _, rfl, _, rfl, _, rfl, b, PA1, PB1, m, gs, go, nm, nm, sa, sa, v, l, rfl, prA2, prB2, ok, oko, ginA, ginB, by omega, by omega, by omega, by omega, m1, by omega, oa, oa, htop.same s15, fun H16 s16 => ?_⟩
    refine ⟨.bl _, .bl _, .bool (showsV m (lk gs go sa sa) l), 4, rfl, rfl, True.intro, .bl _, .bl _, fun H17 s17 => ⟨true, rfl, iteF ?_⟩⟩
    have s017 := (s15.trans s16).trans s17
    refine ⟨_, rfl, v, d, 20000, 5, rfl, dp_same s017 hd, hs, by decide, by decide, ?_⟩
    refine ⟨_, rfl, rfl, _, rfl, ite2 (fun z => ?_) (fun _ => ?_)⟩
    · simp at z
    · exact ⟨_, _, _, _, rfl, (B10.same s017).mono (by omega), (k9.trans k10).trans (.ofSame s017)⟩
  · rintro σ H9 ⟨y5, y11, y12, y13, rfl, B9, k9⟩
    have k09 := k013.trans k9
    dsimp only [tSeq]
    refine ⟨_, rfl, m, rfl, by omega, fun A2 H10 s10 nA2 eA2 => ?_⟩
    refine ⟨(16 : Int), rfl, A2, _, rfl, SqL.of eA2, fun L1 nL1 => ?_⟩
    have sL1 := same_upd (o := .lst (cutV (cV ((List.range (2 ^ m)).map (bc m))) none (some 16))) nL1
    have eL1 : (upd H10 L1 (.lst (cutV (cV ((List.range (2 ^ m)).map (bc m))) none (some 16)))) L1 = some (.lst (cutV (cV ((List.range (2 ^ m)).map (bc m))) none (some 16))) := upd_same
    have lL1 := cutV_length (cV ((List.range (2 ^ m)).map (bc m))) none (some 16)
    rw [cV_len, List.length_map, List.length_range] at lL1
    have oL1 : ∀ u ∈ cutV (cV ((List.range (2 ^ m)).map (bc m))) none (some 16), ∃ n, u = .str (SX.S (bc m n)) := fun u hu => by
      have h := List.mem_of_mem_drop (List.mem_of_mem_take hu)
      obtain ⟨x, hx, rfl⟩ := List.mem_map.mp h
      obtain ⟨n, _, rfl⟩ := List.mem_map.mp hx
      exact ⟨n, rfl⟩
    have s9a := s10.trans sL1
    generalize cutV (cV ((List.range (2 ^ m)).map (bc m))) none (some 16) = c1 at *
    try dsimp only
    generalize upd H10 L1 (.lst c1) = G1 at *
    have p5 : (2 : Nat) ^ m ≤ 64 := Nat.le_trans (Nat.pow_le_pow_right (by decide) (show m ≤ 6 by omega)) (by decide)
    refine ⟨_, rfl, _, _, rfl, rfl, _, m + 1, rfl, congrArg V.int (by omega), by decide, by omega, ?_⟩
    rw [rep0 (m + 1) (by omega)]
    refine ⟨_, rfl, _, m, rfl, rfl, by decide, by omega, ?_⟩
    rw [rep_m m (by omega)]
    refine ⟨_, rfl, _, m, rfl, rfl, by decide, by omega, ?_⟩
    rw [rep2 m (by omega)]
    refine ⟨(by show 1 ≤ sizeLine; decide), fun L2' nL2 => ?_⟩
    have sL2 := same_upd (o := .lst [.str (Str.ofString "0")]) nL2
    have eL2 : (upd G1 L2' (.lst [.str (Str.ofString "0")])) L2' = some (.lst [.str (Str.ofString "0")]) := upd_same
    generalize upd G1 L2' (.lst [.str (Str.ofString "0")]) = G2 at *
    refine ⟨_, rfl, L2', (m : Int), _, rfl, rfl, eL2, by omega, by omega, by show 1 * (m : Int).toNat ≤ sizeLine; exact Nat.le_of_lt (small1000 (by omega)), fun L3 nL3 => ?_⟩
    have sL3 := same_upd (o := .lst (List.replicate (m : Int).toNat [V.str (Str.ofString "0")]).flatten) nL3
    have eL3 : (upd G2 L3 (.lst (List.replicate (m : Int).toNat [V.str (Str.ofString "0")]).flatten)) L3 = some (.lst (List.replicate (m : Int).toNat [V.str (Str.ofString "0")]).flatten) := upd_same
    try dsimp only
    generalize upd G2 L3 (.lst (List.replicate (m : Int).toNat [V.str (Str.ofString "0")]).flatten) = G3 at *
    refine ⟨(by show 8 ≤ sizeLine; decide), fun L4 nL4 => ?_⟩
    have oB : ∀ u ∈ ([.str (Str.ofString ""), .str (SX.S (List.replicate (m + 1) 48)), .str (SX.S (List.replicate m 45)), .str (SX.S (List.replicate m 50)), .non, .int 1, .bl true, .ref L3] : List V), u = .non ∨ u = .int 1 ∨ u = .bl true ∨ u = .ref L3 ∨ ∃ x, u = .str (SX.S x) ∧ x.length ≤ 20 := fun u hu => by
      simp only [List.mem_cons, List.not_mem_nil, or_false] at hu
      rcases hu with rfl | rfl | rfl | rfl | rfl | rfl | rfl | rfl
      · exact .inr (.inr (.inr (.inr ⟨[], rfl, by decide⟩)))
      · exact .inr (.inr (.inr (.inr ⟨_, rfl, by rw [List.length_replicate]; omega⟩)))
      · exact .inr (.inr (.inr (.inr ⟨_, rfl, by rw [List.length_replicate]; omega⟩)))
      · exact .inr (.inr (.inr (.inr ⟨_, rfl, by rw [List.length_replicate]; omega⟩)))
      · exact .inl rfl
      · exact .inr (.inl rfl)
      · exact .inr (.inr (.inl rfl))
      · exact .inr (.inr (.inr (.inl rfl)))
    have lB : ([.str (Str.ofString ""), .str (SX.S (List.replicate (m + 1) 48)), .str (SX.S (List.replicate m 45)), .str (SX.S (List.replicate m 50)), .non, .int 1, .bl true, .ref L3] : List V).length = 8 := rfl
    generalize hB8 : ([.str (Str.ofString ""), .str (SX.S (List.replicate (m + 1) 48)), .str (SX.S (List.replicate m 45)), .str (SX.S (List.replicate m 50)), .non, .int 1, .bl true, .ref L3] : List V) = xB at *
    have sL4 := same_upd (o := .lst xB) nL4
    have eL4 : (upd G3 L4 (.lst xB)) L4 = some (.lst xB) := upd_same
    have eL14 := sL4 _ _ (sL3 _ _ (sL2 _ _ eL1))
    have eL34 := sL4 _ _ eL3
    have s9b := ((s9a.trans sL2).trans sL3).trans sL4
    try dsimp only
    generalize upd G3 L4 (.lst xB) = G4 at *
    refine ⟨L1, L4, _, _, rfl, rfl, eL14, eL4, by rw [lB]; exact Nat.le_of_lt (small1000 (by omega)), fun L5 nL5 => ?_⟩
    have sL5 := same_upd (o := .lst (c1 ++ xB)) nL5
    have eL5 : (upd G4 L5 (.lst (c1 ++ xB))) L5 = some (.lst (c1 ++ xB)) := upd_same
    have s9c := s9b.trans sL5
    have eL35 := sL5 _ _ eL34
    generalize upd G4 L5 (.lst (c1 ++ xB)) = G5 at *
    dsimp only [gName]
    try simp only [L2.start, List.map_cons, List.map_nil, List.length_cons, List.length_nil, List.replicate_succ, List.replicate_zero, List.cons_append, List.nil_append, List.set_cons_succ, List.set_cons_zero, Nat.reduceAdd, Nat.reduceSub, Nat.zero_add]
    have et9 : H9 t0 = some (.tup [.str w0, v1]) := k9 _ _ (s1b _ _ et0) (fun z => by
      obtain ⟨_, _, _, eb, _⟩ := B13
      rw [← z, s1b _ _ et0] at eb
      cases eb)
    have hv9 : ∃ o, Thg H9 v1 o := by
      obtain ⟨o, ho⟩ := hv1
      exact ⟨o, (ho.same s1b).keepB k9 B13 B9⟩
    refine ⟨_, rfl, _, rfl, t0, _, _, _, rfl, rfl, .inl (.inl (s9c _ _ et9)), (atI_nat (j := 1) rfl), (by show 1 ≤ sizeLine; decide), fun L6 nL6 => ?_⟩
    have sL6 := same_upd (o := .lst [v1]) nL6
    have eL6 : (upd G5 L6 (.lst [v1])) L6 = some (.lst [v1]) := upd_same
    have eL56 := sL6 _ _ eL5
    have s9d := s9c.trans sL6
    have eL36 := sL6 _ _ eL35
    generalize upd G5 L6 (.lst [v1]) = G6 at *
    refine ⟨L5, L6, _, _, rfl, rfl, eL56, eL6, by rw [List.length_append, lB]; exact Nat.le_of_lt (small1000 (show c1.length + 8 + 1 ≤ _ by omega)), fun L7 nL7 => ?_⟩
    have sL7 := same_upd (o := .lst (c1 ++ xB ++ [v1])) nL7
    have eL7 : (upd G6 L7 (.lst (c1 ++ xB ++ [v1]))) L7 = some (.lst (c1 ++ xB ++ [v1])) := upd_same
    have s9e := s9d.trans sL7
    have eL37 := sL7 _ _ eL36
    have oAll : ∀ u ∈ c1 ++ xB ++ [v1], ∃ o, Thg (upd G6 L7 (.lst (c1 ++ xB ++ [v1]))) u o := fun u hu => by
      rcases List.mem_append.mp hu with w | w
      · rcases List.mem_append.mp w with w | w
        · obtain ⟨n, rfl⟩ := oL1 u w
          exact ⟨_, .str (by rw [bc_len]; omega)⟩
        · rcases oB u w with rfl | rfl | rfl | rfl | ⟨x, rfl, lx⟩
          · exact ⟨_, .non⟩
          · exact ⟨_, .int 1⟩
          · exact ⟨_, .bl true⟩
          · exact ⟨_, .lst eL37⟩
          · exact ⟨_, .str (by omega)⟩
      · rw [List.mem_singleton.mp w]
        obtain ⟨o, ho⟩ := hv9
        exact ⟨o, ho.same s9e⟩
    generalize c1 ++ xB ++ [v1] = xs7 at *
    generalize upd G6 L7 (.lst xs7) = G7' at *
    refine ⟨L7, rfl, ⟨_, SqL.of eL7⟩, ?_⟩
    refine for_it (walk_list (K := K) (a := L7) (xs := xs7)) (fun j σ H12 => ∃ (y11 : Option V), σ = [some (.ref b), some (.int (m : Int)), some (.ref R), some (.ref F), some (.ref O), y5, some (.ref PA1), some (.ref PB1), some (.ref NL), some (.ref t0), some (.ref Ct), y11, y12, y13, some (.ref L5), none, none, none, none] ∧ Same G7' H12) ⟨_, rfl, Same.refl _⟩ (fun j σ H12 _ ⟨_, _, s12⟩ => SqL.of (s12 _ _ eL7)) ?_ ?_
    · rintro j v σ H12 H12' hj ⟨y11', rfl, s12⟩ ⟨rfl, hz⟩
      obtain ⟨o, ho⟩ := oAll v (List.mem_of_getElem? hz)
      dsimp only [gName]
      try simp only [L2.start, List.map_cons, List.map_nil, List.length_cons, List.length_nil, List.replicate_succ, List.replicate_zero, List.cons_append, List.nil_append, List.set_cons_succ, List.set_cons_zero, Nat.reduceAdd, Nat.reduceSub, Nat.zero_add]
      have s012 := s9e.trans s12
      obtain ⟨prA', prB', two', eNL'⟩ := stp (k09.trans (.ofSame s012)) (B9.same s012)
      refine ⟨_, rfl, NL, _, _, _, rfl, rfl, SqL.of eNL', rfl, _, rfl, NL, _, _, _, rfl, rfl, SqL.of eNL', rfl, _, rfl, ?_⟩
      refine ⟨pa, pb, m, gs, go, nm, nm.reverse, sa, sa, v, o, rfl, two', ho.same s12, fun H15 s15 => ?_⟩
      obtain ⟨prA2, prB2, _, _⟩ := stp (k09.trans (.ofSame (s012.trans s15))) (B9.same (s012.trans s15))
      refine ⟨_, rfl, _, rfl, _, rfl, _, rfl, b, PA1, PB1, m, gs, go, nm, nm, sa, sa, v, o, rfl, prA2, prB2, ok, oko, ginA, ginB, by omega, by omega, by omega, by omega, m1, by omega, oa, oa, (ho.same s12).same s15, fun H16 s16 => ?_⟩
      refine ⟨.bl _, .bl _, .bool (unlV m (lk gs go sa sa) o), 4, rfl, rfl, True.intro, .bl _, .bl _, fun H17 s17 => ⟨true, rfl, iteF ?_⟩⟩
      exact ⟨_, rfl, ((s12.trans s15).trans s16).trans s17⟩
    · rintro σ H12 ⟨y11', rfl, s12⟩
      have s012 := s9e.trans s12
      have k012 := k09.trans (.ofSame s012)
      have B12 := B9.same s012
      have eC12 := s012 _ _ (k9 _ _ eCt nCb)
      have et12 := s012 _ _ et9
      dsimp only [tSeq]
      have kH : Keep b H H12 := (k0i.trans k012)
      refine ⟨_, rfl, _, rfl, b, _, _, rfl, B12, by omega, by omega, by omega, by omega, by decide, fun ra H14 ua wa B14 k14 => ?_⟩
      replace B14 := bx1 B14
      refine ⟨_, rfl, _, rfl, b, _, _, rfl, B14, by omega, by omega, by omega, by omega, by decide, fun rb H15 ub wb B15 k15 => ?_⟩
      refine ⟨_, _, rfl, ?_⟩
      obtain ⟨a1, rfl⟩ : ∃ a : Nat, ra = (a : Int) := ⟨ra.toNat, by omega⟩
      obtain ⟨a2, rfl⟩ : ∃ a : Nat, rb = (a : Int) := ⟨rb.toNat, by omega⟩
      try simp only [L2.start, List.map_cons, List.map_nil, List.length_cons, List.length_nil, List.replicate_succ, List.replicate_zero, List.cons_append, List.nil_append, List.set_cons_succ, List.set_cons_zero, Nat.reduceAdd, Nat.reduceSub, Nat.zero_add]
      have k1215 := k14.trans k15
      have k015 := k012.trans k1215
      have kH15 := kH.trans k1215
      have kij : KeepS [b] Hi H15 := .ofKeep k015 (List.mem_singleton.mpr rfl) B15.some
      have N1 := Nai.keep kij (fun y hy => by rw [List.mem_singleton.mp hy]; simp)
      have N2 := Nbi.keep kij (fun y hy => by rw [List.mem_singleton.mp hy]; simp)
      have R3 := R7i.keep kij subb
      have Q3 := Q7i.keep kij subb
      have G3' := G7i.keep kij subb
      have eNL15 := k015 _ _ eNL nNLb
      have eC15 := k1215 _ _ eC12 nCb
      have notin : ∀ l : List (Str × List Nat), (∀ x ∈ l, x ∈ nm) → Str.ofString "new" ∉ l.map (·.1) := fun l hl hx => by
        obtain ⟨⟨n', ws'⟩, hx1, hx2⟩ := List.mem_map.mp hx
        obtain ⟨i, hi, ei⟩ := List.getElem_of_mem (hl _ hx1)
        obtain ⟨⟨w, hw, ew⟩, _⟩ := gok i n' ws' (by rw [List.getElem?_eq_getElem hi, ei])
        exact wd_new hw (show i < 4 by omega) (ew.symm.trans hx2)
      obtain ⟨_, _, _, dx4, _, _, e4, _⟩ := id N1
      refine ⟨_, rfl, NL, _, _, _, rfl, rfl, SqL.of eNL15, rfl, pa.x, dx4, _, rfl, e4, rfl, _, rfl, (by show 1 ≤ sizeLine; decide), fun La nLa => ?_⟩
      have sLa := same_upd (o := .lst (nts [a1])) nLa
      have eLa : (upd H15 La (.lst (nts [a1]))) La = some (.lst (nts [a1])) := upd_same
      refine ⟨_, pa, m, _, nm, _, La, [a1], rfl, N1.same sLa, notin nm (fun _ h => h), .inl (SqL.of eLa), fun a ha => ?_, by omega, fun H17 k17 N17 => ?_⟩
      · rw [List.mem_singleton.mp ha]
        omega
      have suba : ∀ y ∈ [pa.dn], y ∈ T7 b pa pb := fun y hy => by rw [List.mem_singleton.mp hy]; simp [T7]
      have subd : ∀ y ∈ [pb.dn], y ∈ T7 b pa pb := fun y hy => by rw [List.mem_singleton.mp hy]; simp [T7]
      have R4 := (R3.keep (.ofSame sLa) (T := []) (fun _ z => nomatch z)).keep k17 suba
      have Q4 := (Q3.keep (.ofSame sLa) (T := []) (fun _ z => nomatch z)).keep k17 suba
      have G4' := (G3'.keep (.ofSame sLa) (T := []) (fun _ z => nomatch z)).keep k17 suba
      have nNLa : NL ∉ [pa.dn] := fun z => nNL7 (suba _ z)
      have eNL17 := k17.1 _ _ (sLa _ _ eNL15) nNLa
      have nCa : Ct ∉ [pa.dn] := fun z => by
        obtain ⟨_, _, _, _, _, _, _, _, _, e, _⟩ := N1
        rw [← List.mem_singleton.mp z, eC15] at e
        cases e
      have eC17 := k17.1 _ _ (sLa _ _ eC15) nCa
      have N24 := (N2.same sLa).keep k17 (fun y hy => by rw [List.mem_singleton.mp hy]; simp)
      have kk17 : KeepS (T7 b pa pb) H15 H17 := (KeepS.ofSame sLa).trans (k17.mono suba)
      obtain ⟨_, _, _, dx5, _, _, e5, _⟩ := id N24
      dsimp only [tSeq]
      refine ⟨_, rfl, NL, _, _, _, rfl, rfl, SqL.of eNL17, rfl, pb.x, dx5, _, rfl, e5, rfl, _, rfl, (by show 1 ≤ sizeLine; decide), fun Lb nLb => ?_⟩
      have sLb := same_upd (o := .lst (nts [a2])) nLb
      have eLb : (upd H17 Lb (.lst (nts [a2]))) Lb = some (.lst (nts [a2])) := upd_same
      refine ⟨_, pb, m, _, nm.reverse, _, Lb, [a2], rfl, N24.same sLb, notin _ (fun _ h => List.mem_reverse.mp h), .inl (SqL.of eLb), fun a ha => ?_, by rw [List.length_reverse]; omega, fun H18 k18 N28 => ?_⟩
      · rw [List.mem_singleton.mp ha]
        omega
      have R5 := (R4.keep (.ofSame sLb) (T := []) (fun _ z => nomatch z)).keep k18 subd
      have Q5 := (Q4.keep (.ofSame sLb) (T := []) (fun _ z => nomatch z)).keep k18 subd
      have G5' := (G4'.keep (.ofSame sLb) (T := []) (fun _ z => nomatch z)).keep k18 subd
      have nNLd : NL ∉ [pb.dn] := fun z => nNL7 (subd _ z)
      have eNL18 := k18.1 _ _ (sLb _ _ eNL17) nNLd
      have nCd : Ct ∉ [pb.dn] := fun z => by
        obtain ⟨_, _, _, _, _, _, _, _, _, e, _⟩ := N24
        rw [← List.mem_singleton.mp z, eC17] at e
        cases e
      have eC18 := k18.1 _ _ (sLb _ _ eC17) nCd
      have N18 := (N17.same sLb).keep k18 (fun y hy => by rw [List.mem_singleton.mp hy]; simp)
      have kk18 : KeepS (T7 b pa pb) H15 H18 := kk17.trans ((KeepS.ofSame sLb).trans (k18.mono subd))
      have bH : H18 b ≠ none := N18.1 b (by simp)
      have nbs : ∀ {y : Addr} {G : Hp}, Same H18 G → G y = none → y ≠ b := fun {y G} s n z => by
        cases e : H18 b with
        | none => exact bH e
        | some o =>
          rw [z, s _ _ e] at n
          cases n
      obtain ⟨nF5, us5, lu5, eF5, hus5⟩ := id G5'
      dsimp only [tSeq]
      have s00 : Same H18 H18 := Same.refl _
      refine ⟨_, rfl, _, rfl, _, rfl, (by show 1 ≤ sizeLine; decide), fun Kax nKax => ?_⟩
      have sKax := same_upd (o := .lst [.int (a1 : Int)]) nKax
      have eKax : (upd H18 Kax (.lst [.int (a1 : Int)])) Kax = some (.lst (nts [a1])) := upd_same
      have s1x := s00.trans sKax
      generalize upd H18 Kax _ = H1x at *
      refine ⟨(by show 2 ≤ sizeLine; decide), fun Ktx nKtx => ?_⟩
      have sKtx := same_upd (o := .tup [.str "new", .ref Kax]) nKtx
      have eKtx : (upd H1x Ktx (.tup [.str "new", .ref Kax])) Ktx = some (.tup [.str "new", .ref Kax]) := upd_same
      have s2x := s1x.trans sKtx
      have f2x := sKtx _ _ eKax
      generalize upd H1x Ktx _ = H2x at *
      refine ⟨(by show 1 ≤ sizeLine; decide), fun Klx nKlx => ?_⟩
      have sKlx := same_upd (o := .lst [.ref Ktx]) nKlx
      have eKlx : (upd H2x Klx (.lst [.ref Ktx])) Klx = some (.lst [.ref Ktx]) := upd_same
      have s3x := s2x.trans sKlx
      have f3x := sKlx _ _ f2x
      have g3x := sKlx _ _ eKtx
      generalize upd H2x Klx _ = H3x at *
      refine ⟨F, Klx, _, _, rfl, rfl, s3x _ _ eF5, eKlx, ?_, fun Kpx nKpx => ?_⟩
      · rw [List.length_map, lu5]
        exact Nat.le_of_lt (small1000 (show nm.length + 1 ≤ _ by omega))
      have sKpx := same_upd (o := .lst (us5.map V.ref ++ [.ref Ktx])) nKpx
      have gvx : GvAt b (upd H3x Kpx (.lst (us5.map V.ref ++ [.ref Ktx]))) Kpx (nm ++ [((Str.ofString "new"), [a1])]) := by
        refine gv_snoc60 lu5 (fun i t n ws ht hn => ?_) (nbs s3x nKpx) (nbs s1x nKtx) (nbs s00 nKax) (ne_of_none f3x nKpx) (sKpx _ _ g3x) (sKpx _ _ f3x) upd_same
        obtain ⟨q0, l, q1, qF, q2, q3⟩ := hus5 i t n ws ht hn
        exact ⟨fun z => q0 (by rw [z]; simp [T7]), l, fun z => q1 (by rw [z]; simp [T7]), ne_of_none (s3x _ _ q3) nKpx, sKpx _ _ (s3x _ _ q2), sKpx _ _ (s3x _ _ q3)⟩
      have s4x := s3x.trans sKpx
      generalize upd H3x Kpx _ = H4x at *
      refine ⟨(by show 2 ≤ sizeLine; decide), fun Kqx nKqx => ?_⟩
      have sKqx := same_upd (o := .tup [.ref R, .ref Kpx]) nKqx
      have prx : PrAt b (upd H4x Kqx (.tup [.ref R, .ref Kpx])) Kqx gs (nm ++ [((Str.ofString "new"), [a1])]) := ⟨R, Kpx, upd_same, (R5.at.same s4x).same sKqx, gvx.keep (.ofSame sKqx)⟩
      have s5x := s4x.trans sKqx
      generalize upd H4x Kqx _ = H5x at *
      refine ⟨_, rfl, _, rfl, _, rfl, (by show 1 ≤ sizeLine; decide), fun Kay nKay => ?_⟩
      have sKay := same_upd (o := .lst [.int (a2 : Int)]) nKay
      have eKay : (upd H5x Kay (.lst [.int (a2 : Int)])) Kay = some (.lst (nts [a2])) := upd_same
      have s1y := s5x.trans sKay
      generalize upd H5x Kay _ = H1y at *
      refine ⟨(by show 2 ≤ sizeLine; decide), fun Kty nKty => ?_⟩
      have sKty := same_upd (o := .tup [.str "new", .ref Kay]) nKty
      have eKty : (upd H1y Kty (.tup [.str "new", .ref Kay])) Kty = some (.tup [.str "new", .ref Kay]) := upd_same
      have s2y := s1y.trans sKty
      have f2y := sKty _ _ eKay
      generalize upd H1y Kty _ = H2y at *
      refine ⟨(by show 1 ≤ sizeLine; decide), fun Kly nKly => ?_⟩
      have sKly := same_upd (o := .lst [.ref Kty]) nKly
      have eKly : (upd H2y Kly (.lst [.ref Kty])) Kly = some (.lst [.ref Kty]) := upd_same
      have s3y := s2y.trans sKly
      have f3y := sKly _ _ f2y
      have g3y := sKly _ _ eKty
      generalize upd H2y Kly _ = H3y at *
      refine ⟨F, Kly, _, _, rfl, rfl, s3y _ _ eF5, eKly, ?_, fun Kpy nKpy => ?_⟩
      · rw [List.length_map, lu5]
        exact Nat.le_of_lt (small1000 (show nm.length + 1 ≤ _ by omega))
      have sKpy := same_upd (o := .lst (us5.map V.ref ++ [.ref Kty])) nKpy
      have gvy : GvAt b (upd H3y Kpy (.lst (us5.map V.ref ++ [.ref Kty]))) Kpy (nm ++ [((Str.ofString "new"), [a2])]) := by
        refine gv_snoc60 lu5 (fun i t n ws ht hn => ?_) (nbs s3y nKpy) (nbs s1y nKty) (nbs s5x nKay) (ne_of_none f3y nKpy) (sKpy _ _ g3y) (sKpy _ _ f3y) upd_same
        obtain ⟨q0, l, q1, qF, q2, q3⟩ := hus5 i t n ws ht hn
        exact ⟨fun z => q0 (by rw [z]; simp [T7]), l, fun z => q1 (by rw [z]; simp [T7]), ne_of_none (s3y _ _ q3) nKpy, sKpy _ _ (s3y _ _ q2), sKpy _ _ (s3y _ _ q3)⟩
      have s4y := s3y.trans sKpy
      generalize upd H3y Kpy _ = H4y at *
      refine ⟨(by show 2 ≤ sizeLine; decide), fun Kqy nKqy => ?_⟩
      have sKqy := same_upd (o := .tup [.ref O, .ref Kpy]) nKqy
      have pry : PrAt b (upd H4y Kqy (.tup [.ref O, .ref Kpy])) Kqy go (nm ++ [((Str.ofString "new"), [a2])]) := ⟨O, Kpy, upd_same, (Q5.at.same s4y).same sKqy, gvy.keep (.ofSame sKqy)⟩
      have s5y := s4y.trans sKqy
      generalize upd H4y Kqy _ = H5y at *
      refine ⟨(by show 2 ≤ sizeLine; decide), fun TU nTU => ?_⟩
      have sTU := same_upd (o := .tup [.ref Kqx, .ref Kqy]) nTU
      refine ⟨TU, _, rfl, .inl (.inl upd_same), rfl, _, _, rfl, _, _, rfl, rfl, ?_⟩
      have s18 := s5y.trans sTU
      have sxy : Same H5x (upd H5y TU (.tup [.ref Kqx, .ref Kqy])) := by
        refine Same.trans ?_ sTU
        exact (((sKay.trans sKty).trans sKly).trans sKpy).trans sKqy
      have prS : ∀ {H H' : Hp} {P : Addr} {gs : List Gt} {nm : List (Str × List Nat)}, PrAt b H P gs nm → Same H H' → PrAt b H' P gs nm := fun ⟨R, F, e, r, g⟩ s => ⟨R, F, s _ _ e, r.same s, g.keep (.ofSame s)⟩
      have prX := prS prx sxy
      have prY := prS pry sTU
      generalize upd H5y TU _ = H20 at *
      dsimp only [gName]
      try simp only [L2.start, List.map_cons, List.map_nil, List.length_cons, List.length_nil, List.replicate_succ, List.replicate_zero, List.cons_append, List.nil_append, List.set_cons_succ, List.set_cons_zero, Nat.reduceAdd, Nat.reduceSub, Nat.zero_add]
      have lnm : ∀ z : Nat, (nm ++ [((Str.ofString "new"), [z])]).length = nm.length + 1 := fun z => by rw [List.length_append]; rfl
      have gnew0 : ∀ (M z : Nat), GvOk M nm → z < M → GvIn M (nm ++ [((Str.ofString "new"), [z])]) := fun M z g hz => ⟨(g.gnew nm3 (by show 1 ≤ 4; decide) (fun a ha => by rw [List.mem_singleton.mp ha]; omega)).1, fun i n ws h => by
        by_cases l : i < nm.length
        · rw [List.getElem?_append_left l] at h
          exact (g i n ws h).2
        · have hi := (List.getElem?_eq_some_iff.mp h).1
          rw [lnm] at hi
          rw [List.getElem?_append_right (by omega), show i - nm.length = 0 by omega] at h
          cases h
          exact ⟨by show 1 ≤ 4; decide, fun a ha => by rw [List.mem_singleton.mp ha]; exact hz⟩⟩
      have ginX : GvIn (m + gs.length) (nm ++ [((Str.ofString "new"), [a1])]) := gnew0 _ _ gok (by omega)
      have ginY : GvIn (m + go.length) (nm ++ [((Str.ofString "new"), [a2])]) := gnew0 _ _ (by rw [lgo]; exact gok) (by omega)
      have pB : (nm ++ [((Str.ofString "new"), [a2])]).Perm (nm.reverse ++ [((Str.ofString "new"), [a2])]) := (List.reverse_perm nm).symm.append_right _
      obtain ⟨sx, ox⟩ := so_ex (nm ++ [((Str.ofString "new"), [a1])])
      obtain ⟨sy, oy⟩ := so_ex (nm ++ [((Str.ofString "new"), [a2])])
      have oy' : SoOf sy (nm.reverse ++ [((Str.ofString "new"), [a2])]) := ⟨oy.1.trans pB, oy.2⟩
      have injB : Inj (nm.reverse ++ [((Str.ofString "new"), [a2])]) := Inj.perm ginY.1 pB
      have gwY' : GvW (m + go.length) (nm.reverse ++ [((Str.ofString "new"), [a2])]) := ⟨injB, fun x hx => ginY.gw.2 x (pB.mem_iff.mpr hx)⟩
      have two : ∀ {G : Hp}, Same H20 G → Two C G pa pb m gs go (nm ++ [((Str.ofString "new"), [a1])]) (nm.reverse ++ [((Str.ofString "new"), [a2])]) sx sy := fun {G} sG =>
        ⟨⟨⟨_, N18.same (s18.trans sG)⟩, ok, ginX.gw, by omega, by omega, by rw [lnm]; omega⟩, ⟨⟨_, N28.same (s18.trans sG)⟩, oko, gwY', by omega, by omega, by rw [List.length_append, List.length_reverse, List.length_cons, List.length_nil]; omega⟩, ox, oy', due_ln injB ox oy' (by
          refine List.Perm.trans ?_ (pB.map _)
          unfold lnR
          rw [List.map_append, List.map_append]
          exact List.Perm.refl _)⟩
      have eNL20 := s18 _ _ eNL18
      have eC20 := s18 _ _ eC18
      refine ⟨_, rfl, NL, _, _, _, rfl, rfl, SqL.of eNL20, rfl, _, rfl, NL, _, _, _, rfl, rfl, SqL.of eNL20, rfl, _, rfl, ?_⟩
      refine ⟨pa, pb, m, gs, go, _, _, sx, sy, .ref Ct, _, rfl, two (Same.refl _), by omega, cs_top (m := m) (by omega) eC20 (by omega) hcs, fun H21 s21 => ?_⟩
      refine ⟨_, rfl, _, rfl, _, rfl, _, rfl, b, Kqx, Kqy, m, gs, go, _, _, sx, sy, .ref Ct, _, rfl, prS prX s21, prS prY s21, ok, oko, ginX, ginY, by rw [lnm]; omega, by rw [lnm]; omega, by omega, by omega, m1, by omega, ox, oy, cs_top (m := m) (by omega) (s21 _ _ eC20) (by omega) hcs, fun H22 s22 => ?_⟩
      refine ⟨.bl _, .bl _, .bool (showsV m (lk gs go sx sy) (some (cs.map some))), 4, rfl, rfl, True.intro, .bl _, .bl _, fun H23 s23 => ⟨true, rfl, iteF ?_⟩⟩
      have s2023 := (s21.trans s22).trans s23
      dsimp only [tNext]
      refine ⟨_, rfl, m, rfl, by omega, fun A3 H24 s24 nA3 eA3 => ?_⟩
      refine ⟨(16 : Int), rfl, A3, _, rfl, SqL.of eA3, fun L8 nL8 => ?_⟩
      obtain ⟨ys, eys, hys⟩ : ∃ ys : List (List Nat), cutV (cV ((List.range (2 ^ m)).map (bc m))) none (some 16) = cV ys ∧ ys.length ≤ 64 ∧ ∀ y ∈ ys, y.length = m := by
        refine ⟨_, by unfold cutV cV; rw [List.length_map, ← List.map_drop, ← List.map_take], ?_, fun y hy => ?_⟩
        · rw [List.length_take, List.length_drop, List.length_map, List.length_range]
          omega
        · obtain ⟨n, _, rfl⟩ := List.mem_map.mp (List.mem_of_mem_drop (List.mem_of_mem_take hy))
          exact bc_len m n
      rw [eys]
      have sL8 := same_upd (o := .lst (cV ys)) nL8
      have eL8 : (upd H24 L8 (.lst (cV ys))) L8 = some (.lst (cV ys)) := upd_same
      have s2025 := (s2023.trans s24).trans sL8
      generalize upd H24 L8 (.lst (cV ys)) = H25 at *
      dsimp only [gName]
      try simp only [L2.start, List.map_cons, List.map_nil, List.length_cons, List.length_nil, List.replicate_succ, List.replicate_zero, List.cons_append, List.nil_append, List.set_cons_succ, List.set_cons_zero, Nat.reduceAdd, Nat.reduceSub, Nat.zero_add]
      refine ⟨_, rfl, L8, rfl, ⟨_, SqL.of eL8⟩, fun D1 nD1 => ?_⟩
      have lys : (cV ys).length = ys.length := cV_len ys
      have yat : ∀ {j : Nat} {z : V}, (cV ys)[j]? = some z → ∃ x, ys[j]? = some x ∧ z = .str (SX.S x) := fun {j z} hz => by
        unfold cV at hz
        rw [List.getElem?_map] at hz
        obtain ⟨x, hx, rfl⟩ := Option.map_eq_some_iff.mp hz
        exact ⟨x, hx, rfl⟩
      refine lc_it (walk_list (K := K) (a := L8) (xs := cV ys)) (fun j G => Same H25 G ∧ G D1 = some (.lst (((ys.map fun x => unlV m (lk gs go sx sy) (some x)).take j).map V.bl))) ⟨same_upd nD1, upd_same⟩ (fun j G _ ⟨sG, _⟩ => SqL.of (sG _ _ eL8)) ?_ ?_
      · rintro j z G G' hj ⟨sG, eD⟩ ⟨rfl, hz⟩
        obtain ⟨x, hx, rfl⟩ := yat hz
        have lx := hys.2 x (List.mem_of_getElem? hx)
        have sGG := s2025.trans sG
        refine ⟨rfl, yesT ?_⟩
        refine ⟨_, rfl, NL, _, _, _, rfl, rfl, SqL.of (sGG _ _ eNL20), rfl, _, rfl, NL, _, _, _, rfl, rfl, SqL.of (sGG _ _ eNL20), rfl, _, rfl, ?_⟩
        refine ⟨pa, pb, m, gs, go, _, _, sx, sy, _, some x, rfl, two sGG, .str (by omega), fun G2 sG2 => ?_⟩
        refine ⟨_, sG2 _ _ eD, ?_, fun y o e => ?_, ?_⟩
        · rw [List.length_map, List.length_take, List.length_map]
          exact big_lt (by omega)
        · rw [upd_ne (ne_of_none e nD1)]
          exact sG2 _ _ (sG _ _ e)
        · rw [upd_same, List.take_add_one, List.getElem?_map, hx, List.map_append]
          rfl
      rintro H26 ⟨s26, eD1⟩
      rw [List.take_of_length_le (by rw [List.length_map, lys]; omega)] at eD1
      dsimp only [gName]
      try simp only [L2.start, List.map_cons, List.map_nil, List.length_cons, List.length_nil, List.replicate_succ, List.replicate_zero, List.cons_append, List.nil_append, List.set_cons_succ, List.set_cons_zero, Nat.reduceAdd, Nat.reduceSub, Nat.zero_add]
      have eL26 := s26 _ _ eL8
      refine ⟨_, rfl, _, rfl, L8, rfl, ⟨_, SqL.of eL26⟩, fun D2 nD2 => ?_⟩
      refine lc_it (walk_list (K := K) (a := L8) (xs := cV ys)) (fun j G => Same H26 G ∧ G D2 = some (.lst (((ys.map fun x => unlV m (lk gs go sx sy) (some x)).take j).map V.bl))) ⟨same_upd nD2, upd_same⟩ (fun j G _ ⟨sG, _⟩ => SqL.of (sG _ _ eL26)) ?_ ?_
      · rintro j z G G' hj ⟨sG, eD⟩ ⟨rfl, hz⟩
        obtain ⟨x, hx, rfl⟩ := yat hz
        have lx := hys.2 x (List.mem_of_getElem? hx)
        have sGG := (s2025.trans s26).trans sG
        refine ⟨rfl, yesT ?_⟩
        refine ⟨_, rfl, _, rfl, _, rfl, _, rfl, b, Kqx, Kqy, m, gs, go, _, _, sx, sy, _, some x, rfl, prS prX sGG, prS prY sGG, ok, oko, ginX, ginY, by rw [lnm]; omega, by rw [lnm]; omega, by omega, by omega, m1, by omega, ox, oy, .str (by omega), fun G2 sG2 => ?_⟩
        refine ⟨_, sG2 _ _ eD, ?_, fun y o e => ?_, ?_⟩
        · rw [List.length_map, List.length_take, List.length_map]
          exact big_lt (by omega)
        · rw [upd_ne (ne_of_none e nD2)]
          exact sG2 _ _ (sG _ _ e)
        · rw [upd_same, List.take_add_one, List.getElem?_map, hx, List.map_append]
          rfl
      rintro H27 ⟨s27, eD2⟩
      rw [List.take_of_length_le (by rw [List.length_map, lys]; omega)] at eD2
      have dpB : ∀ {G : Hp} (bs : List Bool), DpAll K G (bs.map V.bl) (bs.map PyData.bool) := fun {G} bs => by
        induction bs with
        | nil => exact .nil
        | cons x bs ih => exact .cons (.bl x) ih
      refine ⟨.ref D1, .ref D2, .list ((ys.map fun x => unlV m (lk gs go sx sy) (some x)).map PyData.bool), 4, rfl, rfl, ⟨by rw [List.length_map, List.length_map]; omega, fun d hd => ?_⟩, .lst (SqL.of (s27 _ _ eD1)) (dpB _), .lst (SqL.of eD2) (dpB _), fun H28 s28 => ?_⟩
      · obtain ⟨x, _, rfl⟩ := List.mem_map.mp hd
        exact True.intro
      refine q H28 fun y o e n => ((((s18.trans s2025).trans s26).trans s27).trans s28) _ _ (kk18.1 y o (kH15 y o e n) (fun z => ?_))
      rw [T7H y z n] at e
      cases e
end
section
variable {P : Program} {w : World} {K : PySem.W.Frag} {mg : Str → Option Value} {base : Heap}
variable {C : Addr} {za : Nat → Addr} {zl : Nat → FuncData}
def spLaw (K : PySem.W.Frag) : Sp := fun vs H Q _ => ∃ (a : Addr) (ns : List Int), vs = [.ref a] ∧ SqL K H a (ns.map V.int) ∧ ns.length ≤ 63 ∧ ∀ H', Q (.bl true) H'
theorem ok_law {f : Addr} {fd : FuncData} (F : Fun K "law" "law" s_law f fd) (B : Bl mg) (L : LL K mg C za zl) : FnOkG P w K mg base CX0 13 f fd ["_law_script"] (spLaw K) := by
  have G__law_folded : FnOk P w K mg base CX0 12 (za 18) (zl 18) ["_law_script", "_law_size"] (spFolded K) := ok_folded L.F__law_folded B
  have G__law_box : FnOk P w K mg base CX0 12 (za 16) (zl 16) ["_law_script", "_law_k"] (spBox K) := ok_box L.F__law_box B
  have G__law_right : FnOkG P w K mg base CX0 12 (za 33) (zl 33) ["_law_box_here"] spRight62 := (ok__law_right B L).mono (by decide)
  refine F.okG sc_law (fun vs H Q E h => ?_) (fun cdv A outer s H vs Q E gd hr h => ?_)
  · obtain ⟨a, ns, rfl, _⟩ := h
    rfl
  obtain ⟨a, ns, rfl, hS, h63, q⟩ := h
  refine ⟨_, (pss_cons (ps_set (i := 1) sc_law.nd rfl (.inr rfl) (pe_call G__law_folded hr (by rfl) L.m__law_folded L.F__law_folded.kp L.b__law_folded .nil pass0 (pa_cons (pv 0) (pa_cons pe_int pa_nil))))
    (pss_one (ps_ret (pe_callB (cr_all rfl) (by rfl) B.all boot_all (pa_cons (pe_lc (own := [("_law_k", 2)]) (by rfl) sc_law.nd (pi_range1 (by rfl) B.range (pa_cons (pe_callB (call_max2 rfl) (by rfl) B.max boot_max (pa_cons pe_int (pa_cons (pe_callB call_len_seq (by rfl) B.len PySem.boot_len (pa_cons (pv 1) pa_nil)) pa_nil))) pa_nil)) (blkOk_by (own := [("_law_k", 2)]) (N := ["_law_script", "_law_cells", "_law_k"]) (sc := defScope s_law) (by decide +kernel)) (fun _ _ _ _ _ => pg_name (i := 2) sc_law.nd rfl (Or.inl rfl)) (fun _ _ _ _ _ => pts_nil) (fun _ _ _ _ _ => (pe_callG G__law_right gd hr (by rfl) L.m__law_right L.F__law_right.kp L.b__law_right .nil pass0 (pa_cons (pe_call G__law_box hr (by rfl) L.m__law_box L.F__law_box.kp L.b__law_box .nil pass0 (pa_cons (pv 1) (pa_cons (pv 2) pa_nil))) pa_nil)))) pa_nil))))), ?_⟩
  refine ⟨_, rfl, a, ns, 3, rfl, hS, h63, by decide, by decide, fun p H1 zs np s1 ep lz => ?_⟩
  have lz2 : zs.length ≤ 3 := by omega
  refine ⟨_, rfl, p, _, rfl, .inl (SqL.of ep), _, _, rfl, ?_⟩
  obtain ⟨n, en, hn⟩ : ∃ n : Nat, (if (((zs.map V.int).length : Nat) : Int) > 1 then (((zs.map V.int).length : Nat) : Int) else 1) = (n : Int) ∧ n ≤ 3 := by
    rw [List.length_map]
    split
    · exact ⟨zs.length, rfl, lz2⟩
    · exact ⟨1, rfl, by decide⟩
  rw [en]
  refine ⟨_, rfl, by omega, by omega, fun D nD => ?_⟩
  rw [Int.toNat_natCast]
  refine lc_range (n := n) (fun j H7 => Same H1 H7 ∧ H7 D = some (.lst (List.replicate j (.bl true)))) ⟨same_upd nD, upd_same⟩ ?_ ?_
  · rintro j H7 hj ⟨s7, eD⟩
    refine ⟨rfl, yesT ?_⟩
    refine ⟨_, rfl, _, rfl, p, zs, _, rfl, SqL.of (s7 _ _ ep), by omega, by omega, fun b H8 nb s8 B8 => ?_⟩
    refine ⟨b, _, rfl, B8, by omega, fun H9 k9 => ?_⟩
    have nDb : D ≠ b := ne_of_none eD nb
    refine ⟨_, k9 _ _ (s8 _ _ eD) nDb, ?_, fun x u e => ?_, ?_⟩
    · rw [List.length_replicate]
      exact small1000 (by omega)
    · rw [upd_ne (ne_of_none e nD)]
      exact k9 _ _ (s8 _ _ (s7 _ _ e)) (ne_of_none (s7 _ _ e) nb)
    · rw [upd_same, repl_snoc]
  · rintro H7 ⟨s7, eD⟩
    refine ⟨D, List.replicate n true, rfl, .inl (.inl (by rw [List.map_replicate]; exact eD)), ?_⟩
    rw [all_repl]
    exact q _
end
theorem all_mk {l : PySem.W.OpenLaw} {w : World} {K : PySem.W.Frag} {h : Heap} {mg : Str → Option Value} {fa f1 f2 f3 f4 f5 f6 f7 f8 f9 f10 f11 f12 f13 f14 f15 f16 f17 f18 f19 f20 f21 f22 f23 f24 f25 f26 f27 f28 f29 f30 f31 f32 f33 f34 f35 f36 f37 f38 f39 f40 f41 f42 f43 f44 f45 f46 f47 f48 C : Addr} (X : K.In h) (G : h.Ns mainGlobals mg) (hfa : mg "law" = some (.ref fa))
    {od1 an1 od2 an2 od3 an3 od4 an4 od5 an5 od6 an6 od7 an7 od8 an8 od9 an9 od10 an10 od11 an11 od12 an12 od13 an13 od14 an14 od15 an15 od16 an16 od17 an17 od18 an18 od19 an19 od20 an20 od21 an21 od22 an22 od23 an23 od24 an24 od25 an25 od26 an26 od27 an27 od28 an28 od29 an29 od30 an30 od31 an31 od32 an32 od33 an33 od34 an34 od35 an35 od36 an36 od37 an37 od38 an38 od39 an39 od40 an40 od41 an41 od42 an42 od43 an43 od44 an44 od45 an45 od46 an46 od47 an47 od48 an48 : Option Addr} {sl1 sl2 sl3 sl4 sl5 sl6 sl7 sl8 sl9 sl10 sl11 sl12 sl13 sl14 sl15 sl16 sl17 sl18 sl19 sl20 sl21 sl22 sl23 sl24 sl25 sl26 sl27 sl28 sl29 sl30 sl31 sl32 sl33 sl34 sl35 sl36 sl37 sl38 sl39 sl40 sl41 sl42 sl43 sl44 sl45 sl46 sl47 sl48 : Array (Option Value)} {oc1 kV1 dc1 pm1 cd1 ct1 oc2 kV2 dc2 pm2 cd2 ct2 oc3 kV3 dc3 pm3 cd3 ct3 oc4 kV4 dc4 pm4 cd4 ct4 oc5 kV5 dc5 pm5 cd5 ct5 oc6 kV6 dc6 pm6 cd6 ct6 oc7 kV7 dc7 pm7 cd7 ct7 oc8 kV8 dc8 pm8 cd8 ct8 oc9 kV9 dc9 pm9 cd9 ct9 oc10 kV10 dc10 pm10 cd10 ct10 oc11 kV11 dc11 pm11 cd11 ct11 oc12 kV12 dc12 pm12 cd12 ct12 oc13 kV13 dc13 pm13 cd13 ct13 oc14 kV14 dc14 pm14 cd14 ct14 oc15 kV15 dc15 pm15 cd15 ct15 oc16 kV16 dc16 pm16 cd16 ct16 oc17 kV17 dc17 pm17 cd17 ct17 oc18 kV18 dc18 pm18 cd18 ct18 oc19 kV19 dc19 pm19 cd19 ct19 oc20 kV20 dc20 pm20 cd20 ct20 oc21 kV21 dc21 pm21 cd21 ct21 oc22 kV22 dc22 pm22 cd22 ct22 oc23 kV23 dc23 pm23 cd23 ct23 oc24 kV24 dc24 pm24 cd24 ct24 oc25 kV25 dc25 pm25 cd25 ct25 oc26 kV26 dc26 pm26 cd26 ct26 oc27 kV27 dc27 pm27 cd27 ct27 oc28 kV28 dc28 pm28 cd28 ct28 oc29 kV29 dc29 pm29 cd29 ct29 oc30 kV30 dc30 pm30 cd30 ct30 oc31 kV31 dc31 pm31 cd31 ct31 oc32 kV32 dc32 pm32 cd32 ct32 oc33 kV33 dc33 pm33 cd33 ct33 oc34 kV34 dc34 pm34 cd34 ct34 oc35 kV35 dc35 pm35 cd35 ct35 oc36 kV36 dc36 pm36 cd36 ct36 oc37 kV37 dc37 pm37 cd37 ct37 oc38 kV38 dc38 pm38 cd38 ct38 oc39 kV39 dc39 pm39 cd39 ct39 oc40 kV40 dc40 pm40 cd40 ct40 oc41 kV41 dc41 pm41 cd41 ct41 oc42 kV42 dc42 pm42 cd42 ct42 oc43 kV43 dc43 pm43 cd43 ct43 oc44 kV44 dc44 pm44 cd44 ct44 oc45 kV45 dc45 pm45 cd45 ct45 oc46 kV46 dc46 pm46 cd46 ct46 oc47 kV47 dc47 pm47 cd47 ct47 oc48 kV48 dc48 pm48 cd48 ct48 : Value}
    (a1 : PySem.W.nsIn K mainGlobals "all_cases" = some (some (.ref f1))) (l1 : K.lookup f1 = some ⟨oc1, od1, .func (PySem.W.fnOf "all_cases" "all_cases" (defArgs s_all_cases) (defBody s_all_cases) (defScope s_all_cases) .none kV1 dc1 pm1 an1 cd1 ct1), sl1⟩) (c1 : PySem.W.codeIn K cd1 "all_cases" = true) (k1 : PySem.W.keepIn K (.ref f1) = true)
    (a2 : PySem.W.nsIn K mainGlobals "place_in_cases" = some (some (.ref f2))) (l2 : K.lookup f2 = some ⟨oc2, od2, .func (PySem.W.fnOf "place_in_cases" "place_in_cases" (defArgs s_place_in_cases) (defBody s_place_in_cases) (defScope s_place_in_cases) .none kV2 dc2 pm2 an2 cd2 ct2), sl2⟩) (c2 : PySem.W.codeIn K cd2 "place_in_cases" = true) (k2 : PySem.W.keepIn K (.ref f2) = true)
    (a3 : PySem.W.nsIn K mainGlobals "bits_text" = some (some (.ref f3))) (l3 : K.lookup f3 = some ⟨oc3, od3, .func (PySem.W.fnOf "bits_text" "bits_text" (defArgs s_bits_text) (defBody s_bits_text) (defScope s_bits_text) .none kV3 dc3 pm3 an3 cd3 ct3), sl3⟩) (c3 : PySem.W.codeIn K cd3 "bits_text" = true) (k3 : PySem.W.keepIn K (.ref f3) = true)
    (a4 : PySem.W.nsIn K mainGlobals "hole" = some (some (.ref f4))) (l4 : K.lookup f4 = some ⟨oc4, od4, .func (PySem.W.fnOf "hole" "hole" (defArgs s_hole) (defBody s_hole) (defScope s_hole) .none kV4 dc4 pm4 an4 cd4 ct4), sl4⟩) (c4 : PySem.W.codeIn K cd4 "hole" = true) (k4 : PySem.W.keepIn K (.ref f4) = true)
    (a5 : PySem.W.nsIn K mainGlobals "cases_in" = some (some (.ref f5))) (l5 : K.lookup f5 = some ⟨oc5, od5, .func (PySem.W.fnOf "cases_in" "cases_in" (defArgs s_cases_in) (defBody s_cases_in) (defScope s_cases_in) .none kV5 dc5 pm5 an5 cd5 ct5), sl5⟩) (c5 : PySem.W.codeIn K cd5 "cases_in" = true) (k5 : PySem.W.keepIn K (.ref f5) = true)
    (a6 : PySem.W.nsIn K mainGlobals "is_text_of" = some (some (.ref f6))) (l6 : K.lookup f6 = some ⟨oc6, od6, .func (PySem.W.fnOf "is_text_of" "is_text_of" (defArgs s_is_text_of) (defBody s_is_text_of) (defScope s_is_text_of) .none kV6 dc6 pm6 an6 cd6 ct6), sl6⟩) (c6 : PySem.W.codeIn K cd6 "is_text_of" = true) (k6 : PySem.W.keepIn K (.ref f6) = true)
    (a7 : PySem.W.nsIn K mainGlobals "settled" = some (some (.ref f7))) (l7 : K.lookup f7 = some ⟨oc7, od7, .func (PySem.W.fnOf "settled" "settled" (defArgs s_settled) (defBody s_settled) (defScope s_settled) .none kV7 dc7 pm7 an7 cd7 ct7), sl7⟩) (c7 : PySem.W.codeIn K cd7 "settled" = true) (k7 : PySem.W.keepIn K (.ref f7) = true)
    (a8 : PySem.W.nsIn K mainGlobals "gate_sign" = some (some (.ref f8))) (l8 : K.lookup f8 = some ⟨oc8, od8, .func (PySem.W.fnOf "gate_sign" "gate_sign" (defArgs s_gate_sign) (defBody s_gate_sign) (defScope s_gate_sign) .none kV8 dc8 pm8 an8 cd8 ct8), sl8⟩) (c8 : PySem.W.codeIn K cd8 "gate_sign" = true) (k8 : PySem.W.keepIn K (.ref f8) = true)
    (a9 : PySem.W.nsIn K mainGlobals "turned_sign" = some (some (.ref f9))) (l9 : K.lookup f9 = some ⟨oc9, od9, .func (PySem.W.fnOf "turned_sign" "turned_sign" (defArgs s_turned_sign) (defBody s_turned_sign) (defScope s_turned_sign) .none kV9 dc9 pm9 an9 cd9 ct9), sl9⟩) (c9 : PySem.W.codeIn K cd9 "turned_sign" = true) (k9 : PySem.W.keepIn K (.ref f9) = true)
    (a10 : PySem.W.nsIn K mainGlobals "ruled_sign" = some (some (.ref f10))) (l10 : K.lookup f10 = some ⟨oc10, od10, .func (PySem.W.fnOf "ruled_sign" "ruled_sign" (defArgs s_ruled_sign) (defBody s_ruled_sign) (defScope s_ruled_sign) .none kV10 dc10 pm10 an10 cd10 ct10), sl10⟩) (c10 : PySem.W.codeIn K cd10 "ruled_sign" = true) (k10 : PySem.W.keepIn K (.ref f10) = true)
    (a11 : PySem.W.nsIn K mainGlobals "looked" = some (some (.ref f11))) (l11 : K.lookup f11 = some ⟨oc11, od11, .func (PySem.W.fnOf "looked" "looked" (defArgs s_looked) (defBody s_looked) (defScope s_looked) .none kV11 dc11 pm11 an11 cd11 ct11), sl11⟩) (c11 : PySem.W.codeIn K cd11 "looked" = true) (k11 : PySem.W.keepIn K (.ref f11) = true)
    (a12 : PySem.W.nsIn K mainGlobals "has_open" = some (some (.ref f12))) (l12 : K.lookup f12 = some ⟨oc12, od12, .func (PySem.W.fnOf "has_open" "has_open" (defArgs s_has_open) (defBody s_has_open) (defScope s_has_open) .none kV12 dc12 pm12 an12 cd12 ct12), sl12⟩) (c12 : PySem.W.codeIn K cd12 "has_open" = true) (k12 : PySem.W.keepIn K (.ref f12) = true)
    (a13 : PySem.W.nsIn K mainGlobals "need_fit" = some (some (.ref f13))) (l13 : K.lookup f13 = some ⟨oc13, od13, .func (PySem.W.fnOf "need_fit" "need_fit" (defArgs s_need_fit) (defBody s_need_fit) (defScope s_need_fit) .none kV13 dc13 pm13 an13 cd13 ct13), sl13⟩) (c13 : PySem.W.codeIn K cd13 "need_fit" = true) (k13 : PySem.W.keepIn K (.ref f13) = true)
    (a14 : PySem.W.nsIn K mainGlobals "shows_same" = some (some (.ref f14))) (l14 : K.lookup f14 = some ⟨oc14, od14, .func (PySem.W.fnOf "shows_same" "shows_same" (defArgs s_shows_same) (defBody s_shows_same) (defScope s_shows_same) .none kV14 dc14 pm14 an14 cd14 ct14), sl14⟩) (c14 : PySem.W.codeIn K cd14 "shows_same" = true) (k14 : PySem.W.keepIn K (.ref f14) = true)
    (a15 : PySem.W.nsIn K mainGlobals "shows_unlike" = some (some (.ref f15))) (l15 : K.lookup f15 = some ⟨oc15, od15, .func (PySem.W.fnOf "shows_unlike" "shows_unlike" (defArgs s_shows_unlike) (defBody s_shows_unlike) (defScope s_shows_unlike) .none kV15 dc15 pm15 an15 cd15 ct15), sl15⟩) (c15 : PySem.W.codeIn K cd15 "shows_unlike" = true) (k15 : PySem.W.keepIn K (.ref f15) = true)
    (a16 : PySem.W.nsIn K mainGlobals "_law_box" = some (some (.ref f16))) (l16 : K.lookup f16 = some ⟨oc16, od16, .func (PySem.W.fnOf "_law_box" "_law_box" (defArgs sBox) (defBody sBox) (defScope sBox) .none kV16 dc16 pm16 an16 cd16 ct16), sl16⟩) (c16 : PySem.W.codeIn K cd16 "_law_box" = true) (k16 : PySem.W.keepIn K (.ref f16) = true)
    (a17 : PySem.W.nsIn K mainGlobals "_law_take" = some (some (.ref f17))) (l17 : K.lookup f17 = some ⟨oc17, od17, .func (PySem.W.fnOf "_law_take" "_law_take" (defArgs sTake) (defBody sTake) (defScope sTake) .none kV17 dc17 pm17 an17 cd17 ct17), sl17⟩) (c17 : PySem.W.codeIn K cd17 "_law_take" = true) (k17 : PySem.W.keepIn K (.ref f17) = true)
    (a18 : PySem.W.nsIn K mainGlobals "_law_folded" = some (some (.ref f18))) (l18 : K.lookup f18 = some ⟨oc18, od18, .func (PySem.W.fnOf "_law_folded" "_law_folded" (defArgs sFolded) (defBody sFolded) (defScope sFolded) .none kV18 dc18 pm18 an18 cd18 ct18), sl18⟩) (c18 : PySem.W.codeIn K cd18 "_law_folded" = true) (k18 : PySem.W.keepIn K (.ref f18) = true)
    (a19 : PySem.W.nsIn K mainGlobals "_law_same" = some (some (.ref f19))) (l19 : K.lookup f19 = some ⟨oc19, od19, .func (PySem.W.fnOf "_law_same" "_law_same" (defArgs sSame) (defBody sSame) (defScope sSame) .none kV19 dc19 pm19 an19 cd19 ct19), sl19⟩) (c19 : PySem.W.codeIn K cd19 "_law_same" = true) (k19 : PySem.W.keepIn K (.ref f19) = true)
    (a20 : PySem.W.nsIn K mainGlobals "_law_gate_rows" = some (some (.ref f20))) (l20 : K.lookup f20 = some ⟨oc20, od20, .func (PySem.W.fnOf "_law_gate_rows" "_law_gate_rows" (defArgs s__law_gate_rows) (defBody s__law_gate_rows) (defScope s__law_gate_rows) .none kV20 dc20 pm20 an20 cd20 ct20), sl20⟩) (c20 : PySem.W.codeIn K cd20 "_law_gate_rows" = true) (k20 : PySem.W.keepIn K (.ref f20) = true)
    (a21 : PySem.W.nsIn K mainGlobals "_law_net" = some (some (.ref f21))) (l21 : K.lookup f21 = some ⟨oc21, od21, .func (PySem.W.fnOf "_law_net" "_law_net" (defArgs s__law_net) (defBody s__law_net) (defScope s__law_net) .none kV21 dc21 pm21 an21 cd21 ct21), sl21⟩) (c21 : PySem.W.codeIn K cd21 "_law_net" = true) (k21 : PySem.W.keepIn K (.ref f21) = true)
    (a22 : PySem.W.nsIn K mainGlobals "_law_settled" = some (some (.ref f22))) (l22 : K.lookup f22 = some ⟨oc22, od22, .func (PySem.W.fnOf "_law_settled" "_law_settled" (defArgs s__law_settled) (defBody s__law_settled) (defScope s__law_settled) .none kV22 dc22 pm22 an22 cd22 ct22), sl22⟩) (c22 : PySem.W.codeIn K cd22 "_law_settled" = true) (k22 : PySem.W.keepIn K (.ref f22) = true)
    (a23 : PySem.W.nsIn K mainGlobals "_law_is_open" = some (some (.ref f23))) (l23 : K.lookup f23 = some ⟨oc23, od23, .func (PySem.W.fnOf "_law_is_open" "_law_is_open" (defArgs s__law_is_open) (defBody s__law_is_open) (defScope s__law_is_open) .none kV23 dc23 pm23 an23 cd23 ct23), sl23⟩) (c23 : PySem.W.codeIn K cd23 "_law_is_open" = true) (k23 : PySem.W.keepIn K (.ref f23) = true)
    (a24 : PySem.W.nsIn K mainGlobals "_law_looked" = some (some (.ref f24))) (l24 : K.lookup f24 = some ⟨oc24, od24, .func (PySem.W.fnOf "_law_looked" "_law_looked" (defArgs s__law_looked) (defBody s__law_looked) (defScope s__law_looked) .none kV24 dc24 pm24 an24 cd24 ct24), sl24⟩) (c24 : PySem.W.codeIn K cd24 "_law_looked" = true) (k24 : PySem.W.keepIn K (.ref f24) = true)
    (a25 : PySem.W.nsIn K mainGlobals "_law_word_of" = some (some (.ref f25))) (l25 : K.lookup f25 = some ⟨oc25, od25, .func (PySem.W.fnOf "_law_word_of" "_law_word_of" (defArgs s__law_word_of) (defBody s__law_word_of) (defScope s__law_word_of) .none kV25 dc25 pm25 an25 cd25 ct25), sl25⟩) (c25 : PySem.W.codeIn K cd25 "_law_word_of" = true) (k25 : PySem.W.keepIn K (.ref f25) = true)
    (a26 : PySem.W.nsIn K mainGlobals "_law_given" = some (some (.ref f26))) (l26 : K.lookup f26 = some ⟨oc26, od26, .func (PySem.W.fnOf "_law_given" "_law_given" (defArgs s__law_given) (defBody s__law_given) (defScope s__law_given) .none kV26 dc26 pm26 an26 cd26 ct26), sl26⟩) (c26 : PySem.W.codeIn K cd26 "_law_given" = true) (k26 : PySem.W.keepIn K (.ref f26) = true)
    (a27 : PySem.W.nsIn K mainGlobals "_law_bent_rows" = some (some (.ref f27))) (l27 : K.lookup f27 = some ⟨oc27, od27, .func (PySem.W.fnOf "_law_bent_rows" "_law_bent_rows" (defArgs s__law_bent_rows) (defBody s__law_bent_rows) (defScope s__law_bent_rows) .none kV27 dc27 pm27 an27 cd27 ct27), sl27⟩) (c27 : PySem.W.codeIn K cd27 "_law_bent_rows" = true) (k27 : PySem.W.keepIn K (.ref f27) = true)
    (a28 : PySem.W.nsIn K mainGlobals "_law_all_bits" = some (some (.ref f28))) (l28 : K.lookup f28 = some ⟨oc28, od28, .func (PySem.W.fnOf "_law_all_bits" "_law_all_bits" (defArgs s__law_all_bits) (defBody s__law_all_bits) (defScope s__law_all_bits) .none kV28 dc28 pm28 an28 cd28 ct28), sl28⟩) (c28 : PySem.W.codeIn K cd28 "_law_all_bits" = true) (k28 : PySem.W.keepIn K (.ref f28) = true)
    (a29 : PySem.W.nsIn K mainGlobals "_law_is_cube" = some (some (.ref f29))) (l29 : K.lookup f29 = some ⟨oc29, od29, .func (PySem.W.fnOf "_law_is_cube" "_law_is_cube" (defArgs s__law_is_cube) (defBody s__law_is_cube) (defScope s__law_is_cube) .none kV29 dc29 pm29 an29 cd29 ct29), sl29⟩) (c29 : PySem.W.codeIn K cd29 "_law_is_cube" = true) (k29 : PySem.W.keepIn K (.ref f29) = true)
    (a30 : PySem.W.nsIn K mainGlobals "_law_same_due" = some (some (.ref f30))) (l30 : K.lookup f30 = some ⟨oc30, od30, .func (PySem.W.fnOf "_law_same_due" "_law_same_due" (defArgs s__law_same_due) (defBody s__law_same_due) (defScope s__law_same_due) .none kV30 dc30 pm30 an30 cd30 ct30), sl30⟩) (c30 : PySem.W.codeIn K cd30 "_law_same_due" = true) (k30 : PySem.W.keepIn K (.ref f30) = true)
    (a31 : PySem.W.nsIn K mainGlobals "_law_unlike_due" = some (some (.ref f31))) (l31 : K.lookup f31 = some ⟨oc31, od31, .func (PySem.W.fnOf "_law_unlike_due" "_law_unlike_due" (defArgs s__law_unlike_due) (defBody s__law_unlike_due) (defScope s__law_unlike_due) .none kV31 dc31 pm31 an31 cd31 ct31), sl31⟩) (c31 : PySem.W.codeIn K cd31 "_law_unlike_due" = true) (k31 : PySem.W.keepIn K (.ref f31) = true)
    (a32 : PySem.W.nsIn K mainGlobals "_law_bent" = some (some (.ref f32))) (l32 : K.lookup f32 = some ⟨oc32, od32, .func (PySem.W.fnOf "_law_bent" "_law_bent" (defArgs s__law_bent) (defBody s__law_bent) (defScope s__law_bent) .none kV32 dc32 pm32 an32 cd32 ct32), sl32⟩) (c32 : PySem.W.codeIn K cd32 "_law_bent" = true) (k32 : PySem.W.keepIn K (.ref f32) = true)
    (a33 : PySem.W.nsIn K mainGlobals "_law_right" = some (some (.ref f33))) (l33 : K.lookup f33 = some ⟨oc33, od33, .func (PySem.W.fnOf "_law_right" "_law_right" (defArgs s__law_right) (defBody s__law_right) (defScope s__law_right) .none kV33 dc33 pm33 an33 cd33 ct33), sl33⟩) (c33 : PySem.W.codeIn K cd33 "_law_right" = true) (k33 : PySem.W.keepIn K (.ref f33) = true)
    (a34 : PySem.W.nsIn K mainGlobals "law" = some (some (.ref f34))) (l34 : K.lookup f34 = some ⟨oc34, od34, .func (PySem.W.fnOf "law" "law" (defArgs s_law) (defBody s_law) (defScope s_law) .none kV34 dc34 pm34 an34 cd34 ct34), sl34⟩) (c34 : PySem.W.codeIn K cd34 "law" = true) (k34 : PySem.W.keepIn K (.ref f34) = true)
    (aC : PySem.W.nsIn K mainGlobals "Net" = some (some (.ref C)))
    (pgC : PySem.W.plainGet K C Str.empty = true) (hdC : PySem.W.hasDictIn K C = true) (poC : PySem.W.plainOver K C = true) (saC : PySem.W.findIn K (.ref C) "__setattr__" = some (some (.builtin "object.__setattr__"))) (mkC : PySem.W.makesIn K C = true) (kcC : PySem.W.keepIn K (.ref C) = true)
    (naC0 : PySem.W.findIn K (.ref C) "input_count" = some none)
    (naC1 : PySem.W.findIn K (.ref C) "made" = some none)
    (naC2 : PySem.W.findIn K (.ref C) "depths" = some none)
    (naC3 : PySem.W.findIn K (.ref C) "by_name" = some none)
    (a35 : PySem.W.findIn K (.ref C) "__init__" = some (some (.ref f35))) (i35 : PySem.W.isFn K (.ref f35) = true) (l35 : K.lookup f35 = some ⟨oc35, od35, .func (PySem.W.fnOf "__init__" "Net.__init__" (defArgs s_Net___init__) (defBody s_Net___init__) (defScope s_Net___init__) .none kV35 dc35 pm35 an35 cd35 ct35), sl35⟩) (c35 : PySem.W.codeIn K cd35 "Net.__init__" = true) (k35 : PySem.W.keepIn K (.ref f35) = true)
    (a36 : PySem.W.findIn K (.ref C) "both" = some (some (.ref f36))) (i36 : PySem.W.isFn K (.ref f36) = true) (l36 : K.lookup f36 = some ⟨oc36, od36, .func (PySem.W.fnOf "both" "Net.both" (defArgs s_Net_both) (defBody s_Net_both) (defScope s_Net_both) .none kV36 dc36 pm36 an36 cd36 ct36), sl36⟩) (c36 : PySem.W.codeIn K cd36 "Net.both" = true) (k36 : PySem.W.keepIn K (.ref f36) = true)
    (a37 : PySem.W.findIn K (.ref C) "either" = some (some (.ref f37))) (i37 : PySem.W.isFn K (.ref f37) = true) (l37 : K.lookup f37 = some ⟨oc37, od37, .func (PySem.W.fnOf "either" "Net.either" (defArgs s_Net_either) (defBody s_Net_either) (defScope s_Net_either) .none kV37 dc37 pm37 an37 cd37 ct37), sl37⟩) (c37 : PySem.W.codeIn K cd37 "Net.either" = true) (k37 : PySem.W.keepIn K (.ref f37) = true)
    (a38 : PySem.W.findIn K (.ref C) "unlike" = some (some (.ref f38))) (i38 : PySem.W.isFn K (.ref f38) = true) (l38 : K.lookup f38 = some ⟨oc38, od38, .func (PySem.W.fnOf "unlike" "Net.unlike" (defArgs s_Net_unlike) (defBody s_Net_unlike) (defScope s_Net_unlike) .none kV38 dc38 pm38 an38 cd38 ct38), sl38⟩) (c38 : PySem.W.codeIn K cd38 "Net.unlike" = true) (k38 : PySem.W.keepIn K (.ref f38) = true)
    (a39 : PySem.W.findIn K (.ref C) "other" = some (some (.ref f39))) (i39 : PySem.W.isFn K (.ref f39) = true) (l39 : K.lookup f39 = some ⟨oc39, od39, .func (PySem.W.fnOf "other" "Net.other" (defArgs s_Net_other) (defBody s_Net_other) (defScope s_Net_other) .none kV39 dc39 pm39 an39 cd39 ct39), sl39⟩) (c39 : PySem.W.codeIn K cd39 "Net.other" = true) (k39 : PySem.W.keepIn K (.ref f39) = true)
    (a40 : PySem.W.findIn K (.ref C) "fixed" = some (some (.ref f40))) (i40 : PySem.W.isFn K (.ref f40) = true) (l40 : K.lookup f40 = some ⟨oc40, od40, .func (PySem.W.fnOf "fixed" "Net.fixed" (defArgs s_Net_fixed) (defBody s_Net_fixed) (defScope s_Net_fixed) .none kV40 dc40 pm40 an40 cd40 ct40), sl40⟩) (c40 : PySem.W.codeIn K cd40 "Net.fixed" = true) (k40 : PySem.W.keepIn K (.ref f40) = true)
    (a41 : PySem.W.findIn K (.ref C) "put" = some (some (.ref f41))) (i41 : PySem.W.isFn K (.ref f41) = true) (l41 : K.lookup f41 = some ⟨oc41, od41, .func (PySem.W.fnOf "put" "Net.put" (defArgs s_Net_put) (defBody s_Net_put) (defScope s_Net_put) .none kV41 dc41 pm41 an41 cd41 ct41), sl41⟩) (c41 : PySem.W.codeIn K cd41 "Net.put" = true) (k41 : PySem.W.keepIn K (.ref f41) = true)
    (a42 : PySem.W.findIn K (.ref C) "put_gate" = some (some (.ref f42))) (i42 : PySem.W.isFn K (.ref f42) = true) (l42 : K.lookup f42 = some ⟨oc42, od42, .func (PySem.W.fnOf "put_gate" "Net.put_gate" (defArgs s_Net_put_gate) (defBody s_Net_put_gate) (defScope s_Net_put_gate) .none kV42 dc42 pm42 an42 cd42 ct42), sl42⟩) (c42 : PySem.W.codeIn K cd42 "Net.put_gate" = true) (k42 : PySem.W.keepIn K (.ref f42) = true)
    (a43 : PySem.W.findIn K (.ref C) "need" = some (some (.ref f43))) (i43 : PySem.W.isFn K (.ref f43) = true) (l43 : K.lookup f43 = some ⟨oc43, od43, .func (PySem.W.fnOf "need" "Net.need" (defArgs s_Net_need) (defBody s_Net_need) (defScope s_Net_need) .none kV43 dc43 pm43 an43 cd43 ct43), sl43⟩) (c43 : PySem.W.codeIn K cd43 "Net.need" = true) (k43 : PySem.W.keepIn K (.ref f43) = true)
    (a44 : PySem.W.findIn K (.ref C) "give" = some (some (.ref f44))) (i44 : PySem.W.isFn K (.ref f44) = true) (l44 : K.lookup f44 = some ⟨oc44, od44, .func (PySem.W.fnOf "give" "Net.give" (defArgs s_Net_give) (defBody s_Net_give) (defScope s_Net_give) .none kV44 dc44 pm44 an44 cd44 ct44), sl44⟩) (c44 : PySem.W.codeIn K cd44 "Net.give" = true) (k44 : PySem.W.keepIn K (.ref f44) = true)
    (a45 : PySem.W.findIn K (.ref C) "given" = some (some (.ref f45))) (i45 : PySem.W.isFn K (.ref f45) = true) (l45 : K.lookup f45 = some ⟨oc45, od45, .func (PySem.W.fnOf "given" "Net.given" (defArgs s_Net_given) (defBody s_Net_given) (defScope s_Net_given) .none kV45 dc45 pm45 an45 cd45 ct45), sl45⟩) (c45 : PySem.W.codeIn K cd45 "Net.given" = true) (k45 : PySem.W.keepIn K (.ref f45) = true)
    (a46 : PySem.W.findIn K (.ref C) "names" = some (some (.ref f46))) (i46 : PySem.W.isFn K (.ref f46) = true) (l46 : K.lookup f46 = some ⟨oc46, od46, .func (PySem.W.fnOf "names" "Net.names" (defArgs s_Net_names) (defBody s_Net_names) (defScope s_Net_names) .none kV46 dc46 pm46 an46 cd46 ct46), sl46⟩) (c46 : PySem.W.codeIn K cd46 "Net.names" = true) (k46 : PySem.W.keepIn K (.ref f46) = true)
    (a47 : PySem.W.findIn K (.ref C) "inputs" = some (some (.ref f47))) (i47 : PySem.W.isFn K (.ref f47) = true) (l47 : K.lookup f47 = some ⟨oc47, od47, .func (PySem.W.fnOf "inputs" "Net.inputs" (defArgs s_Net_inputs) (defBody s_Net_inputs) (defScope s_Net_inputs) .none kV47 dc47 pm47 an47 cd47 ct47), sl47⟩) (c47 : PySem.W.codeIn K cd47 "Net.inputs" = true) (k47 : PySem.W.keepIn K (.ref f47) = true)
    (a48 : PySem.W.findIn K (.ref C) "gates" = some (some (.ref f48))) (i48 : PySem.W.isFn K (.ref f48) = true) (l48 : K.lookup f48 = some ⟨oc48, od48, .func (PySem.W.fnOf "gates" "Net.gates" (defArgs s_Net_gates) (defBody s_Net_gates) (defScope s_Net_gates) .none kV48 dc48 pm48 an48 cd48 ct48), sl48⟩) (c48 : PySem.W.codeIn K cd48 "Net.gates" = true) (k48 : PySem.W.keepIn K (.ref f48) = true)
    (z1 : PySem.W.nsIn K mainGlobals "len" = some none)
    (z2 : PySem.W.nsIn K mainGlobals "abs" = some none)
    (z3 : PySem.W.nsIn K mainGlobals "int" = some none)
    (z4 : PySem.W.nsIn K mainGlobals "divmod" = some none)
    (z5 : PySem.W.nsIn K mainGlobals "list" = some none)
    (z6 : PySem.W.nsIn K mainGlobals "enumerate" = some none)
    (z7 : PySem.W.nsIn K mainGlobals "isinstance" = some none)
    (z8 : PySem.W.nsIn K mainGlobals "tuple" = some none)
    (z9 : PySem.W.nsIn K mainGlobals "str" = some none)
    (z10 : PySem.W.nsIn K mainGlobals "bool" = some none)
    (z11 : PySem.W.nsIn K mainGlobals "zip" = some none)
    (z12 : PySem.W.nsIn K mainGlobals "all" = some none)
    (z13 : PySem.W.nsIn K mainGlobals "range" = some none)
    (z14 : PySem.W.nsIn K mainGlobals "max" = some none)
    (z15 : PySem.W.nsIn K mainGlobals "any" = some none)
    (z16 : PySem.W.nsIn K mainGlobals "min" = some none)
    (z17 : PySem.W.nsIn K mainGlobals "sum" = some none)
    (zsorted : PySem.W.nsIn K mainGlobals "sorted" = some none)
    (zdict : PySem.W.nsIn K mainGlobals "dict" = some none)
    (zset : PySem.W.nsIn K mainGlobals "set" = some none)
    (zrepr : PySem.W.nsIn K mainGlobals "repr" = some none)
    : ∃ fd : FuncData, (∀ (s : Shared) (v : Value), BindsTo s fd ⟨[v], []⟩ [("_law_script", v)]) ∧ ∀ base : Heap, K.In base → base.Ns mainGlobals mg → FnOkG l.prog w K mg base CX0 13 fa fd ["_law_script"] (spLaw K) := by
  have e := hfa.symm.trans (PySem.W.mg_of X G a34)
  cases e
  have F1 := fun_mk (st := s_all_cases) l1 c1 k1
  have b1 := F1.binds (ps := ["many"]) fun _ _ _ _ _ _ us hl => match us, hl with | [_], _ => rfl
  have m1 := PySem.W.mg_of X G a1
  have F2 := fun_mk (st := s_place_in_cases) l2 c2 k2
  have b2 := F2.binds (ps := ["place", "many"]) fun _ _ _ _ _ _ us hl => match us, hl with | [_, _], _ => rfl
  have m2 := PySem.W.mg_of X G a2
  have F3 := fun_mk (st := s_bits_text) l3 c3 k3
  have b3 := F3.binds (ps := ["number", "many"]) fun _ _ _ _ _ _ us hl => match us, hl with | [_, _], _ => rfl
  have m3 := PySem.W.mg_of X G a3
  have F4 := fun_mk (st := s_hole) l4 c4 k4
  have b4 := F4.binds (ps := ["cubes", "many"]) fun _ _ _ _ _ _ us hl => match us, hl with | [_, _], _ => rfl
  have m4 := PySem.W.mg_of X G a4
  have F5 := fun_mk (st := s_cases_in) l5 c5 k5
  have b5 := F5.binds (ps := ["cube", "values", "many"]) fun _ _ _ _ _ _ us hl => match us, hl with | [_, _, _], _ => rfl
  have m5 := PySem.W.mg_of X G a5
  have F6 := fun_mk (st := s_is_text_of) l6 c6 k6
  have b6 := F6.binds (ps := ["signs", "many", "thing"]) fun _ _ _ _ _ _ us hl => match us, hl with | [_, _, _], _ => rfl
  have m6 := PySem.W.mg_of X G a6
  have F7 := fun_mk (st := s_settled) l7 c7 k7
  have b7 := F7.binds (ps := ["net", "cube"]) fun _ _ _ _ _ _ us hl => match us, hl with | [_, _], _ => rfl
  have m7 := PySem.W.mg_of X G a7
  have F8 := fun_mk (st := s_gate_sign) l8 c8 k8
  have b8 := F8.binds (ps := ["gate", "signs"]) fun _ _ _ _ _ _ us hl => match us, hl with | [_, _], _ => rfl
  have m8 := PySem.W.mg_of X G a8
  have F9 := fun_mk (st := s_turned_sign) l9 c9 k9
  have b9 := F9.binds (ps := ["sign"]) fun _ _ _ _ _ _ us hl => match us, hl with | [_], _ => rfl
  have m9 := PySem.W.mg_of X G a9
  have F10 := fun_mk (st := s_ruled_sign) l10 c10 k10
  have b10 := F10.binds (ps := ["one", "other", "ruling"]) fun _ _ _ _ _ _ us hl => match us, hl with | [_, _, _], _ => rfl
  have m10 := PySem.W.mg_of X G a10
  have F11 := fun_mk (st := s_looked) l11 c11 k11
  have b11 := F11.binds (ps := ["one", "other", "cube"]) fun _ _ _ _ _ _ us hl => match us, hl with | [_, _, _], _ => rfl
  have m11 := PySem.W.mg_of X G a11
  have F12 := fun_mk (st := s_has_open) l12 c12 k12
  have b12 := F12.binds (ps := ["told"]) fun _ _ _ _ _ _ us hl => match us, hl with | [_], _ => rfl
  have m12 := PySem.W.mg_of X G a12
  have F13 := fun_mk (st := s_need_fit) l13 c13 k13
  have b13 := F13.binds (ps := ["one", "other"]) fun _ _ _ _ _ _ us hl => match us, hl with | [_, _], _ => rfl
  have m13 := PySem.W.mg_of X G a13
  have F14 := fun_mk (st := s_shows_same) l14 c14 k14
  have b14 := F14.binds (ps := ["one", "other", "thing"]) fun _ _ _ _ _ _ us hl => match us, hl with | [_, _, _], _ => rfl
  have m14 := PySem.W.mg_of X G a14
  have F15 := fun_mk (st := s_shows_unlike) l15 c15 k15
  have b15 := F15.binds (ps := ["one", "other", "thing"]) fun _ _ _ _ _ _ us hl => match us, hl with | [_, _, _], _ => rfl
  have m15 := PySem.W.mg_of X G a15
  have F16 := fun_mk (st := sBox) l16 c16 k16
  have b16 := F16.binds (ps := ["_law_script", "_law_k"]) fun _ _ _ _ _ _ us hl => match us, hl with | [_, _], _ => rfl
  have m16 := PySem.W.mg_of X G a16
  have F17 := fun_mk (st := sTake) l17 c17 k17
  have b17 := F17.binds (ps := ["_law_box_here", "_law_size"]) fun _ _ _ _ _ _ us hl => match us, hl with | [_, _], _ => rfl
  have m17 := PySem.W.mg_of X G a17
  have F18 := fun_mk (st := sFolded) l18 c18 k18
  have b18 := F18.binds (ps := ["_law_script", "_law_size"]) fun _ _ _ _ _ _ us hl => match us, hl with | [_, _], _ => rfl
  have m18 := PySem.W.mg_of X G a18
  have F19 := fun_mk (st := sSame) l19 c19 k19
  have b19 := F19.binds (ps := ["_law_found", "_law_due"]) fun _ _ _ _ _ _ us hl => match us, hl with | [_, _], _ => rfl
  have m19 := PySem.W.mg_of X G a19
  have F20 := fun_mk (st := s__law_gate_rows) l20 c20 k20
  have b20 := F20.binds (ps := ["_law_box_here", "_law_first", "_law_many"]) fun _ _ _ _ _ _ us hl => match us, hl with | [_, _, _], _ => rfl
  have m20 := PySem.W.mg_of X G a20
  have F21 := fun_mk (st := s__law_net) l21 c21 k21
  have b21 := F21.binds (ps := ["_law_first", "_law_rows", "_law_given_here"]) fun _ _ _ _ _ _ us hl => match us, hl with | [_, _, _], _ => rfl
  have m21 := PySem.W.mg_of X G a21
  have F22 := fun_mk (st := s__law_settled) l22 c22 k22
  have b22 := F22.binds (ps := ["_law_rows", "_law_given_here", "_law_cube"]) fun _ _ _ _ _ _ us hl => match us, hl with | [_, _, _], _ => rfl
  have m22 := PySem.W.mg_of X G a22
  have F23 := fun_mk (st := s__law_is_open) l23 c23 k23
  have b23 := F23.binds (ps := ["_law_told"]) fun _ _ _ _ _ _ us hl => match us, hl with | [_], _ => rfl
  have m23 := PySem.W.mg_of X G a23
  have F24 := fun_mk (st := s__law_looked) l24 c24 k24
  have b24 := F24.binds (ps := ["_law_first", "_law_one", "_law_other", "_law_limit"]) fun _ _ _ _ _ _ us hl => match us, hl with | [_, _, _, _], _ => rfl
  have m24 := PySem.W.mg_of X G a24
  have F25 := fun_mk (st := s__law_word_of) l25 c25 k25
  have b25 := F25.binds (ps := ["_law_box_here", "_law_some"]) fun _ _ _ _ _ _ us hl => match us, hl with | [_, _], _ => rfl
  have m25 := PySem.W.mg_of X G a25
  have F26 := fun_mk (st := s__law_given) l26 c26 k26
  have b26 := F26.binds (ps := ["_law_box_here", "_law_far"]) fun _ _ _ _ _ _ us hl => match us, hl with | [_, _], _ => rfl
  have m26 := PySem.W.mg_of X G a26
  have F27 := fun_mk (st := s__law_bent_rows) l27 c27 k27
  have b27 := F27.binds (ps := ["_law_box_here", "_law_first", "_law_rows"]) fun _ _ _ _ _ _ us hl => match us, hl with | [_, _, _], _ => rfl
  have m27 := PySem.W.mg_of X G a27
  have F28 := fun_mk (st := s__law_all_bits) l28 c28 k28
  have b28 := F28.binds (ps := ["_law_many"]) fun _ _ _ _ _ _ us hl => match us, hl with | [_], _ => rfl
  have m28 := PySem.W.mg_of X G a28
  have F29 := fun_mk (st := s__law_is_cube) l29 c29 k29
  have b29 := F29.binds (ps := ["_law_thing", "_law_signs", "_law_many"]) fun _ _ _ _ _ _ us hl => match us, hl with | [_, _, _], _ => rfl
  have m29 := PySem.W.mg_of X G a29
  have F30 := fun_mk (st := s__law_same_due) l30 c30 k30
  have b30 := F30.binds (ps := ["_law_first", "_law_one", "_law_other", "_law_thing"]) fun _ _ _ _ _ _ us hl => match us, hl with | [_, _, _, _], _ => rfl
  have m30 := PySem.W.mg_of X G a30
  have F31 := fun_mk (st := s__law_unlike_due) l31 c31 k31
  have b31 := F31.binds (ps := ["_law_first", "_law_one", "_law_other", "_law_thing"]) fun _ _ _ _ _ _ us hl => match us, hl with | [_, _, _, _], _ => rfl
  have m31 := PySem.W.mg_of X G a31
  have F32 := fun_mk (st := s__law_bent) l32 c32 k32
  have b32 := F32.binds (ps := ["_law_box_here", "_law_cubes", "_law_first"]) fun _ _ _ _ _ _ us hl => match us, hl with | [_, _, _], _ => rfl
  have m32 := PySem.W.mg_of X G a32
  have F33 := fun_mk (st := s__law_right) l33 c33 k33
  have b33 := F33.binds (ps := ["_law_box_here"]) fun _ _ _ _ _ _ us hl => match us, hl with | [_], _ => rfl
  have m33 := PySem.W.mg_of X G a33
  have F34 := fun_mk (st := s_law) l34 c34 k34
  have F35 := fun_mk (st := s_Net___init__) l35 c35 k35
  have b35 := F35.binds (ps := ["self", "many"]) fun _ _ _ _ _ _ us hl => match us, hl with | [_, _], _ => rfl
  have M35 : Meth K C "__init__" f35 := ⟨a35, i35, k35⟩
  have F36 := fun_mk (st := s_Net_both) l36 c36 k36
  have b36 := F36.binds (ps := ["self", "a", "b"]) fun _ _ _ _ _ _ us hl => match us, hl with | [_, _, _], _ => rfl
  have M36 : Meth K C "both" f36 := ⟨a36, i36, k36⟩
  have F37 := fun_mk (st := s_Net_either) l37 c37 k37
  have b37 := F37.binds (ps := ["self", "a", "b"]) fun _ _ _ _ _ _ us hl => match us, hl with | [_, _, _], _ => rfl
  have M37 : Meth K C "either" f37 := ⟨a37, i37, k37⟩
  have F38 := fun_mk (st := s_Net_unlike) l38 c38 k38
  have b38 := F38.binds (ps := ["self", "a", "b"]) fun _ _ _ _ _ _ us hl => match us, hl with | [_, _, _], _ => rfl
  have M38 : Meth K C "unlike" f38 := ⟨a38, i38, k38⟩
  have F39 := fun_mk (st := s_Net_other) l39 c39 k39
  have b39 := F39.binds (ps := ["self", "a"]) fun _ _ _ _ _ _ us hl => match us, hl with | [_, _], _ => rfl
  have M39 : Meth K C "other" f39 := ⟨a39, i39, k39⟩
  have F40 := fun_mk (st := s_Net_fixed) l40 c40 k40
  have b40 := F40.binds (ps := ["self", "bit"]) fun _ _ _ _ _ _ us hl => match us, hl with | [_, _], _ => rfl
  have M40 : Meth K C "fixed" f40 := ⟨a40, i40, k40⟩
  have F41 := fun_mk (st := s_Net_put) l41 c41 k41
  have b41 := F41.binds (ps := ["self", "kind", "wires"]) fun _ _ _ _ _ _ us hl => match us, hl with | [_, _, _], _ => rfl
  have M41 : Meth K C "put" f41 := ⟨a41, i41, k41⟩
  have F42 := fun_mk (st := s_Net_put_gate) l42 c42 k42
  have b42 := F42.binds (ps := ["self", "gate", "depth"]) fun _ _ _ _ _ _ us hl => match us, hl with | [_, _, _], _ => rfl
  have M42 : Meth K C "put_gate" f42 := ⟨a42, i42, k42⟩
  have F43 := fun_mk (st := s_Net_need) l43 c43 k43
  have b43 := F43.binds (ps := ["self", "wires"]) fun _ _ _ _ _ _ us hl => match us, hl with | [_, _], _ => rfl
  have M43 : Meth K C "need" f43 := ⟨a43, i43, k43⟩
  have F44 := fun_mk (st := s_Net_give) l44 c44 k44
  have b44 := F44.binds (ps := ["self", "name", "wires"]) fun _ _ _ _ _ _ us hl => match us, hl with | [_, _, _], _ => rfl
  have M44 : Meth K C "give" f44 := ⟨a44, i44, k44⟩
  have F45 := fun_mk (st := s_Net_given) l45 c45 k45
  have b45 := F45.binds (ps := ["self", "name"]) fun _ _ _ _ _ _ us hl => match us, hl with | [_, _], _ => rfl
  have M45 : Meth K C "given" f45 := ⟨a45, i45, k45⟩
  have F46 := fun_mk (st := s_Net_names) l46 c46 k46
  have b46 := F46.binds (ps := ["self"]) fun _ _ _ _ _ _ us hl => match us, hl with | [_], _ => rfl
  have M46 : Meth K C "names" f46 := ⟨a46, i46, k46⟩
  have F47 := fun_mk (st := s_Net_inputs) l47 c47 k47
  have b47 := F47.binds (ps := ["self"]) fun _ _ _ _ _ _ us hl => match us, hl with | [_], _ => rfl
  have M47 : Meth K C "inputs" f47 := ⟨a47, i47, k47⟩
  have F48 := fun_mk (st := s_Net_gates) l48 c48 k48
  have b48 := F48.binds (ps := ["self"]) fun _ _ _ _ _ _ us hl => match us, hl with | [_], _ => rfl
  have M48 : Meth K C "gates" f48 := ⟨a48, i48, k48⟩
  have clC : Cls K C := ⟨pgC, hdC, poC, saC⟩
  have mgC := PySem.W.mg_of X G aC
  have B : Bl mg := ⟨PySem.W.mg_none_of X G z1, PySem.W.mg_none_of X G z2, PySem.W.mg_none_of X G z3, PySem.W.mg_none_of X G z4, PySem.W.mg_none_of X G z5, PySem.W.mg_none_of X G z6, PySem.W.mg_none_of X G z7, PySem.W.mg_none_of X G z8, PySem.W.mg_none_of X G z9, PySem.W.mg_none_of X G z10, PySem.W.mg_none_of X G z11, PySem.W.mg_none_of X G z12, PySem.W.mg_none_of X G z13, PySem.W.mg_none_of X G z14, PySem.W.mg_none_of X G z15, PySem.W.mg_none_of X G z16, PySem.W.mg_none_of X G z17⟩
  refine ⟨PySem.W.fnOf "law" "law" (defArgs s_law) (defBody s_law) (defScope s_law) .none kV34 dc34 pm34 an34 cd34 ct34, fun s v => .of_eq rfl, fun base _ _ => ?_⟩
  have L : LL K mg C (pkz f1 [f2, f3, f4, f5, f6, f7, f8, f9, f10, f11, f12, f13, f14, f15, f16, f17, f18, f19, f20, f21, f22, f23, f24, f25, f26, f27, f28, f29, f30, f31, f32, f33, f35, f36, f37, f38, f39, f40, f41, f42, f43, f44, f45, f46, f47, f48]) (pkz _ [_, _, _, _, _, _, _, _, _, _, _, _, _, _, _, _, _, _, _, _, _, _, _, _, _, _, _, _, _, _, _, _, _, _, _, _, _, _, _, _, _, _, _, _, _, _])  := ⟨F1, m1, b1, F2, m2, b2, F3, m3, b3, F4, m4, b4, F5, m5, b5, F6, m6, b6, F7, m7, b7, F8, m8, b8, F9, m9, b9, F10, m10, b10, F11, m11, b11, F12, m12, b12, F13, m13, b13, F14, m14, b14, F15, m15, b15, F16, m16, b16, F17, m17, b17, F18, m18, b18, F19, m19, b19, F20, m20, b20, F21, m21, b21, F22, m22, b22, F23, m23, b23, F24, m24, b24, F25, m25, b25, F26, m26, b26, F27, m27, b27, F28, m28, b28, F29, m29, b29, F30, m30, b30, F31, m31, b31, F32, m32, b32, F33, m33, b33, ⟨clC, naC0, naC1, naC2, naC3, mgC⟩, ⟨mkC, a35, i35, kcC⟩, F35, b35, F36, b36, M36, F37, b37, M37, F38, b38, M38, F39, b39, M39, F40, b40, M40, F41, b41, M41, F42, b42, M42, F43, b43, M43, F44, b44, M44, F45, b45, M45, F46, b46, M46, F47, b47, M47, F48, b48, M48, PySem.W.mg_none_of X G zsorted, PySem.W.mg_none_of X G zdict, PySem.W.mg_none_of X G zset, PySem.W.mg_none_of X G zrepr⟩
  exact ok_law F34 B L
end GZ
open PySem PySem.W PyProof.Rows
set_option maxRecDepth 100000 in
set_option maxHeartbeats 0 in
theorem PySem.Challenge.cw_guessedzeros_k62_papers_shown_holds : PySem.Challenge.rw_guessedzeros_k62_papers_shown.Holds := by
  w_on; o_law; k_headLK; (case hw => w_witness2)
  k_fill
  refine L2.walkG (l := PySem.Challenge.rw_guessedzeros_k62_papers_shown) (n := 63) (k := 13) (x := "_law_script") (CX := fun _ => L2.CX0) (sp := fun w => GZ.spLaw _) rfl (by decide) rfl ⟨rfl, by decide, by decide⟩ (fun w h Y => PySem.W.kIn_of Y) ?F (fun _ _ a ns hl _ hS => ⟨a, ns, rfl, hS, hl, fun _ => rfl⟩) (fun _ _ _ _ _ h => h)
  case F =>
    intro w mg fa h KX G hmg
    refine' GZ.all_mk KX G hmg ?a1 ?l1 ?c1 ?k1 ?a2 ?l2 ?c2 ?k2 ?a3 ?l3 ?c3 ?k3 ?a4 ?l4 ?c4 ?k4 ?a5 ?l5 ?c5 ?k5 ?a6 ?l6 ?c6 ?k6 ?a7 ?l7 ?c7 ?k7 ?a8 ?l8 ?c8 ?k8 ?a9 ?l9 ?c9 ?k9 ?a10 ?l10 ?c10 ?k10 ?a11 ?l11 ?c11 ?k11 ?a12 ?l12 ?c12 ?k12 ?a13 ?l13 ?c13 ?k13 ?a14 ?l14 ?c14 ?k14 ?a15 ?l15 ?c15 ?k15 ?a16 ?l16 ?c16 ?k16 ?a17 ?l17 ?c17 ?k17 ?a18 ?l18 ?c18 ?k18 ?a19 ?l19 ?c19 ?k19 ?a20 ?l20 ?c20 ?k20 ?a21 ?l21 ?c21 ?k21 ?a22 ?l22 ?c22 ?k22 ?a23 ?l23 ?c23 ?k23 ?a24 ?l24 ?c24 ?k24 ?a25 ?l25 ?c25 ?k25 ?a26 ?l26 ?c26 ?k26 ?a27 ?l27 ?c27 ?k27 ?a28 ?l28 ?c28 ?k28 ?a29 ?l29 ?c29 ?k29 ?a30 ?l30 ?c30 ?k30 ?a31 ?l31 ?c31 ?k31 ?a32 ?l32 ?c32 ?k32 ?a33 ?l33 ?c33 ?k33 ?a34 ?l34 ?c34 ?k34 ?aC ?pgC ?hdC ?poC ?saC ?mkC ?kcC ?naC0 ?naC1 ?naC2 ?naC3 ?a35 ?i35 ?l35 ?c35 ?k35 ?a36 ?i36 ?l36 ?c36 ?k36 ?a37 ?i37 ?l37 ?c37 ?k37 ?a38 ?i38 ?l38 ?c38 ?k38 ?a39 ?i39 ?l39 ?c39 ?k39 ?a40 ?i40 ?l40 ?c40 ?k40 ?a41 ?i41 ?l41 ?c41 ?k41 ?a42 ?i42 ?l42 ?c42 ?k42 ?a43 ?i43 ?l43 ?c43 ?k43 ?a44 ?i44 ?l44 ?c44 ?k44 ?a45 ?i45 ?l45 ?c45 ?k45 ?a46 ?i46 ?l46 ?c46 ?k46 ?a47 ?i47 ?l47 ?c47 ?k47 ?a48 ?i48 ?l48 ?c48 ?k48 ?z1 ?z2 ?z3 ?z4 ?z5 ?z6 ?z7 ?z8 ?z9 ?z10 ?z11 ?z12 ?z13 ?z14 ?z15 ?z16 ?z17 ?zsorted ?zdict ?zset ?zrepr
    (case a1 => k_is)
    (case l1 => k_is)
    (case c1 => k_is)
    (case k1 => k_is)
    (case a2 => k_is)
    (case l2 => k_is)
    (case c2 => k_is)
    (case k2 => k_is)
    (case a3 => k_is)
    (case l3 => k_is)
    (case c3 => k_is)
    (case k3 => k_is)
    (case a4 => k_is)
    (case l4 => k_is)
    (case c4 => k_is)
    (case k4 => k_is)
    (case a5 => k_is)
    (case l5 => k_is)
    (case c5 => k_is)
    (case k5 => k_is)
    (case a6 => k_is)
    (case l6 => k_is)
    (case c6 => k_is)
    (case k6 => k_is)
    (case a7 => k_is)
    (case l7 => k_is)
    (case c7 => k_is)
    (case k7 => k_is)
    (case a8 => k_is)
    (case l8 => k_is)
    (case c8 => k_is)
    (case k8 => k_is)
    (case a9 => k_is)
    (case l9 => k_is)
    (case c9 => k_is)
    (case k9 => k_is)
    (case a10 => k_is)
    (case l10 => k_is)
    (case c10 => k_is)
    (case k10 => k_is)
    (case a11 => k_is)
    (case l11 => k_is)
    (case c11 => k_is)
    (case k11 => k_is)
    (case a12 => k_is)
    (case l12 => k_is)
    (case c12 => k_is)
    (case k12 => k_is)
    (case a13 => k_is)
    (case l13 => k_is)
    (case c13 => k_is)
    (case k13 => k_is)
    (case a14 => k_is)
    (case l14 => k_is)
    (case c14 => k_is)
    (case k14 => k_is)
    (case a15 => k_is)
    (case l15 => k_is)
    (case c15 => k_is)
    (case k15 => k_is)
    (case a16 => k_is)
    (case l16 => k_is)
    (case c16 => k_is)
    (case k16 => k_is)
    (case a17 => k_is)
    (case l17 => k_is)
    (case c17 => k_is)
    (case k17 => k_is)
    (case a18 => k_is)
    (case l18 => k_is)
    (case c18 => k_is)
    (case k18 => k_is)
    (case a19 => k_is)
    (case l19 => k_is)
    (case c19 => k_is)
    (case k19 => k_is)
    (case a20 => k_is)
    (case l20 => k_is)
    (case c20 => k_is)
    (case k20 => k_is)
    (case a21 => k_is)
    (case l21 => k_is)
    (case c21 => k_is)
    (case k21 => k_is)
    (case a22 => k_is)
    (case l22 => k_is)
    (case c22 => k_is)
    (case k22 => k_is)
    (case a23 => k_is)
    (case l23 => k_is)
    (case c23 => k_is)
    (case k23 => k_is)
    (case a24 => k_is)
    (case l24 => k_is)
    (case c24 => k_is)
    (case k24 => k_is)
    (case a25 => k_is)
    (case l25 => k_is)
    (case c25 => k_is)
    (case k25 => k_is)
    (case a26 => k_is)
    (case l26 => k_is)
    (case c26 => k_is)
    (case k26 => k_is)
    (case a27 => k_is)
    (case l27 => k_is)
    (case c27 => k_is)
    (case k27 => k_is)
    (case a28 => k_is)
    (case l28 => k_is)
    (case c28 => k_is)
    (case k28 => k_is)
    (case a29 => k_is)
    (case l29 => k_is)
    (case c29 => k_is)
    (case k29 => k_is)
    (case a30 => k_is)
    (case l30 => k_is)
    (case c30 => k_is)
    (case k30 => k_is)
    (case a31 => k_is)
    (case l31 => k_is)
    (case c31 => k_is)
    (case k31 => k_is)
    (case a32 => k_is)
    (case l32 => k_is)
    (case c32 => k_is)
    (case k32 => k_is)
    (case a33 => k_is)
    (case l33 => k_is)
    (case c33 => k_is)
    (case k33 => k_is)
    (case a34 => k_is)
    (case l34 => k_is)
    (case c34 => k_is)
    (case k34 => k_is)
    (case aC => k_is)
    (case pgC => k_is)
    (case hdC => k_is)
    (case poC => k_is)
    (case saC => k_is)
    (case mkC => k_is)
    (case kcC => k_is)
    (case naC0 => k_is)
    (case naC1 => k_is)
    (case naC2 => k_is)
    (case naC3 => k_is)
    (case a35 => k_is)
    (case i35 => k_is)
    (case l35 => k_is)
    (case c35 => k_is)
    (case k35 => k_is)
    (case a36 => k_is)
    (case i36 => k_is)
    (case l36 => k_is)
    (case c36 => k_is)
    (case k36 => k_is)
    (case a37 => k_is)
    (case i37 => k_is)
    (case l37 => k_is)
    (case c37 => k_is)
    (case k37 => k_is)
    (case a38 => k_is)
    (case i38 => k_is)
    (case l38 => k_is)
    (case c38 => k_is)
    (case k38 => k_is)
    (case a39 => k_is)
    (case i39 => k_is)
    (case l39 => k_is)
    (case c39 => k_is)
    (case k39 => k_is)
    (case a40 => k_is)
    (case i40 => k_is)
    (case l40 => k_is)
    (case c40 => k_is)
    (case k40 => k_is)
    (case a41 => k_is)
    (case i41 => k_is)
    (case l41 => k_is)
    (case c41 => k_is)
    (case k41 => k_is)
    (case a42 => k_is)
    (case i42 => k_is)
    (case l42 => k_is)
    (case c42 => k_is)
    (case k42 => k_is)
    (case a43 => k_is)
    (case i43 => k_is)
    (case l43 => k_is)
    (case c43 => k_is)
    (case k43 => k_is)
    (case a44 => k_is)
    (case i44 => k_is)
    (case l44 => k_is)
    (case c44 => k_is)
    (case k44 => k_is)
    (case a45 => k_is)
    (case i45 => k_is)
    (case l45 => k_is)
    (case c45 => k_is)
    (case k45 => k_is)
    (case a46 => k_is)
    (case i46 => k_is)
    (case l46 => k_is)
    (case c46 => k_is)
    (case k46 => k_is)
    (case a47 => k_is)
    (case i47 => k_is)
    (case l47 => k_is)
    (case c47 => k_is)
    (case k47 => k_is)
    (case a48 => k_is)
    (case i48 => k_is)
    (case l48 => k_is)
    (case c48 => k_is)
    (case k48 => k_is)
    (case z1 => k_is)
    (case z2 => k_is)
    (case z3 => k_is)
    (case z4 => k_is)
    (case z5 => k_is)
    (case z6 => k_is)
    (case z7 => k_is)
    (case z8 => k_is)
    (case z9 => k_is)
    (case z10 => k_is)
    (case z11 => k_is)
    (case z12 => k_is)
    (case z13 => k_is)
    (case z14 => k_is)
    (case z15 => k_is)
    (case z16 => k_is)
    (case z17 => k_is)
    (case zsorted => k_is)
    (case zdict => k_is)
    (case zset => k_is)
    (case zrepr => k_is)

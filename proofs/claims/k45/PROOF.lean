import PyProof.Rows.All
import Wide.All
import OpenK.AllK
import Wide.FinOn
import HandS.ForMost
import HandS.Walk
import HandS.Zip
import HandS.WideBits
import HandS.IsInst
import OpenK.KEqL
import HandS.More
import HandS.Flow
import HandS.NoneIn
import HandS.Defaults
import HandS.Wide
import HandS.Style
import HandS.Dict
import HandS.Star
import HandS.Conv
import HandS.Small
import HandS.Codes
import HandS.Text
import HandS.WordsDict
import KE.OsRunLaw
import HandS.Spec
import PyProof.ReprRoads
import PyProof.ReprBulk
import PyProof.Rows.Digits
import PyProof.CallStr
import KE.GoesZip
import KE.GoesMore
import KE.GoesEnum
import HandS.Deep
import HandS.OwnEq
import HandS.DictComp
import PyProof.Rows.FactsT3
import PySem.Challenge.RW_guessedzeros_k45_nets_run_case_by_case
set_option Elab.async false
set_option linter.all false
set_option maxRecDepth 100000
set_option maxHeartbeats 40000000
namespace GZ
open PySem PySem.Spec PyProof.Rows L2
/-! ### the text by places -/
def topS (i : Nat) : Stmt := PySem.Challenge.pw_guessedzeros_k45_nets_run_case_by_case.main.body.getD i (.Pass ⟨0, 0, 0, 0⟩)
abbrev s_worth_of : Stmt := topS 1
theorem sc_worth_of : FnScope ["digits", "worth", "digit"] ["digits"] (defScope s_worth_of) := ⟨rfl, rfl, rfl, by decide +kernel, rfl, by decide +kernel, by decide +kernel⟩
abbrev s_ran : Stmt := topS 3
theorem sc_ran : FnScope ["net", "values", "many", "full", "wires", "gate", "value", "name", "wire"] ["net", "values", "many"] (defScope s_ran) := ⟨rfl, rfl, rfl, by decide +kernel, rfl, by decide +kernel, by decide +kernel⟩
abbrev s_gate_bits : Stmt := topS 4
theorem sc_gate_bits : FnScope ["gate", "wires", "full", "kind", "one", "other"] ["gate", "wires", "full"] (defScope s_gate_bits) := ⟨rfl, rfl, rfl, by decide +kernel, rfl, by decide +kernel, by decide +kernel⟩
abbrev s_one_case : Stmt := topS 5
theorem sc_one_case : FnScope ["net", "word", "values", "place", "name", "bits"] ["net", "word"] (defScope s_one_case) := ⟨rfl, rfl, rfl, by decide +kernel, rfl, by decide +kernel, by decide +kernel⟩
abbrev s_Net___init__ : Stmt := inClass (topS 11) 0
theorem sc_Net___init__ : FnScope ["self", "many"] ["self", "many"] (defScope s_Net___init__) := ⟨rfl, rfl, rfl, by decide +kernel, rfl, by decide +kernel, by decide +kernel⟩
abbrev s_Net_both : Stmt := inClass (topS 11) 1
theorem sc_Net_both : FnScope ["self", "a", "b"] ["self", "a", "b"] (defScope s_Net_both) := ⟨rfl, rfl, rfl, by decide +kernel, rfl, by decide +kernel, by decide +kernel⟩
abbrev s_Net_either : Stmt := inClass (topS 11) 2
theorem sc_Net_either : FnScope ["self", "a", "b"] ["self", "a", "b"] (defScope s_Net_either) := ⟨rfl, rfl, rfl, by decide +kernel, rfl, by decide +kernel, by decide +kernel⟩
abbrev s_Net_unlike : Stmt := inClass (topS 11) 3
theorem sc_Net_unlike : FnScope ["self", "a", "b"] ["self", "a", "b"] (defScope s_Net_unlike) := ⟨rfl, rfl, rfl, by decide +kernel, rfl, by decide +kernel, by decide +kernel⟩
abbrev s_Net_other : Stmt := inClass (topS 11) 4
theorem sc_Net_other : FnScope ["self", "a"] ["self", "a"] (defScope s_Net_other) := ⟨rfl, rfl, rfl, by decide +kernel, rfl, by decide +kernel, by decide +kernel⟩
abbrev s_Net_fixed : Stmt := inClass (topS 11) 5
theorem sc_Net_fixed : FnScope ["self", "bit"] ["self", "bit"] (defScope s_Net_fixed) := ⟨rfl, rfl, rfl, by decide +kernel, rfl, by decide +kernel, by decide +kernel⟩
abbrev s_Net_put : Stmt := inClass (topS 11) 6
theorem sc_Net_put : FnScope ["self", "kind", "wires", "depth", "wire"] ["self", "kind", "wires"] (defScope s_Net_put) := ⟨rfl, rfl, rfl, by decide +kernel, rfl, by decide +kernel, by decide +kernel⟩
abbrev s_Net_put_gate : Stmt := inClass (topS 11) 7
theorem sc_Net_put_gate : FnScope ["self", "gate", "depth"] ["self", "gate", "depth"] (defScope s_Net_put_gate) := ⟨rfl, rfl, rfl, by decide +kernel, rfl, by decide +kernel, by decide +kernel⟩
abbrev s_Net_need : Stmt := inClass (topS 11) 8
theorem sc_Net_need : FnScope ["self", "wires", "wire"] ["self", "wires"] (defScope s_Net_need) := ⟨rfl, rfl, rfl, by decide +kernel, rfl, by decide +kernel, by decide +kernel⟩
abbrev s_Net_give : Stmt := inClass (topS 11) 9
theorem sc_Net_give : FnScope ["self", "name", "wires"] ["self", "name", "wires"] (defScope s_Net_give) := ⟨rfl, rfl, rfl, by decide +kernel, rfl, by decide +kernel, by decide +kernel⟩
abbrev s_Net_given : Stmt := inClass (topS 11) 10
theorem sc_Net_given : FnScope ["self", "name"] ["self", "name"] (defScope s_Net_given) := ⟨rfl, rfl, rfl, by decide +kernel, rfl, by decide +kernel, by decide +kernel⟩
abbrev s_Net_names : Stmt := inClass (topS 11) 11
theorem sc_Net_names : FnScope ["self"] ["self"] (defScope s_Net_names) := ⟨rfl, rfl, rfl, by decide +kernel, rfl, by decide +kernel, by decide +kernel⟩
abbrev s_Net_inputs : Stmt := inClass (topS 11) 12
theorem sc_Net_inputs : FnScope ["self"] ["self"] (defScope s_Net_inputs) := ⟨rfl, rfl, rfl, by decide +kernel, rfl, by decide +kernel, by decide +kernel⟩
abbrev s_Net_gates : Stmt := inClass (topS 11) 13
theorem sc_Net_gates : FnScope ["self"] ["self"] (defScope s_Net_gates) := ⟨rfl, rfl, rfl, by decide +kernel, rfl, by decide +kernel, by decide +kernel⟩
abbrev s_Net___len__ : Stmt := inClass (topS 11) 15
theorem sc_Net___len__ : FnScope ["self"] ["self"] (defScope s_Net___len__) := ⟨rfl, rfl, rfl, by decide +kernel, rfl, by decide +kernel, by decide +kernel⟩
abbrev s_Net_like : Stmt := inClass (topS 11) 16
theorem sc_Net_like : FnScope ["self", "twin", "name"] ["self"] (defScope s_Net_like) := ⟨rfl, rfl, rfl, by decide +kernel, rfl, by decide +kernel, by decide +kernel⟩
abbrev sBox : Stmt := topS 13
abbrev sTake : Stmt := topS 14
abbrev sSame : Stmt := topS 15
abbrev s__law_names : Stmt := topS 16
theorem sc__law_names : FnScope ["_law_box_here", "_law_size", "_law_signs", "_law_first", "_law_found", "_law_k", "_law_last"] ["_law_box_here", "_law_size"] (defScope s__law_names) := ⟨rfl, rfl, rfl, by decide +kernel, rfl, by decide +kernel, by decide +kernel⟩
abbrev s__law_gates : Stmt := topS 17
theorem sc__law_gates : FnScope ["_law_box_here", "_law_wide", "_law_size", "_law_rows", "_law_k", "_law_here", "_law_sort", "_law_a", "_law_b"] ["_law_box_here", "_law_wide", "_law_size"] (defScope s__law_gates) := ⟨rfl, rfl, rfl, by decide +kernel, rfl, by decide +kernel, by decide +kernel⟩
abbrev s__law_made : Stmt := topS 18
theorem sc__law_made : FnScope ["_law_rows", "_law_wide", "_law_net", "_law_row"] ["_law_rows", "_law_wide"] (defScope s__law_made) := ⟨rfl, rfl, rfl, by decide +kernel, rfl, by decide +kernel, by decide +kernel⟩
abbrev s__law_bits : Stmt := topS 19
theorem sc__law_bits : FnScope ["_law_rows", "_law_bits_here", "_law_found", "_law_row", "_law_a", "_law_b"] ["_law_rows", "_law_bits_here"] (defScope s__law_bits) := ⟨rfl, rfl, rfl, by decide +kernel, rfl, by decide +kernel, by decide +kernel⟩
abbrev s__law_number : Stmt := topS 20
theorem sc__law_number : FnScope ["_law_bits_here", "_law_found", "_law_bit"] ["_law_bits_here"] (defScope s__law_number) := ⟨rfl, rfl, rfl, by decide +kernel, rfl, by decide +kernel, by decide +kernel⟩
abbrev s__law_values : Stmt := topS 21
theorem sc__law_values : FnScope ["_law_box_here", "_law_inputs", "_law_cases", "_law_found", "_law_turn", "_law_value", "_law_step"] ["_law_box_here", "_law_inputs", "_law_cases"] (defScope s__law_values) := ⟨rfl, rfl, rfl, by decide +kernel, rfl, by decide +kernel, by decide +kernel⟩
abbrev s__law_ran_right : Stmt := topS 22
theorem sc__law_ran_right : FnScope ["_law_box_here", "_law_net", "_law_rows", "_law_lists", "_law_inputs", "_law_cases", "_law_values_here", "_law_handed", "_law_kept", "_law_told", "_law_name", "_law_numbers", "_law_case", "_law_own", "_law_due", "_law_again", "_law_at", "_law_found", "_law_one", "_law_turn", "_law_value", "_law_wire"] ["_law_box_here", "_law_net", "_law_rows", "_law_lists", "_law_inputs"] (defScope s__law_ran_right) := ⟨rfl, rfl, rfl, by decide +kernel, rfl, by decide +kernel, by decide +kernel⟩
abbrev s__law_case_right : Stmt := topS 23
theorem sc__law_case_right : FnScope ["_law_box_here", "_law_net", "_law_rows", "_law_lists", "_law_inputs", "_law_word", "_law_own", "_law_due", "_law_at", "_law_name", "_law_wire"] ["_law_box_here", "_law_net", "_law_rows", "_law_lists", "_law_inputs"] (defScope s__law_case_right) := ⟨rfl, rfl, rfl, by decide +kernel, rfl, by decide +kernel, by decide +kernel⟩
abbrev s__law_more_right : Stmt := topS 24
theorem sc__law_more_right : FnScope ["_law_box_here", "_law_net", "_law_rows", "_law_lists", "_law_inputs", "_law_word", "_law_values_here", "_law_told", "_law_own", "_law_lists_too", "_law_due", "_law_at", "_law_name", "_law_wire", "_law_row"] ["_law_box_here", "_law_net", "_law_rows", "_law_lists", "_law_inputs"] (defScope s__law_more_right) := ⟨rfl, rfl, rfl, by decide +kernel, rfl, by decide +kernel, by decide +kernel⟩
abbrev s_law : Stmt := topS 25
theorem sc_law : FnScope ["_law_script", "_law_k", "_law_box_here", "_law_inputs", "_law_lists", "_law_rows", "_law_net", "_law_name", "_law_like", "_law_turn", "_law_both", "_law_lists_too", "_law_bare"] ["_law_script"] (defScope s_law) := ⟨rfl, rfl, rfl, by decide +kernel, rfl, by decide +kernel, by decide +kernel⟩
/-! ### built-in names that the text leaves alone -/
structure Bl (mg : Str → Option Value) : Prop where
  len : mg "len" = none
  abs : mg "abs" = none
  int : mg "int" = none
  divmod : mg "divmod" = none
  list : mg "list" = none
  enumerate : mg "enumerate" = none
  isinstance : mg "isinstance" = none
  tuple : mg "tuple" = none
  str : mg "str" = none
  bool : mg "bool" = none
  zip : mg "zip" = none
  all : mg "all" = none
  range : mg "range" = none
  max : mg "max" = none
  any : mg "any" = none
  min : mg "min" = none
  sum : mg "sum" = none
/-! ### rules with the written part told (for the blocks of comprehensions) -/
section
variable {X : Cx} {K : PySem.W.Frag}
theorem call_len_seqK (h : X.K = K := by rfl) : CallR X (.builtin "len") (fun xs H Q => ∃ p ys, xs = [.ref p] ∧ (SqL K H p ys ∨ SqT K H p ys) ∧ Q (.int ys.length) H) := by subst h; exact call_len_seq
theorem call_list_ofK (h : X.K = K := by rfl) : CallR X (.type "list") (fun xs H Q => ∃ p ys, xs = [.ref p] ∧ (SqL K H p ys ∨ SqT K H p ys) ∧ ∀ l, H l = none → Q (.ref l) (upd H l (.lst ys))) := by subst h; exact call_list_of
theorem call_tuple_ofK (h : X.K = K := by rfl) : CallR X (.type "tuple") (fun xs H Q => ∃ p ys, xs = [.ref p] ∧ ((SqL K H p ys ∧ ∀ l, H l = none → Q (.ref l) (upd H l (.tup ys))) ∨ (SqT K H p ys ∧ Q (.ref p) H))) := by subst h; exact call_tuple_of
theorem ix_listK (h : X.K = K := by rfl) : IxR X (rIxL K) := by subst h; exact ix_list
theorem ix_tupK (h : X.K = K := by rfl) : IxR X (rIxT K) := by subst h; exact ix_tup
theorem ix_seqK (h : X.K = K := by rfl) : IxR X (rIx K) := by subst h; exact ix_seq
theorem op_in_seqK (h : X.K = K := by rfl) : OpR X (compareOp .In) (rIn K false) := by subst h; exact op_in_seq
theorem op_notIn_seqK (h : X.K = K := by rfl) : OpR X (compareOp .NotIn) (rIn K true) := by subst h; exact op_notIn_seq
theorem sl_listK (h : X.K = K := by rfl) : SlR X (rSlL K) := by subst h; exact sl_list
theorem cr_sumK (hc : X.calm = true) (h : X.K = K := by rfl) : CallR X (.builtin "sum") (rSum K) := by subst h; exact cr_sum hc
theorem cr_allK (hc : X.calm = true) (h : X.K = K := by rfl) : CallR X (.builtin "all") (rAll K) := by subst h; exact cr_all hc
theorem cr_anyK (hc : X.calm = true) (h : X.K = K := by rfl) : CallR X (.builtin "any") (rAny K) := by subst h; exact cr_any hc
theorem call_isiK' (h : X.K = K := by rfl) : CallR X (.builtin "isinstance") (rIsi K) := by subst h; exact call_isi
theorem pi_listK {tg l : Expr} {tl : TE} (hl : PE X l tl) (h : X.K = K := by rfl) : PI X tg l (iList K tl) := by subst h; exact pi_list hl
theorem pi_tupK {tg l : Expr} {tl : TE} (hl : PE X l tl) (h : X.K = K := by rfl) : PI X tg l (iTup K tl) := by subst h; exact pi_tup hl
theorem pe_fldK {e : Expr} {ta : TE} {f : Str} {pos : Pos} (he : PE X e ta) (hb : attributeBase e f X.env (eval e X.env) = eval e X.env) (h : X.K = K := by rfl) : PE X (.Attribute e f pos) (tFld K ta f) := by subst h; exact pe_fld he hb
end
/-! ### heaps -/
theorem same_upd {H : Hp} {p : Addr} {o : HO} (h : H p = none) : Same H (upd H p o) := fun b x e => by
  rw [upd_ne (ne_of_none e h)]
  exact e
/-- all but what stands at b is as it was -/
def Keep (b : Addr) (H H' : Hp) : Prop := ∀ p o, H p = some o → p ≠ b → H' p = some o
theorem Keep.refl (b : Addr) (H : Hp) : Keep b H H := fun _ _ h _ => h
theorem Keep.trans {b : Addr} {H H1 H2 : Hp} (x : Keep b H H1) (y : Keep b H1 H2) : Keep b H H2 := fun p o h n => y p o (x p o h n) n
theorem Keep.ofSame {b : Addr} {H H1 : Hp} (x : Same H H1) : Keep b H H1 := fun p o h _ => x p o h
theorem Keep.upd {b : Addr} {H : Hp} {o : HO} : Keep b H (upd H b o) := fun p x h n => by
  rw [upd_ne n]
  exact h
theorem Keep.new {b p : Addr} {H : Hp} {o : HO} (h : H p = none) : Keep b H (L2.upd H p o) := .ofSame (same_upd h)
theorem Keep.seq {K : PySem.W.Frag} {b a : Addr} {H H' : Hp} {xs : List V} (e : Keep b H H') (n : a ≠ b) (h : SqL K H a xs) : SqL K H' a xs := by
  rcases h with (h | ⟨o, h⟩) | h
  · exact .inl (.inl (e _ _ h n))
  · exact .inl (.inr ⟨o, e _ _ h n⟩)
  · exact .inr h
theorem Keep.seqT {K : PySem.W.Frag} {b a : Addr} {H H' : Hp} {xs : List V} (e : Keep b H H') (n : a ≠ b) (h : SqT K H a xs) : SqT K H' a xs := by
  rcases h with (h | ⟨o, h⟩) | h
  · exact .inl (.inl (e _ _ h n))
  · exact .inl (.inr ⟨o, e _ _ h n⟩)
  · exact .inr h
theorem Same.seqT {K : PySem.W.Frag} {a : Addr} {H H' : Hp} {xs : List V} (e : Same H H') (h : SqT K H a xs) : SqT K H' a xs := by
  rcases h with (h | ⟨o, h⟩) | h
  · exact .inl (.inl (e _ _ h))
  · exact .inl (.inr ⟨o, e _ _ h⟩)
  · exact .inr h
/-- a drawing box: three ints, the last at most c -/
def BoxAt (c : Int) (H : Hp) (b : Addr) : Prop := ∃ x0 x1 x2 : Int, H b = some (.lst [.int x0, .int x1, .int x2]) ∧ 0 ≤ x0 ∧ 0 ≤ x1 ∧ x1 < 2147483647 ∧ 0 ≤ x2 ∧ x2 ≤ c
theorem BoxAt.mono {c d : Int} {H : Hp} {b : Addr} (h : BoxAt c H b) (l : c ≤ d) : BoxAt d H b := by
  obtain ⟨x0, x1, x2, e, a1, a2, a3, a4, a5⟩ := h
  exact ⟨x0, x1, x2, e, a1, a2, a3, a4, by omega⟩
theorem BoxAt.same {c : Int} {H H' : Hp} {b : Addr} (h : BoxAt c H b) (s : Same H H') : BoxAt c H' b := by
  obtain ⟨x0, x1, x2, e, r⟩ := h
  exact ⟨x0, x1, x2, s _ _ e, r⟩
theorem BoxAt.at {c : Int} {H H' : Hp} {b : Addr} (h : BoxAt c H b) (s : H' b = H b) : BoxAt c H' b := by
  obtain ⟨x0, x1, x2, e, r⟩ := h
  exact ⟨x0, x1, x2, by rw [s]; exact e, r⟩
theorem BoxAt.ne {c : Int} {H : Hp} {b p : Addr} (h : BoxAt c H b) (n : H p = none) : b ≠ p := by
  obtain ⟨x0, x1, x2, e, r⟩ := h
  exact ne_of_none e n
theorem e7 : (10 : Int) ^ ((7 : Int).toNat) = 10000000 := by decide
theorem e18 : (10 : Int) ^ ((18 : Int).toNat) = 1000000000000000000 := by decide
theorem divp_small {i j : Int} (h0 : 0 < j) (h1 : j < 2 ^ 250) : CDivP i j := by
  refine ⟨h0, ?_⟩
  show (decide ((if j == 0 then 0 else j.natAbs.log2 / 30 + 1) > 300) && _) = false
  rw [if_neg (show ¬ (j == 0) = true by simpa using (show j ≠ 0 by omega))]
  have hl : j.natAbs.log2 < 250 := PySem.Flt.log2_lt_of (by decide) (by omega)
  rw [decide_eq_false (show ¬ (j.natAbs.log2 / 30 + 1 > 300) by omega), Bool.false_and]
section
variable {P : Program} {w : World} {K : PySem.W.Frag} {mg : Str → Option Value} {base : Heap}
/-! ### _law_take -/
theorem scTake : FnScope ["_law_box_here", "_law_size", "_law_found", "_law_step", "_law_once", "_law_twice"] ["_law_box_here", "_law_size"] (defScope sTake) := ⟨rfl, rfl, rfl, by decide +kernel, rfl, by decide +kernel, by decide +kernel⟩
def spTake (k : Nat) : Sp := fun vs H Q _ => ∃ (b : Addr) (n c : Int), vs = [.ref b, .int n] ∧ BoxAt c H b ∧ 1 ≤ n ∧ n ≤ 10000000 ^ k ∧ n < 2 ^ 250 ∧ c + 2 ^ k ≤ 1000000000 ∧ 0 < k ∧
  ∀ (r : Int) (H' : Hp), 0 ≤ r → r < n → BoxAt (c + 2 ^ (k - 1)) H' b → Keep b H H' → Q (.int r) H'
theorem take_none {f : Addr} {fd : FuncData} : FnOk P w K mg base CX0 0 f fd ["_law_box_here", "_law_size"] (spTake 0) := by
  have no : ∀ vs H Q E, ¬ spTake 0 vs H Q E := fun vs H Q E h => by
    obtain ⟨b, n, c, _, _, _, _, _, _, h0, _⟩ := h
    omega
  exact ⟨fun vs H Q E h => absurd h (no vs H Q E), fun A outer s H args us vs Q E _ _ _ _ h => absurd h (no vs H Q E)⟩
theorem ok_take1 {f : Addr} {fd : FuncData} {k : Nat} (F : Fun K "_law_take" "_law_take" sTake f fd) (G : FnOk P w K mg base CX0 k f fd ["_law_box_here", "_law_size"] (spTake k)) (bf : Binds K fd ["_law_box_here", "_law_size"] []) (mf : mg "_law_take" = some (.ref f)) (B : Bl mg) :
    FnOk P w K mg base CX0 (k + 1) f fd ["_law_box_here", "_law_size"] (spTake (k + 1)) := by
  refine F.ok scTake (fun vs H Q E h => ?_) (fun cdv A outer s H vs Q E hr h => ?_)
  · obtain ⟨b, n, c, rfl, _⟩ := h
    rfl
  obtain ⟨b, n, c, rfl, hB, hn1, hnk, hn60, hc, _, q⟩ := h
  obtain ⟨x0, x1, x2, hb, h0, h1, h1', h2, h2'⟩ := hB
  have hp : (0 : Int) < 2 ^ k := Int.pow_pos (by decide)
  have hk2 : (2 : Int) ^ (k + 1) = 2 ^ k * 2 := Int.pow_succ 2 k
  refine ⟨_, pss_cons (ps_if (pt_cmpR op_gt (pe_ix ix_list (pv 0) pe_int (fun _ _ => rfl)) pe_int (nomark _))
      (pss_cons (ps_asg (pe_callB call_divmodW (by rfl) B.divmod boot_divmod (pa_cons (pe_ix ix_list (pv 0) pe_int (fun _ _ => rfl)) (pa_cons (pv 1) pa_nil)))
          (pg_tup (by rfl) (pgs_cons (pg_sub (pv 0) pe_int set_list) (pgs_cons (pg_name (i := 2) scTake.nd rfl (.inl rfl)) pgs_nil))))
        (pss_one (ps_ret (pv 2)))) pss_nil)
    (pss_cons (ps_if (pt_cmpR op_gt (pv 1) (pe_op op_pow pe_int pe_int) (nomark _))
      (pss_one (ps_ret (pe_op op_mod (pe_op op_add (pe_call G hr (by rfl) mf F.kp bf .nil pass0 (pa_cons (pv 0) (pa_cons (pe_op op_pow pe_int pe_int) pa_nil)))
          (pe_op op_mul (pe_op op_pow pe_int pe_int) (pe_call G hr (by rfl) mf F.kp bf .nil pass0 (pa_cons (pv 0) (pa_cons (pe_op op_add (pe_op op_fdiv (pe_op op_sub (pv 1) pe_int) (pe_op op_pow pe_int pe_int)) pe_int) pa_nil))))) (pv 1)))) pss_nil)
    (pss_cons (ps_asg (pe_op op_add (pe_ix ix_list (pv 0) pe_int (fun _ _ => rfl)) pe_int) (pg_sub (pv 0) pe_int set_list))
    (pss_cons (ps_set (i := 3) scTake.nd rfl (.inl rfl) (pe_op op_add pe_int (pe_op op_mul (pe_ix ix_list (pv 0) pe_int (fun _ _ => rfl)) (pe_ix ix_list (pv 0) pe_int (fun _ _ => rfl)))))
    (pss_cons (ps_set (i := 4) scTake.nd rfl (.inl rfl) (pe_op op_mod (pe_op op_mul (pe_op op_add (pe_ix ix_list (pv 0) pe_int (fun _ _ => rfl)) (pe_op op_mul pe_int (pe_ix ix_list (pv 0) pe_int (fun _ _ => rfl)))) (pv 3)) pe_int))
    (pss_cons (ps_set (i := 5) scTake.nd rfl (.inl rfl) (pe_op op_mod (pe_op op_add (pe_op op_mul (pv 4) (pe_op op_add (pe_op op_mod (pv 4) pe_int) pe_int)) (pe_ix ix_list (pv 0) pe_int (fun _ _ => rfl))) pe_int))
    (pss_one (ps_ret (pe_op op_mod (pe_op op_fdiv (pe_op op_mod (pe_op op_mul (pv 5) (pe_op op_add (pe_op op_mod (pv 5) pe_int) pe_int)) pe_int) pe_int) (pv 1))))))))), ?_⟩
  refine ⟨_, rfl, b, _, _, _, rfl, rfl, SqL.of hb, rfl, _, _, rfl, rfl, _, rfl, ite2 (fun cc => ?_) (fun cc => ?_)⟩
  · -- the great number's own digits
    refine ⟨_, rfl, b, _, _, _, rfl, rfl, SqL.of hb, rfl, _, rfl, _, _, rfl, divp_small (by omega) (by omega), fun p np => ?_⟩
    have nbp : b ≠ p := ne_of_none hb np
    refine ⟨p, _, rfl, .inl (.inl upd_same), rfl, _, _, rfl, _, rfl, b, _, _, 0, rfl, rfl, (by rw [upd_ne nbp]; exact hb), rfl, _, _, rfl, rfl, _, rfl, ?_⟩
    refine q _ _ (Int.emod_nonneg _ (by omega)) (Int.emod_lt_of_pos _ (by omega)) ⟨x0 / n, x1, x2, upd_same, Int.ediv_nonneg h0 (by omega), h1, h1', h2, by show x2 ≤ c + 2 ^ k; omega⟩ ?_
    exact Keep.trans (Keep.new np) Keep.upd
  · refine ⟨_, rfl, _, _, rfl, rfl, ⟨by decide, by decide, by decide⟩, _, _, rfl, rfl, _, rfl, ite2 (fun c2 => ?_) (fun c2 => ?_)⟩
    · -- two lesser draws
      have c3 : (10 : Int) ^ ((7 : Int).toNat) < n := of_decide_eq_true c2
      rw [e7] at c3
      have hk : 0 < k := by
        rcases Nat.eq_zero_or_pos k with z | z
        · subst z
          rw [show (10000000 : Int) ^ (0 + 1) = 10000000 by decide] at hnk
          omega
        · exact z
      obtain ⟨j, rfl⟩ : ∃ j, k = j + 1 := ⟨k - 1, by omega⟩
      have hj2 : (2 : Int) ^ (j + 1) = 2 ^ j * 2 := Int.pow_succ 2 j
      have hjp : (0 : Int) < 2 ^ j := Int.pow_pos (by decide)
      have h10 : (10000000 : Int) ≤ 10000000 ^ (j + 1) := by
        rw [Int.pow_succ]
        have : (0 : Int) < 10000000 ^ j := Int.pow_pos (by decide)
        omega
      have hdiv : (n - 1) / 10000000 + 1 ≤ 10000000 ^ (j + 1) := by
        rw [Int.pow_succ] at hnk
        have : n - 1 < 10000000 ^ (j + 1) * 10000000 := by omega
        have := Int.ediv_lt_of_lt_mul (by decide) this
        omega
      refine ⟨_, rfl, _, _, rfl, rfl, ⟨by decide, by decide, by decide⟩, b, _, c, rfl, ⟨x0, x1, x2, hb, h0, h1, h1', h2, h2'⟩, (by rw [e7]; decide), (by rw [e7]; exact h10), (by rw [e7]; decide), by omega, by omega, fun r1 H1 a1 a2 B1 k1 => ?_⟩
      refine ⟨_, _, rfl, rfl, ⟨by decide, by decide, by decide⟩, _, rfl, _, rfl, _, _, rfl, rfl, _, _, rfl, rfl, ⟨by decide, by decide, by decide⟩, _, _, rfl, rfl, (by rw [e7]; exact ⟨by decide, by decide⟩), _, _, rfl, rfl, ?_⟩
      rw [e7]
      refine ⟨b, _, c + 2 ^ j, rfl, B1, by omega, hdiv, by omega, by omega, by omega, fun r2 H2 a3 a4 B2 k2 => ?_⟩
      refine ⟨_, _, rfl, rfl, .inl ⟨by decide, by decide⟩, _, _, rfl, rfl, _, rfl, _, _, rfl, rfl, (by show (0 : Int) < n; omega), ?_⟩
      refine q _ _ (Int.emod_nonneg _ (by omega)) (Int.emod_lt_of_pos _ (by omega)) (B2.mono ?_) (k1.trans k2)
      show c + 2 ^ j + 2 ^ j ≤ c + 2 ^ (j + 1)
      omega
    · -- a turn of the wheel
      refine ⟨_, rfl, b, _, _, _, rfl, rfl, SqL.of hb, rfl, _, _, rfl, rfl, _, rfl, b, _, _, 2, rfl, rfl, hb, rfl, ?_⟩
      have hb2 : (upd H b (.lst [.int x0, .int x1, .int (x2 + 1)])) b = some (.lst [.int x0, .int x1, .int (x2 + 1)]) := upd_same
      refine ⟨_, rfl, b, _, _, _, rfl, rfl, SqL.of hb2, rfl, _, rfl, b, _, _, _, rfl, rfl, SqL.of hb2, rfl, _, _, rfl, rfl, .inl ⟨by omega, by omega⟩, _, _, rfl, rfl, ?_⟩
      refine ⟨_, rfl, b, _, _, _, rfl, rfl, SqL.of hb2, rfl, _, rfl, b, _, _, _, rfl, rfl, SqL.of hb2, rfl, _, _, rfl, rfl, .inl ⟨by omega, by omega⟩, _, _, rfl, rfl, _, rfl, _, _, rfl, rfl, .inl ⟨by omega, by omega⟩, _, _, rfl, rfl, (by show (0 : Int) < 2147483587; decide), ?_⟩
      generalize (x1 + 39373 * (x2 + 1)) * (69621 + (x2 + 1) * (x2 + 1)) = y
      have y1 := Int.emod_nonneg y (show (2147483587 : Int) ≠ 0 by decide)
      have y2 := Int.emod_lt_of_pos y (show (0 : Int) < 2147483587 by decide)
      refine ⟨_, rfl, _, rfl, _, _, rfl, rfl, (by show (0 : Int) < 30011; decide), _, _, rfl, rfl, _, _, rfl, rfl, .inl ⟨by omega, by omega⟩, _, rfl, b, _, _, _, rfl, rfl, SqL.of hb2, rfl, _, _, rfl, rfl, _, _, rfl, rfl, (by show (0 : Int) < 2147483563; decide), ?_⟩
      generalize (y % 2147483587 * (y % 2147483587 % 30011 + 5) + (x2 + 1)) = z
      have z1 := Int.emod_nonneg z (show (2147483563 : Int) ≠ 0 by decide)
      have z2 := Int.emod_lt_of_pos z (show (0 : Int) < 2147483563 by decide)
      refine ⟨_, rfl, _, rfl, _, _, rfl, rfl, (by show (0 : Int) < 1013; decide), _, _, rfl, rfl, _, _, rfl, rfl, .inl ⟨by omega, by omega⟩, _, _, rfl, rfl, (by show (0 : Int) < 998244353; decide), _, _, rfl, rfl, ⟨by decide, by decide⟩, _, rfl, _, _, rfl, rfl, (by show (0 : Int) < n; omega), ?_⟩
      refine q _ _ (Int.emod_nonneg _ (by omega)) (Int.emod_lt_of_pos _ (by omega)) ⟨x0, x1, x2 + 1, hb2, h0, h1, h1', by omega, by show x2 + 1 ≤ c + 2 ^ k; omega⟩ Keep.upd
theorem ok_take {f : Addr} {fd : FuncData} (F : Fun K "_law_take" "_law_take" sTake f fd) (bf : Binds K fd ["_law_box_here", "_law_size"] []) (mf : mg "_law_take" = some (.ref f)) (B : Bl mg) : ∀ k : Nat, FnOk P w K mg base CX0 k f fd ["_law_box_here", "_law_size"] (spTake k)
  | 0 => take_none
  | k + 1 => ok_take1 F (ok_take F bf mf B k) bf mf B
/-! ### _law_box -/
theorem scBox : FnScope ["_law_script", "_law_k", "_law_cell"] ["_law_script", "_law_k"] (defScope sBox) := ⟨rfl, rfl, rfl, by decide +kernel, rfl, by decide +kernel, by decide +kernel⟩
def spBox (K : PySem.W.Frag) : Sp := fun vs H Q _ => ∃ (a : Addr) (zs : List Int) (k : Int), vs = [.ref a, .int k] ∧ SqL K H a (zs.map V.int) ∧ 0 ≤ k ∧ k ≤ 1000 ∧
  ∀ (p : Addr) (H' : Hp), H p = none → Same H H' → BoxAt 0 H' p → Q (.ref p) H'
theorem b01 (b : Bool) : (-(2 ^ 64) < (if b = true then (1 : Int) else 0)) ∧ (if b = true then (1 : Int) else 0) < 2 ^ 64 := by cases b <;> decide
theorem b01n (b : Bool) : 0 ≤ (if b = true then (1 : Int) else 0) := by cases b <;> decide
theorem abs_nn (i : Int) : 0 ≤ (if i < 0 then -i else i) := by
  split <;> omega
theorem at_int {zs : List Int} {k : Int} (h0 : 0 ≤ k) (h : k < (zs.length : Int)) : ∃ v : Int, atI (zs.map V.int) k = some (.int v) ∧ zs[k.toNat]? = some v := by
  have hk : k.toNat < zs.length := by omega
  have ek : k = ((k.toNat : Nat) : Int) := by omega
  have q : atI (zs.map V.int) ((k.toNat : Nat) : Int) = some (.int zs[k.toNat]) := atI_nat (by rw [List.getElem?_map, List.getElem?_eq_getElem hk] <;> rfl)
  rw [← ek] at q
  exact ⟨zs[k.toNat], q, List.getElem?_eq_getElem hk⟩
theorem ok_box {f : Addr} {fd : FuncData} {k : Nat} (F : Fun K "_law_box" "_law_box" sBox f fd) (B : Bl mg) : FnOk P w K mg base CX0 (k + 1) f fd ["_law_script", "_law_k"] (spBox K) := by
  refine F.ok scBox (fun vs H Q E h => ?_) (fun cdv A outer s H vs Q E hr h => ?_)
  · obtain ⟨a, zs, k, rfl, _⟩ := h
    rfl
  obtain ⟨a, zs, k, rfl, hS, h0, h1, q⟩ := h
  refine ⟨_, pss_cons (ps_set (i := 2) scBox.nd rfl (.inl rfl) (pe_ifExp (pt_cmpR op_lt (pv 1) (pe_callB call_len_seq (by rfl) B.len PySem.boot_len (pa_cons (pv 0) pa_nil)) (nomark _)) (pe_ix ix_list (pv 0) (pv 1) (fun _ _ => rfl)) pe_int))
    (pss_one (ps_ret (pe_lst (pa_cons (pe_op op_mul (pe_callB call_abs (by rfl) B.abs boot_abs (pa_cons (pv 2) pa_nil)) (pe_callTy call_int1 (by rfl) B.int PyProof.Rows.boot_int (pa_cons (pe_cmpR op_ge (pe_callB call_abs (by rfl) B.abs boot_abs (pa_cons (pv 2) pa_nil)) (pe_op op_pow pe_int pe_int) (nomark _)) pa_nil)))
      (pa_cons (pe_op op_mod (pe_op op_mul (pe_op op_add (pe_op op_add (pe_op op_mod (pv 2) pe_int) (pe_op op_mul pe_int (pv 1))) pe_int) pe_int) pe_int) (pa_cons pe_int pa_nil)))))), ?_⟩
  refine ⟨_, rfl, _, rfl, a, _, rfl, .inl hS, _, _, rfl, rfl, _, rfl, ite2 (fun cc => ?_) (fun cc => ?_)⟩
  · have c1 : k < (((zs.map V.int).length : Nat) : Int) := of_decide_eq_true cc
    rw [List.length_map] at c1
    obtain ⟨v, hv, _⟩ := at_int h0 c1
    refine ⟨_, rfl, _, rfl, a, _, _, _, rfl, rfl, hS, hv, ?_⟩
    refine ⟨_, rfl, _, rfl, _, rfl, _, rfl, _, _, rfl, rfl, ⟨by decide, by decide, by decide⟩, _, _, rfl, rfl, .inr ⟨_, rfl, ?_⟩⟩
    refine ⟨_, _, rfl, rfl, .inr (b01 _), _, rfl, _, _, rfl, rfl, (by show (0 : Int) < 2147483629; decide), _, rfl, _, _, rfl, rfl, .inl ⟨by decide, by decide⟩, _, _, rfl, rfl, _, _, rfl, rfl, _, _, rfl, rfl, .inr ⟨by decide, by decide⟩, _, _, rfl, rfl, (by show (0 : Int) < 2147483647; decide), (by show 3 ≤ sizeLine; decide), fun p np => ?_⟩
    refine q p _ np (same_upd np) ⟨_, _, _, upd_same, Int.mul_nonneg (abs_nn v) (b01n _), Int.emod_nonneg _ (by decide), Int.emod_lt_of_pos _ (by decide), by decide, by decide⟩
  · refine ⟨_, rfl, _, rfl, _, rfl, _, rfl, _, _, rfl, rfl, ⟨by decide, by decide, by decide⟩, _, _, rfl, rfl, .inr ⟨_, rfl, ?_⟩⟩
    refine ⟨_, _, rfl, rfl, .inr (b01 _), _, rfl, _, _, rfl, rfl, (by show (0 : Int) < 2147483629; decide), _, rfl, _, _, rfl, rfl, .inl ⟨by decide, by decide⟩, _, _, rfl, rfl, _, _, rfl, rfl, _, _, rfl, rfl, .inr ⟨by decide, by decide⟩, _, _, rfl, rfl, (by show (0 : Int) < 2147483647; decide), (by show 3 ≤ sizeLine; decide), fun p np => ?_⟩
    refine q p _ np (same_upd np) ⟨_, _, _, upd_same, Int.mul_nonneg (abs_nn 0) (b01n _), Int.emod_nonneg _ (by decide), Int.emod_lt_of_pos _ (by decide), by decide, by decide⟩
/-! ### _law_same: of two things of one kind and worth -/
theorem scSame : FnScope ["_law_found", "_law_due", "_law_one", "_law_other"] ["_law_found", "_law_due"] (defScope sSame) := ⟨rfl, rfl, rfl, by decide +kernel, rfl, by decide +kernel, by decide +kernel⟩
def Lv : Nat → PyData → Prop
  | _, .none => True
  | _, .bool _ => True
  | _, .int _ => True
  | _, .str _ => True
  | n + 1, .list ds => ds.length ≤ 1000000 ∧ ∀ d ∈ ds, Lv n d
  | n + 1, .tuple ds => ds.length ≤ 1000000 ∧ ∀ d ∈ ds, Lv n d
  | _, _ => False
mutual
theorem Dp.same {H H' : Hp} (s : Same H H') : ∀ (d : PyData) (v : V), Dp K H v d → Dp K H' v d
  | .none, _, h => by
    cases h
    exact .non
  | .bool b, _, h => by
    cases h
    exact .bl b
  | .int i, _, h => by
    cases h
    exact .int i
  | .str x, _, h => by
    cases h
    exact .str x
  | .list ds, _, h => by
    cases h with
    | lst hs ha => exact .lst (s.seq hs) (Dp.sameAll s ds _ ha)
  | .tuple ds, _, h => by
    cases h with
    | tup hs ha => exact .tup (Same.seqT s hs) (Dp.sameAll s ds _ ha)
  | .dict _, _, h => by cases h
theorem Dp.sameAll {H H' : Hp} (s : Same H H') : ∀ (ds : List PyData) (vs : List V), DpAll K H vs ds → DpAll K H' vs ds
  | [], _, h => by
    cases h
    exact .nil
  | d :: ds, _, h => by
    cases h with
    | cons h1 h2 => exact .cons (Dp.same s d _ h1) (Dp.sameAll s ds _ h2)
end
theorem DpAll.len {H : Hp} : ∀ {ds : List PyData} {vs : List V}, DpAll K H vs ds → vs.length = ds.length
  | [], _, h => by
    cases h
    rfl
  | d :: ds, _, h => by
    cases h with
    | cons h1 h2 => rw [List.length_cons, List.length_cons, DpAll.len h2]
theorem DpAll.get {H : Hp} : ∀ {ds : List PyData} {vs : List V} {i : Nat} {x : V}, DpAll K H vs ds → vs[i]? = some x → ∃ d, ds[i]? = some d ∧ Dp K H x d
  | [], _, i, x, h, e => by
    cases h
    cases e
  | d :: ds, _, 0, x, h, e => by
    cases h with
    | cons h1 h2 =>
      cases e
      exact ⟨d, rfl, h1⟩
  | d :: ds, _, i + 1, x, h, e => by
    cases h with
    | @cons _ vs _ _ h1 h2 => exact DpAll.get (ds := ds) (vs := vs) h2 (show vs[i]? = some x from e)
theorem walk_zipT {a b : Addr} {xs ys : List V} {n : Nat} (hn : n = min xs.length ys.length) : Walk (RZ.ItzT K a b) n (fun H => SqT K H a xs ∧ SqT K H b ys) (YPair (fun i => xs[i]?) (fun i => ys[i]?)) := by
  subst hn
  refine ⟨fun i _ hi q => ?_, fun _ q => ⟨xs, ys, q.1, q.2, by omega⟩, fun i H v H' _ q y => ?_⟩
  · have h1 : i < xs.length := by omega
    have h2 : i < ys.length := by omega
    exact ⟨xs, ys, xs[i], ys[i], q.1, q.2, by simp [h1], by simp [h2]⟩
  · obtain ⟨T, x, z, h1, h2, h3, h4, h5⟩ := y
    exact ⟨T, x, z, h1, h2, h3, h4 xs q.1, h5 ys q.2⟩
theorem ty_lst {H : Hp} {a : Addr} {xs : List V} (h : SqL K H a xs) : TyX K H (.ref a) (.type "list") := by
  rcases h with (h | ⟨o, h⟩) | ⟨o, its, n, h1, h2, _⟩
  · exact .base (.lst h)
  · exact .base (.frz h)
  · exact .kList h1 h2
theorem ty_tup {H : Hp} {a : Addr} {xs : List V} (h : SqT K H a xs) : TyX K H (.ref a) (.type "tuple") := by
  rcases h with (h | ⟨o, h⟩) | ⟨o, its, n, h1, h2, _⟩
  · exact .base (.tup h)
  · exact .fTuple h
  · exact .kTuple h1 h2
def spSame (K : PySem.W.Frag) (k : Nat) : Sp := fun vs H Q _ => ∃ (x y : V) (d : PyData) (j : Nat), vs = [x, y] ∧ k = j + 1 ∧ Lv j d ∧ Dp K H x d ∧ Dp K H y d ∧ ∀ H', Same H H' → Q (.bl true) H'
theorem same_none {f : Addr} {fd : FuncData} : FnOk P w K mg base CX0 0 f fd ["_law_found", "_law_due"] (spSame K 0) := by
  have no : ∀ vs H Q E, ¬ spSame K 0 vs H Q E := fun vs H Q E h => by
    obtain ⟨x, y, d, j, _, h0, _⟩ := h
    omega
  exact ⟨fun vs H Q E h => absurd h (no vs H Q E), fun A outer s H args us vs Q E _ _ _ _ h => absurd h (no vs H Q E)⟩
theorem yesT {σ : L2.St} {H : Hp} {R S : Hp → Prop} (h : R H) : tYes σ H fun b H3 => if b = true then R H3 else S H3 := h
theorem repl_snoc {α : Type} (i : Nat) (x : α) : List.replicate i x ++ [x] = List.replicate (i + 1) x := List.replicate_succ'.symm
theorem all_repl (n : Nat) : (List.replicate n true).all id = true := by
  rw [List.all_eq_true]
  intro x hx
  rw [List.eq_of_mem_replicate hx]
  rfl
theorem kitLT {t : String} {r1 r2 : Bool} (h1 : kitB t "list" = some r1) (h2 : kitB t "tuple" = some r2) : PySem.W.kitAny K (.type t) [.type "list", .type "tuple"] = some (r1 || r2) := by
  refine kitAny_cons (kit_ty h1) (fun e => ?_) (fun e => by rw [e]; rfl)
  rw [e, Bool.false_or]
  refine kitAny_cons (kit_ty h2) (fun e => ?_) (fun e => e)
  rw [e]
  rfl
theorem ok_same1 {f : Addr} {fd : FuncData} {k : Nat} (F : Fun K "_law_same" "_law_same" sSame f fd) (G : FnOk P w K mg base CX0 k f fd ["_law_found", "_law_due"] (spSame K k)) (bf : Binds K fd ["_law_found", "_law_due"] []) (mf : mg "_law_same" = some (.ref f)) (B : Bl mg) :
    FnOk P w K mg base CX0 (k + 1) f fd ["_law_found", "_law_due"] (spSame K (k + 1)) := by
  refine F.ok scSame (fun vs H Q E h => ?_) (fun cdv A outer s H vs Q E hr h => ?_)
  · obtain ⟨x, y, d, j, rfl, _⟩ := h
    rfl
  obtain ⟨x, y, d, j, rfl, ej, lv, dx, dy, q⟩ := h
  obtain rfl : k = j := by omega
  refine ⟨_, pss_cons (ps_if (pt_val (pe_callB call_isiT (by rfl) B.isinstance boot_isinstance (pa_cons (pv 1) (pa_cons (pe_tup (pa_cons (pe_bltn (v := .ty "list") (by rfl) B.list PyProof.Rows.boot_list rfl) (pa_cons (pe_bltn (v := .ty "tuple") (by rfl) B.tuple PyProof.Rows.boot_tuple rfl) pa_nil))) pa_nil))))
      (pss_cons (ps_if (PW.pt (pw_or (pt_cmpR op_ne (pe_callB call_isi (by rfl) B.isinstance boot_isinstance (pa_cons (pv 0) (pa_cons (pe_bltn (v := .ty "list") (by rfl) B.list PyProof.Rows.boot_list rfl) pa_nil))) (pe_callB call_isi (by rfl) B.isinstance boot_isinstance (pa_cons (pv 1) (pa_cons (pe_bltn (v := .ty "list") (by rfl) B.list PyProof.Rows.boot_list rfl) pa_nil))) (nomark _))
          (pw_or1 (pt_cmpR op_ne (pe_callB call_isi (by rfl) B.isinstance boot_isinstance (pa_cons (pv 0) (pa_cons (pe_bltn (v := .ty "tuple") (by rfl) B.tuple PyProof.Rows.boot_tuple rfl) pa_nil))) (pe_callB call_isi (by rfl) B.isinstance boot_isinstance (pa_cons (pv 1) (pa_cons (pe_bltn (v := .ty "tuple") (by rfl) B.tuple PyProof.Rows.boot_tuple rfl) pa_nil))) (nomark _)))))
          (pss_one (ps_ret pe_bl)) pss_nil)
        (pss_one (ps_ret (pe_and (pe_cmpR op_eq (pe_callB call_len_seq (by rfl) B.len PySem.boot_len (pa_cons (pv 0) pa_nil)) (pe_callB call_len_seq (by rfl) B.len PySem.boot_len (pa_cons (pv 1) pa_nil)) (nomark _))
          (pe_one (pe_callB (cr_all rfl) (by rfl) B.all boot_all (pa_cons (pe_lc (own := [("_law_one", 2), ("_law_other", 3)]) (g := gTup K 2 (gCons (gName 2) (gCons (gName 3) gNil))) (by rfl) scSame.nd (RZ.pi_zipA (by rfl) B.zip (pa_cons (pv 0) (pa_cons (pv 1) pa_nil)))
            (blkOk_by (own := [("_law_one", 2), ("_law_other", 3)]) (N := ["_law_found", "_law_due", "_law_one", "_law_other"]) (sc := defScope sSame) (by decide +kernel))
            (fun _ _ _ _ _ => pg_tup rfl (pgs_cons (pg_name (i := 2) scSame.nd rfl (Or.inl rfl) (.inr rfl)) (pgs_cons (pg_name (i := 3) scSame.nd rfl (Or.inl rfl) (.inr rfl)) pgs_nil))) (fun _ _ _ _ _ => pts_nil)
            (fun _ _ _ _ _ => pe_call G hr (by rfl) mf F.kp bf .nil pass0 (pa_cons (pv 2) (pa_cons (pv 3) pa_nil)))) pa_nil))))))) pss_nil)
    (pss_cons (ps_if (PW.pt (pw_or (pt_cmpR op_isN (pv 1) pe_non (nomark _)) (pw_or1 (pt_val (pe_callB call_isi (by rfl) B.isinstance boot_isinstance (pa_cons (pv 1) (pa_cons (pe_bltn (v := .ty "str") (by rfl) B.str PyProof.Rows.boot_str rfl) pa_nil)))))))
      (pss_one (ps_ret (pe_and (pe_cmpR op_eq (pv 0) (pv 1) (nomark _)) (pe_one (pe_cmpR op_eq (pe_callB call_isi (by rfl) B.isinstance boot_isinstance (pa_cons (pv 0) (pa_cons (pe_bltn (v := .ty "str") (by rfl) B.str PyProof.Rows.boot_str rfl) pa_nil))) (pe_callB call_isi (by rfl) B.isinstance boot_isinstance (pa_cons (pv 1) (pa_cons (pe_bltn (v := .ty "str") (by rfl) B.str PyProof.Rows.boot_str rfl) pa_nil))) (nomark _)))))) pss_nil)
    (pss_one (ps_ret (pe_and (pe_callB call_isi (by rfl) B.isinstance boot_isinstance (pa_cons (pv 0) (pa_cons (pe_bltn (v := .ty "int") (by rfl) B.int PyProof.Rows.boot_int rfl) pa_nil))) (pe_and (pe_cmpR op_eq (pe_callB call_isi (by rfl) B.isinstance boot_isinstance (pa_cons (pv 0) (pa_cons (pe_bltn (v := .ty "bool") (by rfl) B.bool PyProof.Rows.boot_bool rfl) pa_nil))) (pe_callB call_isi (by rfl) B.isinstance boot_isinstance (pa_cons (pv 1) (pa_cons (pe_bltn (v := .ty "bool") (by rfl) B.bool PyProof.Rows.boot_bool rfl) pa_nil))) (nomark _))
      (pe_one (pe_cmpR op_eq (pv 0) (pv 1) (nomark _)))))))), ?_⟩
  have pr : Paired ClsV [.ty "list", .ty "tuple"] [.type "list", .type "tuple"] := .cons (.ty _) (.cons (.ty _) .nil)
  refine ⟨_, rfl, (by show 2 ≤ sizeLine; decide), fun tp ntp => ?_⟩
  have s0 : Same H (upd H tp (.tup [.ty "list", .ty "tuple"])) := same_upd ntp
  cases d with
  | none =>
    cases dx
    cases dy
    refine ⟨_, tp, _, _, _, _, rfl, upd_same, pr, .base .non, kitLT (t := "NoneType") (r1 := false) (r2 := false) (by decide +kernel) (by decide +kernel), _, rfl, iteF ?_⟩
    refine ⟨_, rfl, rfl, _, rfl, iteT (iteT ?_)⟩
    refine ⟨_, rfl, _, rfl, rfl, _, rfl, iteT ?_⟩
    refine ⟨_, rfl, _, _, _, _, _, rfl, .ty _, .base .non, kit_ty (by decide +kernel : kitB "NoneType" "str" = some false), _, rfl, _, _, _, _, _, rfl, .ty _, .base .non, kit_ty (by decide +kernel : kitB "NoneType" "str" = some false), rfl, q _ s0⟩
  | bool b =>
    cases dx
    cases dy
    refine ⟨_, tp, _, _, _, _, rfl, upd_same, pr, .base (.bl _), kitLT (t := "bool") (r1 := false) (r2 := false) (by decide +kernel) (by decide +kernel), _, rfl, iteF ?_⟩
    refine ⟨_, rfl, rfl, _, rfl, iteF ?_⟩
    refine ⟨_, rfl, _, _, _, _, _, rfl, .ty _, .base (.bl _), kit_ty (by decide +kernel : kitB "bool" "str" = some false), _, rfl, iteF ?_⟩
    refine ⟨_, rfl, _, _, _, _, _, rfl, .ty _, .base (.bl _), kit_ty (by decide +kernel : kitB "bool" "int" = some true), _, rfl, iteT ?_⟩
    refine ⟨_, rfl, _, _, _, _, _, rfl, .ty _, .base (.bl _), kit_ty (by decide +kernel : kitB "bool" "bool" = some true), _, rfl, _, _, _, _, _, rfl, .ty _, .base (.bl _), kit_ty (by decide +kernel : kitB "bool" "bool" = some true), rfl, _, rfl, iteT ?_⟩
    refine ⟨_, rfl, _, rfl, rfl, ?_⟩
    rw [decide_eq_true rfl]
    exact q _ s0
  | int i =>
    cases dx
    cases dy
    refine ⟨_, tp, _, _, _, _, rfl, upd_same, pr, .base (.int _), kitLT (t := "int") (r1 := false) (r2 := false) (by decide +kernel) (by decide +kernel), _, rfl, iteF ?_⟩
    refine ⟨_, rfl, rfl, _, rfl, iteF ?_⟩
    refine ⟨_, rfl, _, _, _, _, _, rfl, .ty _, .base (.int _), kit_ty (by decide +kernel : kitB "int" "str" = some false), _, rfl, iteF ?_⟩
    refine ⟨_, rfl, _, _, _, _, _, rfl, .ty _, .base (.int _), kit_ty (by decide +kernel : kitB "int" "int" = some true), _, rfl, iteT ?_⟩
    refine ⟨_, rfl, _, _, _, _, _, rfl, .ty _, .base (.int _), kit_ty (by decide +kernel : kitB "int" "bool" = some false), _, rfl, _, _, _, _, _, rfl, .ty _, .base (.int _), kit_ty (by decide +kernel : kitB "int" "bool" = some false), rfl, _, rfl, iteT ?_⟩
    refine ⟨_, rfl, _, rfl, rfl, ?_⟩
    rw [decide_eq_true rfl]
    exact q _ s0
  | str z =>
    cases dx
    cases dy
    refine ⟨_, tp, _, _, _, _, rfl, upd_same, pr, .base (.str _), kitLT (t := "str") (r1 := false) (r2 := false) (by decide +kernel) (by decide +kernel), _, rfl, iteF ?_⟩
    refine ⟨_, rfl, rfl, _, rfl, iteF ?_⟩
    refine ⟨_, rfl, _, _, _, _, _, rfl, .ty _, .base (.str _), kit_ty (by decide +kernel : kitB "str" "str" = some true), _, rfl, iteT ?_⟩
    refine ⟨_, rfl, _, rfl, rfl, ?_⟩
    rw [decide_eq_true rfl]
    refine ⟨_, rfl, iteT ?_⟩
    exact ⟨_, rfl, _, _, _, _, _, rfl, .ty _, .base (.str _), kit_ty (by decide +kernel : kitB "str" "str" = some true), _, rfl, _, _, _, _, _, rfl, .ty _, .base (.str _), kit_ty (by decide +kernel : kitB "str" "str" = some true), rfl, q _ s0⟩
  | list ds =>
    cases dx with
    | @lst a xs _ hx ax =>
    cases dy with
    | @lst b ys _ hy ay =>
    obtain ⟨i, rfl⟩ : ∃ i, k = i + 1 := by
      cases k with
      | zero => exact absurd lv id
      | succ i => exact ⟨i, rfl⟩
    have lx := DpAll.len ax
    have ly := DpAll.len ay
    have hx1 := s0.seq hx
    have hy1 := s0.seq hy
    refine ⟨_, tp, _, _, _, _, rfl, upd_same, pr, ty_lst hy1, kitLT (t := "list") (r1 := true) (r2 := false) (by decide +kernel) (by decide +kernel), _, rfl, iteT ?_⟩
    refine ⟨_, rfl, _, _, _, _, _, rfl, .ty _, ty_lst hx1, kit_ty (by decide +kernel : kitB "list" "list" = some true), _, rfl, _, _, _, _, _, rfl, .ty _, ty_lst hy1, kit_ty (by decide +kernel : kitB "list" "list" = some true), rfl, _, rfl, iteF ?_⟩
    refine ⟨_, rfl, _, _, _, _, _, rfl, .ty _, ty_lst hx1, kit_ty (by decide +kernel : kitB "list" "tuple" = some false), _, rfl, _, _, _, _, _, rfl, .ty _, ty_lst hy1, kit_ty (by decide +kernel : kitB "list" "tuple" = some false), rfl, _, rfl, iteF ?_⟩
    refine ⟨_, rfl, a, _, rfl, .inl hx1, _, rfl, b, _, rfl, .inl hy1, rfl, ?_⟩
    rw [decide_eq_true (by rw [lx, ly])]
    refine ⟨_, rfl, iteT ?_⟩
    refine ⟨_, rfl, _, rfl, a, b, xs, ys, rfl, .inl ⟨hx1, hy1, fun D nD => ?_⟩⟩
    have sD := s0.trans (same_upd (o := .lst []) nD)
    refine lc_it (walk_zip (K := K) (a := a) (b := b) (xs := xs) (ys := ys) rfl) (fun i H3 => Same H H3 ∧ H3 D = some (.lst (List.replicate i (.bl true)))) ⟨sD, upd_same⟩ (fun i H3 _ ⟨s3, _⟩ => ⟨s3.seq hx, s3.seq hy⟩) ?_ ?_
    · rintro i v H3 H4 hi ⟨s3, eD⟩ ⟨T, x, y, rfl, nT, rfl, e1, e2⟩
      obtain ⟨d1, g1, p1⟩ := DpAll.get ax e1
      obtain ⟨d2, g2, p2⟩ := DpAll.get ay e2
      obtain rfl : d1 = d2 := Option.some.inj (g1.symm.trans g2)
      have s4 := s3.trans (same_upd (o := .tup [x, y]) nT)
      refine ⟨T, _, rfl, .inl (.inl upd_same), rfl, _, _, rfl, _, _, rfl, rfl, rfl, ?_⟩
      refine yesT ?_
      refine ⟨_, rfl, _, rfl, x, y, d1, _, rfl, rfl, lv.2 d1 (List.mem_of_getElem? g1), Dp.same s4 _ _ p1, Dp.same s4 _ _ p2, fun H5 s5 => ?_⟩
      refine ⟨_, s5 _ _ (by rw [upd_ne (ne_of_none eD nT)]; exact eD), ?_, fun p o e => ?_, ?_⟩
      · rw [List.length_replicate]
        have := lv.1
        refine Nat.lt_of_lt_of_le (show i < 1000000 by omega) (by decide)
      · rw [upd_ne (ne_of_none e (s0.free nD))]
        exact s5 _ _ (s4 _ _ e)
      · rw [upd_same, repl_snoc]
    · rintro H3 ⟨s3, eD⟩
      refine ⟨D, List.replicate (min xs.length ys.length) true, rfl, .inl (.inl (by rw [List.map_replicate]; exact eD)), ?_⟩
      rw [all_repl]
      exact q _ s3
  | tuple ds =>
    cases dx with
    | @tup a xs _ hx ax =>
    cases dy with
    | @tup b ys _ hy ay =>
    obtain ⟨i, rfl⟩ : ∃ i, k = i + 1 := by
      cases k with
      | zero => exact absurd lv id
      | succ i => exact ⟨i, rfl⟩
    have lx := DpAll.len ax
    have ly := DpAll.len ay
    have hx1 := Same.seqT s0 hx
    have hy1 := Same.seqT s0 hy
    refine ⟨_, tp, _, _, _, _, rfl, upd_same, pr, ty_tup hy1, kitLT (t := "tuple") (r1 := false) (r2 := true) (by decide +kernel) (by decide +kernel), _, rfl, iteT ?_⟩
    refine ⟨_, rfl, _, _, _, _, _, rfl, .ty _, ty_tup hx1, kit_ty (by decide +kernel : kitB "tuple" "list" = some false), _, rfl, _, _, _, _, _, rfl, .ty _, ty_tup hy1, kit_ty (by decide +kernel : kitB "tuple" "list" = some false), rfl, _, rfl, iteF ?_⟩
    refine ⟨_, rfl, _, _, _, _, _, rfl, .ty _, ty_tup hx1, kit_ty (by decide +kernel : kitB "tuple" "tuple" = some true), _, rfl, _, _, _, _, _, rfl, .ty _, ty_tup hy1, kit_ty (by decide +kernel : kitB "tuple" "tuple" = some true), rfl, _, rfl, iteF ?_⟩
    refine ⟨_, rfl, a, _, rfl, .inr hx1, _, rfl, b, _, rfl, .inr hy1, rfl, ?_⟩
    rw [decide_eq_true (by rw [lx, ly])]
    refine ⟨_, rfl, iteT ?_⟩
    refine ⟨_, rfl, _, rfl, a, b, xs, ys, rfl, .inr ⟨hx1, hy1, fun D nD => ?_⟩⟩
    have sD := s0.trans (same_upd (o := .lst []) nD)
    refine lc_it (walk_zipT (K := K) (a := a) (b := b) (xs := xs) (ys := ys) rfl) (fun i H3 => Same H H3 ∧ H3 D = some (.lst (List.replicate i (.bl true)))) ⟨sD, upd_same⟩ (fun i H3 _ ⟨s3, _⟩ => ⟨Same.seqT s3 hx, Same.seqT s3 hy⟩) ?_ ?_
    · rintro i v H3 H4 hi ⟨s3, eD⟩ ⟨T, x, y, rfl, nT, rfl, e1, e2⟩
      obtain ⟨d1, g1, p1⟩ := DpAll.get ax e1
      obtain ⟨d2, g2, p2⟩ := DpAll.get ay e2
      obtain rfl : d1 = d2 := Option.some.inj (g1.symm.trans g2)
      have s4 := s3.trans (same_upd (o := .tup [x, y]) nT)
      refine ⟨T, _, rfl, .inl (.inl upd_same), rfl, _, _, rfl, _, _, rfl, rfl, rfl, ?_⟩
      refine yesT ?_
      refine ⟨_, rfl, _, rfl, x, y, d1, _, rfl, rfl, lv.2 d1 (List.mem_of_getElem? g1), Dp.same s4 _ _ p1, Dp.same s4 _ _ p2, fun H5 s5 => ?_⟩
      refine ⟨_, s5 _ _ (by rw [upd_ne (ne_of_none eD nT)]; exact eD), ?_, fun p o e => ?_, ?_⟩
      · rw [List.length_replicate]
        have := lv.1
        refine Nat.lt_of_lt_of_le (show i < 1000000 by omega) (by decide)
      · rw [upd_ne (ne_of_none e (s0.free nD))]
        exact s5 _ _ (s4 _ _ e)
      · rw [upd_same, repl_snoc]
    · rintro H3 ⟨s3, eD⟩
      refine ⟨D, List.replicate (min xs.length ys.length) true, rfl, .inl (.inl (by rw [List.map_replicate]; exact eD)), ?_⟩
      rw [all_repl]
      exact q _ s3
  | dict _ => cases dx
theorem ok_same {f : Addr} {fd : FuncData} (F : Fun K "_law_same" "_law_same" sSame f fd) (bf : Binds K fd ["_law_found", "_law_due"] []) (mf : mg "_law_same" = some (.ref f)) (B : Bl mg) : ∀ k : Nat, FnOk P w K mg base CX0 k f fd ["_law_found", "_law_due"] (spSame K k)
  | 0 => same_none
  | k + 1 => ok_same1 F (ok_same F bf mf B k) bf mf B
end
end GZ
namespace GM
theorem pow_pos' (n : Nat) : (0 : Int) < 2 ^ n := Int.pow_pos (by decide)
theorem pow_s (n : Nat) : (2 : Int) ^ (n + 1) = 2 ^ n * 2 := Int.pow_succ 2 n
theorem pow_le' {m n : Nat} (h : m ≤ n) : (2 : Int) ^ m ≤ 2 ^ n := by
  induction n with
  | zero =>
    have : m = 0 := by omega
    rw [this]
    exact Int.le_refl _
  | succ n ih =>
    by_cases e : m = n + 1
    · rw [e]
      exact Int.le_refl _
    · have := ih (by omega)
      have := pow_s n
      have := pow_pos' n
      omega
theorem pow_add' (m n : Nat) : (2 : Int) ^ (m + n) = 2 ^ m * 2 ^ n := Int.pow_add 2 m n
theorem bits_pow {x : Nat} {e : Nat} (h : x < 2 ^ e) : PySem.Builtin.Int.intBits (x : Int) ≤ e := PyProof.Rows.intBits_le (by rw [Int.natAbs_natCast]; exact h)
theorem bits_le_pow {x : Nat} {e : Nat} (h : 2 ^ e ≤ x) : e + 1 ≤ PySem.Builtin.Int.intBits (x : Int) := by
  have hx : x ≠ 0 := by
    have := Nat.two_pow_pos e
    omega
  unfold PySem.Builtin.Int.intBits
  rw [if_neg (by simpa using hx), Int.natAbs_natCast]
  have := (Nat.le_log2 hx).mpr h
  omega
theorem bits_unique {x e : Nat} (h1 : 2 ^ e ≤ x) (h2 : x < 2 ^ (e + 1)) : PySem.Builtin.Int.intBits (x : Int) = e + 1 := by
  have := bits_pow h2
  have := bits_le_pow h1
  omega
theorem bits_ex {x : Nat} (h : 0 < x) : ∃ e, 2 ^ e ≤ x ∧ x < 2 ^ (e + 1) := ⟨x.log2, Nat.log2_self_le (by omega), Nat.lt_log2_self⟩
theorem bits_half {x : Nat} (h : 0 < x) : PySem.Builtin.Int.intBits (x : Int) = PySem.Builtin.Int.intBits ((x / 2 : Nat) : Int) + 1 := by
  obtain ⟨e, h1, h2⟩ := bits_ex h
  rw [bits_unique h1 h2]
  cases e with
  | zero =>
    have : x = 1 := by
      simp at h1 h2
      omega
    rw [this]
    rfl
  | succ e =>
    rw [bits_unique (x := x / 2) (e := e)]
    · rw [Nat.pow_succ] at h1
      omega
    · rw [Nat.pow_succ] at h2
      omega
theorem bits_double {x m : Nat} (h : 0 < x) (hm : m ≤ 1) : PySem.Builtin.Int.intBits ((2 * x + m : Nat) : Int) = PySem.Builtin.Int.intBits (x : Int) + 1 := by
  rw [bits_half (x := 2 * x + m) (by omega), show (2 * x + m) / 2 = x by omega]
theorem shr_lt {x : Int} {a b : Nat} (h0 : 0 ≤ x) (h : x < 2 ^ (a + b)) : 0 ≤ x / 2 ^ b ∧ x / 2 ^ b < 2 ^ a := by
  have hb := pow_pos' b
  refine ⟨Int.ediv_nonneg h0 (by omega), ?_⟩
  rw [pow_add'] at h
  exact Int.ediv_lt_of_lt_mul hb h
end GM
namespace GM
/-! ### words: a sign, a scale of m bits, a tail of t bits -/
def bit (a : Int) (n : Nat) : Int := a / 2 ^ n % 2
def blr (a : Int) : Nat → List Int
  | 0 => []
  | n + 1 => bit a n :: blr a n
def wv : List Int → Int
  | [] => 0
  | d :: r => d * 2 ^ r.length + wv r
theorem blr_len (a : Int) : ∀ n, (blr a n).length = n
  | 0 => rfl
  | n + 1 => by
    show (blr a n).length + 1 = n + 1
    rw [blr_len a n]
theorem div_div (w : Int) (t m : Nat) : w / 2 ^ t / 2 ^ m = w / 2 ^ (t + m) := by
  rw [pow_add', Int.ediv_ediv_of_nonneg (Int.le_of_lt (pow_pos' t))]
theorem bit_div (w : Int) (t m : Nat) : bit (w / 2 ^ t) m = bit w (m + t) := by
  unfold bit
  rw [div_div, Nat.add_comm t m]
theorem blr_take (w : Int) (t : Nat) : ∀ m, (blr w (m + t)).take m = blr (w / 2 ^ t) m
  | 0 => rfl
  | m + 1 => by
    show (blr w ((m + 1) + t)).take (m + 1) = bit (w / 2 ^ t) m :: blr (w / 2 ^ t) m
    rw [show m + 1 + t = (m + t) + 1 by omega]
    show bit w (m + t) :: (blr w (m + t)).take m = _
    rw [blr_take w t m, bit_div]
theorem blr_drop (w : Int) (t : Nat) : ∀ m, (blr w (m + t)).drop m = blr w t
  | 0 => by rw [Nat.zero_add]; rfl
  | m + 1 => by
    rw [show m + 1 + t = (m + t) + 1 by omega]
    show (blr w (m + t)).drop m = _
    exact blr_drop w t m
theorem mod_step (a : Int) (n : Nat) : bit a n * 2 ^ n + a % 2 ^ n = a % 2 ^ (n + 1) := by
  unfold bit
  have hp := pow_pos' n
  have e1 := Int.emod_add_mul_ediv a (2 ^ n)
  have e2 := Int.emod_add_mul_ediv (a / 2 ^ n) 2
  have h1 := Int.emod_nonneg a (show (2 : Int) ^ n ≠ 0 by omega)
  have h2 := Int.emod_lt_of_pos a hp
  have e3 : 2 ^ n * (a / 2 ^ n) = a / 2 ^ n % 2 * 2 ^ n + a / 2 ^ n / 2 * (2 ^ n * 2) := by
    conv => lhs; rw [← e2]
    rw [Int.mul_add, Int.mul_comm (2 ^ n) (a / 2 ^ n % 2), ← Int.mul_assoc, Int.mul_comm (2 ^ n * 2) _]
  have key : (a / 2 ^ n % 2 * 2 ^ n + a % 2 ^ n) + a / 2 ^ n / 2 * 2 ^ (n + 1) = a := by
    rw [pow_s]
    omega
  have hb : 0 ≤ a / 2 ^ n % 2 * 2 ^ n + a % 2 ^ n ∧ a / 2 ^ n % 2 * 2 ^ n + a % 2 ^ n < 2 ^ (n + 1) := by
    rw [pow_s]
    have : a / 2 ^ n % 2 = 0 ∨ a / 2 ^ n % 2 = 1 := by omega
    rcases this with z | z <;> rw [z] <;> omega
  have em := Int.add_mul_emod_self_right (a / 2 ^ n % 2 * 2 ^ n + a % 2 ^ n) (a / 2 ^ n / 2) (2 ^ (n + 1))
  rw [key, Int.emod_eq_of_lt hb.1 hb.2] at em
  exact em.symm
theorem wv_blr (a : Int) : ∀ n, wv (blr a n) = a % 2 ^ n
  | 0 => by
    show (0 : Int) = a % 1
    omega
  | n + 1 => by
    show bit a n * 2 ^ (blr a n).length + wv (blr a n) = _
    rw [blr_len, wv_blr a n, ← mod_step a n]
theorem fold2 : ∀ (ds : List Int) (w : Int), ds.foldl (fun a b => a * 2 + b) w = w * 2 ^ ds.length + wv ds
  | [], w => by
    show w = w * 2 ^ 0 + 0
    rw [Int.pow_zero]
    omega
  | d :: r, w => by
    show r.foldl (fun a b => a * 2 + b) (w * 2 + d) = w * 2 ^ (r.length + 1) + (d * 2 ^ r.length + wv r)
    rw [fold2 r, pow_s, Int.add_mul, Int.mul_assoc, Int.mul_comm 2 (2 ^ r.length)]
    omega
theorem wv_ones : ∀ k, wv (List.replicate k 1) = 2 ^ k - 1
  | 0 => rfl
  | k + 1 => by
    rw [List.replicate_succ]
    show 1 * 2 ^ (List.replicate k (1 : Int)).length + wv (List.replicate k 1) = _
    rw [List.length_replicate, wv_ones k, pow_s]
    omega
/-- sign, scale, tail of a word -/
def sgn (m t : Nat) (w : Int) : Int := w / 2 ^ (m + t) % 2
def scl (m t : Nat) (w : Int) : Int := w / 2 ^ t % 2 ^ m
def tlp (t : Nat) (w : Int) : Int := w % 2 ^ t
theorem scl_tlp (m t : Nat) (w : Int) : scl m t w * 2 ^ t + tlp t w = w % 2 ^ (m + t) := by
  induction m with
  | zero =>
    unfold scl tlp
    rw [Int.pow_zero, Int.emod_one, Int.zero_mul, Int.zero_add, Nat.zero_add]
  | succ m ih =>
    have e := mod_step (w / 2 ^ t) m
    have e2 := mod_step w (m + t)
    rw [bit_div] at e
    unfold scl at ih ⊢
    rw [← e, Int.add_mul, show m + 1 + t = (m + t) + 1 by omega, ← e2, ← ih, Int.mul_assoc, ← pow_add']
    omega
theorem sgn_01 {m t : Nat} {w : Int} : sgn m t w = 0 ∨ sgn m t w = 1 := by
  unfold sgn
  omega
theorem word_eq {m t : Nat} {w : Int} (h0 : 0 ≤ w) (h1 : w < 2 ^ (1 + m + t)) : sgn m t w * 2 ^ (m + t) + w % 2 ^ (m + t) = w := by
  have e := mod_step w (m + t)
  rw [show m + t + 1 = 1 + m + t by omega, Int.emod_eq_of_lt h0 h1] at e
  exact e
theorem scl_nn (m t : Nat) (w : Int) : 0 ≤ scl m t w ∧ scl m t w < 2 ^ m := ⟨Int.emod_nonneg _ (by have := pow_pos' m; omega), Int.emod_lt_of_pos _ (pow_pos' m)⟩
theorem tlp_nn (t : Nat) (w : Int) : 0 ≤ tlp t w ∧ tlp t w < 2 ^ t := ⟨Int.emod_nonneg _ (by have := pow_pos' t; omega), Int.emod_lt_of_pos _ (pow_pos' t)⟩
/-- with the other sign -/
def trn (m t : Nat) (w : Int) : Int := (1 - sgn m t w) * 2 ^ (m + t) + w % 2 ^ (m + t)
theorem mk_parts {m t : Nat} {s r : Int} (hs : s = 0 ∨ s = 1) (h0 : 0 ≤ r) (h1 : r < 2 ^ (m + t)) : 0 ≤ s * 2 ^ (m + t) + r ∧ s * 2 ^ (m + t) + r < 2 ^ (1 + m + t) ∧ sgn m t (s * 2 ^ (m + t) + r) = s ∧ (s * 2 ^ (m + t) + r) % 2 ^ (m + t) = r := by
  have hp := pow_pos' (m + t)
  have e : (2 : Int) ^ (1 + m + t) = 2 ^ (m + t) * 2 := by rw [← pow_s]; congr 1; omega
  have em : (s * 2 ^ (m + t) + r) % 2 ^ (m + t) = r := by
    rw [Int.add_comm, Int.add_mul_emod_self_right, Int.emod_eq_of_lt h0 h1]
  have ed : (s * 2 ^ (m + t) + r) / 2 ^ (m + t) = s := by
    rw [Int.add_comm, Int.add_mul_ediv_right _ _ (by omega), Int.ediv_eq_zero_of_lt h0 h1, Int.zero_add]
  refine ⟨?_, ?_, ?_, em⟩
  · rcases hs with z | z <;> subst z <;> omega
  · rw [e]
    rcases hs with z | z <;> subst z <;> omega
  · unfold sgn
    rw [ed]
    omega
theorem trn_trn {m t : Nat} {w : Int} (h0 : 0 ≤ w) (h1 : w < 2 ^ (1 + m + t)) : trn m t (trn m t w) = w ∧ 0 ≤ trn m t w ∧ trn m t w < 2 ^ (1 + m + t) := by
  have hp := pow_pos' (m + t)
  have hs : 1 - sgn m t w = 0 ∨ 1 - sgn m t w = 1 := by
    have := sgn_01 (m := m) (t := t) (w := w)
    omega
  obtain ⟨a, b, c, d⟩ := mk_parts (m := m) (t := t) hs (Int.emod_nonneg w (show (2 : Int) ^ (m + t) ≠ 0 by omega)) (Int.emod_lt_of_pos w hp)
  refine ⟨?_, a, b⟩
  show (1 - sgn m t (trn m t w)) * 2 ^ (m + t) + trn m t w % 2 ^ (m + t) = w
  rw [show sgn m t (trn m t w) = 1 - sgn m t w from c, show trn m t w % 2 ^ (m + t) = w % 2 ^ (m + t) from d, show 1 - (1 - sgn m t w) = sgn m t w by omega]
  exact word_eq h0 h1
end GM
namespace GZ
open PySem PySem.Spec PyProof.Rows L2
end GZ
namespace L2
open PySem PySem.Spec PyProof.Rows
/-! ### defs that tell lists as texts: around them no text of a list is under way -/
structure FnOkG (P : Program) (w : World) (K : PySem.W.Frag) (mg : Str → Option Value) (base : Heap) (CX : CXT) (k : Nat) (f : Addr) (fd : FuncData) (ps : List Str) (sp : Sp) : Prop where
  lenG : ∀ vs H Q E, sp vs H Q E → vs.length = ps.length
  runG : ∀ (B : Around) (ou : List Env) (u : Shared) (H : Hp) (ar : Args) (us : List Value) (vs : List V) (Q : VK) (E : XK), B.guards = some [] → Room k B → Env0 P w K mg base B ou u H → BindsTo u fd ar (ps.zip us) → Vals vs us → sp vs H Q E → codeAny (model P w) B (.call (.ref f) ar) (CR CX ou P w H u Q E) u
section
variable {P : Program} {w : World} {K : PySem.W.Frag} {mg : Str → Option Value} {base : Heap} {CX : CXT} {f : Addr} {fd : FuncData} {ps : List Str} {sp sq : Sp}
theorem FnOk.toG {k : Nat} (F : FnOk P w K mg base CX k f fd ps sp) : FnOkG P w K mg base CX k f fd ps sp := ⟨F.len, fun B ou u H ar us vs Q E _ r e b v h => F.run B ou u H ar us vs Q E r e b v h⟩
theorem FnOkG.mono {j k : Nat} (F : FnOkG P w K mg base CX j f fd ps sp) (l : j ≤ k) : FnOkG P w K mg base CX k f fd ps sp := ⟨F.lenG, fun B ou u H ar us vs Q E g r => F.runG B ou u H ar us vs Q E g (r.mono l)⟩
theorem FnOkG.imp {k : Nat} (F : FnOkG P w K mg base CX k f fd ps sp) (h : ∀ vs H Q E, sq vs H Q E → sp vs H Q E) : FnOkG P w K mg base CX k f fd ps sq := ⟨fun vs H Q E q => F.lenG vs H Q E (h vs H Q E q), fun B ou u H ar us vs Q E g r e b v z => F.runG B ou u H ar us vs Q E g r e b v (h vs H Q E z)⟩
end
theorem fnG_of {CX : CXT} {P : Program} {w : World} {K : PySem.W.Frag} {mg : Str → Option Value} {base : Heap} {k : Nat} {f : Addr} {nm qu : Str} {pr : Arguments} {bd : List Stmt} {sc : Scope} {dV kV doc pm cdv ct oc : Value} {an od : Option Addr}
    {osl : Array (Option Value)} {N ps : List Str} {sp : Sp} (lk : K.lookup f = some ⟨oc, od, .func (PySem.W.fnOf nm qu pr bd sc dV kV doc pm an cdv ct), osl⟩) (hcd : PySem.W.codeIn K cdv qu = true) (S : FnScope N ps sc)
    (ln : ∀ vs H Q E, sp vs H Q E → vs.length = ps.length)
    (hb : ∀ (B : Around) (ou : List Env) (u : Shared) (H : Hp) (vs : List V) (Q : VK) (E : XK), (B.deeper (envOfC qu sc u.heap.objs.size f cdv)).guards = some [] → Room k (B.deeper (envOfC qu sc u.heap.objs.size f cdv)) → sp vs H Q E →
      ∃ t, PSs (cxOf CX P w K mg base N qu sc f cdv B ou u H E) bd t ∧ t { nx := fun _ G => Q .non G, rt := Q } (start N vs) H) :
    FnOkG P w K mg base CX (k + 1) f (PySem.W.fnOf nm qu pr bd sc dV kV doc pm an cdv ct) ps sp := by
  refine ⟨ln, fun B ou u H ar us vs Q E hg rm e0 bi rv hs => ?_⟩
  have lv := ln _ _ _ _ hs
  have XK : K.In u.heap := e0.mod.kin.keeps fun b o e => (e0.bs b o e).1
  have NL : u.heap.NoLimit := e0.mod.nolimit.keeps fun b o e => (e0.bs b o e).1
  have kd : ∀ y ∈ ps.zip us, sc.names.lookup y.1 = some .local ∨ (sc.names.lookup y.1 = some .cell ∧ ((cellsFrom (u.heap.objs.size + 1) sc.names []).lookup y.1).isSome = true) := fun ⟨n, v⟩ hy => (S.par n (List.of_mem_zip hy).1).elim .inl fun q => .inr ⟨q, PySem.W.cellsFrom_some _ _ _ (.inl q)⟩
  refine codeAny_call_function rm.depth (XK _ _ lk) rfl S.co S.gen rfl (PySem.W.codeRec_of XK hcd) (bi _ _ _ _ ?_)
  refine wpAny_newFunctionEnv_cells S.kind kd fun en he t1 xc => ?_
  subst he
  refine ⟨NL.keeps xc.toInCall.keep, codeAny_func ?_⟩
  obtain ⟨t, ht, hq⟩ := hb B ou u H vs Q E hg (rm.deeper _) hs
  have J0 : Inv (cxOf CX P w K mg base N qu sc f cdv B ou u H E) [] (start N vs) H t1 := inv_start S rm.hd e0 lv rv xc
  refine wpAny_mono (ht.run [] t1 (start N vs) H _ J0 hq) (fun fl t2 z => ?_) fun _ _ z => z
  have done : ∀ {σ2 : St} {H2 : Hp} {v : V} {y : Value}, Inv (cxOf CX P w K mg base N qu sc f cdv B ou u H E) [] σ2 H2 t2 → RelV v y → Q v H2 → CE ou P w H u Q y t2 := fun {σ2 H2 v y} J rl q => ⟨v, H2, J.os, J.bare, J.base, J.hok, rl, q⟩
  match fl, z with
  | .ret y, ⟨v, σ2, H2, J, rl, q⟩ => exact done J rl q
  | .next, ⟨σ2, H2, J, q⟩ => exact done (v := V.non) (y := Value.none) J rfl q
  | .brk, ⟨_, _, _, q⟩ => exact q.elim
  | .cont, ⟨_, _, _, q⟩ => exact q.elim
theorem Fun.okG {P : Program} {w : World} {K : PySem.W.Frag} {mg : Str → Option Value} {base : Heap} {x qu : Str} {st : Stmt} {f : Addr} {fd : FuncData} {N ps : List Str} {k : Nat} {sp : Sp} (F : Fun K x qu st f fd) (S : FnScope N ps (defScope st)) (ln : ∀ vs H Q E, sp vs H Q E → vs.length = ps.length)
    (hb : ∀ (cdv : Value) (B : Around) (ou : List Env) (u : Shared) (H : Hp) (vs : List V) (Q : VK) (E : XK), (B.deeper (envOfC qu (defScope st) u.heap.objs.size f cdv)).guards = some [] → Room k (B.deeper (envOfC qu (defScope st) u.heap.objs.size f cdv)) → sp vs H Q E →
      ∃ t, PSs (cxOf CX0 P w K mg base N qu (defScope st) f cdv B ou u H E).nox (defBody st) t ∧ t { nx := fun _ G => Q .non G, rt := Q } (start N vs) H) : FnOkG P w K mg base CX0 (k + 1) f fd ps sp := by
  obtain ⟨oc, od, kV, doc, pm, an, cdv, ct, osl, rfl, lk, hc⟩ := F.ex
  refine fnG_of lk hc S ln fun B ou u H vs Q E hg rm hs => ?_
  obtain ⟨t, h, q⟩ := hb cdv B ou u H vs Q E hg rm hs
  exact ⟨t, h.nox, q⟩
section
variable {X : Cx} {CX : CXT} {k : Nat} {f : Addr} {fd : FuncData} {ps : List Str} {sp : Sp} {dvs : List V} {ds : List Value} {E : XK} {x : Str} {p pos : Pos} {e : Expr} {es : List Expr} {t : TA}
theorem runG_fn {pz : List (Addr × Obj)} {τ : St} {H : Hp} {u0 : Shared} {Q : VK} {us : List Value} {vs : List V} (F : FnOkG X.prog X.w X.K X.mg X.base CX k f fd ps sp) (gd : X.A.guards = some []) (hr : Room k X.A) (hb : Binds X.K fd ps ds) (hd : Vals dvs ds) (hx : Passes CX X E)
    (I : Inv X pz τ H u0) (r : Vals vs us) (h : sp (vs ++ dvs) H Q E) : wpAny (model X.prog X.w) X.A (call (.ref f) us) (EP X pz τ Q) X.xe u0 := by
  have ra : Vals (vs ++ dvs) (us ++ ds) := r.append hd
  have la : (us ++ ds).length = ps.length := ra.length.symm.trans (F.lenG _ _ _ _ h)
  refine wpAny_call (codeAny_mono (F.runG X.A X.stack u0 H ⟨us, []⟩ (us ++ ds) (vs ++ dvs) Q E gd hr I.env0 (hb u0 us I.kIn la) ra h) fun r1 t1 z => ?_)
  match r1 with
  | .error er => exact hx pz τ H u0 er t1 I z
  | .ok (.ret y) => exact I.after z
  | .ok .next => exact z.elim
  | .ok .brk => exact z.elim
  | .ok .cont => exact z.elim
theorem pe_callG (F : FnOkG X.prog X.w X.K X.mg X.base CX k f fd ps sp) (gd : X.A.guards = some []) (hr : Room k X.A) (hg : Gl X x) (hm : X.mg x = some (.ref f)) (hk : PySem.W.keepIn X.K (.ref f) = true) (hb : Binds X.K fd ps ds) (hd : Vals dvs ds) (hx : Passes CX X E)
    (ha : PA X (e :: es) t) (hdb : (x == ("__debug__" : Str)) = false := by decide) (he : starEach (e :: es) X.env = (false, eval e X.env) :: starEach es X.env := by rfl) (hpl : (backTo pos (starEach es X.env)).any (·.1) = false := by rfl) :
    PE X (.Call (.Name x p) (e :: es) [] pos) (tCall sp dvs E t) := by
  constructor
  intro pz u0 τ H Q I h
  refine wpAny_Call_Name_kw (ld_glob I hg hm (PySem.W.callWith_K (h₀ := X.base) I.ok.mod.kin hk (thn (ha.run pos pz u0 τ H _ I h) fun us t1 z => ?_) he hpl) hdb)
  obtain ⟨vs, H1, I1, r, q⟩ := z
  exact ⟨I1.kIn, runG_fn F gd hr hb hd hx I1 r q⟩
/-- str of a list or tuple -/
theorem call_strD (gd : X.A.guards = some []) (hu : X.A.units + 100 < cLine) : CallR X (.type "str") (fun xs H Q => ∃ (a : Addr) (d : PyData), xs = [.ref a] ∧ Dp X.K H (.ref a) d ∧ d.showable = true ∧ d.hasDict = false ∧ d.shown.length ≤ sizeLine ∧ d.depth ≤ 60 ∧ Q (.str d.shown) H) := by
  intro pz u0 τ H xs us Q I r h
  obtain ⟨a, d, rfl, hd, h1, h2, h3, h4, q⟩ := h
  obtain ⟨u, rfl, rv⟩ := vals1 r
  obtain ⟨as, rd⟩ := Dp.reads I d (.ref a) u hd rv
  cases (show u = Value.ref a from rv)
  exact str_of_reads rd h1 (fun z => by rw [h2] at z; cases z) gd (by omega) (fun b o e => e) (fun h' y tk k => ⟨.str _, H, I.kept k, ⟨_, rfl⟩, q⟩) h3
end
/-! ### the head for such a law -/
theorem law_callG {P : Program} {w : World} {K : PySem.W.Frag} {mg mb : Str → Option Value} {CX : CXT} {k : Nat} {fa sa : Addr} {fd : FuncData} {x : Str} {sp : Sp} {t1 : Shared} {vs : List Value} {ns : List Int}
    (XK : K.In t1.heap) (hn : t1.heap.Ns mainGlobals mg) (hb : t1.heap.Ns builtinsNs mb) (hbb : ∀ y : Str, y ≠ "__name__" → mb y = bootBuiltins y) (nl : t1.heap.NoLimit) (ge : t1.gens = #[])
    (ha : t1.heap.get? sa = some { cls := .type "list", data := .seq vs.toArray }) (hi : IntsAre vs ns) (hl : ns.length ≤ sizeLine) (rm : Room k callerA)
    (F : ∀ base : Heap, K.In base → base.Ns mainGlobals mg → FnOkG P w K mg base CX k fa fd [x] sp) (bi : ∀ (u : Shared) (v : Value), BindsTo u fd ⟨[v], []⟩ [(x, v)])
    (hsp : ∀ H : Hp, Only H → SqL K H sa (ns.map V.int) → sp [.ref sa] H (fun v _ => v = .bl true) fun _ _ _ => False)
    (hX : ∀ H e t2, CX [] H t1 (fun _ _ _ => False) e t2 → False) :
    codeAny (model P w) callerA (.call (.ref fa) ⟨[.ref sa], []⟩) (fun r t2 => r = .ok (.ret (.bool true)) ∧ OldK t1.heap t2.heap ∧ t2.os = t1.os ∧ AllBare t2.gens) t1 := by
  have rv := vals_ints hi
  have lv := hi.length
  have main : ∀ H : Hp, Only H → SqL K H sa (ns.map V.int) → HOk P w H t1.heap → (∀ b, H b ≠ none → b = sa) → (H sa ≠ none → K.lookup sa = none) → codeAny (model P w) callerA (.call (.ref fa) ⟨[.ref sa], []⟩) (fun r t2 => r = .ok (.ret (.bool true)) ∧ OldK t1.heap t2.heap ∧ t2.os = t1.os ∧ AllBare t2.gens) t1 := by
    intro H hO hS ok only notK
    have there : ∀ {b : Addr} {o : Obj}, t1.heap.get? b = some o → H b = none → (hidT t1.heap H).get? b = some o := fun e n => hidT_get e n
    have dicts : ∀ {b : Addr} {o : Obj} {es : Array DictEntry} {ep : Nat}, t1.heap.get? b = some o → o.data = .dict es ep → H b = none := fun {b o es ep} e d => by
      cases z : H b with
      | none => rfl
      | some y =>
        have eb : b = sa := only b (fun q => by rw [z] at q; cases q)
        rw [eb, ha] at e
        cases e
        exact absurd (show Data.seq vs.toArray _ = Data.dict es ep from d) (fun q => by cases q)
    have nsk : ∀ {b : Addr} {m : Str → Option Value}, t1.heap.Ns b m → (hidT t1.heap H).Ns b m := fun {b m} z => by
      obtain ⟨o, es, ep, e, d, r⟩ := z
      exact ⟨o, es, ep, there e (dicts e d), d, r⟩
    have inK : K.In (hidT t1.heap H) := fun b o e => there (XK b o e) (by
      cases z : H b with
      | none => rfl
      | some y =>
        have ny : H b ≠ none := fun q => by rw [z] at q; cases q
        have eb : b = sa := only b ny
        subst eb
        rw [notK ny] at e
        cases e)
    have md : Mod K mg (hidT t1.heap H) := ⟨inK, nsk hn, ⟨mb, nsk hb, hbb⟩, by obtain ⟨mc, z1, z2⟩ := nl; exact ⟨mc, nsk z1, z2⟩⟩
    have en : Env0 P w K mg (hidT t1.heap H) callerA [] t1 H := ⟨rfl, md, fun b o e => of_hidT e, Nat.le_of_eq (hidT_size _ _), trivial, fun b hb => absurd (show b ∈ ([] : List Addr) from hb) (by simp), ok, .of_eq ge⟩
    refine codeAny_mono ((F _ inK (nsk hn)).runG callerA [] t1 H ⟨[.ref sa], []⟩ [.ref sa] [.ref sa] _ _ rfl rm en (bi t1 (.ref sa)) (.cons rfl .nil) (hsp H hO hS)) fun r t2 z => ?_
    match r, z with
    | .error e, z => exact (hX H e t2 z).elim
    | .ok .next, z => exact z.elim
    | .ok .brk, z => exact z.elim
    | .ok .cont, z => exact z.elim
    | .ok (.ret y), z =>
      obtain ⟨v, H2, os, br, un, ok2, rl, q⟩ := z
      cases (show v = .bl true from q)
      cases (show y = Value.bool true from rl)
      refine ⟨rfl, OldK.of_keep fun b o e => ?_, os, br⟩
      cases z : H b with
      | none => exact un.keep b o e z (fun z => absurd (show b ∈ ([] : List Addr) from z) (by simp)) (by simp)
      | some y =>
        rcases hO b with n | ⟨ob, xs, n⟩
        · rw [z] at n
          cases n
        · obtain ⟨e1, _⟩ := ok b _ n
          obtain ⟨e2, _⟩ := ok2 b _ (un.frzs b ob _ n)
          rw [e] at e1
          cases e1
          exact e2
  cases hk : K.lookup sa with
  | some o =>
    have e := XK sa o hk
    rw [ha] at e
    cases e
    exact main (fun _ => none) (fun _ => .inl rfl) (.inr ⟨_, vs.toArray, _, hk, rfl, rfl, rfl, by rw [List.size_toArray, lv]; exact hl, by simpa using rv⟩) (fun b y z => absurd (show (none : Option HO) = some y from z) (fun q => by cases q)) (fun b z => absurd rfl z) fun z => absurd rfl z
  | none =>
    refine main (fun b => if b = sa then some (.frz { cls := .type "list", data := .seq vs.toArray } (.lst (ns.map V.int))) else none) (fun b => ?_) (.inl (.inr ⟨{ cls := .type "list", data := .seq vs.toArray }, if_pos rfl⟩)) (fun b y z => ?_) (fun b z => ?_) fun _ => hk
    · by_cases c : b = sa
      · exact .inr ⟨_, _, if_pos c⟩
      · exact .inl (if_neg c)
    · by_cases c : b = sa
      · cases ((if_pos c).symm.trans z)
        subst c
        exact ⟨ha, by rw [List.length_map]; exact hl, vs, _, rv, ha⟩
      · cases ((if_neg c).symm.trans z)
    · by_cases c : b = sa
      · exact c
      · exact absurd (if_neg c) z
theorem walkG {l : PySem.W.OpenLaw} {n k : Nat} {q : Program} {lo : List Str} {XP : (Str → Option Value) → Heap → Prop} {YP : World → Heap → Prop} {d : DefRec} {K : Params → PySem.W.Frag} {CX : World → CXT} {sp : World → Sp} {x : Str}
    (hn : l.most = some n) (hs : n ≤ sizeLine) (hdf : d.params.defaults = []) (rm : Room k callerA) (hY : ∀ (w : World) (h : Heap), YP w h → (K w.params).In h)
    (F : ∀ (w : World) (mg : Str → Option Value) (fa : Addr) (h : Heap), (K w.params).In h → h.Ns mainGlobals mg → mg d.name = some (.ref fa) → ∃ fd : FuncData, (∀ (u : Shared) (v : Value), BindsTo u fd ⟨[v], []⟩ [(x, v)]) ∧ ∀ base : Heap, (K w.params).In base → base.Ns mainGlobals mg → FnOkG l.prog w (K w.params) mg base (CX w) k fa fd [x] (sp w))
    (hsp : ∀ (w : World) (H : Hp) (a : Addr) (ns : List Int), ns.length ≤ n → Only H → SqL (K w.params) H a (ns.map V.int) → sp w [.ref a] H (fun v _ => v = .bl true) fun _ _ _ => False)
    (hX : ∀ (w : World) (H : Hp) (u : Shared) (e : Value) (u' : Shared), CX w [] H u (fun _ _ _ => False) e u' → False) : PySem.W.WalkO q lo XP YP l.row.toRowW d [] (fun f vs => PySem.call f vs) := by
  refine Att.attach_call hn hdf fun w t0 t1 mg mb fa o pm cd doc a vs ns G Y ho hd hc hm hobj hi hlen hg => ?_
  obtain ⟨fd, hb, hF⟩ := F w mg fa _ (hY w _ Y) G.T.g hm
  exact law_callG (hY w _ Y) G.T.g G.T.b G.T.builtins G.T.nolimit hg hobj hi (Nat.le_trans hlen hs) rm hF hb (fun H hO hS => hsp w H a ns hlen hO hS) fun H e t2 => hX w H t1 e t2
end L2
namespace L2
open PySem PySem.Spec PyProof.Rows
/-! ### repr of a list of ints of up to 4300 digits -/
theorem pyReprObj_intN {prog : Program} {w : World} {A : Around} {E : Value → Shared → Prop} {s : Shared} {a : Int} {t : Tok} {Q : Value → Shared → Prop} (hu : A.units < cLine) (hn : s.heap.NoDigits) (ha : a.natAbs < 10 ^ 4300) (h : Q (.str (toString a) s.toks) { s with toks := s.toks + 1 }) : wpAny (model prog w) A (pyReprObj (.int a t)) Q E s := by
  refine wpAny_pyReprObj_slot hu (typeIs_int s a t) F.slot_int_repr.toG ?_
  refine wpAny_call_entry F.slot_int_repr (typeIs_int s a t) F.entry_int_repr ?_ (F.args_int_repr_1 _)
  unfold Builtin.«int.__repr__»
  show wpAny _ _ (do let r ← Builtin.overDigitLimit? a; _) _ _ s
  refine wpAny_bind (overDigitLimit_any hn (fun hlt => ?_) (fun hge => absurd ha (Nat.not_lt.mpr hge)))
  exact wpAny_bind (wpAny_mkStr (wpAny_pure ⟨_, rfl, _, _, rfl, h⟩) (int_text_fits10 hlt))
theorem reprK_intN {prog : Program} {w : World} {h₀ : Heap} {a : Int} (t : Tok) (d : Nat) (hn : h₀.NoDigits) (ha : a.natAbs < 10 ^ 4300) : ReprK prog w [] h₀ d (.int a t) (toString a) := fun base hb A g E s Q hg hcl hu hk hQ => by
  have hn' : base ≤ sizeLine := by omega
  rw [pyReprUnder_leaf (v := .int a t) hn' (fun _ e => nomatch e)]
  unfold pyRepr
  exact wpAny_bind (pyReprObj_intN (by omega) (hn.keeps hk) ha (wpAny_pure (hQ s.heap _ fun _ _ e => e)))
theorem reprAll_intN {prog : Program} {w : World} {h₀ : Heap} (d : Nat) (hn : h₀.NoDigits) : ∀ (ns : List Int) (vs : List Value), (∀ a ∈ ns, a.natAbs < 10 ^ 4300) → Vals (ns.map V.int) vs → ReprAllK prog w [] h₀ d vs (PyData.shownAll (ns.map PyData.int))
  | [], vs, _, r => by
    cases r
    exact .nil
  | a :: ns, vs, ha, r => by
    rw [List.map_cons] at r
    cases r with
    | cons r1 r2 =>
      obtain ⟨t, rfl⟩ := r1
      exact .cons (reprK_intN t d hn (ha a List.mem_cons_self)) (reprAll_intN d hn ns _ (fun b hb => ha b (List.mem_cons_of_mem _ hb)) r2)
/-- the text of a list of ints -/
def repN (ns : List Int) : Str := (PyData.list (ns.map PyData.int)).shown
def rReprN (K : PySem.W.Frag) : List V → Hp → VK → Prop := fun xs H Q => ∃ (a : Addr) (ns : List Int), xs = [.ref a] ∧ SqL K H a (ns.map V.int) ∧ ns ≠ [] ∧ ns.length ≤ 1000 ∧ (∀ i ∈ ns, i.natAbs < 2 ^ 5000) ∧ Q (.str (repN ns)) H
theorem leaves_ints : ∀ ns : List Int, (∀ i ∈ ns, i.natAbs < 2 ^ 5000) → PyData.leavesShortAll 5001 (ns.map PyData.int) = true
  | [], _ => rfl
  | i :: ns, h => by
    rw [List.map_cons]
    unfold PyData.leavesShortAll
    rw [leaves_ints ns fun j hj => h j (List.mem_cons_of_mem _ hj)]
    have hi := h i List.mem_cons_self
    have hl : i.natAbs.log2 < 5000 := by
      by_cases c : i.natAbs = 0
      · rw [c]
        decide
      · exact (Nat.log2_lt c).mpr hi
    have : (Str.ofString (toString i)).length ≤ 5001 := by
      rw [PySem.ofString_length]
      exact int_text_length_le (k := 5000) (by decide) hl
    rw [show (PyData.int i).leavesShort 5001 = true from decide_eq_true this]
    rfl
theorem bulk_ints : ∀ ns : List Int, PyData.bulkAll (ns.map PyData.int) ≤ ns.length
  | [] => Nat.le_refl _
  | i :: ns => by
    rw [List.map_cons]
    unfold PyData.bulkAll
    have := bulk_ints ns
    have e : (PyData.int i).bulk = 0 := rfl
    rw [List.length_cons]
    omega
theorem small_dig {n : Nat} (h : n < 2 ^ 5000) : n < 10 ^ 4300 := Nat.lt_of_lt_of_le h (by decide +kernel)
theorem repN_fits {ns : List Int} (hl : ns.length ≤ 1000) (h : ∀ i ∈ ns, i.natAbs < 2 ^ 5000) : (repN ns).length ≤ sizeLine := by
  have a := PyData.shown_le_bulk 5001 (by decide) (.list (ns.map PyData.int)) (by unfold PyData.leavesShort; exact leaves_ints ns h)
  have b : (PyData.list (ns.map PyData.int)).bulk ≤ ns.length := by
    unfold PyData.bulk
    exact bulk_ints ns
  have c : (5001 + 2) * (PyData.list (ns.map PyData.int)).bulk ≤ 5003 * 1000 := Nat.mul_le_mul_left _ (by omega)
  rw [sizeLine_eq]
  unfold repN
  omega
theorem call_reprN {X : Cx} (nd : X.base.NoDigits) (gd : X.A.guards = some []) (hu : X.A.units + 100 < cLine) : CallR X (.builtin "repr") (rReprN X.K) := by
  intro pz u0 τ H xs us Q I r h
  obtain ⟨a, ns, rfl, hS, ne, hl, hi, q⟩ := h
  obtain ⟨u, rfl, rv⟩ := vals1 r
  cases (show u = Value.ref a from rv)
  obtain ⟨its, o, n, va, ho, hc, hd⟩ := sqL_at I.hok I.kIn hS
  have nd' : u0.heap.NoDigits := nd.keeps fun b o e => (I.env0.bs b o e).1
  have RA := reprAll_intN (prog := X.prog) (w := X.w) 0 nd' ns its (fun i z => small_dig (hi i z)) va
  refine call_repr_slot (by omega) ⟨o, ho, hc⟩ F.slot_list_repr.toG ?_
  match its, va, ho, hd, RA with
  | [], va, ho, hd, RA =>
    cases ns with
    | nil => exact absurd rfl ne
    | cons x y => cases va
  | x :: l, va, ho, hd, RA =>
    have e : repN ns = listText (PyData.shownAll (ns.map PyData.int)) := by
      unfold repN PyData.shown
      rfl
    exact call_list_reprK (as := []) (h₀ := u0.heap) (d := 0) ho hc hd (fun z => nomatch z) (by simpa using RA.length_eq) (fun i y z => RA.item i y (by simpa using z)) gd (fun b _ => Clear.nil b) (by show X.A.units + 1 + (0 + 1) < cLine; omega) (fun _ _ e => e) (fun h' u tk k => ⟨_, _, rfl, .str (repN ns), H, I.kept k, ⟨_, by rw [e]⟩, q⟩) (by rw [← e]; exact repN_fits hl hi)
theorem roomS {k : Nat} {A : Around} (r : Room k A) : A.units + 100 < cLine := by
  have := r.un
  omega
/-! ### the head for a law that asks the digits' limit -/
theorem law_callD {P : Program} {w : World} {K : PySem.W.Frag} {mg mb : Str → Option Value} {CX : CXT} {k : Nat} {fa sa : Addr} {fd : FuncData} {x : Str} {sp : Sp} {t1 : Shared} {vs : List Value} {ns : List Int}
    (XK : K.In t1.heap) (hn : t1.heap.Ns mainGlobals mg) (hb : t1.heap.Ns builtinsNs mb) (hbb : ∀ y : Str, y ≠ "__name__" → mb y = bootBuiltins y) (nl : t1.heap.NoLimit) (ge : t1.gens = #[])
    (ha : t1.heap.get? sa = some { cls := .type "list", data := .seq vs.toArray }) (hi : IntsAre vs ns) (hl : ns.length ≤ sizeLine) (rm : Room k callerA)
    (ng : t1.heap.NoDigits) (F : ∀ base : Heap, K.In base → base.Ns mainGlobals mg → base.NoDigits → FnOkG P w K mg base CX k fa fd [x] sp) (bi : ∀ (u : Shared) (v : Value), BindsTo u fd ⟨[v], []⟩ [(x, v)])
    (hsp : ∀ H : Hp, Only H → SqL K H sa (ns.map V.int) → sp [.ref sa] H (fun v _ => v = .bl true) fun _ _ _ => False)
    (hX : ∀ H e t2, CX [] H t1 (fun _ _ _ => False) e t2 → False) :
    codeAny (model P w) callerA (.call (.ref fa) ⟨[.ref sa], []⟩) (fun r t2 => r = .ok (.ret (.bool true)) ∧ OldK t1.heap t2.heap ∧ t2.os = t1.os ∧ AllBare t2.gens) t1 := by
  have rv := vals_ints hi
  have lv := hi.length
  have main : ∀ H : Hp, Only H → SqL K H sa (ns.map V.int) → HOk P w H t1.heap → (∀ b, H b ≠ none → b = sa) → (H sa ≠ none → K.lookup sa = none) → codeAny (model P w) callerA (.call (.ref fa) ⟨[.ref sa], []⟩) (fun r t2 => r = .ok (.ret (.bool true)) ∧ OldK t1.heap t2.heap ∧ t2.os = t1.os ∧ AllBare t2.gens) t1 := by
    intro H hO hS ok only notK
    have there : ∀ {b : Addr} {o : Obj}, t1.heap.get? b = some o → H b = none → (hidT t1.heap H).get? b = some o := fun e n => hidT_get e n
    have dicts : ∀ {b : Addr} {o : Obj} {es : Array DictEntry} {ep : Nat}, t1.heap.get? b = some o → o.data = .dict es ep → H b = none := fun {b o es ep} e d => by
      cases z : H b with
      | none => rfl
      | some y =>
        have eb : b = sa := only b (fun q => by rw [z] at q; cases q)
        rw [eb, ha] at e
        cases e
        exact absurd (show Data.seq vs.toArray _ = Data.dict es ep from d) (fun q => by cases q)
    have nsk : ∀ {b : Addr} {m : Str → Option Value}, t1.heap.Ns b m → (hidT t1.heap H).Ns b m := fun {b m} z => by
      obtain ⟨o, es, ep, e, d, r⟩ := z
      exact ⟨o, es, ep, there e (dicts e d), d, r⟩
    have inK : K.In (hidT t1.heap H) := fun b o e => there (XK b o e) (by
      cases z : H b with
      | none => rfl
      | some y =>
        have ny : H b ≠ none := fun q => by rw [z] at q; cases q
        have eb : b = sa := only b ny
        subst eb
        rw [notK ny] at e
        cases e)
    have ngh : (hidT t1.heap H).NoDigits := by
      obtain ⟨mc, z1, z2⟩ := ng
      exact ⟨mc, nsk z1, z2⟩
    have md : Mod K mg (hidT t1.heap H) := ⟨inK, nsk hn, ⟨mb, nsk hb, hbb⟩, by obtain ⟨mc, z1, z2⟩ := nl; exact ⟨mc, nsk z1, z2⟩⟩
    have en : Env0 P w K mg (hidT t1.heap H) callerA [] t1 H := ⟨rfl, md, fun b o e => of_hidT e, Nat.le_of_eq (hidT_size _ _), trivial, fun b hb => absurd (show b ∈ ([] : List Addr) from hb) (by simp), ok, .of_eq ge⟩
    refine codeAny_mono ((F _ inK (nsk hn) ngh).runG callerA [] t1 H ⟨[.ref sa], []⟩ [.ref sa] [.ref sa] _ _ rfl rm en (bi t1 (.ref sa)) (.cons rfl .nil) (hsp H hO hS)) fun r t2 z => ?_
    match r, z with
    | .error e, z => exact (hX H e t2 z).elim
    | .ok .next, z => exact z.elim
    | .ok .brk, z => exact z.elim
    | .ok .cont, z => exact z.elim
    | .ok (.ret y), z =>
      obtain ⟨v, H2, os, br, un, ok2, rl, q⟩ := z
      cases (show v = .bl true from q)
      cases (show y = Value.bool true from rl)
      refine ⟨rfl, OldK.of_keep fun b o e => ?_, os, br⟩
      cases z : H b with
      | none => exact un.keep b o e z (fun z => absurd (show b ∈ ([] : List Addr) from z) (by simp)) (by simp)
      | some y =>
        rcases hO b with n | ⟨ob, xs, n⟩
        · rw [z] at n
          cases n
        · obtain ⟨e1, _⟩ := ok b _ n
          obtain ⟨e2, _⟩ := ok2 b _ (un.frzs b ob _ n)
          rw [e] at e1
          cases e1
          exact e2
  cases hk : K.lookup sa with
  | some o =>
    have e := XK sa o hk
    rw [ha] at e
    cases e
    exact main (fun _ => none) (fun _ => .inl rfl) (.inr ⟨_, vs.toArray, _, hk, rfl, rfl, rfl, by rw [List.size_toArray, lv]; exact hl, by simpa using rv⟩) (fun b y z => absurd (show (none : Option HO) = some y from z) (fun q => by cases q)) (fun b z => absurd rfl z) fun z => absurd rfl z
  | none =>
    refine main (fun b => if b = sa then some (.frz { cls := .type "list", data := .seq vs.toArray } (.lst (ns.map V.int))) else none) (fun b => ?_) (.inl (.inr ⟨{ cls := .type "list", data := .seq vs.toArray }, if_pos rfl⟩)) (fun b y z => ?_) (fun b z => ?_) fun _ => hk
    · by_cases c : b = sa
      · exact .inr ⟨_, _, if_pos c⟩
      · exact .inl (if_neg c)
    · by_cases c : b = sa
      · cases ((if_pos c).symm.trans z)
        subst c
        exact ⟨ha, by rw [List.length_map]; exact hl, vs, _, rv, ha⟩
      · cases ((if_neg c).symm.trans z)
    · by_cases c : b = sa
      · exact c
      · exact absurd (if_neg c) z
theorem walkD {l : PySem.W.OpenLaw} {n k : Nat} {q : Program} {lo : List Str} {XP : (Str → Option Value) → Heap → Prop} {YP : World → Heap → Prop} {d : DefRec} {K : Params → PySem.W.Frag} {CX : World → CXT} {sp : World → Sp} {x : Str}
    (hn : l.most = some n) (hs : n ≤ sizeLine) (hdf : d.params.defaults = []) (rm : Room k callerA) (hY : ∀ (w : World) (h : Heap), YP w h → (K w.params).In h)
    (F : ∀ (w : World) (mg : Str → Option Value) (fa : Addr) (h : Heap), (K w.params).In h → h.Ns mainGlobals mg → mg d.name = some (.ref fa) → ∃ fd : FuncData, (∀ (u : Shared) (v : Value), BindsTo u fd ⟨[v], []⟩ [(x, v)]) ∧ ∀ base : Heap, (K w.params).In base → base.Ns mainGlobals mg → base.NoDigits → FnOkG l.prog w (K w.params) mg base (CX w) k fa fd [x] (sp w))
    (hsp : ∀ (w : World) (H : Hp) (a : Addr) (ns : List Int), ns.length ≤ n → Only H → SqL (K w.params) H a (ns.map V.int) → sp w [.ref a] H (fun v _ => v = .bl true) fun _ _ _ => False)
    (hX : ∀ (w : World) (H : Hp) (u : Shared) (e : Value) (u' : Shared), CX w [] H u (fun _ _ _ => False) e u' → False) : PySem.W.WalkO q lo XP YP l.row.toRowW d [] (fun f vs => PySem.call f vs) := by
  refine Att.attach_call hn hdf fun w t0 t1 mg mb fa o pm cd doc a vs ns G Y ho hd hc hm hobj hi hlen hg => ?_
  obtain ⟨fd, hb, hF⟩ := F w mg fa _ (hY w _ Y) G.T.g hm
  exact law_callD (hY w _ Y) G.T.g G.T.b G.T.builtins G.T.nolimit hg hobj hi (Nat.le_trans hlen hs) rm G.T.nodigits hF hb (fun H hO hS => hsp w H a ns hlen hO hS) fun H e t2 => hX w H t1 e t2
end L2
namespace GZ
open PySem PySem.Spec PyProof.Rows L2
def pkz {α : Type} : α → List α → Nat → α
  | a, _, 0 => a
  | a, _, 1 => a
  | a, [], _ => a
  | _, b :: xs, n + 2 => pkz b xs (n + 1)
theorem val0 (t : Tok) : Vals [V.int 0] [Value.int 0 t] := .cons ⟨_, rfl⟩ .nil
/-! ### keyword-only parameters -/
theorem kbn_of {K : PySem.W.Frag} {x qual : Str} {st : Stmt} {D : Addr} {an : Option Addr} {doc pm cdv ct : Value} {ps ks : List Str} {n : Nat} {ml : List (Str × Value)} {g : List Value → List Value → List Value} {gV : List V → List V → List V} (hml : ∀ q ∈ ml, PySem.W.nsIn K D q.1 = some (some q.2))
    (h : ∀ us ws : List Value, us.length = n → ws.length = ks.length → KwChain D ml (bindArgs (PySem.W.fnOf x qual (defArgs st) (defBody st) (defScope st) .none (.ref D) doc pm an cdv ct) ⟨us, ks.zip ws⟩) (ps.zip (g us ws)))
    (rel : ∀ {vs : List V} {us : List Value} {zs : List V} {ws : List Value}, vs.length = n → zs.length = ks.length → Vals vs us → Vals zs ws → Vals (gV vs zs) (g us ws)) :
    ∀ (s : Shared) (us ws : List Value), K.In s.heap → us.length = n → ws.length = ks.length → BindsTo s (PySem.W.fnOf x qual (defArgs st) (defBody st) (defScope st) .none (.ref D) doc pm an cdv ct) ⟨us, ks.zip ws⟩ (ps.zip (g us ws)) :=
  fun s us ws X l1 l2 => BindsTo.of_looks fun M => KwChain.looks X hml (h us ws l1 l2)
theorem bnd_of {K : PySem.W.Frag} {x qual : Str} {st : Stmt} {D : Addr} {an : Option Addr} {doc pm cdv ct : Value} {ps : List Str} {ml : List (Str × Value)} {ds : List Value} (hml : ∀ q ∈ ml, PySem.W.nsIn K D q.1 = some (some q.2))
    (h : ∀ us : List Value, us.length + ds.length = ps.length → KwChain D ml (bindArgs (PySem.W.fnOf x qual (defArgs st) (defBody st) (defScope st) .none (.ref D) doc pm an cdv ct) ⟨us, []⟩) (ps.zip (us ++ ds))) :
    Binds K (PySem.W.fnOf x qual (defArgs st) (defBody st) (defScope st) .none (.ref D) doc pm an cdv ct) ps ds := fun s us X hl => by
  rw [List.length_append] at hl
  exact BindsTo.of_looks fun M => KwChain.looks X hml (h us hl)
/-! ### a def whose defaults aren't asked for -/
structure FunA (K : PySem.W.Frag) (x qual : Str) (st : Stmt) (f : Addr) (fd : FuncData) : Prop where
  ex : ∃ (oc : Value) (od : Option Addr) (dV kV doc pm : Value) (an : Option Addr) (cdv ct : Value) (osl : Array (Option Value)),
    fd = PySem.W.fnOf x qual (defArgs st) (defBody st) (defScope st) dV kV doc pm an cdv ct ∧ K.lookup f = some ⟨oc, od, .func fd, osl⟩ ∧ PySem.W.codeIn K cdv qual = true
  kp : PySem.W.keepIn K (.ref f) = true
theorem FunA.ok {P : Program} {w : World} {K : PySem.W.Frag} {mg : Str → Option Value} {base : Heap} {x qual : Str} {st : Stmt} {f : Addr} {fd : FuncData} {N ps : List Str} {k : Nat} {sp : Sp} (F : FunA K x qual st f fd) (S : FnScope N ps (defScope st)) (len : ∀ vs H Q E, sp vs H Q E → vs.length = ps.length)
    (hbody : ∀ (cdv : Value) (A : Around) (outer : List Env) (s : Shared) (H : Hp) (vs : List V) (Q : VK) (E : XK), Room k (A.deeper (envOfC qual (defScope st) s.heap.objs.size f cdv)) → sp vs H Q E →
      ∃ t, PSs (cxOf CX0 P w K mg base N qual (defScope st) f cdv A outer s H E).nox (defBody st) t ∧ t { nx := fun _ H' => Q .non H', rt := Q } (start N vs) H) : FnOk P w K mg base CX0 (k + 1) f fd ps sp := by
  obtain ⟨oc, od, dV, kV, doc, pm, an, cdv, ct, osl, rfl, lk, hcd⟩ := F.ex
  refine fn_of lk hcd S len fun A outer s H vs Q E hr hsp => ?_
  obtain ⟨t, h, q⟩ := hbody cdv A outer s H vs Q E hr hsp
  exact ⟨t, h.nox, q⟩
theorem bindsA {K : PySem.W.Frag} {x qual : Str} {st : Stmt} {f T : Addr} {oc oT vT : Value} {od an dT : Option Addr} {osl sT : Array (Option Value)} {kV doc pm cdv ct : Value} {nT : Nat} {ps : List Str} (l : K.lookup f = some ⟨oc, od, .func (PySem.W.fnOf x qual (defArgs st) (defBody st) (defScope st) (.ref T) kV doc pm an cdv ct), osl⟩)
    (lT : K.lookup T = some ⟨oT, dT, .seq #[vT] nT, sT⟩)
    (h : ∀ (kV doc pm : Value) (an : Option Addr) (cdv ct : Value) (us : List Value), us.length = ps.length → ∃ k, bindArgs (PySem.W.fnOf x qual (defArgs st) (defBody st) (defScope st) (.ref T) kV doc pm an cdv ct) ⟨us, []⟩ = seqItems? (.ref T) >>= k ∧ k (some #[vT]) = pure (ps.zip us)) : Binds K (PySem.W.fnOf x qual (defArgs st) (defBody st) (defScope st) (.ref T) kV doc pm an cdv ct) ps [] := by
  intro s us X hl
  rw [List.append_nil] at hl ⊢
  obtain ⟨k, e1, e2⟩ := h kV doc pm an cdv ct us hl
  refine BindsTo.of_looks fun M => ?_
  rw [e1]
  exact looks_items X lT rfl (.of_pure e2)
theorem bindsAD {K : PySem.W.Frag} {x qual : Str} {st : Stmt} {f T : Addr} {oc oT vT : Value} {od an dT : Option Addr} {osl sT : Array (Option Value)} {kV doc pm cdv ct : Value} {nT : Nat} {ps : List Str} (l : K.lookup f = some ⟨oc, od, .func (PySem.W.fnOf x qual (defArgs st) (defBody st) (defScope st) (.ref T) kV doc pm an cdv ct), osl⟩)
    (lT : K.lookup T = some ⟨oT, dT, .seq #[vT] nT, sT⟩)
    (h : ∀ (kV doc pm : Value) (an : Option Addr) (cdv ct : Value) (us : List Value), us.length + 1 = ps.length → ∃ k, bindArgs (PySem.W.fnOf x qual (defArgs st) (defBody st) (defScope st) (.ref T) kV doc pm an cdv ct) ⟨us, []⟩ = seqItems? (.ref T) >>= k ∧ k (some #[vT]) = pure (ps.zip (us ++ [vT]))) : Binds K (PySem.W.fnOf x qual (defArgs st) (defBody st) (defScope st) (.ref T) kV doc pm an cdv ct) ps [vT] := by
  intro s us X hl
  rw [List.length_append] at hl
  obtain ⟨k, e1, e2⟩ := h kV doc pm an cdv ct us hl
  refine BindsTo.of_looks fun M => ?_
  rw [e1]
  exact looks_items X lT rfl (.of_pure e2)
theorem kbindsA {x1 : Str} {K : PySem.W.Frag} {x qual : Str} {st : Stmt} {f T : Addr} {oc oT vT : Value} {od an dT : Option Addr} {osl sT : Array (Option Value)} {kV doc pm cdv ct : Value} {nT : Nat} {ps : List Str} (l : K.lookup f = some ⟨oc, od, .func (PySem.W.fnOf x qual (defArgs st) (defBody st) (defScope st) (.ref T) kV doc pm an cdv ct), osl⟩)
    (lT : K.lookup T = some ⟨oT, dT, .seq #[vT] nT, sT⟩)
    (h : ∀ (kV doc pm : Value) (an : Option Addr) (cdv ct u w : Value), ∃ k, bindArgs (PySem.W.fnOf x qual (defArgs st) (defBody st) (defScope st) (.ref T) kV doc pm an cdv ct) ⟨[u], [(x1, w)]⟩ = seqItems? (.ref T) >>= k ∧ k (some #[vT]) = pure (ps.zip [u, w])) : KBn K (PySem.W.fnOf x qual (defArgs st) (defBody st) (defScope st) (.ref T) kV doc pm an cdv ct) ps 1 [x1] (fun us ws => us ++ ws) (fun us ws => us ++ ws) := by
  refine ⟨fun s us ws X l1 l2 => ?_, fun r1 r2 => r1.append r2⟩
  match us, ws, l1, l2 with
  | [u], [w], _, _ =>
    obtain ⟨k, e1, e2⟩ := h kV doc pm an cdv ct u w
    refine BindsTo.of_looks fun M => ?_
    show PySem.W.Looks M s.heap (bindArgs (PySem.W.fnOf x qual (defArgs st) (defBody st) (defScope st) (.ref T) kV doc pm an cdv ct) ⟨[u], [(x1, w)]⟩) (ps.zip [u, w])
    rw [e1]
    exact looks_items X lT rfl (.of_pure e2)
theorem funA_mk {K : PySem.W.Frag} {x qual : Str} {st : Stmt} {f : Addr} {oc : Value} {od an : Option Addr} {osl : Array (Option Value)} {dV kV doc pm cdv ct : Value} (l : K.lookup f = some ⟨oc, od, .func (PySem.W.fnOf x qual (defArgs st) (defBody st) (defScope st) dV kV doc pm an cdv ct), osl⟩)
    (c : PySem.W.codeIn K cdv qual = true) (k : PySem.W.keepIn K (.ref f) = true) : FunA K x qual st f (PySem.W.fnOf x qual (defArgs st) (defBody st) (defScope st) dV kV doc pm an cdv ct) := ⟨⟨oc, od, dV, kV, doc, pm, an, cdv, ct, osl, rfl, l, c⟩, k⟩
section
variable {P : Program} {w : World} {K : PySem.W.Frag} {mg : Str → Option Value} {base : Heap}
theorem cutG {Cd A : Int → Int → Hp → Prop} {B : Prop} (h1 : ∀ n p H, Cd n p H → A n p H) (h2 : (∀ n p H, Cd n p H → A n p H) → B) : B := h2 h1
theorem cutA {Cd A : Addr → Hp → Prop} {B : Prop} (h1 : ∀ a H, Cd a H → A a H) (h2 : (∀ a H, Cd a H → A a H) → B) : B := h2 h1
theorem cutH {H : Hp} {A : Hp → Prop} {B : Prop} (h1 : ∀ H', Same H H' → A H') (h2 : (∀ H', Same H H' → A H') → B) : B := h2 h1
theorem cutP {A B : Prop} (h1 : A) (h2 : A → B) : B := h2 h1
theorem gB {i : Nat} {v u : Bool} {σ : L2.St} {H : Hp} {D : L2.St → Hp → Prop} (e : v = u) (h : gName i (V.bl u) σ H D) : gName i (V.bl v) σ H D := e ▸ h
theorem gI {i : Nat} {v u : Int} {σ : L2.St} {H : Hp} {D : L2.St → Hp → Prop} (e : v = u) (h : gName i (V.int u) σ H D) : gName i (V.int v) σ H D := e ▸ h
theorem dvi (a b : Int) : decide (V.int a = V.int b) = decide (a = b) := by
  by_cases c : a = b
  · rw [decide_eq_true c, decide_eq_true (congrArg V.int c)]
  · rw [decide_eq_false c, decide_eq_false (fun z => c (V.int.inj z))]
theorem dvs (a b : Str) : decide (V.str a = V.str b) = decide (a = b) := by
  by_cases c : a = b
  · rw [decide_eq_true c, decide_eq_true (congrArg V.str c)]
  · rw [decide_eq_false c, decide_eq_false (fun z => c (V.str.inj z))]
theorem bx1 {c : Int} {H : Hp} {b : Addr} (h : BoxAt (c + 2 ^ (1 - 1)) H b) : BoxAt (c + 1) H b := h
theorem Keep.none {b p : Addr} {H H' : Hp} (k : Keep b H H') (n : p ≠ b) (h : H' p = none) : H p = none := by
  cases q : H p with
  | none => rfl
  | some o =>
    rw [k p o q n] at h
    cases h
theorem dp_ints {H : Hp} : ∀ ds : List Int, DpAll K H (ds.map V.int) (ds.map PyData.int)
  | [] => .nil
  | d :: ds => .cons (.int d) (dp_ints ds)
theorem lv_ints {n : Nat} (ds : List Int) (h : ds.length ≤ 1000) : Lv (n + 1) (.list (ds.map PyData.int)) := by
  refine ⟨by rw [List.length_map]; omega, fun d hd => ?_⟩
  obtain ⟨x, _, rfl⟩ := List.mem_map.mp hd
  cases n <;> trivial
theorem eqv_ints (ds : List Int) : PyData.eqv (.list (ds.map PyData.int)) (.list (ds.map PyData.int)) = true := PySem.SeqAt.eqv_refl _ (PySem.SeqAt.canLay_of_shaped (PySem.W.shaped_ints ds))
/-! ### nets -/
def KeepS (S : List Addr) (H H' : Hp) : Prop := (∀ y o, H y = some o → y ∉ S → H' y = some o) ∧ ∀ y, H y ≠ none → H' y ≠ none
theorem KeepS.refl (S : List Addr) (H : Hp) : KeepS S H H := ⟨fun _ _ e _ => e, fun _ e => e⟩
theorem KeepS.trans {S : List Addr} {H H1 H2 : Hp} (a : KeepS S H H1) (b : KeepS S H1 H2) : KeepS S H H2 := ⟨fun y o e n => b.1 y o (a.1 y o e n) n, fun y e => b.2 y (a.2 y e)⟩
theorem some_ne {H : Hp} {y : Addr} {o : HO} (e : H y = some o) : H y ≠ none := fun z => by rw [z] at e; cases e
theorem KeepS.ofSame {S : List Addr} {H H1 : Hp} (s : Same H H1) : KeepS S H H1 := ⟨fun y o e _ => s y o e, fun y e => by
  cases q : H y with
  | none => exact absurd q e
  | some o => exact some_ne (s y o q)⟩
theorem KeepS.mono {S T : List Addr} {H H1 : Hp} (h : ∀ y ∈ S, y ∈ T) (a : KeepS S H H1) : KeepS T H H1 := ⟨fun y o e n => a.1 y o e (fun m => n (h y m)), a.2⟩
theorem KeepS.ofKeep {b : Addr} {S : List Addr} {H H1 : Hp} (k : Keep b H H1) (m : b ∈ S) (hb : H1 b ≠ none) : KeepS S H H1 := ⟨fun y o e n => k y o e (fun z => n (by rw [z]; exact m)), fun y e => by
  by_cases c : y = b
  · rw [c]
    exact hb
  · cases q : H y with
    | none => exact absurd q e
    | some o => exact some_ne (k y o q c)⟩
theorem KeepS.upd {S : List Addr} {H : Hp} {a : Addr} {o : HO} (m : a ∈ S) : KeepS S H (upd H a o) := ⟨fun y u e n => by rw [upd_ne (fun z => n (by rw [z]; exact m))]; exact e, fun y e => by
  by_cases c : y = a
  · rw [c, upd_same]
    exact fun z => by cases z
  · rw [upd_ne c]
    exact e⟩
theorem KeepS.new {S : List Addr} {H : Hp} {a : Addr} {o : HO} (n : H a = none) : KeepS S H (L2.upd H a o) := .ofSame (same_upd n)
theorem KeepS.keep {b : Addr} {H H1 : Hp} (k : KeepS [b] H H1) : Keep b H H1 := fun y o e n => k.1 y o e (by simp only [List.mem_singleton]; exact n)
theorem KeepS.same {H H1 : Hp} (k : KeepS [] H H1) : Same H H1 := fun y o e => k.1 y o e (fun z => nomatch z)
theorem KeepS.seq {K : PySem.W.Frag} {S : List Addr} {a : Addr} {H H' : Hp} {xs : List V} (e : KeepS S H H') (n : a ∉ S) (h : SqL K H a xs) : SqL K H' a xs := by
  rcases h with (h | ⟨o, h⟩) | h
  · exact .inl (.inl (e.1 _ _ h n))
  · exact .inl (.inr ⟨o, e.1 _ _ h n⟩)
  · exact .inr h
theorem KeepS.seqT {K : PySem.W.Frag} {S : List Addr} {a : Addr} {H H' : Hp} {xs : List V} (e : KeepS S H H') (n : a ∉ S) (h : SqT K H a xs) : SqT K H' a xs := by
  rcases h with (h | ⟨o, h⟩) | h
  · exact .inl (.inl (e.1 _ _ h n))
  · exact .inl (.inr ⟨o, e.1 _ _ h n⟩)
  · exact .inr h
theorem BoxAt.keepS {c : Int} {S : List Addr} {H H' : Hp} {b : Addr} (h : BoxAt c H b) (k : KeepS S H H') (n : b ∉ S) : BoxAt c H' b := by
  obtain ⟨x, y, z, e, r⟩ := h
  exact ⟨x, y, z, k.1 _ _ e n, r⟩
inductive Gt where
  | w (k : Str) (ws : List Nat)
  | fi (b : Nat)
def nts (ws : List Nat) : List V := ws.map fun (a : Nat) => V.int (a : Int)
theorem nts_at {ws : List Nat} {i : Nat} {x : V} (h : (nts ws)[i]? = some x) : ∃ v, ws[i]? = some v ∧ x = .int (v : Int) := by
  unfold nts at h
  rw [List.getElem?_map] at h
  cases q : ws[i]? with
  | none => rw [q] at h; cases h
  | some v => rw [q] at h; exact ⟨v, rfl, (Option.some.inj h).symm⟩
theorem nts_len (ws : List Nat) : (nts ws).length = ws.length := by
  unfold nts
  rw [List.length_map]
def Gt.row : Gt → List V
  | .w k ws => .str k :: nts ws
  | .fi b => [.str "fixed", .int (b : Int)]
def Gt.ok (n : Nat) : Gt → Prop
  | .w k ws => (((k = "both" ∨ k = "either" ∨ k = "unlike") ∧ ws.length = 2) ∨ (k = "other" ∧ ws.length = 1)) ∧ ∀ a ∈ ws, a < n
  | .fi b => b ≤ 1
def mx (l : List Int) : Int := l.foldl (fun m x => if x > m then x else m) 0
theorem mx_fold : ∀ (l : List Int) (a : Int), a ≤ l.foldl (fun m x => if x > m then x else m) a ∧ (∀ y ∈ l, y ≤ l.foldl (fun m x => if x > m then x else m) a) ∧ (l.foldl (fun m x => if x > m then x else m) a = a ∨ l.foldl (fun m x => if x > m then x else m) a ∈ l)
  | [], a => ⟨Int.le_refl _, (fun _ z => nomatch z), .inl rfl⟩
  | x :: l, a => by
    obtain ⟨h1, h2, h3⟩ := mx_fold l (if x > a then x else a)
    have e : a ≤ (if x > a then x else a) ∧ x ≤ (if x > a then x else a) ∧ ((if x > a then x else a) = a ∨ (if x > a then x else a) = x) := by split <;> omega
    rw [List.foldl_cons]
    refine ⟨by omega, fun y hy => ?_, ?_⟩
    · rcases List.mem_cons.mp hy with z | z
      · rw [z]
        omega
      · exact h2 y z
    · rcases h3 with z | z
      · rcases e.2.2 with u | u
        · exact .inl (z.trans u)
        · exact .inr (List.mem_cons.mpr (.inl (z.trans u)))
      · exact .inr (List.mem_cons.mpr (.inr z))
theorem mx_is {l : List Int} {m : Int} (h : m ∈ l) (hm : ∀ y ∈ l, y ≤ m) (h0 : ∀ y ∈ l, 0 ≤ y) : mx l = m := by
  obtain ⟨h1, h2, h3⟩ := mx_fold l 0
  have a := h2 m h
  have b := h0 m h
  unfold mx
  rcases h3 with z | z
  · omega
  · have := hm _ z
    omega
theorem mx_nn (l : List Int) : 0 ≤ mx l := (mx_fold l 0).1
def dep (ds : List Int) : Gt → Int
  | .w _ ws => 1 + mx (ws.map fun a => ds.getD a 0)
  | .fi _ => 0
theorem dep_nn (ds : List Int) (g : Gt) : 0 ≤ dep ds g := by
  cases g with
  | w k ws =>
    have := mx_nn (ws.map fun a => ds.getD a 0)
    show 0 ≤ 1 + mx (ws.map fun a => ds.getD a 0)
    omega
  | fi b => exact Int.le_refl _
def dps (m : Nat) (gs : List Gt) : List Int := gs.foldl (fun ds g => ds ++ [dep ds g]) (List.replicate m 0)
theorem dps_snoc (m : Nat) (gs : List Gt) (g : Gt) : dps m (gs ++ [g]) = dps m gs ++ [dep (dps m gs) g] := by
  unfold dps
  rw [List.foldl_append]
  rfl
theorem dps_fold : ∀ (gs : List Gt) (ds : List Int), (∀ d ∈ ds, 0 ≤ d) → (gs.foldl (fun ds g => ds ++ [dep ds g]) ds).length = ds.length + gs.length ∧ ∀ d ∈ gs.foldl (fun ds g => ds ++ [dep ds g]) ds, 0 ≤ d
  | [], ds, h => ⟨rfl, h⟩
  | g :: gs, ds, h => by
    have a := dps_fold gs (ds ++ [dep ds g]) (fun d hd => by
      rcases List.mem_append.mp hd with z | z
      · exact h d z
      · rw [List.mem_singleton.mp z]
        exact dep_nn ds g)
    rw [List.foldl_cons]
    refine ⟨?_, a.2⟩
    rw [a.1, List.length_append, List.length_cons, List.length_cons, List.length_nil]
    omega
theorem dps_len (m : Nat) (gs : List Gt) : (dps m gs).length = m + gs.length := by
  have a := (dps_fold gs (List.replicate m 0) (fun d hd => by rw [List.eq_of_mem_replicate hd]; exact Int.le_refl _)).1
  rw [List.length_replicate] at a
  exact a
theorem dps_nn (m : Nat) (gs : List Gt) : ∀ d ∈ dps m gs, 0 ≤ d := (dps_fold gs (List.replicate m 0) (fun d hd => by rw [List.eq_of_mem_replicate hd]; exact Int.le_refl _)).2
structure NetP where
  x : Addr
  lm : Addr
  ld : Addr
  dn : Addr
def GsAt (Z : List Addr) (H : Hp) (ps : List Addr) (gs : List Gt) : Prop := ps.length = gs.length ∧ ∀ (i : Nat) (q : Addr) (g : Gt), ps[i]? = some q → gs[i]? = some g → q ∉ Z ∧ H q = some (.tup g.row)
def NmAt (Z : List Addr) (H : Hp) (p : NetP) (kvs : List (Key × V)) (nm : List (Str × List Nat)) : Prop :=
  kvs.length = nm.length ∧ (nm.map (·.1)).Nodup ∧ ∀ (i : Nat) (k : Key) (v : V) (n : Str) (ws : List Nat), kvs[i]? = some (k, v) → nm[i]? = some (n, ws) → k = .inr n ∧ ∃ l, v = .ref l ∧ l ∉ Z ∧ l ≠ p.lm ∧ l ≠ p.ld ∧ H l = some (.lst (nts ws))
def NetAt (C : Addr) (Z : List Addr) (H : Hp) (p : NetP) (m : Nat) (gs : List Gt) (nm : List (Str × List Nat)) : Prop :=
  (∀ z ∈ Z, H z ≠ none) ∧ p.lm ≠ p.ld ∧ (p.x ∉ Z ∧ p.lm ∉ Z ∧ p.ld ∉ Z ∧ p.dn ∉ Z) ∧ ∃ dx ps kvs, H p.x = some (.ins C dx [("input_count", .int (m : Int)), ("made", .ref p.lm), ("depths", .ref p.ld), ("by_name", .ref p.dn)]) ∧
    H p.lm = some (.lst (ps.map V.ref)) ∧ H p.ld = some (.lst ((dps m gs).map V.int)) ∧ H p.dn = some (.dK kvs) ∧ GsAt Z H ps gs ∧ NmAt Z H p kvs nm
theorem NetAt.keep {C : Addr} {S Z : List Addr} {H H' : Hp} {p : NetP} {m : Nat} {gs : List Gt} {nm : List (Str × List Nat)} (h : NetAt C Z H p m gs nm) (k : KeepS S H H') (hs : ∀ y ∈ S, y ∈ Z) : NetAt C Z H' p m gs nm := by
  obtain ⟨a, b, ⟨c1, c2, c3, c4⟩, dx, ps, kvs, e1, e2, e3, e4, ⟨g1, g2⟩, n1, n2, n3⟩ := h
  have f : ∀ {y : Addr} {o : HO}, y ∉ Z → H y = some o → H' y = some o := fun n e => k.1 _ _ e (fun z => n (hs _ z))
  refine ⟨fun z hz => k.2 z (a z hz), b, ⟨c1, c2, c3, c4⟩, dx, ps, kvs, f c1 e1, f c2 e2, f c3 e3, f c4 e4, ⟨g1, fun i q g hi hg => ?_⟩, n1, n2, fun i k v n ws hi hn => ?_⟩
  · have := g2 i q g hi hg
    exact ⟨this.1, f this.1 this.2⟩
  · obtain ⟨ek, l, ev, l1, l2, l3, l4⟩ := n3 i k v n ws hi hn
    exact ⟨ek, l, ev, l1, l2, l3, f l1 l4⟩
theorem NetAt.same {C : Addr} {Z : List Addr} {H H' : Hp} {p : NetP} {m : Nat} {gs : List Gt} {nm : List (Str × List Nat)} (h : NetAt C Z H p m gs nm) (s : Same H H') : NetAt C Z H' p m gs nm := h.keep (S := []) (.ofSame s) (fun _ z => nomatch z)
theorem NetAt.keepB {C b : Addr} {Z : List Addr} {H H' : Hp} {p : NetP} {m : Nat} {gs : List Gt} {nm : List (Str × List Nat)} (h : NetAt C Z H p m gs nm) (k : Keep b H H') (hb : H' b ≠ none) (m' : b ∈ Z) : NetAt C Z H' p m gs nm := h.keep (S := [b]) (.ofKeep k (List.mem_singleton.mpr rfl) hb) (fun y hy => by rw [List.mem_singleton.mp hy]; exact m')
theorem BoxAt.some {c : Int} {H : Hp} {b : Addr} (h : BoxAt c H b) : H b ≠ none := by
  obtain ⟨_, _, _, e, _⟩ := h
  exact some_ne e
theorem made {C : Addr} {H : Hp} {x dx : Addr} (nx : H x = none) (nd : H dx = none) (ne : dx ≠ x) {H' : Hp} (k : ∀ p o, (upd (upd H dx (.own x)) x (.ins C dx [])) p = some o → p ≠ x → H' p = some o) : Same H H' := fun p o e =>
  k p o (by rw [upd_ne (ne_of_none e nx), upd_ne (ne_of_none e nd)]; exact e) (ne_of_none e nx)
theorem units1 {k : Nat} {A : Around} (r : Room k A) : A.units + 1 < cLine := by have := r.un; omega
theorem pi_or {X : Cx} {tg e : Expr} {i j : TI} (h1 : PI X tg e i) (h2 : PI X tg e j) : PI X tg e (fun σ H R => i σ H R ∨ j σ H R) := ⟨fun pins s σ H R I h => h.elim (fun a => h1.run pins s σ H R I a) (fun b => h2.run pins s σ H R I b)⟩
structure FT (K : PySem.W.Frag) (mg : Str → Option Value) (C : Addr) : Prop where
  cl : Cls K C
  n_input_count : NoAttr K C "input_count"
  n_made : NoAttr K C "made"
  n_depths : NoAttr K C "depths"
  n_by_name : NoAttr K C "by_name"
  mgC : mg "Net" = some (.ref C)
structure LL (K : PySem.W.Frag) (mg : Str → Option Value) (C : Addr) (za : Nat → Addr) (zl : Nat → FuncData) (base : Heap) : Prop where
  F_worth_of : Fun K "worth_of" "worth_of" s_worth_of (za 1) (zl 1)
  m_worth_of : mg "worth_of" = some (.ref (za 1))
  b_worth_of : Binds K (zl 1) ["digits"] []
  F_ran : Fun K "ran" "ran" s_ran (za 2) (zl 2)
  m_ran : mg "ran" = some (.ref (za 2))
  kb_ran : ∃ ds, Vals [.int 1] ds ∧ Binds K (zl 2) ["net", "values", "many"] ds
  kb_ran_many : ∃ g, KBn K (zl 2) ["net", "values", "many"] 2 ["many"] g (fun vs zs => vs ++ zs)
  F_gate_bits : Fun K "gate_bits" "gate_bits" s_gate_bits (za 3) (zl 3)
  m_gate_bits : mg "gate_bits" = some (.ref (za 3))
  b_gate_bits : Binds K (zl 3) ["gate", "wires", "full"] []
  F_one_case : Fun K "one_case" "one_case" s_one_case (za 4) (zl 4)
  m_one_case : mg "one_case" = some (.ref (za 4))
  b_one_case : Binds K (zl 4) ["net", "word"] []
  F__law_box : Fun K "_law_box" "_law_box" sBox (za 5) (zl 5)
  m__law_box : mg "_law_box" = some (.ref (za 5))
  b__law_box : Binds K (zl 5) ["_law_script", "_law_k"] []
  F__law_take : Fun K "_law_take" "_law_take" sTake (za 6) (zl 6)
  m__law_take : mg "_law_take" = some (.ref (za 6))
  b__law_take : Binds K (zl 6) ["_law_box_here", "_law_size"] []
  F__law_same : Fun K "_law_same" "_law_same" sSame (za 7) (zl 7)
  m__law_same : mg "_law_same" = some (.ref (za 7))
  b__law_same : Binds K (zl 7) ["_law_found", "_law_due"] []
  F__law_names : Fun K "_law_names" "_law_names" s__law_names (za 8) (zl 8)
  m__law_names : mg "_law_names" = some (.ref (za 8))
  b__law_names : Binds K (zl 8) ["_law_box_here", "_law_size"] []
  F__law_gates : Fun K "_law_gates" "_law_gates" s__law_gates (za 9) (zl 9)
  m__law_gates : mg "_law_gates" = some (.ref (za 9))
  b__law_gates : Binds K (zl 9) ["_law_box_here", "_law_wide", "_law_size"] []
  F__law_made : Fun K "_law_made" "_law_made" s__law_made (za 10) (zl 10)
  m__law_made : mg "_law_made" = some (.ref (za 10))
  b__law_made : Binds K (zl 10) ["_law_rows", "_law_wide"] []
  F__law_bits : Fun K "_law_bits" "_law_bits" s__law_bits (za 11) (zl 11)
  m__law_bits : mg "_law_bits" = some (.ref (za 11))
  b__law_bits : Binds K (zl 11) ["_law_rows", "_law_bits_here"] []
  F__law_number : Fun K "_law_number" "_law_number" s__law_number (za 12) (zl 12)
  m__law_number : mg "_law_number" = some (.ref (za 12))
  b__law_number : Binds K (zl 12) ["_law_bits_here"] []
  F__law_values : Fun K "_law_values" "_law_values" s__law_values (za 13) (zl 13)
  m__law_values : mg "_law_values" = some (.ref (za 13))
  b__law_values : Binds K (zl 13) ["_law_box_here", "_law_inputs", "_law_cases"] []
  F__law_ran_right : Fun K "_law_ran_right" "_law_ran_right" s__law_ran_right (za 14) (zl 14)
  m__law_ran_right : mg "_law_ran_right" = some (.ref (za 14))
  b__law_ran_right : Binds K (zl 14) ["_law_box_here", "_law_net", "_law_rows", "_law_lists", "_law_inputs"] []
  F__law_case_right : Fun K "_law_case_right" "_law_case_right" s__law_case_right (za 15) (zl 15)
  m__law_case_right : mg "_law_case_right" = some (.ref (za 15))
  b__law_case_right : Binds K (zl 15) ["_law_box_here", "_law_net", "_law_rows", "_law_lists", "_law_inputs"] []
  F__law_more_right : Fun K "_law_more_right" "_law_more_right" s__law_more_right (za 16) (zl 16)
  m__law_more_right : mg "_law_more_right" = some (.ref (za 16))
  b__law_more_right : Binds K (zl 16) ["_law_box_here", "_law_net", "_law_rows", "_law_lists", "_law_inputs"] []
  T : FT K mg C
  M : Mk K C (za 17)
  F_Net___init__ : Fun K "__init__" "Net.__init__" s_Net___init__ (za 17) (zl 17)
  b_Net___init__ : Binds K (zl 17) ["self", "many"] []
  F_Net_both : Fun K "both" "Net.both" s_Net_both (za 18) (zl 18)
  b_Net_both : Binds K (zl 18) ["self", "a", "b"] []
  M_Net_both : Meth K C "both" (za 18)
  F_Net_either : Fun K "either" "Net.either" s_Net_either (za 19) (zl 19)
  b_Net_either : Binds K (zl 19) ["self", "a", "b"] []
  M_Net_either : Meth K C "either" (za 19)
  F_Net_unlike : Fun K "unlike" "Net.unlike" s_Net_unlike (za 20) (zl 20)
  b_Net_unlike : Binds K (zl 20) ["self", "a", "b"] []
  M_Net_unlike : Meth K C "unlike" (za 20)
  F_Net_other : Fun K "other" "Net.other" s_Net_other (za 21) (zl 21)
  b_Net_other : Binds K (zl 21) ["self", "a"] []
  M_Net_other : Meth K C "other" (za 21)
  F_Net_fixed : Fun K "fixed" "Net.fixed" s_Net_fixed (za 22) (zl 22)
  b_Net_fixed : Binds K (zl 22) ["self", "bit"] []
  M_Net_fixed : Meth K C "fixed" (za 22)
  F_Net_put : Fun K "put" "Net.put" s_Net_put (za 23) (zl 23)
  b_Net_put : Binds K (zl 23) ["self", "kind", "wires"] []
  M_Net_put : Meth K C "put" (za 23)
  F_Net_put_gate : Fun K "put_gate" "Net.put_gate" s_Net_put_gate (za 24) (zl 24)
  b_Net_put_gate : Binds K (zl 24) ["self", "gate", "depth"] []
  M_Net_put_gate : Meth K C "put_gate" (za 24)
  F_Net_need : Fun K "need" "Net.need" s_Net_need (za 25) (zl 25)
  b_Net_need : Binds K (zl 25) ["self", "wires"] []
  M_Net_need : Meth K C "need" (za 25)
  F_Net_give : Fun K "give" "Net.give" s_Net_give (za 26) (zl 26)
  b_Net_give : Binds K (zl 26) ["self", "name", "wires"] []
  M_Net_give : Meth K C "give" (za 26)
  F_Net_given : Fun K "given" "Net.given" s_Net_given (za 27) (zl 27)
  b_Net_given : Binds K (zl 27) ["self", "name"] []
  M_Net_given : Meth K C "given" (za 27)
  F_Net_names : Fun K "names" "Net.names" s_Net_names (za 28) (zl 28)
  b_Net_names : Binds K (zl 28) ["self"] []
  M_Net_names : Meth K C "names" (za 28)
  F_Net_inputs : Fun K "inputs" "Net.inputs" s_Net_inputs (za 29) (zl 29)
  b_Net_inputs : Binds K (zl 29) ["self"] []
  M_Net_inputs : Meth K C "inputs" (za 29)
  F_Net_gates : Fun K "gates" "Net.gates" s_Net_gates (za 30) (zl 30)
  b_Net_gates : Binds K (zl 30) ["self"] []
  M_Net_gates : Meth K C "gates" (za 30)
  F_Net___len__ : Fun K "__len__" "Net.__len__" s_Net___len__ (za 31) (zl 31)
  b_Net___len__ : Binds K (zl 31) ["self"] []
  M_Net___len__ : Meth K C "__len__" (za 31)
  F_Net_like : Fun K "like" "Net.like" s_Net_like (za 32) (zl 32)
  b_Net_like : Binds K (zl 32) ["self"] []
  M_Net_like : Meth K C "like" (za 32)
  ND : base.NoDigits
  z_sorted : mg "sorted" = none
  z_repr : mg "repr" = none
  z_dict : mg "dict" = none
variable {C : Addr} {za : Nat → Addr} {zl : Nat → FuncData}

end
theorem gset_if2 {i : Nat} {v : V} {σ : L2.St} {H : Hp} {c : TT} {t u r : TS} {D : Ends} (h : tIfS c t u { D with nx := r D } (σ.set i (some v)) H) : gName i v σ H ({ D with nx := tSeq (tIfS c t u) r D } : Ends).nx := h
theorem gset_if {σ : L2.St} {H : Hp} {c : TT} {t u r : TS} {D : Ends} (h : tIfS c t u { D with nx := r D } σ H) : tSeq (tIfS c t u) r D σ H := h
theorem ifS_cut {c : TT} {t u : TS} {D : Ends} {σ : L2.St} {H : Hp} (R : L2.St → Hp → Prop) (h : ∀ D' : Ends, (∀ σ' H', R σ' H' → D'.nx σ' H') → tIfS c t u D' σ H) (q : ∀ σ' H', R σ' H' → D.nx σ' H') : tIfS c t u D σ H := h D q
theorem ifS_ev {c : TT} {t u : TS} {D : Ends} {σ : L2.St} {H : Hp} (R : Bool → Hp → Prop) (h : ∀ Q : Bool → Hp → Prop, (∀ z H', R z H' → Q z H') → c σ H Q) (q1 : ∀ H', R true H' → t D σ H') (q2 : ∀ H', R false H' → u D σ H') : tIfS c t u D σ H := h _ fun z H' r => by
  cases z with
  | true => exact q1 H' r
  | false => exact q2 H' r
theorem if_ev {t : TT} {ta tb : TE} {σ : L2.St} {H : Hp} {Q : VK} (R : V → Hp → Prop) (h : ∀ Q : VK, (∀ z H', R z H' → Q z H') → tIf t ta tb σ H Q) (q : ∀ z H', R z H' → Q z H') : tIf t ta tb σ H Q := h Q q
theorem and_ev {ta tb : TE} {σ : L2.St} {H : Hp} {Q : VK} (R : V → Hp → Prop) (h : ∀ Q : VK, (∀ z H', R z H' → Q z H') → tAndV ta tb σ H Q) (q : ∀ z H', R z H' → Q z H') : tAndV ta tb σ H Q := h Q q
theorem or_ev {ta tb : TE} {σ : L2.St} {H : Hp} {Q : VK} (R : V → Hp → Prop) (h : ∀ Q : VK, (∀ z H', R z H' → Q z H') → tOrV ta tb σ H Q) (q : ∀ z H', R z H' → Q z H') : tOrV ta tb σ H Q := h Q q
theorem ifset_ev {c : TT} {e : TE} {k : Nat} {D : Ends} {σ : L2.St} {H : Hp} {old : V} (hσ : σ.set k (some old) = σ) (R : V → Hp → Prop) (h : ∀ Q : VK, (∀ z H', R z H' → Q z H') → c σ H (fun b H1 => if b = true then e σ H1 Q else Q old H1)) (q : ∀ z H', R z H' → D.nx (σ.set k (some z)) H') : tIfS c (tAsg e (gName k)) tNext D σ H := by
  have t := h (fun z H' => D.nx (σ.set k (some z)) H') q
  rw [hσ] at t
  exact t
theorem two_cut {t : TE} {g : TG} {c : TT} {a b r : TS} {D : Ends} {σ : L2.St} {H : Hp} (R : L2.St → Hp → Prop) (h : ∀ D' : Ends, (∀ σ' H', R σ' H' → D'.nx σ' H') → tSeq (tAsg t g) (tIfS c a b) D' σ H) (q : ∀ σ' H', R σ' H' → r D σ' H') : tSeq (tAsg t g) (tSeq (tIfS c a b) r) D σ H := h { D with nx := r D } q
theorem org80 {ta tb : TE} {σ : L2.St} {H : Hp} {Q : VK} {c d : Bool} (ha : ∀ Q : VK, Q (.bl c) H → ta σ H Q) (hb : ∀ Q : VK, Q (.bl d) H → tb σ H Q) (h : Q (.bl (c || d)) H) : tOrV ta tb σ H Q := by
  refine ha _ ⟨c, rfl, ?_⟩
  cases c
  · exact hb _ h
  · exact h
theorem gnext_if18 {σ : L2.St} {H : Hp} {c : TT} {t u : TS} {r : TS} {D : Ends} (h : tIfS c t u { D with nx := r D } σ H) : tNext ({ D with nx := tSeq (tIfS c t u) r D } : Ends) σ H := h
theorem ret_if18 {c : TT} {ta tb : TE} {D : Ends} {σ : L2.St} {H : Hp} (R : Bool → Hp → Prop) (h : ∀ Q : Bool → Hp → Prop, (∀ z H', R z H' → Q z H') → c σ H Q) (q1 : ∀ H', R true H' → ta σ H' D.rt) (q2 : ∀ H', R false H' → tb σ H' D.rt) : tRet (tIf c ta tb) D σ H := h _ fun z H' r => by
  cases z with
  | true => exact q1 H' r
  | false => exact q2 H' r
theorem gset_if3 {i : Nat} {v : V} {σ : L2.St} {H : Hp} {c : TT} {t u r : TS} {D : Ends} (h : tIfS c t u { D with nx := r D } (σ.set i (some v)) H) : gName i v σ H (tSeq (tIfS c t u) r D) := h
theorem asg_ev {t : TE} {i : Nat} {r : TS} {D : Ends} {σ : L2.St} {H : Hp} (R : V → Hp → Prop) (h : ∀ Q : VK, (∀ z H', R z H' → Q z H') → t σ H Q) (q : ∀ z H', R z H' → r D (σ.set i (some z)) H') : tSeq (tAsg t (gName i)) r D σ H := h _ q
/-! ### len(x) of an own __len__ -/
theorem call_lenOwn {X : Cx} {C f : Addr} {fd : FuncData} {ps : List Str} {sp : Sp} {CI : CXT} {n : Nat} {E : XK} (hm : Meth X.K C "__len__" f) (FN : FnOk X.prog X.w X.K X.mg X.base CI n f fd ps sp) (bN : Binds X.K fd ps []) (hr : Room (n + 1) X.A) (hx : Passes CI X E) :
    CallR X (.builtin "len") (fun xs H Q => ∃ (x dx : Addr) (fs : List (Str × V)), xs = [.ref x] ∧ H x = some (.ins C dx fs) ∧ sp [.ref x] H (fun v H' => ∃ k : Int, v = .int k ∧ 0 ≤ k ∧ k < 2 ^ 63 ∧ Q (.int k) H') E) := by
  intro pins s σ H xs us Q I r h
  obtain ⟨a, dx, fs, rfl, ha, hsp⟩ := h
  obtain ⟨u, rfl, ru⟩ := vals1 r
  obtain rfl : u = Value.ref a := ru
  obtain ⟨mA, J, _⟩ := ins_get I.hok ha
  obtain ⟨od, J, _⟩ := J.look
  obtain ⟨m, hF⟩ := I.fr
  have sb : Sub X n X.A.in1 := Sub.in1 ⟨hr, rfl⟩
  refine PySem.W.len_K hF I.ok.mod.kin J hm.at_ hm.fn ?_
  have e0 : Env0 X.prog X.w X.K X.mg X.base X.A.in1 X.stack s H := by
    have e := I.env0
    exact ⟨by rw [sb.fr]; exact e.frames, e.mod, e.bs, e.bsz, e.funs, e.frf, e.hok, e.bare⟩
  have hl := FN.len _ _ _ _ hsp
  have r2 : Vals [V.ref a] [Value.ref a] := .cons rfl .nil
  refine wpAny_call (codeAny_mono (FN.run X.A.in1 X.stack s H ⟨[.ref a], []⟩ [.ref a] [.ref a] _ E sb.room e0 (by
    have := bN s [.ref a] I.kIn (by simpa using hl)
    simpa using this) r2 hsp) fun r s' hq => ?_)
  cases r with
  | error e => exact hx pins σ H s e s' I hq
  | ok fl =>
    cases fl with
    | ret u =>
      obtain ⟨v, H', I', rv, k, rfl, k0, k1, q⟩ := I.after hq
      obtain ⟨t, rfl⟩ := rv
      exact ⟨⟨k0, k1⟩, .int k, H', I'.tok _, ⟨_, rfl⟩, q⟩
    | next => exact False.elim hq
    | brk => exact False.elim hq
    | cont => exact False.elim hq
/-! ### a text so many times -/
def strRep (x : Str) (n : Nat) : Str := ⟨(List.replicate n x.cps).foldl (· ++ ·) #[]⟩
theorem strRep_len (x : Str) (n : Nat) : (strRep x n).length = n * x.length := by
  have key : ∀ (n : Nat) (a : Array Nat), ((List.replicate n x.cps).foldl (· ++ ·) a).size = a.size + n * x.cps.size := by
    intro n
    induction n with
    | zero => intro a; simp
    | succ k ih =>
      intro a
      rw [List.replicate_succ, List.foldl_cons, ih, Array.size_append, Nat.add_mul, Nat.one_mul]
      omega
  have := key n #[]
  show ((List.replicate n x.cps).foldl (· ++ ·) #[]).size = n * x.cps.size
  rw [this]
  simp
theorem op_mul_str {X : Cx} : OpR X (binaryOp .Mult) (fun x y H Q => ∃ (i : Str) (n : Nat), x = .str i ∧ y = .int (n : Int) ∧ i.length ≤ 1000 ∧ n ≤ 1000 ∧ Q (.str (strRep i n)) H) := by
  intro pins s σ H x y v u Q I rx ry h
  obtain ⟨i, n, rfl, rfl, h1, h2, q⟩ := h
  obtain ⟨t, rfl⟩ := rx
  obtain ⟨t', rfl⟩ := ry
  have hm : i.length * n ≤ 1000 * 1000 := Nat.mul_le_mul h1 h2
  refine P.mul_str (by rw [decide_eq_false (by omega), decide_eq_false (by omega)]; rfl) (fun c _ => ?_) (fun c _ => ?_) ?_
  · have : (1 : Int) ≤ n := by omega
    have hd : ((2 ^ 63 - 1 : Int)) / 1000 ≤ (2 ^ 63 - 1) / (n : Int) := by
      refine Int.le_ediv_of_mul_le (by omega) ?_
      have : ((2 ^ 63 - 1 : Int) / 1000) * n ≤ (2 ^ 63 - 1) / 1000 * 1000 := Int.mul_le_mul_of_nonneg_left (by omega) (by decide)
      have e : ((2 ^ 63 - 1 : Int) / 1000) * 1000 ≤ 2 ^ 63 - 1 := by decide
      omega
    have e2 : (1000 : Int) ≤ (2 ^ 63 - 1) / 1000 := by decide
    omega
  · rw [Int.toNat_natCast]
    unfold Builtin.Str.tooLong
    have : (1000 * 1000 : Nat) ≤ sizeLine := by decide
    simp only [decide_eq_false_iff_not]
    omega
  · have fin : ∀ (tk : Nat), EP X pins σ Q (.str (strRep i n) tk) s := fun tk => ⟨.str (strRep i n), H, I, ⟨_, rfl⟩, q⟩
    by_cases c : (n : Int) < 1
    · rw [if_pos c]
      have n0 : n = 0 := by omega
      subst n0
      exact ⟨by decide, ⟨.str (strRep i 0), H, I.tok _, ⟨_, rfl⟩, q⟩⟩
    · rw [if_neg c]
      by_cases c2 : ((n : Int) == 1 || i.length == 0) = true
      · rw [if_pos c2]
        have e : strRep i n = i := by
          rcases Bool.or_eq_true_iff.mp c2 with z | z
          · have n1 : n = 1 := by
              have := beq_iff_eq.mp z
              omega
            subst n1
            show (⟨#[] ++ i.cps⟩ : Str) = i
            rw [Array.empty_append]
          · have l0 : (strRep i n).length = 0 := by rw [strRep_len, beq_iff_eq.mp z, Nat.mul_zero]
            have a : (strRep i n).cps = #[] := Array.eq_empty_of_size_eq_zero l0
            have b : i.cps = #[] := Array.eq_empty_of_size_eq_zero (beq_iff_eq.mp z)
            show strRep i n = i
            cases h5 : strRep i n
            cases i
            rw [h5] at a
            dsimp only at a b
            rw [a, b]
        rw [e] at q
        exact ⟨.str i, H, I, ⟨_, rfl⟩, q⟩
      · rw [if_neg c2]
        refine ⟨?_, ⟨.str (strRep i n), H, I.tok _, ⟨_, rfl⟩, q⟩⟩
        have := strRep_len i n
        have : (1000 * 1000 : Nat) ≤ sizeLine := by decide
        show (strRep i n).length ≤ sizeLine
        rw [strRep_len, Nat.mul_comm]
        omega
/-! ### dict comprehensions, walked -/
section
variable {J : It} {n : Nat} {G : Hp → Prop} {Y : Nat → Hp → V → Hp → Prop}
theorem dc_it (w : Walk J n G Y) {g : TG} {tt : TT} {tk tv : TE} {vs : List Nat} {σ : L2.St} {H1 : Hp} {D : Addr} {Qd : Hp → Prop} (Pv : Nat → Hp → Prop) (h0 : Pv 0 (upd H1 D (.dK []))) (hG : ∀ i H, i ≤ n → Pv i H → G H)
    (hs : ∀ i x H H', i < n → Pv i H → Y i H x H' → g x (wipe σ vs) H' fun σ2 H2 => wipe σ2 vs = wipe σ vs ∧ tt σ2 H2 fun b H3 =>
      if b = true then tk σ2 H3 fun y H4 => tv σ2 H4 fun z H5 => ∃ kvs k, y = kV k ∧ H5 D = some (.dK kvs) ∧ kvs.length < sizeLine ∧ Pv (i + 1) (upd H5 D (.dK (putK kvs k z))) else Pv (i + 1) H3) (hd : ∀ H, Pv n H → Qd H) :
    ∃ W : Nat → Nat → Hp → Prop, (∃ m, W 0 m (upd H1 D (.dK []))) ∧ ∀ i m H, W i m H →
      (J.stop i H ∧ Qd H) ∨ (J.go i H ∧ ∃ Nx : Hp → Prop, (∀ H', Nx H' → ∃ m', m' < m ∧ W (i + 1) m' H') ∧ ∀ x H', J.yld i H x H' → g x (wipe σ vs) H' fun σ2 H2 => wipe σ2 vs = wipe σ vs ∧ tt σ2 H2 fun b H3 =>
        if b = true then tk σ2 H3 fun y H4 => tv σ2 H4 fun z H5 => ∃ kvs k, y = kV k ∧ H5 D = some (.dK kvs) ∧ kvs.length < sizeLine ∧ Nx (upd H5 D (.dK (putK kvs k z))) else Nx H3) := by
  refine ⟨fun i m H => m = n - i ∧ i ≤ n ∧ Pv i H, ⟨n, by simp, Nat.zero_le _, h0⟩, ?_⟩
  rintro i m H ⟨rfl, hi, p⟩
  have q := hG i H hi p
  by_cases hlt : i < n
  · refine .inr ⟨w.goes i H hlt q, Pv (i + 1), fun H' p' => ⟨n - (i + 1), by omega, rfl, hlt, p'⟩, fun x H' y => hs i x H H' hlt p (w.yields i H x H' hlt q y)⟩
  · have e : i = n := by omega
    subst e
    exact .inl ⟨w.stops H q, hd H p⟩
end
section
variable {P : Program} {w : World} {K : PySem.W.Frag} {mg : Str → Option Value} {base : Heap}
variable {C : Addr} {za : Nat → Addr} {zl : Nat → FuncData}
/-! ### a net's gates -/
theorem flat_rep (m : Nat) (v : V) : (List.replicate m [v]).flatten = List.replicate m v := by
  induction m with
  | zero => rfl
  | succ k ih =>
    rw [List.replicate_succ, List.flatten_cons, ih, List.replicate_succ]
    rfl
def spNetI (C : Addr) : Sp := fun vs H Q _ => ∃ (x dx : Addr) (m : Nat), vs = [.ref x, .int (m : Int)] ∧ H x = some (.ins C dx []) ∧ m ≤ 100000 ∧
  ∀ (p : NetP) (H' : Hp), p.x = x → (∀ y o, H y = some o → y ≠ x → H' y = some o) → (H p.lm = none ∧ H p.ld = none ∧ H p.dn = none) → (∀ Z : List Addr, (∀ z ∈ Z, z ≠ x ∧ H z ≠ none) → NetAt C Z H' p m [] []) → Q .non H'
theorem ok_Net___init__ (B : Bl mg) (L : LL K mg C za zl base) : FnOk P w K mg base CX0 1 (za 17) (zl 17) ["self", "many"] (spNetI C) := by
  refine L.F_Net___init__.ok sc_Net___init__ (fun vs H Q E h => ?_) (fun cdv A outer s H vs Q E hr h => ?_)
  · obtain ⟨x, dx, m, rfl, _⟩ := h
    rfl
  obtain ⟨x, dx, m, rfl, hx, hm, q⟩ := h
  refine ⟨_, (pss_cons (ps_fld (pv 0) (pv 1) rfl)
    (pss_cons (ps_fld (pv 0) (pe_lst pa_nil) rfl)
    (pss_cons (ps_fld (pv 0) (pe_op op_rep (pe_lst (pa_cons pe_int pa_nil)) (pv 1)) rfl)
    (pss_one (ps_fld (pv 0) pe_dnewK rfl))))), ?_⟩
  refine ⟨_, rfl, _, rfl, x, C, dx, _, rfl, hx, L.T.cl, L.T.n_input_count, (by show 0 < 1000; decide), ?_⟩
  have a1 : (upd H x (.ins C dx (putF "input_count" (.int (m : Int)) []))) x = some (.ins C dx [("input_count", .int (m : Int))]) := upd_same
  have f1 : ∀ y o, H y = some o → y ≠ x → (upd H x (.ins C dx (putF "input_count" (.int (m : Int)) []))) y = some o := fun y o e n => by rw [upd_ne n]; exact e
  generalize upd H x (.ins C dx (putF "input_count" (.int (m : Int)) [])) = H1 at *
  refine ⟨Nat.zero_le _, fun lm nlm => ?_⟩
  have n1 : x ≠ lm := ne_of_none a1 nlm
  refine ⟨_, rfl, x, C, dx, _, rfl, by rw [upd_ne n1]; exact a1, L.T.cl, L.T.n_made, (by show 1 < 1000; decide), ?_⟩
  have a2 : (upd (upd H1 lm (.lst [])) x (.ins C dx (putF "made" (.ref lm) [("input_count", .int (m : Int))]))) x = some (.ins C dx [("input_count", .int (m : Int)), ("made", .ref lm)]) := upd_same
  have b2 : (upd (upd H1 lm (.lst [])) x (.ins C dx (putF "made" (.ref lm) [("input_count", .int (m : Int))]))) lm = some (.lst []) := by rw [upd_ne n1.symm, upd_same]
  have f2 : ∀ y o, H1 y = some o → y ≠ x → (upd (upd H1 lm (.lst [])) x (.ins C dx (putF "made" (.ref lm) [("input_count", .int (m : Int))]))) y = some o := fun y o e n => by rw [upd_ne n, upd_ne (ne_of_none e nlm)]; exact e
  generalize upd (upd H1 lm (.lst [])) x (.ins C dx (putF "made" (.ref lm) [("input_count", .int (m : Int))])) = H2 at *
  refine ⟨(by show 1 ≤ sizeLine; decide), fun z nz => ?_⟩
  refine ⟨_, rfl, z, (m : Int), _, rfl, rfl, upd_same, by omega, by omega, (by show 1 * ((m : Int)).toNat ≤ _; rw [Int.toNat_natCast, Nat.one_mul]; exact Nat.le_trans hm (by decide)), fun ld nld => ?_⟩
  have e0 : (List.replicate ((m : Int)).toNat [V.int 0]).flatten = (dps m []).map V.int := by
    rw [Int.toNat_natCast]
    show _ = (List.replicate m 0).map V.int
    rw [List.map_replicate]
    exact flat_rep m _
  rw [e0]
  have z1 := ne_of_none a2 nz
  have z2 := ne_of_none b2 nz
  have sz := same_upd (o := .lst [V.int 0]) nz
  have sd := same_upd (o := .lst ((dps m []).map V.int)) nld
  have l1 := ne_of_none (sz _ _ a2) nld
  have l2 := ne_of_none (sz _ _ b2) nld
  refine ⟨_, rfl, x, C, dx, _, rfl, sd _ _ (sz _ _ a2), L.T.cl, L.T.n_depths, (by show 2 < 1000; decide), ?_⟩
  have sA := sz.trans sd
  have b3 := sd _ _ (sz _ _ b2)
  have d3 : (upd (upd H2 z (.lst [V.int 0])) ld (.lst ((dps m []).map V.int))) ld = some (.lst ((dps m []).map V.int)) := upd_same
  generalize upd (upd H2 z (.lst [V.int 0])) ld (.lst ((dps m []).map V.int)) = H3 at *
  have a4 : (upd H3 x (.ins C dx (putF "depths" (.ref ld) [("input_count", .int (m : Int)), ("made", .ref lm)]))) x = some (.ins C dx [("input_count", .int (m : Int)), ("made", .ref lm), ("depths", .ref ld)]) := upd_same
  have f4 : ∀ y o, H3 y = some o → y ≠ x → (upd H3 x (.ins C dx (putF "depths" (.ref ld) [("input_count", .int (m : Int)), ("made", .ref lm)]))) y = some o := fun y o e n => by rw [upd_ne n]; exact e
  have b4 := f4 _ _ b3 n1.symm
  have d4 := f4 _ _ d3 l1.symm
  generalize upd H3 x (.ins C dx (putF "depths" (.ref ld) [("input_count", .int (m : Int)), ("made", .ref lm)])) = H4 at *
  refine fun dn ndn => ?_
  have a5 := ne_of_none a4 ndn
  have b5 := ne_of_none b4 ndn
  have d5 := ne_of_none d4 ndn
  have s5 := same_upd (o := .dK []) ndn
  refine ⟨_, rfl, x, C, dx, _, rfl, s5 _ _ a4, L.T.cl, L.T.n_by_name, (by show 3 < 1000; decide), ?_⟩
  have nn : ∀ (y : Addr), (∀ o, H y = some o → y ≠ x → False) → y ≠ x → H y = none := fun y h n => by
    cases e : H y with
    | none => rfl
    | some o => exact (h o e n).elim
  refine q ⟨x, lm, ld, dn⟩ _ rfl (fun y o e n => ?_) ⟨nn lm (fun o e n => by have := f1 _ _ e n; rw [nlm] at this; cases this) n1.symm, nn ld (fun o e n => by have := sz _ _ (f2 _ _ (f1 _ _ e n) n); rw [nld] at this; cases this) l1.symm, nn dn (fun o e n => by have := f4 _ _ (sA _ _ (f2 _ _ (f1 _ _ e n) n)) n; rw [ndn] at this; cases this) a5.symm⟩ (fun Z hZ => ?_)
  · rw [upd_ne n]
    exact s5 _ _ (f4 _ _ (sA _ _ (f2 _ _ (f1 _ _ e n) n)) n)
  have zz : ∀ a ∈ Z, a ≠ x ∧ a ≠ lm ∧ a ≠ ld ∧ a ≠ dn ∧ H4 a ≠ none := fun a ha => by
    obtain ⟨nx, h0⟩ := hZ a ha
    cases e : H a with
    | none => exact absurd e h0
    | some o =>
      have e1 := f1 _ _ e nx
      have e2 := f2 _ _ e1 nx
      have e4 := f4 _ _ (sA _ _ e2) nx
      exact ⟨nx, ne_of_none e1 nlm, ne_of_none (sz _ _ e2) nld, ne_of_none e4 ndn, some_ne e4⟩
  refine ⟨fun a ha => ?_, l2, ⟨fun h => (zz _ h).1 rfl, fun h => (zz _ h).2.1 rfl, fun h => (zz _ h).2.2.1 rfl, fun h => (zz _ h).2.2.2.1 rfl⟩, dx, [], [], upd_same, ?_, ?_, ?_, ⟨rfl, fun i q g h => by simp at h⟩, rfl, List.nodup_nil, fun i k v n ws h => by simp at h⟩
  · rw [upd_ne (zz a ha).1, upd_ne (zz a ha).2.2.2.1]
    exact (zz a ha).2.2.2.2
  · show (upd (upd H4 dn (.dK [])) x _) lm = _
    rw [upd_ne n1.symm]
    exact s5 _ _ b4
  · show (upd (upd H4 dn (.dK [])) x _) ld = _
    rw [upd_ne l1.symm]
    exact s5 _ _ d4
  · show (upd (upd H4 dn (.dK [])) x _) dn = _
    rw [upd_ne a5.symm, upd_same]
/-! ### gates laid -/
def spNeed (K : PySem.W.Frag) (C : Addr) : Sp := fun vs H Q _ => ∃ (Z : List Addr) (p : NetP) (m : Nat) (gs : List Gt) (nm : List (Str × List Nat)) (t : Addr) (ws : List Nat), vs = [.ref p.x, .ref t] ∧ NetAt C Z H p m gs nm ∧ (SqL K H t (nts ws) ∨ SqT K H t (nts ws)) ∧ (∀ a ∈ ws, a < m + gs.length) ∧
  ∀ H', Same H H' → Q .non H'
theorem ok_Net_need (B : Bl mg) (L : LL K mg C za zl base) : FnOk P w K mg base CX0 1 (za 25) (zl 25) ["self", "wires"] (spNeed K C) := by
  refine L.F_Net_need.ok sc_Net_need (fun vs H Q E h => ?_) (fun cdv A outer s H vs Q E hr h => ?_)
  · obtain ⟨Z, p, m, gs, nm, t, ws, rfl, _⟩ := h
    rfl
  obtain ⟨Z, p, m, gs, nm, t, ws, rfl, hN, hT, hw, q⟩ := h
  refine ⟨_, (pss_one (ps_for PassesOwn.never rfl (pi_or (pi_list (pv 1)) (pi_tup (pv 1))) (pg_name (i := 2) sc_Net_need.nd rfl (.inl rfl)) (pss_one (ps_if (pt_not (pt_chain op_le op_lt pe_int (pv 2) (pe_callB call_len_seq (by rfl) B.len PySem.boot_len (pa_cons (pe_fld (pv 0) rfl) pa_nil)))) (pss_one ps_never) pss_nil)))), ?_⟩
  have turn : ∀ (a : Nat), a ∈ ws → ∀ (H9 : Hp) (y : Option V) (T : TS) (D : Ends), Same H H9 → D.nx [some (.ref p.x), some (.ref t), some (.int (a : Int))] H9 → True := fun _ _ _ _ _ _ _ _ => trivial
  rcases hT with hT | hT
  · refine .inl ⟨_, rfl, t, rfl, ⟨_, hT⟩, ?_⟩
    refine for_it (walk_list (K := K) (a := t) (xs := nts ws)) (fun j σ H9 => ∃ y : Option V, σ = [some (.ref p.x), some (.ref t), y] ∧ Same H H9) ⟨_, rfl, Same.refl _⟩ (fun j σ H9 _ ⟨_, _, s9⟩ => s9.seq hT) ?_ ?_
    · rintro j v σ H9 H10 hj ⟨y, rfl, s9⟩ ⟨rfl, hz⟩
      obtain ⟨a, ha, rfl⟩ := nts_at hz
      have la := hw a (List.mem_of_getElem? ha)
      obtain ⟨_, _, _, dx, ps, kvs, e1, e2, e3, _⟩ := hN.same s9
      dsimp only [gName]
      try simp only [L2.start, List.map_cons, List.map_nil, List.length_cons, List.length_nil, List.replicate_succ, List.replicate_zero, List.cons_append, List.nil_append, List.set_cons_succ, List.set_cons_zero, Nat.reduceAdd, Nat.reduceSub, Nat.zero_add]
      refine ⟨_, rfl, _, _, rfl, rfl, _, rfl, ?_⟩
      rw [if_pos (decide_eq_true (by omega))]
      refine ⟨_, rfl, p.x, C, dx, _, _, rfl, e1, L.T.cl, L.T.n_depths, rfl, ?_⟩
      refine ⟨p.ld, _, rfl, .inl (SqL.of e3), _, _, rfl, rfl, _, rfl, ?_⟩
      have lt : decide ((a : Int) < ((((dps m gs).map V.int).length : Nat) : Int)) = true := decide_eq_true (by rw [List.length_map, dps_len]; omega)
      rw [lt]
      refine iteF ?_
      exact ⟨_, rfl, s9⟩
    · rintro σ H9 ⟨y, rfl, s9⟩
      exact q _ s9
  · refine .inr ⟨_, rfl, t, rfl, ⟨_, hT⟩, ?_⟩
    refine for_it (walk_tup (K := K) (a := t) (xs := nts ws)) (fun j σ H9 => ∃ y : Option V, σ = [some (.ref p.x), some (.ref t), y] ∧ Same H H9) ⟨_, rfl, Same.refl _⟩ (fun j σ H9 _ ⟨_, _, s9⟩ => Same.seqT s9 hT) ?_ ?_
    · rintro j v σ H9 H10 hj ⟨y, rfl, s9⟩ ⟨rfl, hz⟩
      obtain ⟨a, ha, rfl⟩ := nts_at hz
      have la := hw a (List.mem_of_getElem? ha)
      obtain ⟨_, _, _, dx, ps, kvs, e1, e2, e3, _⟩ := hN.same s9
      dsimp only [gName]
      try simp only [L2.start, List.map_cons, List.map_nil, List.length_cons, List.length_nil, List.replicate_succ, List.replicate_zero, List.cons_append, List.nil_append, List.set_cons_succ, List.set_cons_zero, Nat.reduceAdd, Nat.reduceSub, Nat.zero_add]
      refine ⟨_, rfl, _, _, rfl, rfl, _, rfl, ?_⟩
      rw [if_pos (decide_eq_true (by omega))]
      refine ⟨_, rfl, p.x, C, dx, _, _, rfl, e1, L.T.cl, L.T.n_depths, rfl, ?_⟩
      refine ⟨p.ld, _, rfl, .inl (SqL.of e3), _, _, rfl, rfl, _, rfl, ?_⟩
      have lt : decide ((a : Int) < ((((dps m gs).map V.int).length : Nat) : Int)) = true := decide_eq_true (by rw [List.length_map, dps_len]; omega)
      rw [lt]
      refine iteF ?_
      exact ⟨_, rfl, s9⟩
    · rintro σ H9 ⟨y, rfl, s9⟩
      exact q _ s9
theorem refs_inj : ∀ {as bs : List Addr}, as.map V.ref = bs.map V.ref → as = bs
  | [], [], _ => rfl
  | [], b :: bs, h => by simp at h
  | a :: as, [], h => by simp at h
  | a :: as, b :: bs, h => by
    rw [List.map_cons, List.map_cons] at h
    injection h with h1 h2
    rw [V.ref.inj h1, refs_inj h2]
theorem NetAt.laid {C : Addr} {Z : List Addr} {H : Hp} {p : NetP} {m : Nat} {gs : List Gt} {nm : List (Str × List Nat)} {q : Addr} {g : Gt} {ps : List Addr}
    (h : NetAt C Z H p m gs nm) (eq : H q = some (.tup g.row)) (nq : q ∉ Z) (em : H p.lm = some (.lst (ps.map V.ref))) :
    NetAt C Z (upd (upd H p.lm (.lst (ps.map V.ref ++ [.ref q]))) p.ld (.lst ((dps m gs).map V.int ++ [.int (dep (dps m gs) g)]))) p m (gs ++ [g]) nm := by
  obtain ⟨a, b, ⟨c1, c2, c3, c4⟩, dx, ps', kvs, e1, e2, e3, e4, ⟨g1, g2⟩, n1, n2, n3⟩ := h
  have hps : ps' = ps := by
    rw [e2] at em
    have := HO.lst.inj (Option.some.inj em)
    exact refs_inj this
  subst hps
  have f : ∀ {y : Addr} {o : HO}, H y = some o → y ≠ p.lm → y ≠ p.ld → (upd (upd H p.lm (.lst (ps'.map V.ref ++ [.ref q]))) p.ld (.lst ((dps m gs).map V.int ++ [.int (dep (dps m gs) g)]))) y = some o := fun e x1 x2 => by
    rw [upd_ne x2, upd_ne x1]
    exact e
  have tn : ∀ {y : Addr} {xs : List V}, H y = some (.tup xs) → y ≠ p.lm ∧ y ≠ p.ld := fun e => ⟨(fun z => by rw [z, e2] at e; cases e), (fun z => by rw [z, e3] at e; cases e)⟩
  refine ⟨fun z hz => ?_, b, ⟨c1, c2, c3, c4⟩, dx, ps' ++ [q], kvs, f e1 (fun z => by rw [z, e2] at e1; cases e1) (fun z => by rw [z, e3] at e1; cases e1), ?_, ?_, f e4 (fun z => by rw [z, e2] at e4; cases e4) (fun z => by rw [z, e3] at e4; cases e4), ⟨?_, fun i r g' hi hg => ?_⟩, n1, n2, fun i k v n ws hi hn => ?_⟩
  · have z1 : z ≠ p.lm := fun y => c2 (y ▸ hz)
    have z2 : z ≠ p.ld := fun y => c3 (y ▸ hz)
    rw [upd_ne z2, upd_ne z1]
    exact a z hz
  · rw [upd_ne b, upd_same, List.map_append]
    rfl
  · rw [upd_same, dps_snoc, List.map_append]
    rfl
  · rw [List.length_append, List.length_append, g1]
    rfl
  · by_cases c : i < ps'.length
    · rw [List.getElem?_append_left c] at hi
      rw [List.getElem?_append_left (by omega)] at hg
      have := g2 i r g' hi hg
      exact ⟨this.1, f this.2 (tn this.2).1 (tn this.2).2⟩
    · have i0 : i = ps'.length := by
        have := (List.getElem?_eq_some_iff.mp hi).1
        rw [List.length_append, List.length_cons, List.length_nil] at this
        omega
      rw [List.getElem?_append_right (by omega), i0, Nat.sub_self] at hi
      rw [List.getElem?_append_right (by omega), i0, g1, Nat.sub_self] at hg
      cases hi
      cases hg
      exact ⟨nq, f eq (tn eq).1 (tn eq).2⟩
  · obtain ⟨ek, l, ev, l1, l2, l3, l4⟩ := n3 i k v n ws hi hn
    exact ⟨ek, l, ev, l1, l2, l3, f l4 l2 l3⟩
def spPutG (C : Addr) : Sp := fun vs H Q _ => ∃ (Z : List Addr) (p : NetP) (m : Nat) (gs : List Gt) (nm : List (Str × List Nat)) (q : Addr) (g : Gt), vs = [.ref p.x, .ref q, .int (dep (dps m gs) g)] ∧ NetAt C Z H p m gs nm ∧ H q = some (.tup g.row) ∧ q ∉ Z ∧ m + gs.length ≤ 500000 ∧
  ∀ H', KeepS [p.lm, p.ld] H H' → NetAt C Z H' p m (gs ++ [g]) nm → Q (.int ((m + gs.length : Nat) : Int)) H'
theorem ok_Net_put_gate (B : Bl mg) (L : LL K mg C za zl base) : FnOk P w K mg base CX0 1 (za 24) (zl 24) ["self", "gate", "depth"] (spPutG C) := by
  refine L.F_Net_put_gate.ok sc_Net_put_gate (fun vs H Q E h => ?_) (fun cdv A outer s H vs Q E hr h => ?_)
  · obtain ⟨Z, p, m, gs, nm, q, g, rfl, _⟩ := h
    rfl
  obtain ⟨Z, p, m, gs, nm, a, g, rfl, hN, ea, na, hl, q⟩ := h
  refine ⟨_, (pss_cons (ps_expr (pe_bm PySem.F.plainAttrs_list PySem.F.slot_list_append PySem.F.type_list_append mt_append (pe_fld (pv 0) rfl) (pa_cons (pv 1) pa_nil)))
    (pss_cons (ps_expr (pe_bm PySem.F.plainAttrs_list PySem.F.slot_list_append PySem.F.type_list_append mt_append (pe_fld (pv 0) rfl) (pa_cons (pv 2) pa_nil)))
    (pss_one (ps_ret (pe_op op_sub (pe_callB call_len_seq (by rfl) B.len PySem.boot_len (pa_cons (pe_fld (pv 0) rfl) pa_nil)) pe_int))))), ?_⟩
  obtain ⟨hz, b, _, dx, ps, kvs, e1, e2, e3, e4, g0⟩ := id hN
  have lps : ps.length = gs.length := g0.1.1
  have nx : p.x ≠ p.lm := fun z => by rw [z, e2] at e1; cases e1
  have nx' : p.x ≠ p.ld := fun z => by rw [z, e3] at e1; cases e1
  refine ⟨_, rfl, p.x, C, dx, _, _, rfl, e1, L.T.cl, L.T.n_made, rfl, .inl ⟨rfl, _, SqL.of e2⟩, _, rfl, p.lm, _, _, rfl, rfl, e2, by rw [List.length_map]; exact Nat.lt_of_le_of_lt (by omega) (show 500000 < sizeLine by decide), ?_⟩
  have f1 : (upd H p.lm (.lst (ps.map V.ref ++ [.ref a]))) p.x = _ := (upd_ne nx).trans e1
  have f3 : (upd H p.lm (.lst (ps.map V.ref ++ [.ref a]))) p.ld = _ := (upd_ne b.symm).trans e3
  refine ⟨_, rfl, p.x, C, dx, _, _, rfl, f1, L.T.cl, L.T.n_depths, rfl, .inl ⟨rfl, _, SqL.of f3⟩, _, rfl, p.ld, _, _, rfl, rfl, f3, by rw [List.length_map, dps_len]; exact Nat.lt_of_le_of_lt (by omega) (show 500000 < sizeLine by decide), ?_⟩
  have f1' : (upd (upd H p.lm (.lst (ps.map V.ref ++ [.ref a]))) p.ld (.lst ((dps m gs).map V.int ++ [.int (dep (dps m gs) g)]))) p.x = _ := (upd_ne nx').trans f1
  refine ⟨_, rfl, p.x, C, dx, _, _, rfl, f1', L.T.cl, L.T.n_depths, rfl, ?_⟩
  refine ⟨p.ld, _, rfl, .inl (SqL.of upd_same), _, _, rfl, rfl, ?_⟩
  have w := q _ ⟨fun y o e n => ?_, fun y e => ?_⟩ (hN.laid ea na e2)
  · have ev : (((((dps m gs).map V.int ++ [V.int (dep (dps m gs) g)]).length : Nat) : Int) - 1) = ((m + gs.length : Nat) : Int) := by
      rw [List.length_append, List.length_map, dps_len, List.length_cons, List.length_nil]
      omega
    rw [← ev] at w
    exact w
  · simp only [List.mem_cons, List.not_mem_nil, or_false, not_or] at n
    rw [upd_ne n.2, upd_ne n.1]
    exact e
  · exact ((KeepS.upd (S := [p.lm]) (by simp)).2 y e) |> fun h => (KeepS.upd (S := [p.ld]) (by simp)).2 y h
def spFixed (C : Addr) : Sp := fun vs H Q _ => ∃ (Z : List Addr) (p : NetP) (m : Nat) (gs : List Gt) (nm : List (Str × List Nat)) (b : Nat), vs = [.ref p.x, .int (b : Int)] ∧ NetAt C Z H p m gs nm ∧ m + gs.length ≤ 500000 ∧
  ∀ H', KeepS [p.lm, p.ld] H H' → NetAt C Z H' p m (gs ++ [.fi b]) nm → Q (.int ((m + gs.length : Nat) : Int)) H'
theorem ok_Net_fixed (B : Bl mg) (L : LL K mg C za zl base) : FnOk P w K mg base CX0 2 (za 22) (zl 22) ["self", "bit"] (spFixed C) := by
  have G_Net_put_gate : FnOk P w K mg base CX0 1 (za 24) (zl 24) ["self", "gate", "depth"] (spPutG C) := (ok_Net_put_gate B L).mono (by decide)
  refine L.F_Net_fixed.ok sc_Net_fixed (fun vs H Q E h => ?_) (fun cdv A outer s H vs Q E hr h => ?_)
  · obtain ⟨Z, p, m, gs, nm, b, rfl, _⟩ := h
    rfl
  obtain ⟨Z, p, m, gs, nm, b, rfl, hN, hl, q⟩ := h
  refine ⟨_, (pss_one (ps_ret (pe_meth (pv 0) L.T.cl L.M_Net_put_gate G_Net_put_gate hr L.b_Net_put_gate .nil pass0 (pa_cons (pe_tup (pa_cons pe_str (pa_cons (pv 1) pa_nil))) (pa_cons pe_int pa_nil))))), ?_⟩
  obtain ⟨hz, _, _, dx, _, _, e1, _⟩ := id hN
  refine ⟨_, rfl, p.x, dx, _, rfl, e1, rfl, _, rfl, (by show 2 ≤ sizeLine; decide), fun a na => ?_⟩
  have sa := same_upd (o := .tup (Gt.fi b).row) na
  refine ⟨Z, p, m, gs, nm, a, .fi b, rfl, hN.same sa, upd_same, fun z => hz a z na, hl, fun H' k N' => q H' (.trans (.ofSame sa) k) N'⟩
def spPut (K : PySem.W.Frag) (C : Addr) : Sp := fun vs H Q _ => ∃ (Z : List Addr) (p : NetP) (m : Nat) (gs : List Gt) (nm : List (Str × List Nat)) (k : Str) (t : Addr) (ws : List Nat), vs = [.ref p.x, .str k, .ref t] ∧ NetAt C Z H p m gs nm ∧ SqT K H t (nts ws) ∧ ws ≠ [] ∧ ws.length ≤ 2 ∧ (∀ a ∈ ws, a < m + gs.length) ∧ m + gs.length ≤ 500000 ∧
  ∀ H', KeepS [p.lm, p.ld] H H' → NetAt C Z H' p m (gs ++ [.w k ws]) nm → Q (.int ((m + gs.length : Nat) : Int)) H'
theorem ok_Net_put (B : Bl mg) (L : LL K mg C za zl base) : FnOk P w K mg base CX0 3 (za 23) (zl 23) ["self", "kind", "wires"] (spPut K C) := by
  have G_Net_put_gate : FnOk P w K mg base CX0 2 (za 24) (zl 24) ["self", "gate", "depth"] (spPutG C) := (ok_Net_put_gate B L).mono (by decide)
  have G_Net_need : FnOk P w K mg base CX0 2 (za 25) (zl 25) ["self", "wires"] (spNeed K C) := (ok_Net_need B L).mono (by decide)
  refine L.F_Net_put.ok sc_Net_put (fun vs H Q E h => ?_) (fun cdv A outer s H vs Q E hr h => ?_)
  · obtain ⟨Z, p, m, gs, nm, k, t, ws, rfl, _⟩ := h
    rfl
  obtain ⟨Z, p, m, gs, nm, k, t, ws, rfl, hN, hT, w0, w2, hw, hl, q⟩ := h
  refine ⟨_, (pss_cons (ps_expr (pe_meth (pv 0) L.T.cl L.M_Net_need G_Net_need hr L.b_Net_need .nil pass0 (pa_cons (pv 2) pa_nil)))
    (pss_cons (ps_set (i := 3) sc_Net_put.nd rfl (.inl rfl) (pe_op op_add pe_int (pe_callB (cr_max rfl) (by rfl) B.max boot_max (pa_cons (pe_lc (own := [("wire", 4)]) (by rfl) sc_Net_put.nd (pi_tup (pv 2)) (blkOk_by (own := [("wire", 4)]) (N := ["self", "kind", "wires", "depth", "wire"]) (sc := defScope s_Net_put) (by decide +kernel)) (fun _ _ _ _ _ => pg_name (i := 4) sc_Net_put.nd rfl (Or.inl rfl)) (fun _ _ _ _ _ => pts_nil) (fun _ _ _ _ _ => (pe_ix (ix_listK (K := K)) (pe_fldK (K := K) (pv 0) rfl) (pv 4) (fun _ _ => rfl)))) pa_nil))))
    (pss_one (ps_ret (pe_meth (pv 0) L.T.cl L.M_Net_put_gate G_Net_put_gate hr L.b_Net_put_gate .nil pass0 (pa_cons (pe_tup (pa_cons (pv 1) (StX.pa_star (pv 2) pa_nil))) (pa_cons (pv 3) pa_nil))))))), ?_⟩
  obtain ⟨hz, _, _, dx, _, _, e1, _⟩ := id hN
  refine ⟨_, rfl, p.x, dx, _, rfl, e1, rfl, _, rfl, Z, p, m, gs, nm, t, ws, rfl, hN, .inr hT, hw, fun H1 s1 => ?_⟩
  have N1 := hN.same s1
  obtain ⟨_, _, _, _, ps, kvs, f1, f2, f3, _⟩ := id N1
  have hT1 := Same.seqT s1 hT
  refine ⟨_, rfl, t, rfl, ⟨_, hT1⟩, fun D nD => ?_⟩
  refine lc_it (walk_tup (K := K) (a := t) (xs := nts ws)) (fun i H9 => Same H1 H9 ∧ H9 D = some (.lst ((ws.take i).map fun a => V.int ((dps m gs).getD a 0)))) ⟨same_upd nD, upd_same⟩ (fun i H9 _ ⟨s9, _⟩ => Same.seqT s9 hT1) ?_ ?_
  · rintro j z H9 H10 hj ⟨s9, eD⟩ ⟨rfl, hz⟩
    obtain ⟨a, ha, rfl⟩ := nts_at hz
    have la := hw a (List.mem_of_getElem? ha)
    refine ⟨rfl, yesT ?_⟩
    have e1' := s9 _ _ f1
    have e3' := s9 _ _ f3
    have hat : atI ((dps m gs).map V.int) (a : Int) = some (.int ((dps m gs).getD a 0)) := atI_nat (by
      rw [List.getElem?_map, List.getElem?_eq_getElem (by rw [dps_len]; exact la)]
      simp [List.getD, List.getElem?_eq_getElem (show a < (dps m gs).length by rw [dps_len]; exact la)])
    refine ⟨_, rfl, p.x, C, _, _, _, rfl, e1', L.T.cl, L.T.n_depths, rfl, _, rfl, p.ld, _, _, _, rfl, rfl, SqL.of e3', hat, ?_⟩
    refine ⟨_, eD, ?_, fun y u e => ?_, ?_⟩
    · rw [List.length_map, List.length_take]
      exact Nat.lt_of_le_of_lt (Nat.min_le_right _ _) (small1000 (by omega))
    · rw [upd_ne (ne_of_none e nD)]
      exact s9 _ _ e
    · rw [upd_same, List.take_add_one, ha, List.map_append]
      rfl
  rintro H2 ⟨s2, eD⟩
  rw [nts_len, List.take_length] at eD
  have mx1 : ∀ y ∈ ws.map (fun a => (dps m gs).getD a 0), 0 ≤ y := fun y hy => by
    obtain ⟨a, ha, rfl⟩ := List.mem_map.mp hy
    have la := hw a ha
    have := dps_nn m gs ((dps m gs)[a]'(by rw [dps_len]; exact la)) (List.getElem_mem _)
    simp only [List.getD, List.getElem?_eq_getElem (show a < (dps m gs).length by rw [dps_len]; exact la), Option.getD_some]
    exact this
  refine ⟨D, ws.map (fun a => (dps m gs).getD a 0), rfl, SqL.of (by rw [List.map_map]; exact eD), by rw [List.length_map]; exact List.length_pos_iff.mpr w0, fun M hM hL => ?_⟩
  have eM := mx_is hM hL mx1
  refine ⟨_, _, rfl, rfl, ?_⟩
  try simp only [L2.start, List.map_cons, List.map_nil, List.length_cons, List.length_nil, List.replicate_succ, List.replicate_zero, List.cons_append, List.nil_append, List.set_cons_succ, List.set_cons_zero, Nat.reduceAdd, Nat.reduceSub, Nat.zero_add]
  have e1' := s2 _ _ f1
  have hT2 := Same.seqT s2 hT1
  refine ⟨_, rfl, p.x, _, _, rfl, e1', rfl, ?_⟩
  try simp only [L2.start, List.map_cons, List.map_nil, List.length_cons, List.length_nil, List.replicate_succ, List.replicate_zero, List.cons_append, List.nil_append, List.set_cons_succ, List.set_cons_zero, Nat.reduceAdd, Nat.reduceSub, Nat.zero_add]
  refine ⟨_, rfl, _, rfl, t, _, rfl, .inl hT2, ?_⟩
  dsimp only [tNil]
  rw [List.append_nil]
  refine ⟨by rw [List.length_cons, nts_len]; exact Nat.le_trans (show ws.length + 1 ≤ 3 by omega) (by decide), fun g ng => ?_⟩
  have sg := same_upd (o := .tup (Gt.w k ws).row) ng
  have ed : (1 + M : Int) = dep (dps m gs) (.w k ws) := by
    show _ = 1 + mx _
    rw [eM]
  have N2 := (N1.same s2).same sg
  refine ⟨_, rfl, Z, p, m, gs, nm, g, .w k ws, by rw [ed]; rfl, N2, upd_same, fun z => N1.1 g z (by
    cases e : H1 g with
    | none => rfl
    | some o =>
      rw [s2 _ _ e] at ng
      cases ng), hl, fun H' k' N' => q H' (.trans (.ofSame ((s1.trans s2).trans sg)) k') N'⟩
def spG2 (C : Addr) (k : Str) : Sp := fun vs H Q _ => ∃ (Z : List Addr) (p : NetP) (m : Nat) (gs : List Gt) (nm : List (Str × List Nat)) (a b : Nat), vs = [.ref p.x, .int (a : Int), .int (b : Int)] ∧ NetAt C Z H p m gs nm ∧ a < m + gs.length ∧ b < m + gs.length ∧ m + gs.length ≤ 500000 ∧
  ∀ H', KeepS [p.lm, p.ld] H H' → NetAt C Z H' p m (gs ++ [.w k [a, b]]) nm → Q (.int ((m + gs.length : Nat) : Int)) H'
theorem ok_Net_both (B : Bl mg) (L : LL K mg C za zl base) : FnOk P w K mg base CX0 4 (za 18) (zl 18) ["self", "a", "b"] (spG2 C "both") := by
  have G_Net_put : FnOk P w K mg base CX0 3 (za 23) (zl 23) ["self", "kind", "wires"] (spPut K C) := (ok_Net_put B L).mono (by decide)
  refine L.F_Net_both.ok sc_Net_both (fun vs H Q E h => ?_) (fun cdv A outer s H vs Q E hr h => ?_)
  · obtain ⟨Z, p, m, gs, nm, a, b, rfl, _⟩ := h
    rfl
  obtain ⟨Z, p, m, gs, nm, a, b, rfl, hN, ha, hb, hl, q⟩ := h
  refine ⟨_, (pss_one (ps_ret (pe_meth (pv 0) L.T.cl L.M_Net_put G_Net_put hr L.b_Net_put .nil pass0 (pa_cons pe_str (pa_cons (pe_tup (pa_cons (pv 1) (pa_cons (pv 2) pa_nil))) pa_nil))))), ?_⟩
  obtain ⟨hz, _, _, dx, _, _, e1, _⟩ := id hN
  refine ⟨_, rfl, p.x, dx, _, rfl, e1, rfl, _, rfl, _, rfl, (by show 2 ≤ sizeLine; decide), fun t nt => ?_⟩
  have st := same_upd (o := .tup [.int (a : Int), .int (b : Int)]) nt
  refine ⟨Z, p, m, gs, nm, "both", t, [a, b], rfl, hN.same st, .inl (.inl upd_same), (fun z => nomatch z), (Nat.le_of_ble_eq_true rfl), fun x hx => ?_, hl, fun H' k N' => q H' (.trans (.ofSame st) k) N'⟩
  simp only [List.mem_cons, List.not_mem_nil, or_false] at hx
  rcases hx with z | z <;> rw [z] <;> assumption
theorem ok_Net_either (B : Bl mg) (L : LL K mg C za zl base) : FnOk P w K mg base CX0 4 (za 19) (zl 19) ["self", "a", "b"] (spG2 C "either") := by
  have G_Net_put : FnOk P w K mg base CX0 3 (za 23) (zl 23) ["self", "kind", "wires"] (spPut K C) := (ok_Net_put B L).mono (by decide)
  refine L.F_Net_either.ok sc_Net_either (fun vs H Q E h => ?_) (fun cdv A outer s H vs Q E hr h => ?_)
  · obtain ⟨Z, p, m, gs, nm, a, b, rfl, _⟩ := h
    rfl
  obtain ⟨Z, p, m, gs, nm, a, b, rfl, hN, ha, hb, hl, q⟩ := h
  refine ⟨_, (pss_one (ps_ret (pe_meth (pv 0) L.T.cl L.M_Net_put G_Net_put hr L.b_Net_put .nil pass0 (pa_cons pe_str (pa_cons (pe_tup (pa_cons (pv 1) (pa_cons (pv 2) pa_nil))) pa_nil))))), ?_⟩
  obtain ⟨hz, _, _, dx, _, _, e1, _⟩ := id hN
  refine ⟨_, rfl, p.x, dx, _, rfl, e1, rfl, _, rfl, _, rfl, (by show 2 ≤ sizeLine; decide), fun t nt => ?_⟩
  have st := same_upd (o := .tup [.int (a : Int), .int (b : Int)]) nt
  refine ⟨Z, p, m, gs, nm, "either", t, [a, b], rfl, hN.same st, .inl (.inl upd_same), (fun z => nomatch z), (Nat.le_of_ble_eq_true rfl), fun x hx => ?_, hl, fun H' k N' => q H' (.trans (.ofSame st) k) N'⟩
  simp only [List.mem_cons, List.not_mem_nil, or_false] at hx
  rcases hx with z | z <;> rw [z] <;> assumption
theorem ok_Net_unlike (B : Bl mg) (L : LL K mg C za zl base) : FnOk P w K mg base CX0 4 (za 20) (zl 20) ["self", "a", "b"] (spG2 C "unlike") := by
  have G_Net_put : FnOk P w K mg base CX0 3 (za 23) (zl 23) ["self", "kind", "wires"] (spPut K C) := (ok_Net_put B L).mono (by decide)
  refine L.F_Net_unlike.ok sc_Net_unlike (fun vs H Q E h => ?_) (fun cdv A outer s H vs Q E hr h => ?_)
  · obtain ⟨Z, p, m, gs, nm, a, b, rfl, _⟩ := h
    rfl
  obtain ⟨Z, p, m, gs, nm, a, b, rfl, hN, ha, hb, hl, q⟩ := h
  refine ⟨_, (pss_one (ps_ret (pe_meth (pv 0) L.T.cl L.M_Net_put G_Net_put hr L.b_Net_put .nil pass0 (pa_cons pe_str (pa_cons (pe_tup (pa_cons (pv 1) (pa_cons (pv 2) pa_nil))) pa_nil))))), ?_⟩
  obtain ⟨hz, _, _, dx, _, _, e1, _⟩ := id hN
  refine ⟨_, rfl, p.x, dx, _, rfl, e1, rfl, _, rfl, _, rfl, (by show 2 ≤ sizeLine; decide), fun t nt => ?_⟩
  have st := same_upd (o := .tup [.int (a : Int), .int (b : Int)]) nt
  refine ⟨Z, p, m, gs, nm, "unlike", t, [a, b], rfl, hN.same st, .inl (.inl upd_same), (fun z => nomatch z), (Nat.le_of_ble_eq_true rfl), fun x hx => ?_, hl, fun H' k N' => q H' (.trans (.ofSame st) k) N'⟩
  simp only [List.mem_cons, List.not_mem_nil, or_false] at hx
  rcases hx with z | z <;> rw [z] <;> assumption
def spG1 (C : Addr) : Sp := fun vs H Q _ => ∃ (Z : List Addr) (p : NetP) (m : Nat) (gs : List Gt) (nm : List (Str × List Nat)) (a : Nat), vs = [.ref p.x, .int (a : Int)] ∧ NetAt C Z H p m gs nm ∧ a < m + gs.length ∧ m + gs.length ≤ 500000 ∧
  ∀ H', KeepS [p.lm, p.ld] H H' → NetAt C Z H' p m (gs ++ [.w "other" [a]]) nm → Q (.int ((m + gs.length : Nat) : Int)) H'
theorem ok_Net_other (B : Bl mg) (L : LL K mg C za zl base) : FnOk P w K mg base CX0 4 (za 21) (zl 21) ["self", "a"] (spG1 C) := by
  have G_Net_put : FnOk P w K mg base CX0 3 (za 23) (zl 23) ["self", "kind", "wires"] (spPut K C) := (ok_Net_put B L).mono (by decide)
  refine L.F_Net_other.ok sc_Net_other (fun vs H Q E h => ?_) (fun cdv A outer s H vs Q E hr h => ?_)
  · obtain ⟨Z, p, m, gs, nm, a, rfl, _⟩ := h
    rfl
  obtain ⟨Z, p, m, gs, nm, a, rfl, hN, ha, hl, q⟩ := h
  refine ⟨_, (pss_one (ps_ret (pe_meth (pv 0) L.T.cl L.M_Net_put G_Net_put hr L.b_Net_put .nil pass0 (pa_cons pe_str (pa_cons (pe_tup (pa_cons (pv 1) pa_nil)) pa_nil))))), ?_⟩
  obtain ⟨hz, _, _, dx, _, _, e1, _⟩ := id hN
  refine ⟨_, rfl, p.x, dx, _, rfl, e1, rfl, _, rfl, (by show 1 ≤ sizeLine; decide), fun t nt => ?_⟩
  have st := same_upd (o := .tup [.int (a : Int)]) nt
  refine ⟨Z, p, m, gs, nm, "other", t, [a], rfl, hN.same st, .inl (.inl upd_same), (fun z => nomatch z), (Nat.le_of_ble_eq_true rfl), fun x hx => ?_, hl, fun H' k N' => q H' (.trans (.ofSame st) k) N'⟩
  rw [List.mem_singleton.mp hx]
  exact ha
end
section
variable {P : Program} {w : World} {K : PySem.W.Frag} {mg : Str → Option Value} {base : Heap}
variable {C : Addr} {za : Nat → Addr} {zl : Nat → FuncData}
/-! ### names of a net -/
theorem NmAt.keys {Z : List Addr} {H : Hp} {p : NetP} {kvs : List (Key × V)} {nm : List (Str × List Nat)} (h : NmAt Z H p kvs nm) : kvs.map (·.1) = nm.map fun x => (Sum.inr x.1 : Key) := by
  obtain ⟨h1, h2, h3⟩ := h
  refine List.ext_getElem? fun i => ?_
  rw [List.getElem?_map, List.getElem?_map]
  by_cases c : i < kvs.length
  · have c' : i < nm.length := by omega
    rw [List.getElem?_eq_getElem c, List.getElem?_eq_getElem c']
    have := (h3 i kvs[i].1 kvs[i].2 nm[i].1 nm[i].2 (List.getElem?_eq_getElem c) (List.getElem?_eq_getElem c')).1
    show some kvs[i].1 = some _
    rw [this]
  · rw [List.getElem?_eq_none (by omega), List.getElem?_eq_none (by omega)]
    rfl
theorem valV_out {kvs : List (Key × V)} {k : Key} (h : k ∉ kvs.map (·.1)) : valV kvs k = none := by
  have e := valV_any k kvs
  cases q : valV kvs k with
  | none => rfl
  | some v =>
    rw [q] at e
    obtain ⟨x, hx, hd⟩ := List.any_eq_true.mp e
    exact absurd (List.mem_map.mpr ⟨x, hx, of_decide_eq_true hd⟩) h
theorem valV_at : ∀ {kvs : List (Key × V)} {i : Nat} {k : Key} {v : V}, (kvs.map (·.1)).Nodup → kvs[i]? = some (k, v) → valV kvs k = some v
  | [], i, k, v, _, h => by simp at h
  | q :: kvs, 0, k, v, _, h => by
    cases Option.some.inj h
    exact valV_pos rfl
  | q :: kvs, i + 1, k, v, hn, h => by
    rw [List.map_cons, List.nodup_cons] at hn
    have h' : kvs[i]? = some (k, v) := h
    have : k ∈ kvs.map (·.1) := List.mem_map.mpr ⟨_, List.mem_of_getElem? h', rfl⟩
    rw [valV_neg (fun z => hn.1 (z ▸ this))]
    exact valV_at hn.2 h'
theorem NmAt.nodup {Z : List Addr} {H : Hp} {p : NetP} {kvs : List (Key × V)} {nm : List (Str × List Nat)} (h : NmAt Z H p kvs nm) : (kvs.map (·.1)).Nodup := by
  rw [h.keys]
  have := h.2.1
  rw [show (nm.map fun x => (Sum.inr x.1 : Key)) = (nm.map (·.1)).map Sum.inr from by rw [List.map_map]; rfl]
  exact List.Pairwise.map _ (fun a b n z => n (Sum.inr.inj z)) this
theorem NmAt.out {Z : List Addr} {H : Hp} {p : NetP} {kvs : List (Key × V)} {nm : List (Str × List Nat)} {n : Str} (h : NmAt Z H p kvs nm) (hn : n ∉ nm.map (·.1)) : valV kvs (.inr n) = none := by
  refine valV_out ?_
  rw [h.keys]
  intro z
  obtain ⟨x, hx, e⟩ := List.mem_map.mp z
  exact hn (List.mem_map.mpr ⟨x, hx, Sum.inr.inj e⟩)
theorem NmAt.in_ {Z : List Addr} {H : Hp} {p : NetP} {kvs : List (Key × V)} {nm : List (Str × List Nat)} {i : Nat} {n : Str} {ws : List Nat} (h : NmAt Z H p kvs nm) (hn : nm[i]? = some (n, ws)) : ∃ l, valV kvs (.inr n) = some (.ref l) ∧ H l = some (.lst (nts ws)) := by
  have c : i < kvs.length := by
    have := (List.getElem?_eq_some_iff.mp hn).1
    rw [h.1]
    exact this
  obtain ⟨ek, l, ev, _, _, _, el⟩ := h.2.2 i kvs[i].1 kvs[i].2 n ws (List.getElem?_eq_getElem c) hn
  refine ⟨l, ?_, el⟩
  rw [← ev, ← ek]
  exact valV_at h.nodup (List.getElem?_eq_getElem c)
def spGive (K : PySem.W.Frag) (C : Addr) : Sp := fun vs H Q _ => ∃ (Z : List Addr) (p : NetP) (m : Nat) (gs : List Gt) (nm : List (Str × List Nat)) (n : Str) (t : Addr) (ws : List Nat), vs = [.ref p.x, .str n, .ref t] ∧ NetAt C Z H p m gs nm ∧ n ∉ nm.map (·.1) ∧ (SqL K H t (nts ws) ∨ SqT K H t (nts ws)) ∧ (∀ a ∈ ws, a < m + gs.length) ∧ nm.length ≤ 900 ∧
  ∀ H', KeepS [p.dn] H H' → NetAt C Z H' p m gs (nm ++ [(n, ws)]) → Q .non H'
theorem ok_Net_give (B : Bl mg) (L : LL K mg C za zl base) : FnOk P w K mg base CX0 2 (za 26) (zl 26) ["self", "name", "wires"] (spGive K C) := by
  have G_Net_need : FnOk P w K mg base CX0 1 (za 25) (zl 25) ["self", "wires"] (spNeed K C) := (ok_Net_need B L).mono (by decide)
  refine L.F_Net_give.ok sc_Net_give (fun vs H Q E h => ?_) (fun cdv A outer s H vs Q E hr h => ?_)
  · obtain ⟨Z, p, m, gs, nm, n, t, ws, rfl, _⟩ := h
    rfl
  obtain ⟨Z, p, m, gs, nm, n, t, ws, rfl, hN, hn, hT, hw, hl, q⟩ := h
  refine ⟨_, (pss_cons (ps_if (pt_cmp (pc_din (units1 hr) (pv 1) (pe_fld (pv 0) rfl)) (by rfl)) (pss_one ps_never) pss_nil)
    (pss_cons (ps_expr (pe_meth (pv 0) L.T.cl L.M_Net_need G_Net_need hr L.b_Net_need .nil pass0 (pa_cons (pv 2) pa_nil)))
    (pss_one (ps_dput (units1 hr) (pe_fld (pv 0) rfl) (pv 1) (pe_callTy call_list_of (by rfl) B.list PyProof.Rows.boot_list (pa_cons (pv 2) pa_nil)) rfl)))), ?_⟩
  obtain ⟨hz, hb, _, dx, ps, kvs, e1, e2, e3, e4, g0, n0⟩ := id hN
  refine ⟨_, rfl, _, rfl, p.x, C, dx, _, _, rfl, e1, L.T.cl, L.T.n_by_name, rfl, p.dn, _, rfl, DGet.k (k := .inr n) e4, ?_⟩
  rw [n0.out hn]
  refine ⟨_, rfl, iteF ?_⟩
  dsimp only [tNext]
  refine ⟨_, rfl, p.x, dx, _, rfl, e1, rfl, _, rfl, Z, p, m, gs, nm, t, ws, rfl, hN, hT, hw, fun H1 s1 => ?_⟩
  have N1 := hN.same s1
  obtain ⟨_, _, ⟨c1, c2, c3, c4⟩, dx1, ps1, kvs1, f1, f2, f3, f4, g1, n1⟩ := id N1
  have hT1 : SqL K H1 t (nts ws) ∨ SqT K H1 t (nts ws) := hT.elim (fun y => .inl (s1.seq y)) (fun y => .inr (Same.seqT s1 y))
  refine ⟨_, rfl, t, _, rfl, hT1, fun l nl => ?_⟩
  have sl := same_upd (o := .lst (nts ws)) nl
  refine ⟨_, rfl, p.x, C, dx1, _, _, rfl, sl _ _ f1, L.T.cl, L.T.n_by_name, rfl, _, rfl, p.dn, _, rfl, DPut.k (k := .inr n) (sl _ _ f4) (by rw [n1.1]; exact Nat.lt_of_le_of_lt hl (by decide)), ?_⟩
  rw [putK_new _ (n1.out hn)]
  have nlZ : l ∉ Z := fun z => N1.1 l z nl
  have nlm : l ≠ p.lm := (ne_of_none f2 nl).symm
  have nld : l ≠ p.ld := (ne_of_none f3 nl).symm
  have nln : l ≠ p.dn := (ne_of_none f4 nl).symm
  have N2 := N1.same sl
  have k2 : KeepS [p.dn] (upd H1 l (.lst (nts ws))) (upd (upd H1 l (.lst (nts ws))) p.dn (.dK (kvs1 ++ [(.inr n, .ref l)]))) := .upd (by simp)
  refine q _ ((KeepS.ofSame (s1.trans sl)).trans k2) ?_
  have fr : ∀ {y : Addr} {o : HO}, (upd H1 l (.lst (nts ws))) y = some o → y ≠ p.dn → (upd (upd H1 l (.lst (nts ws))) p.dn (.dK (kvs1 ++ [(.inr n, .ref l)]))) y = some o := fun e z => by
    rw [upd_ne z]
    exact e
  have g4 := sl _ _ f4
  refine ⟨fun z hz' => k2.2 z (N2.1 z hz'), hb, ⟨c1, c2, c3, c4⟩, dx1, ps1, kvs1 ++ [(.inr n, .ref l)], fr (sl _ _ f1) (fun z => by rw [z, f4] at f1; cases f1), fr (sl _ _ f2) (fun z => by rw [z, f4] at f2; cases f2), fr (sl _ _ f3) (fun z => by rw [z, f4] at f3; cases f3), upd_same, ⟨g1.1, fun i r g' hi hg => ?_⟩, ?_⟩
  · have := g1.2 i r g' hi hg
    exact ⟨this.1, fr (sl _ _ this.2) (fun z => by
      have := this.2
      rw [z, f4] at this
      cases this)⟩
  · refine ⟨by rw [List.length_append, List.length_append, n1.1]; rfl, ?_, fun i k v n' ws' hi hn' => ?_⟩
    · rw [List.map_append, List.nodup_append]
      refine ⟨n1.2.1, by simp, fun a ha b hb' => ?_⟩
      have hb' : b = n := by simpa using hb'
      rw [hb']
      exact fun z => hn (z ▸ ha)
    · by_cases c : i < kvs1.length
      · rw [List.getElem?_append_left c] at hi
        rw [List.getElem?_append_left (by rw [← n1.1]; exact c)] at hn'
        obtain ⟨ek, l', ev, l1, l2, l3, l4⟩ := n1.2.2 i k v n' ws' hi hn'
        exact ⟨ek, l', ev, l1, l2, l3, fr (sl _ _ l4) (fun z => by rw [z, f4] at l4; cases l4)⟩
      · have i0 : i = kvs1.length := by
          have := (List.getElem?_eq_some_iff.mp hi).1
          rw [List.length_append, List.length_cons, List.length_nil] at this
          omega
        rw [List.getElem?_append_right (by omega), i0, Nat.sub_self] at hi
        rw [List.getElem?_append_right (by rw [i0, n1.1]; exact Nat.le_refl _), i0, n1.1, Nat.sub_self] at hn'
        cases hi
        cases hn'
        exact ⟨rfl, l, rfl, nlZ, nlm, nld, fr upd_same nln⟩
def spGiven (C : Addr) : Sp := fun vs H Q _ => ∃ (Z : List Addr) (p : NetP) (m : Nat) (gs : List Gt) (nm : List (Str × List Nat)) (i : Nat) (n : Str) (ws : List Nat), vs = [.ref p.x, .str n] ∧ NetAt C Z H p m gs nm ∧ nm[i]? = some (n, ws) ∧
  ∀ t, H t = none → Q (.ref t) (upd H t (.lst (nts ws)))
theorem ok_Net_given (B : Bl mg) (L : LL K mg C za zl base) : FnOk P w K mg base CX0 1 (za 27) (zl 27) ["self", "name"] (spGiven C) := by
  refine L.F_Net_given.ok sc_Net_given (fun vs H Q E h => ?_) (fun cdv A outer s H vs Q E hr h => ?_)
  · obtain ⟨Z, p, m, gs, nm, i, n, ws, rfl, _⟩ := h
    rfl
  obtain ⟨Z, p, m, gs, nm, i, n, ws, rfl, hN, hn, q⟩ := h
  refine ⟨_, (pss_cons (ps_if (pt_cmp (pc_dnotin (units1 hr) (pv 1) (pe_fld (pv 0) rfl)) (by rfl)) (pss_one ps_never) pss_nil)
    (pss_one (ps_ret (pe_callTy call_list_of (by rfl) B.list PyProof.Rows.boot_list (pa_cons (pe_dget (units1 hr) (pe_fld (pv 0) rfl) (pv 1) (fun _ _ => rfl)) pa_nil))))), ?_⟩
  obtain ⟨hz, hb, _, dx, ps, kvs, e1, e2, e3, e4, g0, n0⟩ := id hN
  obtain ⟨l, ev, el⟩ := n0.in_ hn
  refine ⟨_, rfl, _, rfl, p.x, C, dx, _, _, rfl, e1, L.T.cl, L.T.n_by_name, rfl, p.dn, _, rfl, DGet.k (k := .inr n) e4, ?_⟩
  rw [ev]
  refine ⟨_, rfl, iteF ?_⟩
  dsimp only [tNext]
  refine ⟨_, rfl, p.x, C, dx, _, _, rfl, e1, L.T.cl, L.T.n_by_name, rfl, _, rfl, p.dn, .ref l, rfl, ?_, ?_⟩
  · rw [← ev]
    exact DGet.k (k := .inr n) e4
  exact ⟨l, _, rfl, .inl (SqL.of el), fun t nt => q t nt⟩
def spNames (C : Addr) : Sp := fun vs H Q _ => ∃ (Z : List Addr) (p : NetP) (m : Nat) (gs : List Gt) (nm : List (Str × List Nat)), vs = [.ref p.x] ∧ NetAt C Z H p m gs nm ∧ nm.length < 64 ∧
  ∀ (ys : List Str) (t : Addr) (H' : Hp), ys.Perm (nm.map (·.1)) → sortedS ys = true → Same H H' → H t = none → H' t = some (.lst (ys.map V.str)) → Q (.ref t) H'
theorem ok_Net_names (B : Bl mg) (L : LL K mg C za zl base) : FnOk P w K mg base CX0 1 (za 28) (zl 28) ["self"] (spNames C) := by
  refine L.F_Net_names.ok sc_Net_names (fun vs H Q E h => ?_) (fun cdv A outer s H vs Q E hr h => ?_)
  · obtain ⟨Z, p, m, gs, nm, rfl, _⟩ := h
    rfl
  obtain ⟨Z, p, m, gs, nm, rfl, hN, hl, q⟩ := h
  refine ⟨_, (pss_one (ps_ret (pe_callB cr_sortedS (by rfl) L.z_sorted boot_sorted (pa_cons (pe_callTy (call_listD rfl) (by rfl) B.list PyProof.Rows.boot_list (pa_cons (pe_fld (pv 0) rfl) pa_nil)) pa_nil)))), ?_⟩
  obtain ⟨hz, hb, _, dx, ps, kvs, e1, e2, e3, e4, g0, n0⟩ := id hN
  refine ⟨_, rfl, p.x, C, dx, _, _, rfl, e1, L.T.cl, L.T.n_by_name, rfl, p.dn, kvs, rfl, .inl e4, fun l nl => ?_⟩
  have ek : (kvs.map fun kv => kV kv.1) = (nm.map (·.1)).map V.str := by
    rw [show (kvs.map fun kv => kV kv.1) = (kvs.map (·.1)).map kV from by rw [List.map_map]; rfl, n0.keys, List.map_map, List.map_map]
    rfl
  rw [ek]
  have sl := same_upd (o := .lst ((nm.map (·.1)).map V.str)) nl
  refine ⟨l, _, rfl, SqL.of upd_same, by rw [List.length_map]; exact hl, fun ys t hp hs nt => ?_⟩
  refine q ys t _ hp hs (sl.trans (same_upd nt)) ?_ upd_same
  cases e : H t with
  | none => rfl
  | some o =>
    rw [sl _ _ e] at nt
    cases nt
def spInputs (C : Addr) : Sp := fun vs H Q _ => ∃ (Z : List Addr) (p : NetP) (m : Nat) (gs : List Gt) (nm : List (Str × List Nat)), vs = [.ref p.x] ∧ NetAt C Z H p m gs nm ∧ Q (.int (m : Int)) H
theorem ok_Net_inputs (B : Bl mg) (L : LL K mg C za zl base) : FnOk P w K mg base CX0 1 (za 29) (zl 29) ["self"] (spInputs C) := by
  refine L.F_Net_inputs.ok sc_Net_inputs (fun vs H Q E h => ?_) (fun cdv A outer s H vs Q E hr h => ?_)
  · obtain ⟨Z, p, m, gs, nm, rfl, _⟩ := h
    rfl
  obtain ⟨Z, p, m, gs, nm, rfl, hN, q⟩ := h
  refine ⟨_, (pss_one (ps_ret (pe_fld (pv 0) rfl))), ?_⟩
  obtain ⟨hz, hb, _, dx, ps, kvs, e1, _⟩ := id hN
  exact ⟨_, rfl, p.x, C, dx, _, _, rfl, e1, L.T.cl, L.T.n_input_count, rfl, q⟩
def spGates (C : Addr) : Sp := fun vs H Q _ => ∃ (Z : List Addr) (p : NetP) (m : Nat) (gs : List Gt) (nm : List (Str × List Nat)), vs = [.ref p.x] ∧ NetAt C Z H p m gs nm ∧
  ∀ (t : Addr) (ps : List Addr) , H t = none → ps.length = gs.length → (∀ (i : Nat) (r : Addr) (g : Gt), ps[i]? = some r → gs[i]? = some g → H r = some (.tup g.row)) → Q (.ref t) (upd H t (.lst (ps.map V.ref)))
theorem ok_Net_gates (B : Bl mg) (L : LL K mg C za zl base) : FnOk P w K mg base CX0 1 (za 30) (zl 30) ["self"] (spGates C) := by
  refine L.F_Net_gates.ok sc_Net_gates (fun vs H Q E h => ?_) (fun cdv A outer s H vs Q E hr h => ?_)
  · obtain ⟨Z, p, m, gs, nm, rfl, _⟩ := h
    rfl
  obtain ⟨Z, p, m, gs, nm, rfl, hN, q⟩ := h
  refine ⟨_, (pss_one (ps_ret (pe_callTy call_list_of (by rfl) B.list PyProof.Rows.boot_list (pa_cons (pe_fld (pv 0) rfl) pa_nil)))), ?_⟩
  obtain ⟨hz, hb, _, dx, ps, kvs, e1, e2, e3, e4, g0, n0⟩ := id hN
  exact ⟨_, rfl, p.x, C, dx, _, _, rfl, e1, L.T.cl, L.T.n_made, rfl, p.lm, _, rfl, .inl (SqL.of e2), fun t nt => q t ps nt g0.1 (fun i r g hi hg => (g0.2 i r g hi hg).2)⟩
end
section
variable {P : Program} {w : World} {K : PySem.W.Frag} {mg : Str → Option Value} {base : Heap}
variable {C : Addr} {za : Nat → Addr} {zl : Nat → FuncData}
/-! ### bits -/
def tb (x : Int) (k : Nat) : Int := x / 2 ^ k % 2
theorem tb_01 (x : Int) (k : Nat) : tb x k = 0 ∨ tb x k = 1 := by
  unfold tb
  omega
theorem tb_succ (x : Int) (k : Nat) : tb x (k + 1) = tb (x / 2) k := by
  unfold tb
  rw [Int.ediv_ediv_of_nonneg (by decide)]
  rw [show (2 : Int) * 2 ^ k = 2 ^ (k + 1) from by rw [GM.pow_s, Int.mul_comm]]
theorem tb_zero (x : Int) : tb x 0 = x % 2 := by
  unfold tb
  rw [Int.pow_zero, Int.ediv_one]
theorem and_bit {a b : Int} (ha : a = 0 ∨ a = 1) (hb : b = 0 ∨ b = 1) : Builtin.bitAnd a b = if a = 1 ∧ b = 1 then 1 else 0 := by
  rcases ha with rfl | rfl <;> rcases hb with rfl | rfl <;> decide
theorem tb_and : ∀ (k : Nat) (x y : Int), tb (Builtin.bitAnd x y) k = Builtin.bitAnd (tb x k) (tb y k)
  | 0, x, y => by
    rw [tb_zero, tb_zero, tb_zero, PySem.W.kbt_halves, and_bit (a := x % 2) (b := y % 2) (by omega) (by omega)]
    split <;> omega
  | k + 1, x, y => by
    rw [tb_succ, tb_succ, tb_succ, ← tb_and k]
    congr 1
    rw [PySem.W.kbt_halves]
    split <;> omega
theorem or_halves (x y : Int) : Builtin.bitOr x y = 2 * Builtin.bitOr (x / 2) (y / 2) + (if x % 2 = 1 ∨ y % 2 = 1 then 1 else 0) := by
  rw [PyProof.Rows.bitOr_and, PyProof.Rows.bitOr_and, PySem.W.kbt_halves]
  split <;> split <;> omega
theorem or_bit {a b : Int} (ha : a = 0 ∨ a = 1) (hb : b = 0 ∨ b = 1) : Builtin.bitOr a b = if a = 1 ∨ b = 1 then 1 else 0 := by
  rcases ha with rfl | rfl <;> rcases hb with rfl | rfl <;> decide
theorem tb_or : ∀ (k : Nat) (x y : Int), tb (Builtin.bitOr x y) k = Builtin.bitOr (tb x k) (tb y k)
  | 0, x, y => by
    rw [tb_zero, tb_zero, tb_zero, or_halves, or_bit (a := x % 2) (b := y % 2) (by omega) (by omega)]
    split <;> omega
  | k + 1, x, y => by
    rw [tb_succ, tb_succ, tb_succ, ← tb_or k]
    congr 1
    rw [or_halves]
    split <;> omega
theorem xor_halves (x y : Int) : Builtin.bitXor x y = 2 * Builtin.bitXor (x / 2) (y / 2) + (if x % 2 = y % 2 then 0 else 1) := by
  rw [bitXor_and, bitXor_and, PySem.W.kbt_halves]
  split <;> split <;> omega
theorem xor_bit {a b : Int} (ha : a = 0 ∨ a = 1) (hb : b = 0 ∨ b = 1) : Builtin.bitXor a b = if a = b then 0 else 1 := by
  rcases ha with rfl | rfl <;> rcases hb with rfl | rfl <;> decide
theorem tb_xor : ∀ (k : Nat) (x y : Int), tb (Builtin.bitXor x y) k = Builtin.bitXor (tb x k) (tb y k)
  | 0, x, y => by
    rw [tb_zero, tb_zero, tb_zero, xor_halves, xor_bit (a := x % 2) (b := y % 2) (by omega) (by omega)]
    split <;> omega
  | k + 1, x, y => by
    rw [tb_succ, tb_succ, tb_succ, ← tb_xor k]
    congr 1
    rw [xor_halves]
    split <;> omega
theorem tb_full : ∀ {n k : Nat}, k < n → tb (2 ^ n - 1) k = 1
  | n + 1, 0, _ => by
    rw [tb_zero, GM.pow_s]
    omega
  | n + 1, k + 1, h => by
    rw [tb_succ, show ((2 : Int) ^ (n + 1) - 1) / 2 = 2 ^ n - 1 from by rw [GM.pow_s]; omega]
    exact tb_full (by omega)
theorem tb_nul (k : Nat) : tb 0 k = 0 := by
  unfold tb
  rw [Int.zero_ediv]
  rfl
theorem tb_mod {n k : Nat} (x : Int) (h : k < n) : tb (x % 2 ^ n) k = tb x k := by
  rw [← PySem.W.kbt_mask, tb_and, tb_full h]
  rcases tb_01 x k with z | z <;> rw [z] <;> decide
/-! ### wires run -/
def gvw (full x y : Int) (k : Str) : Int := if k = "other" then Builtin.bitXor x full else if k = "both" then Builtin.bitAnd x y else if k = "either" then Builtin.bitOr x y else Builtin.bitXor x y
def gv (full : Int) (ws : List Int) : Gt → Int
  | .fi b => if b = 1 then full else 0
  | .w k l => gvw full (ws.getD (l.getD 0 0) 0) (ws.getD (l.getD 1 0) 0) k
def rv (full : Int) (vals : List Int) (gs : List Gt) : List Int := gs.foldl (fun ws g => ws ++ [gv full ws g]) vals
theorem rv_snoc (full : Int) (vals : List Int) (gs : List Gt) (g : Gt) : rv full vals (gs ++ [g]) = rv full vals gs ++ [gv full (rv full vals gs) g] := by
  unfold rv
  rw [List.foldl_append]
  rfl
theorem rv_len : ∀ (gs : List Gt) (full : Int) (vals : List Int), (rv full vals gs).length = vals.length + gs.length
  | [], _, _ => rfl
  | g :: gs, full, vals => by
    have := rv_len gs full (vals ++ [gv full vals g])
    unfold rv at this ⊢
    rw [List.foldl_cons, this, List.length_append, List.length_cons, List.length_cons, List.length_nil]
    omega
theorem getD_map (ws : List Int) (i k : Nat) : (ws.map (tb · k)).getD i 0 = tb (ws.getD i 0) k := by
  simp only [List.getD, List.getElem?_map]
  cases ws[i]? with
  | none => exact (tb_nul k).symm
  | some v => rfl
theorem gv_bit {n k : Nat} (h : k < n) (ws : List Int) (g : Gt) : tb (gv (2 ^ n - 1) ws g) k = gv 1 (ws.map (tb · k)) g := by
  cases g with
  | fi b =>
    show tb (if b = 1 then _ else _) k = if b = 1 then 1 else 0
    split
    · exact tb_full h
    · exact tb_nul k
  | w nm l =>
    show tb (gvw (2 ^ n - 1) _ _ nm) k = gvw 1 _ _ nm
    rw [getD_map, getD_map]
    unfold gvw
    split
    · rw [tb_xor, tb_full h]
    split
    · rw [tb_and]
    split
    · rw [tb_or]
    · rw [tb_xor]
theorem rv_bit {n k : Nat} (h : k < n) : ∀ (gs : List Gt) (vals : List Int), (rv (2 ^ n - 1) vals gs).map (tb · k) = rv 1 (vals.map (tb · k)) gs
  | [], _ => rfl
  | g :: gs, vals => by
    have := rv_bit h gs (vals ++ [gv (2 ^ n - 1) vals g])
    unfold rv at this ⊢
    rw [List.foldl_cons, List.foldl_cons, this, List.map_append, List.map_cons, List.map_nil, gv_bit h]
/-! ### nets run -/
def wf (ds : List Int) : Int := ds.foldl (fun w d => 2 * w + d) 0
theorem wf_snoc (ds : List Int) (d : Int) : wf (ds ++ [d]) = 2 * wf ds + d := by
  unfold wf
  rw [List.foldl_append]
  rfl
theorem at_int46 {xs : List Int} {i : Nat} {x : V} (h : (xs.map V.int)[i]? = some x) : ∃ v, xs[i]? = some v ∧ x = .int v := by
  rw [List.getElem?_map] at h
  cases q : xs[i]? with
  | none => rw [q] at h; cases h
  | some v => rw [q] at h; exact ⟨v, rfl, (Option.some.inj h).symm⟩
def spWorthOf (K : PySem.W.Frag) : Sp := fun vs H Q _ => ∃ (t : Addr) (ds : List Int), vs = [.ref t] ∧ SqL K H t (ds.map V.int) ∧ Q (.int (wf ds)) H
theorem ok_worth_of (B : Bl mg) (L : LL K mg C za zl base) : FnOk P w K mg base CX0 1 (za 1) (zl 1) ["digits"] (spWorthOf K) := by
  refine L.F_worth_of.ok sc_worth_of (fun vs H Q E h => ?_) (fun cdv A outer s H vs Q E hr h => ?_)
  · obtain ⟨t, ds, rfl, _⟩ := h
    rfl
  obtain ⟨t, ds, rfl, hT, q⟩ := h
  refine ⟨_, (pss_cons (ps_set (i := 1) sc_worth_of.nd rfl (.inl rfl) pe_int)
    (pss_cons (ps_for PassesOwn.never rfl (pi_list (pv 0)) (pg_name (i := 2) sc_worth_of.nd rfl (.inl rfl)) (pss_one (ps_set (i := 1) sc_worth_of.nd rfl (.inl rfl) (pe_op op_add (pe_op op_mul pe_int (pv 1)) (pv 2)))))
    (pss_one (ps_ret (pv 1))))), ?_⟩
  refine ⟨_, rfl, t, rfl, ⟨_, hT⟩, ?_⟩
  refine for_it (walk_list (K := K) (a := t) (xs := ds.map V.int)) (fun j σ H9 => ∃ y : Option V, σ = [some (.ref t), some (.int (wf (ds.take j))), y] ∧ H9 = H) ⟨_, rfl, rfl⟩ (fun j σ H9 _ ⟨_, _, e⟩ => by rw [e]; exact hT) ?_ ?_
  · rintro j v σ H9 H10 hj ⟨y, rfl, rfl⟩ ⟨rfl, hz⟩
    obtain ⟨d, hd, rfl⟩ := at_int46 hz
    refine ⟨_, rfl, _, _, rfl, rfl, .inl ⟨by decide, by decide⟩, _, rfl, _, _, rfl, rfl, ?_⟩
    refine ⟨some (.int d), ?_, rfl⟩
    rw [List.take_add_one, hd]
    show _ = [some (V.ref t), some (.int (wf (ds.take j ++ [d]))), _]
    rw [wf_snoc]
    rfl
  · rintro σ H9 ⟨y, rfl, rfl⟩
    rw [List.length_map, List.take_length]
    exact ⟨_, rfl, q⟩
def spGateB : Sp := fun vs H Q _ => ∃ (g wl : Addr) (full : Int) (gt : Gt) (ws : List Int), vs = [.ref g, .ref wl, .int full] ∧ H g = some (.tup gt.row) ∧ H wl = some (.lst (ws.map V.int)) ∧ gt.ok ws.length ∧ Q (.int (gv full ws gt)) H
theorem at_getD {ws : List Int} {a : Nat} (h : a < ws.length) : atI (ws.map V.int) (a : Int) = some (.int (ws.getD a 0)) := atI_nat (by
  rw [List.getElem?_map, List.getElem?_eq_getElem h]
  simp [List.getD, List.getElem?_eq_getElem h])
theorem ok_gate_bits (B : Bl mg) (L : LL K mg C za zl base) : FnOk P w K mg base CX0 1 (za 3) (zl 3) ["gate", "wires", "full"] spGateB := by
  refine L.F_gate_bits.ok sc_gate_bits (fun vs H Q E h => ?_) (fun cdv A outer s H vs Q E hr h => ?_)
  · obtain ⟨g, wl, full, gt, ws, rfl, _⟩ := h
    rfl
  obtain ⟨g, wl, full, gt, ws, rfl, eg, ew, ok, q⟩ := h
  refine ⟨_, (pss_cons (ps_set (i := 3) sc_gate_bits.nd rfl (.inl rfl) (pe_ix ix_tup (pv 0) pe_int (fun _ _ => rfl)))
    (pss_cons (ps_if (pt_cmpR op_eq (pv 3) pe_str (nomark _)) (pss_one (ps_ret (pe_ifExp (pt_cmpR op_eq (pe_ix ix_tup (pv 0) pe_int (fun _ _ => rfl)) pe_int (nomark _)) (pv 2) pe_int))) pss_nil)
    (pss_cons (ps_set (i := 4) sc_gate_bits.nd rfl (.inl rfl) (pe_ix ix_list (pv 1) (pe_ix ix_tup (pv 0) pe_int (fun _ _ => rfl)) (fun _ _ => rfl)))
    (pss_cons (ps_if (pt_cmpR op_eq (pv 3) pe_str (nomark _)) (pss_one (ps_ret (pe_op op_xor (pv 4) (pv 2)))) pss_nil)
    (pss_cons (ps_set (i := 5) sc_gate_bits.nd rfl (.inl rfl) (pe_ix ix_list (pv 1) (pe_ix ix_tup (pv 0) pe_int (fun _ _ => rfl)) (fun _ _ => rfl)))
    (pss_cons (ps_if (pt_cmpR op_eq (pv 3) pe_str (nomark _)) (pss_one (ps_ret (pe_op op_and (pv 4) (pv 5)))) pss_nil)
    (pss_cons (ps_if (pt_cmpR op_eq (pv 3) pe_str (nomark _)) (pss_one (ps_ret (pe_op op_or (pv 4) (pv 5)))) pss_nil)
    (pss_one (ps_ret (pe_op op_xor (pv 4) (pv 5))))))))))), ?_⟩
  have nS : ∀ {x y : Str}, ¬ x = y → ¬ decide (V.str x = V.str y) = true := fun h z => h (V.str.inj (of_decide_eq_true z))
  cases gt with
  | fi b =>
    refine ⟨_, rfl, g, _, _, _, rfl, rfl, .inl (.inl eg), rfl, ?_⟩
    try simp only [L2.start, List.map_cons, List.map_nil, List.length_cons, List.length_nil, List.replicate_succ, List.replicate_zero, List.cons_append, List.nil_append, List.set_cons_succ, List.set_cons_zero, Nat.reduceAdd, Nat.reduceSub, Nat.zero_add]
    dsimp only [gName]
    try simp only [L2.start, List.map_cons, List.map_nil, List.length_cons, List.length_nil, List.replicate_succ, List.replicate_zero, List.cons_append, List.nil_append, List.set_cons_succ, List.set_cons_zero, Nat.reduceAdd, Nat.reduceSub, Nat.zero_add]
    refine ⟨_, rfl, rfl, _, rfl, ite2 (fun _ => ?_) (fun z => absurd (decide_eq_true rfl) z)⟩
    refine ⟨_, rfl, g, _, _, _, rfl, rfl, .inl (.inl eg), rfl, rfl, _, rfl, ite2 (fun z => ?_) (fun z => ?_)⟩
    · have e : (b : Int) = 1 := V.int.inj (of_decide_eq_true z)
      have q : Q (.int (if b = 1 then full else 0)) H := q
      rw [if_pos (by omega)] at q
      exact ⟨_, rfl, q⟩
    · have e : ¬ (b : Int) = 1 := fun y => z (decide_eq_true (congrArg V.int y))
      have q : Q (.int (if b = 1 then full else 0)) H := q
      rw [if_neg (by omega)] at q
      exact q
  | w k l =>
    have q : Q (.int (gvw full (ws.getD (l.getD 0 0) 0) (ws.getD (l.getD 1 0) 0) k)) H := q
    have nf : ¬ k = "fixed" := by
      rcases ok.1 with ⟨z | z | z, _⟩ | ⟨z, _⟩ <;> rw [z] <;> decide +kernel
    have l0 : 0 < l.length := by
      rcases ok.1 with ⟨_, z⟩ | ⟨_, z⟩ <;> omega
    have ea : (Gt.w k l).row[1]? = some (.int ((l.getD 0 0 : Nat) : Int)) := by
      match l, l0 with
      | a :: l, _ => rfl
    have la : l.getD 0 0 < ws.length := by
      match l, l0, ok with
      | a :: l, _, ok => exact ok.2 a (by simp)
    refine ⟨_, rfl, g, _, _, _, rfl, rfl, .inl (.inl eg), (show atI (Gt.w k l).row 0 = some (.str k) from atI_nat (j := 0) rfl), ?_⟩
    try simp only [L2.start, List.map_cons, List.map_nil, List.length_cons, List.length_nil, List.replicate_succ, List.replicate_zero, List.cons_append, List.nil_append, List.set_cons_succ, List.set_cons_zero, Nat.reduceAdd, Nat.reduceSub, Nat.zero_add]
    dsimp only [gName]
    try simp only [L2.start, List.map_cons, List.map_nil, List.length_cons, List.length_nil, List.replicate_succ, List.replicate_zero, List.cons_append, List.nil_append, List.set_cons_succ, List.set_cons_zero, Nat.reduceAdd, Nat.reduceSub, Nat.zero_add]
    refine ⟨_, rfl, rfl, _, rfl, ite2 (fun z => absurd z (nS nf)) (fun _ => ?_)⟩
    dsimp only [tNext]
    refine ⟨_, rfl, _, rfl, g, _, _, _, rfl, rfl, .inl (.inl eg), (atI_nat (j := 1) ea), wl, _, _, _, rfl, rfl, SqL.of ew, at_getD la, ?_⟩
    try simp only [L2.start, List.map_cons, List.map_nil, List.length_cons, List.length_nil, List.replicate_succ, List.replicate_zero, List.cons_append, List.nil_append, List.set_cons_succ, List.set_cons_zero, Nat.reduceAdd, Nat.reduceSub, Nat.zero_add]
    dsimp only [gName]
    try simp only [L2.start, List.map_cons, List.map_nil, List.length_cons, List.length_nil, List.replicate_succ, List.replicate_zero, List.cons_append, List.nil_append, List.set_cons_succ, List.set_cons_zero, Nat.reduceAdd, Nat.reduceSub, Nat.zero_add]
    unfold gvw at q
    refine ⟨_, rfl, rfl, _, rfl, ite2 (fun z => ?_) (fun z => ?_)⟩
    · rw [if_pos (V.str.inj (of_decide_eq_true z))] at q
      exact ⟨_, rfl, _, rfl, _, _, rfl, rfl, q⟩
    have no : ¬ k = "other" := fun y => z (decide_eq_true (congrArg V.str y))
    rw [if_neg no] at q
    dsimp only [tNext]
    have l2 : l.length = 2 := by
      rcases ok.1 with ⟨_, z⟩ | ⟨z, _⟩
      · exact z
      · exact absurd z no
    have eb : (Gt.w k l).row[2]? = some (.int ((l.getD 1 0 : Nat) : Int)) := by
      match l, l2 with
      | [a, b], _ => rfl
    have lb : l.getD 1 0 < ws.length := by
      match l, l2, ok with
      | [a, b], _, ok => exact ok.2 b (by simp)
    refine ⟨_, rfl, _, rfl, g, _, _, _, rfl, rfl, .inl (.inl eg), (atI_nat (j := 2) eb), wl, _, _, _, rfl, rfl, SqL.of ew, at_getD lb, ?_⟩
    try simp only [L2.start, List.map_cons, List.map_nil, List.length_cons, List.length_nil, List.replicate_succ, List.replicate_zero, List.cons_append, List.nil_append, List.set_cons_succ, List.set_cons_zero, Nat.reduceAdd, Nat.reduceSub, Nat.zero_add]
    dsimp only [gName]
    try simp only [L2.start, List.map_cons, List.map_nil, List.length_cons, List.length_nil, List.replicate_succ, List.replicate_zero, List.cons_append, List.nil_append, List.set_cons_succ, List.set_cons_zero, Nat.reduceAdd, Nat.reduceSub, Nat.zero_add]
    refine ⟨_, rfl, rfl, _, rfl, ite2 (fun z => ?_) (fun z => ?_)⟩
    · rw [if_pos (V.str.inj (of_decide_eq_true z))] at q
      exact ⟨_, rfl, _, rfl, _, _, rfl, rfl, q⟩
    rw [if_neg (fun y => z (decide_eq_true (congrArg V.str y)))] at q
    dsimp only [tNext]
    refine ⟨_, rfl, rfl, _, rfl, ite2 (fun z => ?_) (fun z => ?_)⟩
    · rw [if_pos (V.str.inj (of_decide_eq_true z))] at q
      exact ⟨_, rfl, _, rfl, _, _, rfl, rfl, q⟩
    rw [if_neg (fun y => z (decide_eq_true (congrArg V.str y)))] at q
    dsimp only [tNext]
    exact ⟨_, rfl, _, rfl, _, _, rfl, rfl, q⟩
/-- the rows that a run tells: by name, the wires' values -/
def RunAt (H0 H : Hp) (t : Addr) (ys : List Str) (nm : List (Str × List Nat)) (rs : List Int) : Prop := H0 t = none ∧ ∃ ts : List Addr, ts.length = ys.length ∧ H t = some (.lst (ts.map V.ref)) ∧
  ∀ (i : Nat) (u : Addr) (n : Str), ts[i]? = some u → ys[i]? = some n → ∃ (ws : List Nat) (l : Addr), (n, ws) ∈ nm ∧ H0 l = none ∧ H u = some (.tup [.str n, .ref l]) ∧ H l = some (.lst ((ws.map fun a => rs.getD a 0).map V.int))
def spRan (K : PySem.W.Frag) (C : Addr) : Sp := fun vs H Q _ => ∃ (Z : List Addr) (p : NetP) (m : Nat) (gs : List Gt) (nm : List (Str × List Nat)) (vl : Addr) (vals : List Int) (n : Nat), vs = [.ref p.x, .ref vl, .int (n : Int)] ∧ NetAt C Z H p m gs nm ∧ (SqL K H vl (vals.map V.int) ∨ SqT K H vl (vals.map V.int)) ∧ vals.length = m ∧ n ≤ 5000 ∧ m + gs.length ≤ 900 ∧ nm.length < 64 ∧
  (∀ (i : Nat) (g : Gt), gs[i]? = some g → g.ok (m + i)) ∧ (∀ x ∈ nm, x.2.length ≤ 900 ∧ ∀ a ∈ x.2, a < m + gs.length) ∧
  ∀ (ys : List Str) (t : Addr) (H' : Hp), ys.Perm (nm.map (·.1)) → sortedS ys = true → Same H H' → RunAt H H' t ys nm (rv (2 ^ n - 1) (vals.map (· % 2 ^ n)) gs) → Q (.ref t) H'
theorem ok_ran (B : Bl mg) (L : LL K mg C za zl base) : FnOk P w K mg base CX0 2 (za 2) (zl 2) ["net", "values", "many"] (spRan K C) := by
  have G_gate_bits : FnOk P w K mg base CX0 1 (za 3) (zl 3) ["gate", "wires", "full"] spGateB := (ok_gate_bits B L).mono (by decide)
  have G_Net_gates : FnOk P w K mg base CX0 1 (za 30) (zl 30) ["self"] (spGates C) := (ok_Net_gates B L).mono (by decide)
  have G_Net_given : FnOk P w K mg base CX0 1 (za 27) (zl 27) ["self", "name"] (spGiven C) := (ok_Net_given B L).mono (by decide)
  have G_Net_names : FnOk P w K mg base CX0 1 (za 28) (zl 28) ["self"] (spNames C) := (ok_Net_names B L).mono (by decide)
  refine L.F_ran.ok sc_ran (fun vs H Q E h => ?_) (fun cdv A outer s H vs Q E hr h => ?_)
  · obtain ⟨Z, p, m, gs, nm, vl, vals, n, rfl, _⟩ := h
    rfl
  obtain ⟨Z, p, m, gs, nm, vl, vals, n, rfl, hN, ev, lv, hn, hl, hm, hok, hnm, q⟩ := h
  refine ⟨_, (pss_cons (ps_set (i := 3) sc_ran.nd rfl (.inr rfl) (pe_op op_sub (pe_op op_oneShl pe_int (pv 2)) pe_int))
    (pss_cons (ps_set (i := 4) sc_ran.nd rfl (.inr rfl) (pe_lc (own := [("value", 6)]) (by rfl) sc_ran.nd (pi_or (pi_list (pv 1)) (pi_tup (pv 1))) (blkOk_by (own := [("value", 6)]) (N := ["net", "values", "many", "full", "wires", "gate", "value", "name", "wire"]) (sc := defScope s_ran) (by decide +kernel)) (fun _ _ _ _ _ => pg_name (i := 6) sc_ran.nd rfl (Or.inl rfl)) (fun _ _ _ _ _ => pts_nil) (fun _ _ _ _ _ => (pe_op op_andM (pv 6) (pv 3)))))
    (pss_cons (ps_for PassesOwn.never rfl (pi_list (pe_meth0 (pv 0) L.T.cl L.M_Net_gates G_Net_gates hr L.b_Net_gates .nil pass0)) (pg_name (i := 5) sc_ran.nd rfl (.inl rfl)) (pss_one (ps_expr (pe_bm PySem.F.plainAttrs_list PySem.F.slot_list_append PySem.F.type_list_append mt_append (pv 4) (pa_cons (pe_call G_gate_bits hr (by rfl) L.m_gate_bits L.F_gate_bits.kp L.b_gate_bits .nil pass0 (pa_cons (pv 5) (pa_cons (pv 4) (pa_cons (pv 3) pa_nil)))) pa_nil)))))
    (pss_one (ps_ret (pe_lc (own := [("name", 7)]) (by rfl) sc_ran.nd (pi_list (pe_meth0 (pv 0) L.T.cl L.M_Net_names G_Net_names hr L.b_Net_names .nil pass0)) (blkOk_by (own := [("name", 7)]) (N := ["net", "values", "many", "full", "wires", "gate", "value", "name", "wire"]) (sc := defScope s_ran) (by decide +kernel)) (fun _ _ _ _ _ => pg_name (i := 7) sc_ran.nd rfl (Or.inl rfl)) (fun _ _ _ _ _ => pts_nil) (fun _ _ _ _ _ => (pe_tup (pa_cons (pv 7) (pa_cons (pe_lc (own := [("wire", 8)]) (by rfl) sc_ran.nd (pi_listK (K := K) (pe_meth (pv 0) L.T.cl L.M_Net_given G_Net_given hr L.b_Net_given .nil pass0 (pa_cons (pv 7) pa_nil))) (blkOk_by (own := [("wire", 8)]) (N := ["net", "values", "many", "full", "wires", "gate", "value", "name", "wire"]) (sc := ({ kind := ScopeKind.function, names := [(".0", NameKind.local), ("name", NameKind.local), ("net", NameKind.cell), ("wires", NameKind.cell)], isGenerator := false, isCoroutine := false } : Scope)) (by decide +kernel)) (fun _ _ _ _ _ => pg_name (i := 8) sc_ran.nd rfl (Or.inl rfl)) (fun _ _ _ _ _ => pts_nil) (fun _ _ _ _ _ => (pe_ix (ix_listK (K := K)) (pv 4) (pv 8) (fun _ _ => rfl)))) pa_nil)))))))))), ?_⟩
  refine ⟨_, rfl, n, rfl, rfl, by omega, _, _, rfl, rfl, ?_⟩
  try simp only [L2.start, List.map_cons, List.map_nil, List.length_cons, List.length_nil, List.replicate_succ, List.replicate_zero, List.cons_append, List.nil_append, List.set_cons_succ, List.set_cons_zero, Nat.reduceAdd, Nat.reduceSub, Nat.zero_add]
  refine asg_ev (fun z G => ∃ W, z = .ref W ∧ H W = none ∧ Same H G ∧ G W = some (.lst ((vals.map (· % 2 ^ n)).map V.int))) (fun Q' q' => ?_) ?_
  rcases ev with ev | ev
  · refine .inl ⟨_, rfl, vl, rfl, ⟨_, ev⟩, fun W nW => ?_⟩
    refine lc_it (walk_list (K := K) (a := vl) (xs := vals.map V.int)) (fun i H9 => Same H H9 ∧ H9 W = some (.lst (((vals.map (· % 2 ^ n)).take i).map V.int))) ⟨same_upd nW, upd_same⟩ (fun i H9 _ ⟨s9, _⟩ => s9.seq ev) ?_ ?_
    · rintro j z H9 H10 hj ⟨s9, eW⟩ ⟨rfl, hz⟩
      obtain ⟨v, hv, rfl⟩ := at_int46 hz
      refine ⟨rfl, yesT ?_⟩
      refine ⟨_, rfl, _, rfl, _, n, rfl, rfl, ?_⟩
      refine ⟨_, eW, ?_, fun y u e => ?_, ?_⟩
      · rw [List.length_map, List.length_take, List.length_map]
        exact Nat.lt_of_le_of_lt (Nat.min_le_right _ _) (small1000 (by omega))
      · rw [upd_ne (ne_of_none e nW)]
        exact s9 _ _ e
      · rw [upd_same, List.take_add_one, List.getElem?_map, hv, List.map_append]
        rfl
    rintro H1 ⟨s1, eW⟩
    rw [List.length_map, List.take_of_length_le (by rw [List.length_map]; exact Nat.le_refl _)] at eW
    exact q' _ _ ⟨W, rfl, nW, s1, eW⟩
  · refine .inr ⟨_, rfl, vl, rfl, ⟨_, ev⟩, fun W nW => ?_⟩
    refine lc_it (walk_tup (K := K) (a := vl) (xs := vals.map V.int)) (fun i H9 => Same H H9 ∧ H9 W = some (.lst (((vals.map (· % 2 ^ n)).take i).map V.int))) ⟨same_upd nW, upd_same⟩ (fun i H9 _ ⟨s9, _⟩ => Same.seqT s9 ev) ?_ ?_
    · rintro j z H9 H10 hj ⟨s9, eW⟩ ⟨rfl, hz⟩
      obtain ⟨v, hv, rfl⟩ := at_int46 hz
      refine ⟨rfl, yesT ?_⟩
      refine ⟨_, rfl, _, rfl, _, n, rfl, rfl, ?_⟩
      refine ⟨_, eW, ?_, fun y u e => ?_, ?_⟩
      · rw [List.length_map, List.length_take, List.length_map]
        exact Nat.lt_of_le_of_lt (Nat.min_le_right _ _) (small1000 (by omega))
      · rw [upd_ne (ne_of_none e nW)]
        exact s9 _ _ e
      · rw [upd_same, List.take_add_one, List.getElem?_map, hv, List.map_append]
        rfl
    rintro H1 ⟨s1, eW⟩
    rw [List.length_map, List.take_of_length_le (by rw [List.length_map]; exact Nat.le_refl _)] at eW
    exact q' _ _ ⟨W, rfl, nW, s1, eW⟩
  rintro z H1 ⟨W, rfl, nW, s1, eW⟩
  try simp only [L2.start, List.map_cons, List.map_nil, List.length_cons, List.length_nil, List.replicate_succ, List.replicate_zero, List.cons_append, List.nil_append, List.set_cons_succ, List.set_cons_zero, Nat.reduceAdd, Nat.reduceSub, Nat.zero_add]
  obtain ⟨_, _, _, dx, _, _, e1, _⟩ := id hN
  have nWx : ∀ y o, H y = some o → y ≠ W := fun y o e => ne_of_none e nW
  refine ⟨_, rfl, p.x, dx, _, rfl, s1 _ _ e1, rfl, Z, p, m, gs, nm, rfl, hN.same s1, fun G ps nG lps hps => ?_⟩
  have sG := same_upd (o := .lst (ps.map V.ref)) nG
  have eWG := sG _ _ eW
  have nGW : G ≠ W := (ne_of_none eW nG).symm
  have eG0 : (upd H1 G (.lst (ps.map V.ref))) G = some (.lst (ps.map V.ref)) := upd_same
  have w1 := s1.trans sG
  have hps1 : ∀ (i : Nat) (r : Addr) (g : Gt), ps[i]? = some r → gs[i]? = some g → (upd H1 G (.lst (ps.map V.ref))) r = some (.tup g.row) := fun i r g hi hg => sG _ _ (hps i r g hi hg)
  generalize upd H1 G (.lst (ps.map V.ref)) = H2 at *
  refine ⟨G, rfl, ⟨_, SqL.of eG0⟩, ?_⟩
  refine for_it (walk_list (K := K) (a := G) (xs := ps.map V.ref)) (fun j σ H9 => ∃ y : Option V, σ = [some (.ref p.x), some (.ref vl), some (.int (n : Int)), some (.int (2 ^ n - 1)), some (.ref W), y, none, none, none] ∧ Keep W H2 H9 ∧ H9 W = some (.lst ((rv (2 ^ n - 1) (vals.map (· % 2 ^ n)) (gs.take j)).map V.int))) ⟨_, rfl, Keep.refl _ _, eWG⟩ (fun j σ H9 _ ⟨_, _, k9, _⟩ => SqL.of (k9 _ _ eG0 nGW)) ?_ ?_
  · rintro j z σ H9 H10 hj ⟨y, rfl, k9, eW9⟩ ⟨rfl, hz⟩
    rw [List.getElem?_map] at hz
    have hj' : j < ps.length := by
      rw [List.length_map] at hj
      exact hj
    rw [List.getElem?_eq_getElem hj'] at hz
    cases hz
    have hg : gs[j]? = some gs[j] := List.getElem?_eq_getElem (by omega)
    have er : H10 ps[j] = some (.tup (gs[j]'(by omega)).row) := k9 _ _ (hps1 j _ _ (List.getElem?_eq_getElem hj') hg) (fun z => by
      have := hps1 j _ _ (List.getElem?_eq_getElem hj') hg
      rw [z, eWG] at this
      cases this)
    try simp only [L2.start, List.map_cons, List.map_nil, List.length_cons, List.length_nil, List.replicate_succ, List.replicate_zero, List.cons_append, List.nil_append, List.set_cons_succ, List.set_cons_zero, Nat.reduceAdd, Nat.reduceSub, Nat.zero_add]
    refine ⟨_, rfl, .inl ⟨rfl, _, SqL.of eW9⟩, _, rfl, _, rfl, _, rfl, ps[j], W, _, _, _, rfl, er, eW9, ?_, ?_⟩
    · rw [rv_len, List.length_map, List.length_take, lv, Nat.min_eq_left (by omega)]
      exact hok j _ hg
    refine ⟨W, _, _, rfl, rfl, eW9, ?_, ?_⟩
    · rw [List.length_map, rv_len, List.length_map, List.length_take]
      exact small1000 (by omega)
    refine ⟨_, rfl, fun y' u e ny => ?_, ?_⟩
    · rw [upd_ne ny]
      exact k9 _ _ e ny
    · rw [upd_same, List.take_add_one, hg]
      show _ = some (HO.lst ((rv (2 ^ n - 1) (vals.map (· % 2 ^ n)) (gs.take j ++ [gs[j]])).map V.int))
      rw [rv_snoc, List.map_append]
      rfl
  rintro σ H9 ⟨y, rfl, k9, eW9⟩
  rw [List.length_map, List.take_of_length_le (by omega)] at eW9
  have s9 : Same H H9 := fun y u e => k9 _ _ (w1 _ _ e) (nWx _ _ e)
  have N9 := hN.same s9
  obtain ⟨_, _, _, dx9, _, _, f1, _⟩ := id N9
  refine ⟨_, rfl, p.x, dx9, _, rfl, f1, rfl, Z, p, m, gs, nm, rfl, N9, hm, fun ys Y HY hp hs sY nY eY => ?_⟩
  have eWY := sY _ _ eW9
  have NY := N9.same sY
  have lys : ys.length < 64 := by
    have := hp.length_eq
    rw [List.length_map] at this
    omega
  have lrv : (rv (2 ^ n - 1) (vals.map (· % 2 ^ n)) gs).length = m + gs.length := by rw [rv_len, List.length_map, lv]
  refine ⟨Y, rfl, ⟨_, SqL.of eY⟩, fun T nT => ?_⟩
  refine lc_it (walk_list (K := K) (a := Y) (xs := ys.map V.str)) (fun i H5 => Same HY H5 ∧ ∃ ts : List Addr, ts.length = i ∧ H5 T = some (.lst (ts.map V.ref)) ∧ ∀ (k : Nat) (u : Addr) (x : Str), ts[k]? = some u → ys[k]? = some x → ∃ (ws : List Nat) (l : Addr), (x, ws) ∈ nm ∧ H l = none ∧ l ≠ T ∧ H5 u = some (.tup [.str x, .ref l]) ∧ H5 l = some (.lst ((ws.map fun a => (rv (2 ^ n - 1) (vals.map (· % 2 ^ n)) gs).getD a 0).map V.int))) ⟨same_upd nT, [], rfl, upd_same, fun k u x h => by simp at h⟩ (fun i H5 _ ⟨s5, _⟩ => SqL.of (s5 _ _ eY)) ?_ ?_
  · rintro j z H5 H6 hj ⟨s5, ts, lt, eT, hts⟩ ⟨rfl, hz⟩
    rw [List.getElem?_map] at hz
    have hj' : j < ys.length := by
      rw [List.length_map] at hj
      exact hj
    have hy : ys[j]? = some ys[j] := List.getElem?_eq_getElem hj'
    rw [hy] at hz
    cases hz
    have N5 := NY.same s5
    obtain ⟨_, _, _, dx5, _, _, g1, _⟩ := id N5
    obtain ⟨⟨x, ws⟩, hx, ex⟩ := List.mem_map.mp (hp.mem_iff.mp (List.mem_of_getElem? hy))
    obtain ⟨i0, hi0, ei0⟩ := List.getElem_of_mem hx
    have hn0 : nm[i0]? = some (ys[j], ws) := by
      rw [List.getElem?_eq_getElem hi0, ei0, ← ex]
    have hws := hnm _ hx
    have hw1 : ws.length ≤ 900 := hws.1
    refine ⟨rfl, yesT ?_⟩
    refine ⟨_, rfl, _, rfl, p.x, dx5, _, rfl, g1, rfl, _, rfl, Z, p, m, gs, nm, i0, ys[j], ws, rfl, N5, hn0, fun g ng => ?_⟩
    have sg := same_upd (o := .lst (nts ws)) ng
    have eWg := sg _ _ (s5 _ _ eWY)
    have egg : (upd H6 g (.lst (nts ws))) g = some (.lst (nts ws)) := upd_same
    have eTg := sg _ _ eT
    generalize upd H6 g (.lst (nts ws)) = H7 at *
    refine ⟨g, rfl, ⟨_, SqL.of egg⟩, fun D nD => ?_⟩
    refine lc_it (walk_list (K := K) (a := g) (xs := nts ws)) (fun i H8 => Same H7 H8 ∧ H8 D = some (.lst (((ws.map fun a => (rv (2 ^ n - 1) (vals.map (· % 2 ^ n)) gs).getD a 0).take i).map V.int))) ⟨same_upd nD, upd_same⟩ (fun i H8 _ ⟨s8, _⟩ => SqL.of (s8 _ _ egg)) ?_ ?_
    · rintro k z H8 H8' hk ⟨s8, eD⟩ ⟨rfl, hz⟩
      obtain ⟨a, ha, rfl⟩ := nts_at hz
      have la := hws.2 a (List.mem_of_getElem? ha)
      refine ⟨rfl, yesT ?_⟩
      refine ⟨_, rfl, _, rfl, W, _, _, _, rfl, rfl, SqL.of (s8 _ _ eWg), at_getD (by rw [lrv]; exact la), ?_⟩
      refine ⟨_, eD, ?_, fun y u e => ?_, ?_⟩
      · rw [List.length_map, List.length_take, List.length_map]
        exact Nat.lt_of_le_of_lt (Nat.min_le_right _ _) (small1000 (by omega))
      · rw [upd_ne (ne_of_none e nD)]
        exact s8 _ _ e
      · rw [upd_same, List.take_add_one, List.getElem?_map, ha, List.map_append]
        rfl
    rintro H8 ⟨s8, eD⟩
    rw [nts_len, List.take_of_length_le (by rw [List.length_map]; exact Nat.le_refl _)] at eD
    have eT8 := s8 _ _ eTg
    have nD0 : H D = none := by
      cases e : H D with
      | none => rfl
      | some o =>
        have := sg _ _ (s5 _ _ (sY _ _ (s9 _ _ e)))
        rw [nD] at this
        cases this
    have nDT : D ≠ T := fun z => by
      rw [z, eTg] at nD
      cases nD
    refine ⟨(by show 2 ≤ sizeLine; decide), fun u nu => ?_⟩
    have su := same_upd (o := .tup [.str ys[j], .ref D]) nu
    have nuT : u ≠ T := fun z => by
      rw [z, eT8] at nu
      cases nu
    have sA : Same H6 (upd H8 u (.tup [.str ys[j], .ref D])) := fun y o e => su _ _ (s8 _ _ (sg _ _ e))
    refine ⟨_, su _ _ eT8, ?_, fun y o e => ?_, ts ++ [u], by rw [List.length_append, lt]; rfl, ?_, fun k u' x' hu hx' => ?_⟩
    · rw [List.length_map, lt]
      exact small1000 (by omega)
    · rw [upd_ne (ne_of_none e nT)]
      exact sA _ _ (s5 _ _ e)
    · rw [upd_same, List.map_append]
      rfl
    · by_cases c : k < ts.length
      · rw [List.getElem?_append_left c] at hu
        obtain ⟨ws', l', q1, q0, q2, q3, q4⟩ := hts k u' x' hu hx'
        refine ⟨ws', l', q1, q0, q2, ?_, ?_⟩
        · rw [upd_ne (fun z => by rw [z, eT] at q3; cases q3)]
          exact sA _ _ q3
        · rw [upd_ne q2]
          exact sA _ _ q4
      · have k0 : k = ts.length := by
          have := (List.getElem?_eq_some_iff.mp hu).1
          rw [List.length_append, List.length_cons, List.length_nil] at this
          omega
        rw [List.getElem?_append_right (by omega), k0, Nat.sub_self] at hu
        rw [k0, lt, hy] at hx'
        cases hu
        cases hx'
        refine ⟨ws, D, ?_, nD0, nDT, ?_, ?_⟩
        · rw [← ex]
          exact hx
        · rw [upd_ne nuT]
          exact upd_same
        · rw [upd_ne nDT]
          exact su _ _ eD
  · rintro H5 ⟨s5, ts, lt, eT, hts⟩
    have nT0 : H T = none := by
      cases e : H T with
      | none => rfl
      | some o =>
        have := sY _ _ (s9 _ _ e)
        rw [nT] at this
        cases this
    refine q ys T H5 hp hs ((s9.trans sY).trans s5) ⟨nT0, ts, by rw [lt, List.length_map], eT, fun k u x hu hx => ?_⟩
    obtain ⟨ws, l, q1, q0, _, q3, q4⟩ := hts k u x hu hx
    exact ⟨ws, l, q1, q0, q3, q4⟩
end
section
variable {P : Program} {w : World} {K : PySem.W.Frag} {mg : Str → Option Value} {base : Heap}
variable {C : Addr} {za : Nat → Addr} {zl : Nat → FuncData}
theorem place46 {m i : Nat} (h : i < m) : (m : Int) - 1 + (i : Nat) * (-1) = ((m - 1 - i : Nat) : Int) := by omega
theorem take_rng {f : Nat → Int} {m i : Nat} (h : i < m) : (((List.range m).map f).take (i + 1)) = ((List.range m).map f).take i ++ [f i] := by
  rw [List.take_add_one, List.getElem?_map, List.getElem?_range h]
  rfl
/-- one case -/
def vals1 (w : Int) (m : Nat) : List Int := (List.range m).map fun i => tb w (m - 1 - i)
def OneAt (H : Hp) (t : Addr) (ys : List Str) (nm : List (Str × List Nat)) (rs : List Int) : Prop := ∃ ts : List Addr, ts.length = ys.length ∧ H t = some (.lst (ts.map V.ref)) ∧
  ∀ (i : Nat) (u : Addr) (n : Str), ts[i]? = some u → ys[i]? = some n → ∃ ws : List Nat, (n, ws) ∈ nm ∧ H u = some (.tup [.str n, .int (wf (ws.map fun a => rs.getD a 0))])
def spOneC (C : Addr) : Sp := fun vs H Q _ => ∃ (Z : List Addr) (p : NetP) (m : Nat) (gs : List Gt) (nm : List (Str × List Nat)) (w : Int), vs = [.ref p.x, .int w] ∧ NetAt C Z H p m gs nm ∧ m + gs.length ≤ 900 ∧ nm.length < 64 ∧
  (∀ (i : Nat) (g : Gt), gs[i]? = some g → g.ok (m + i)) ∧ (∀ x ∈ nm, x.2.length ≤ 900 ∧ ∀ a ∈ x.2, a < m + gs.length) ∧
  ∀ (ys : List Str) (t : Addr) (H' : Hp), H t = none → ys.Perm (nm.map (·.1)) → sortedS ys = true → Same H H' → OneAt H' t ys nm (rv 1 (vals1 w m) gs) → Q (.ref t) H'
theorem ok_one_case (B : Bl mg) (L : LL K mg C za zl base) : FnOk P w K mg base CX0 3 (za 4) (zl 4) ["net", "word"] (spOneC C) := by
  have G_ran : FnOk P w K mg base CX0 2 (za 2) (zl 2) ["net", "values", "many"] (spRan K C) := (ok_ran B L).mono (by decide)
  have G_Net_inputs : FnOk P w K mg base CX0 2 (za 29) (zl 29) ["self"] (spInputs C) := (ok_Net_inputs B L).mono (by decide)
  have G_worth_of : FnOk P w K mg base CX0 2 (za 1) (zl 1) ["digits"] (spWorthOf K) := (ok_worth_of B L).mono (by decide)
  refine L.F_one_case.ok sc_one_case (fun vs H Q E h => ?_) (fun cdv A outer s H vs Q E hr h => ?_)
  · obtain ⟨Z, p, m, gs, nm, w, rfl, _⟩ := h
    rfl
  obtain ⟨Z, p, m, gs, nm, wd, rfl, hN, hl, hm, hok, hnm, q⟩ := h
  refine ⟨_, (pss_cons (ps_setLc (i := 2) (own := [("place", 3)]) (by rfl) sc_one_case.nd rfl rfl (sw_true rfl rfl rfl (by decide +kernel)) (pi_range3 (by rfl) B.range (pa_cons (pe_op op_sub (pe_meth0 (pv 0) L.T.cl L.M_Net_inputs G_Net_inputs hr L.b_Net_inputs .nil pass0) pe_int) (pa_cons (pe_un un_neg pe_int) (pa_cons (pe_un un_neg pe_int) pa_nil)))) (blkOk_by (own := [("place", 3)]) (N := ["net", "word", "values", "place", "name", "bits"]) (sc := defScope s_one_case) (by decide +kernel)) (fun _ _ _ _ _ => pg_name (i := 3) sc_one_case.nd rfl (Or.inl rfl)) (fun _ _ _ _ _ => pts_nil) (fun _ _ _ _ _ => (pe_op op_andM (pe_op op_shrN (pv 1) (pv 3)) pe_int)))
    (pss_one (ps_ret (pe_lc (own := [("name", 4), ("bits", 5)]) (g := gTup K 2 (gCons (gName 4) (gCons (gName 5) gNil))) (by rfl) sc_one_case.nd (pi_list (pe_call G_ran hr (by rfl) L.m_ran L.F_ran.kp (L.kb_ran).choose_spec.2 (L.kb_ran).choose_spec.1 pass0 (pa_cons (pv 0) (pa_cons (pv 2) pa_nil)))) (blkOk_by (own := [("name", 4), ("bits", 5)]) (N := ["net", "word", "values", "place", "name", "bits"]) (sc := defScope s_one_case) (by decide +kernel)) (fun _ _ _ _ _ => pg_tup rfl (pgs_cons (pg_name (i := 4) sc_one_case.nd rfl (Or.inl rfl) (.inr rfl)) (pgs_cons (pg_name (i := 5) sc_one_case.nd rfl (Or.inl rfl) (.inr rfl)) pgs_nil))) (fun _ _ _ _ _ => pts_nil) (fun _ _ _ _ _ => (pe_tup (pa_cons (pv 4) (pa_cons (pe_call G_worth_of hr (by rfl) L.m_worth_of L.F_worth_of.kp L.b_worth_of .nil pass0 (pa_cons (pv 5) pa_nil)) pa_nil)))))))), ?_⟩
  obtain ⟨_, _, _, dx, _, _, e1, _⟩ := id hN
  refine ⟨_, rfl, p.x, dx, _, rfl, e1, rfl, Z, p, m, gs, nm, rfl, hN, ?_⟩
  refine ⟨_, _, rfl, rfl, _, rfl, _, rfl, _, _, _, ((m : Int) - 1 - -1).toNat, rfl, RgC.neg (by omega) (by omega) (by decide) (by decide), fun D nD => ?_⟩
  rw [show ((m : Int) - 1 - -1).toNat = m by omega]
  refine lc_it walk_rangeC (fun i H3 => Same H H3 ∧ H3 D = some (.lst (((vals1 wd m).take i).map V.int))) ⟨same_upd nD, upd_same⟩ (fun _ _ _ _ => trivial) ?_ ?_
  · rintro i x H3 H4 hi ⟨s3, eD⟩ ⟨rfl, rfl⟩
    show gName _ (V.int ((m : Int) - 1 + (i : Nat) * (-1))) _ _ _
    rw [place46 hi]
    refine ⟨rfl, yesT ?_⟩
    refine ⟨_, rfl, _, rfl, _, m - 1 - i, rfl, rfl, _, 1, rfl, rfl, ?_⟩
    refine ⟨_, eD, ?_, fun b o e => ?_, ?_⟩
    · rw [List.length_map, List.length_take]
      exact Nat.lt_of_le_of_lt (Nat.min_le_left _ _) (small1000 (by omega))
    · rw [upd_ne (ne_of_none e nD)]
      exact s3 _ _ e
    · unfold vals1
      rw [upd_same, take_rng hi, List.map_append]
      rfl
  rintro H3 ⟨s3, eD⟩
  have lv : (vals1 wd m).length = m := by
    unfold vals1
    rw [List.length_map, List.length_range]
  rw [List.take_of_length_le (by rw [lv]; exact Nat.le_refl _)] at eD
  try simp only [L2.start, List.map_cons, List.map_nil, List.length_cons, List.length_nil, List.replicate_succ, List.replicate_zero, List.cons_append, List.nil_append, List.set_cons_succ, List.set_cons_zero, Nat.reduceAdd, Nat.reduceSub, Nat.zero_add]
  refine ⟨_, rfl, _, rfl, Z, p, m, gs, nm, D, vals1 wd m, 1, rfl, hN.same s3, .inl (SqL.of eD), lv, by decide, hl, hm, hok, hnm, fun ys t HT hp hs sT RT => ?_⟩
  rw [show ((2 : Int) ^ 1 - 1) = 1 from rfl, show (vals1 wd m).map (· % 2 ^ 1) = vals1 wd m from by
    unfold vals1
    rw [List.map_map]
    refine List.map_congr_left fun i _ => ?_
    show tb wd (m - 1 - i) % 2 ^ 1 = tb wd (m - 1 - i)
    have := tb_01 wd (m - 1 - i)
    have : (2 : Int) ^ 1 = 2 := rfl
    omega] at RT
  obtain ⟨_, ts, lt, eT, hts⟩ := RT
  have lys : ys.length < 64 := by
    have := hp.length_eq
    rw [List.length_map] at this
    omega
  refine ⟨t, rfl, ⟨_, SqL.of eT⟩, fun R nR => ?_⟩
  refine lc_it (walk_list (K := K) (a := t) (xs := ts.map V.ref)) (fun i H9 => Same HT H9 ∧ ∃ us : List Addr, us.length = i ∧ H9 R = some (.lst (us.map V.ref)) ∧ ∀ (k : Nat) (u : Addr) (x : Str), us[k]? = some u → ys[k]? = some x → ∃ ws : List Nat, (x, ws) ∈ nm ∧ H9 u = some (.tup [.str x, .int (wf (ws.map fun a => (rv 1 (vals1 wd m) gs).getD a 0))])) ⟨same_upd nR, [], rfl, upd_same, fun k u x h => by simp at h⟩ (fun i H9 _ ⟨s9, _⟩ => SqL.of (s9 _ _ eT)) ?_ ?_
  · rintro j z H9 H10 hj ⟨s9, us, lu, eR, hus⟩ ⟨rfl, hz⟩
    rw [List.getElem?_map] at hz
    have hj' : j < ts.length := by
      rw [List.length_map] at hj
      exact hj
    have hy : ys[j]? = some ys[j] := List.getElem?_eq_getElem (by omega)
    rw [List.getElem?_eq_getElem hj'] at hz
    cases hz
    obtain ⟨ws, l, hx, _, g1, g2⟩ := hts j _ _ (List.getElem?_eq_getElem hj') hy
    have f1 := s9 _ _ g1
    have f2 := s9 _ _ g2
    refine ⟨ts[j], _, rfl, .inl (.inl f1), rfl, _, _, rfl, _, _, rfl, rfl, rfl, yesT ?_⟩
    refine ⟨_, rfl, _, rfl, l, _, rfl, SqL.of f2, (by show 2 ≤ sizeLine; decide), fun u nu => ?_⟩
    have su := same_upd (o := .tup [.str (ys[j]'(by omega)), .int (wf (ws.map fun a => (rv 1 (vals1 wd m) gs).getD a 0))]) nu
    have nuR : u ≠ R := fun z => by
      rw [z, eR] at nu
      cases nu
    refine ⟨_, su _ _ eR, ?_, fun y o e => ?_, us ++ [u], by rw [List.length_append, lu]; rfl, ?_, fun k u' x' hu hx' => ?_⟩
    · rw [List.length_map, lu]
      exact small1000 (by omega)
    · rw [upd_ne (ne_of_none e nR)]
      exact su _ _ (s9 _ _ e)
    · rw [upd_same, List.map_append]
      rfl
    · by_cases c : k < us.length
      · rw [List.getElem?_append_left c] at hu
        obtain ⟨ws', q1, q3⟩ := hus k u' x' hu hx'
        refine ⟨ws', q1, ?_⟩
        rw [upd_ne (fun z => by rw [z, eR] at q3; cases q3)]
        exact su _ _ q3
      · have k0 : k = us.length := by
          have := (List.getElem?_eq_some_iff.mp hu).1
          rw [List.length_append, List.length_cons, List.length_nil] at this
          omega
        rw [List.getElem?_append_right (by omega), k0, Nat.sub_self] at hu
        rw [k0, lu, hy] at hx'
        cases hu
        cases hx'
        refine ⟨ws, hx, ?_⟩
        rw [upd_ne nuR]
        exact upd_same
  · rintro H9 ⟨s9, us, lu, eR, hus⟩
    refine q ys R H9 (by
      cases e : H R with
      | none => rfl
      | some o =>
        rw [(s3.trans sT) _ _ e] at nR
        cases nR) hp hs ((s3.trans sT).trans s9) ⟨us, by rw [lu, List.length_map, lt], eR, hus⟩
end
section
variable {P : Program} {w : World} {K : PySem.W.Frag} {mg : Str → Option Value} {base : Heap}
variable {C : Addr} {za : Nat → Addr} {zl : Nat → FuncData}
/-! ### drawn gates -/
def GsOk (m : Nat) (gs : List Gt) : Prop := ∀ (i : Nat) (g : Gt), gs[i]? = some g → g.ok (m + i)
def RowsAt46 (H : Hp) (R : Addr) (gs : List Gt) : Prop := ∃ ts : List Addr, ts.length = gs.length ∧ H R = some (.lst (ts.map V.ref)) ∧ ∀ (i : Nat) (t : Addr) (g : Gt), ts[i]? = some t → gs[i]? = some g → H t = some (.tup g.row)
def spGatesL : Sp := fun vs H Q _ => ∃ (b : Addr) (c : Int) (m n : Nat), vs = [.ref b, .int (m : Int), .int (n : Int)] ∧ BoxAt c H b ∧ c ≤ 800000000 ∧ 1 ≤ m ∧ m ≤ 100 ∧ n ≤ 200 ∧
  ∀ (R : Addr) (gs : List Gt) (H' : Hp), gs.length = n → GsOk m gs → R ≠ b → RowsAt46 H' R gs → BoxAt (c + 10 * n) H' b → Keep b H H' → Q (.ref R) H'
theorem at3s {r : Int} (h0 : 0 ≤ r) (h1 : r < 6) : ∃ w : Str, atI ([.str "both", .str "either", .str "unlike"] : List V) (r % 3) = some (.str w) ∧ (w = "both" ∨ w = "either" ∨ w = "unlike") := by
  have : r = 0 ∨ r = 1 ∨ r = 2 ∨ r = 3 ∨ r = 4 ∨ r = 5 := by omega
  rcases this with z | z | z | z | z | z <;> subst z
  · exact ⟨_, rfl, .inl rfl⟩
  · exact ⟨_, rfl, .inr (.inl rfl)⟩
  · exact ⟨_, rfl, .inr (.inr rfl)⟩
  · exact ⟨_, rfl, .inl rfl⟩
  · exact ⟨_, rfl, .inr (.inl rfl)⟩
  · exact ⟨_, rfl, .inr (.inr rfl)⟩
theorem ok__law_gates (B : Bl mg) (L : LL K mg C za zl base) : FnOk P w K mg base CX0 2 (za 9) (zl 9) ["_law_box_here", "_law_wide", "_law_size"] spGatesL := by
  have G__law_take : FnOk P w K mg base CX0 1 (za 6) (zl 6) ["_law_box_here", "_law_size"] (spTake 1) := (ok_take L.F__law_take L.b__law_take L.m__law_take B 1).mono (by decide)
  refine L.F__law_gates.ok sc__law_gates (fun vs H Q E h => ?_) (fun cdv A outer s H vs Q E hr h => ?_)
  · obtain ⟨b, c, m, n, rfl, _⟩ := h
    rfl
  obtain ⟨b, c, m, n, rfl, hB, hc, m1, m9, hn, q⟩ := h
  refine ⟨_, (pss_cons (ps_set (i := 3) sc__law_gates.nd rfl (.inl rfl) (pe_lst pa_nil))
    (pss_cons (ps_for PassesOwn.never rfl (pi_range1 (by rfl) B.range (pa_cons (pv 2) pa_nil)) (pg_name (i := 4) sc__law_gates.nd rfl (.inl rfl)) (pss_cons (ps_par (by rfl) sc__law_gates.nd (i := 5) (j := 6) rfl rfl (by decide) rfl rfl (pa_cons (pe_op op_add (pv 1) (pv 4)) (pa_cons (pe_call G__law_take hr (by rfl) L.m__law_take L.F__law_take.kp L.b__law_take .nil pass0 (pa_cons (pv 0) (pa_cons pe_int pa_nil))) pa_nil)) (by rfl))
    (pss_cons (ps_par (by rfl) sc__law_gates.nd (i := 7) (j := 8) rfl rfl (by decide) rfl rfl (pa_cons (pe_call G__law_take hr (by rfl) L.m__law_take L.F__law_take.kp L.b__law_take .nil pass0 (pa_cons (pv 0) (pa_cons (pv 5) pa_nil))) (pa_cons (pe_op op_sub (pe_op op_sub (pv 5) pe_int) (pe_call G__law_take hr (by rfl) L.m__law_take L.F__law_take.kp L.b__law_take .nil pass0 (pa_cons (pv 0) (pa_cons (pe_callB (call_min2 rfl) (by rfl) B.min boot_min (pa_cons (pv 5) (pa_cons pe_int pa_nil))) pa_nil)))) pa_nil)) (by rfl))
    (pss_one (ps_if (pt_cmpR op_lt (pv 6) pe_int (nomark _)) (pss_one (ps_expr (pe_bm PySem.F.plainAttrs_list PySem.F.slot_list_append PySem.F.type_list_append mt_append (pv 3) (pa_cons (pe_op op_catT (pe_tup (pa_cons (pe_ix ix_list (pe_lst (pa_cons pe_str (pa_cons pe_str (pa_cons pe_str pa_nil)))) (pe_op op_mod (pv 6) pe_int) (fun _ _ => rfl)) pa_nil)) (pe_ifExp (pt_cmpR op_lt (pv 6) pe_int (nomark _)) (pe_tup (pa_cons (pv 7) (pa_cons (pv 8) pa_nil))) (pe_tup (pa_cons (pv 8) (pa_cons (pv 7) pa_nil))))) pa_nil)))) (pss_one (ps_expr (pe_bm PySem.F.plainAttrs_list PySem.F.slot_list_append PySem.F.type_list_append mt_append (pv 3) (pa_cons (pe_ix ix_list (pe_lst (pa_cons (pe_tup (pa_cons pe_str (pa_cons (pv 8) pa_nil))) (pa_cons (pe_tup (pa_cons pe_str (pa_cons (pe_op op_mod (pv 7) pe_int) pa_nil))) (pa_cons (pe_tup (pa_cons pe_str (pa_cons (pv 8) (pa_cons (pv 8) pa_nil)))) pa_nil)))) (pe_op op_sub (pv 6) pe_int) (fun _ _ => rfl)) pa_nil)))))))))
    (pss_one (ps_ret (pv 3))))), ?_⟩
  refine ⟨Nat.zero_le _, fun R nR => ?_⟩
  have nRb : R ≠ b := (hB.ne nR).symm
  have sR := same_upd (o := .lst []) nR
  try simp only [L2.start, List.map_cons, List.map_nil, List.length_cons, List.length_nil, List.replicate_succ, List.replicate_zero, List.cons_append, List.nil_append, List.set_cons_succ, List.set_cons_zero, Nat.reduceAdd, Nat.reduceSub, Nat.zero_add]
  refine ⟨_, rfl, _, rfl, by omega, by omega, ?_⟩
  rw [Int.toNat_natCast]
  refine for_range (n := n) (fun j σ H5 => ∃ (gs : List Gt) (y4 y5 y6 y7 y8 : Option V), σ = [some (.ref b), some (.int (m : Int)), some (.int (n : Int)), some (.ref R), y4, y5, y6, y7, y8] ∧ gs.length = j ∧ GsOk m gs ∧ RowsAt46 H5 R gs ∧ BoxAt (c + 10 * j) H5 b ∧ Keep b H H5) ⟨[], none, none, none, none, none, rfl, rfl, (fun i g h => by simp at h), ⟨[], rfl, upd_same, fun i t g h => by simp at h⟩, (hB.same sR).mono (by omega), Keep.ofSame sR⟩ ?_ ?_
  · rintro j σ H5 hj ⟨gs, y4, y5, y6, y7, y8, rfl, lg, ok, ⟨ts, lt, eR, hts⟩, B5, k5⟩
    try simp only [L2.start, List.map_cons, List.map_nil, List.length_cons, List.length_nil, List.replicate_succ, List.replicate_zero, List.cons_append, List.nil_append, List.set_cons_succ, List.set_cons_zero, Nat.reduceAdd, Nat.reduceSub, Nat.zero_add]
    refine ⟨_, rfl, _, rfl, _, _, rfl, rfl, _, rfl, b, _, _, rfl, B5, by decide, by decide, by decide, by omega, by decide, fun r1 H6 u1 v1 B6 k6 => ?_⟩
    replace B6 := bx1 B6
    refine ⟨_, _, rfl, ?_⟩
    try simp only [L2.start, List.map_cons, List.map_nil, List.length_cons, List.length_nil, List.replicate_succ, List.replicate_zero, List.cons_append, List.nil_append, List.set_cons_succ, List.set_cons_zero, Nat.reduceAdd, Nat.reduceSub, Nat.zero_add]
    have hM : (m : Int) + (0 + (j : Int)) = ((m + j : Nat) : Int) := by omega
    rw [hM]
    refine ⟨_, rfl, _, rfl, b, _, _, rfl, B6, by omega, by omega, by omega, by omega, by decide, fun r2 H7 u2 v2 B7 k7 => ?_⟩
    replace B7 := bx1 B7
    obtain ⟨mn, emn, n1, n6⟩ : ∃ mn : Int, (if (6 : Int) < ((m + j : Nat) : Int) then (6 : Int) else ((m + j : Nat) : Int)) = mn ∧ 1 ≤ mn ∧ mn ≤ ((m + j : Nat) : Int) ∧ mn ≤ 6 := ⟨_, rfl, by split <;> omega, by split <;> omega⟩
    refine ⟨_, rfl, _, _, rfl, rfl, _, rfl, _, rfl, _, _, rfl, ?_⟩
    rw [emn]
    refine ⟨b, _, _, rfl, B7, by omega, by omega, by omega, by omega, by decide, fun r3 H8 u3 v3 B8 k8 => ?_⟩
    replace B8 := bx1 B8
    refine ⟨_, _, rfl, rfl, ?_⟩
    refine ⟨_, _, rfl, ?_⟩
    try simp only [L2.start, List.map_cons, List.map_nil, List.length_cons, List.length_nil, List.replicate_succ, List.replicate_zero, List.cons_append, List.nil_append, List.set_cons_succ, List.set_cons_zero, Nat.reduceAdd, Nat.reduceSub, Nat.zero_add]
    have kA := (k6.trans k7).trans k8
    have eR8 := kA _ _ eR nRb
    have hts8 : ∀ (i : Nat) (t : Addr) (g : Gt), ts[i]? = some t → gs[i]? = some g → H8 t = some (.tup g.row) := fun i t g hi hg => kA _ _ (hts i t g hi hg) (fun z => by
      obtain ⟨_, _, _, eb, _⟩ := B5
      have := hts i t g hi hg
      rw [z, eb] at this
      cases this)
    obtain ⟨a, ea⟩ : ∃ a : Nat, r2 = (a : Int) := ⟨r2.toNat, by omega⟩
    obtain ⟨a', ea'⟩ : ∃ a : Nat, ((m + j : Nat) : Int) - 1 - r3 = (a : Int) := ⟨(((m + j : Nat) : Int) - 1 - r3).toNat, by omega⟩
    rw [ea', ea]
    have la : a < m + j := by omega
    have la' : a' < m + j := by omega
    have fin : ∀ (g : Gt) (T : Addr) (HT : Hp) (z4 z5 z6 z7 z8 : Option V), g.ok (m + j) → Same H8 HT → HT T = some (.tup g.row) → HT R = some (.lst (ts.map V.ref)) → ∃ (gs : List Gt) (y4 y5 y6 y7 y8 : Option V), [some (.ref b), some (.int (m : Int)), some (.int (n : Int)), some (.ref R), z4, z5, z6, z7, z8] = [some (.ref b), some (.int (m : Int)), some (.int (n : Int)), some (.ref R), y4, y5, y6, y7, y8] ∧ gs.length = j + 1 ∧ GsOk m gs ∧ RowsAt46 (upd HT R (.lst (ts.map V.ref ++ [.ref T]))) R gs ∧ BoxAt (c + 10 * (j + 1 : Nat)) (upd HT R (.lst (ts.map V.ref ++ [.ref T]))) b ∧ Keep b H (upd HT R (.lst (ts.map V.ref ++ [.ref T]))) := fun g T HT z4 z5 z6 z7 z8 hg sT eT eRT => by
      have nTR : T ≠ R := fun z => by
        rw [z, eRT] at eT
        cases eT
      refine ⟨gs ++ [g], _, _, _, _, _, rfl, by rw [List.length_append, lg]; rfl, fun i g' h => ?_, ⟨ts ++ [T], by rw [List.length_append, List.length_append, lt]; rfl, by rw [upd_same, List.map_append]; rfl, fun i t' g' hi hg' => ?_⟩, BoxAt.mono ((B8.same sT).at (upd_ne nRb.symm)) (by omega), fun y u e ny => ?_⟩
      · by_cases d : i < gs.length
        · rw [List.getElem?_append_left d] at h
          exact ok i g' h
        · have i0 : i = gs.length := by
            have := (List.getElem?_eq_some_iff.mp h).1
            rw [List.length_append, List.length_cons, List.length_nil] at this
            omega
          rw [List.getElem?_append_right (by omega), i0, Nat.sub_self] at h
          cases h
          rw [i0, lg]
          exact hg
      · by_cases d : i < ts.length
        · rw [List.getElem?_append_left d] at hi
          rw [List.getElem?_append_left (by omega)] at hg'
          have e1 := sT _ _ (hts8 i t' g' hi hg')
          rw [upd_ne (fun z => by rw [z, eRT] at e1; cases e1)]
          exact e1
        · have i0 : i = ts.length := by
            have := (List.getElem?_eq_some_iff.mp hi).1
            rw [List.length_append, List.length_cons, List.length_nil] at this
            omega
          rw [List.getElem?_append_right (by omega), i0, Nat.sub_self] at hi
          rw [List.getElem?_append_right (by omega), i0, lt, Nat.sub_self] at hg'
          cases hi
          cases hg'
          rw [upd_ne nTR]
          exact eT
      · rw [upd_ne (ne_of_none e nR)]
        exact sT _ _ (kA _ _ (k5 _ _ e ny) ny)
    have lts : (ts.map V.ref).length < sizeLine := by
      rw [List.length_map, lt, lg]
      exact Nat.lt_of_le_of_lt (show j ≤ 200 by omega) (by decide)
    refine ⟨_, rfl, _, _, rfl, rfl, _, rfl, ite2 (fun c6 => ?_) (fun c6 => ?_)⟩
    · have c6 : r1 < 6 := of_decide_eq_true c6
      obtain ⟨k, ek, hk⟩ := at3s u1 c6
      refine ⟨_, rfl, .inl ⟨rfl, _, SqL.of eR8⟩, ?_⟩
      refine ⟨(by show 3 ≤ sizeLine; decide), fun K3 nK3 => ?_⟩
      have s3 := same_upd (o := .lst [.str "both", .str "either", .str "unlike"]) nK3
      refine ⟨_, rfl, _, _, rfl, rfl, (by show (0 : Int) < 3; decide), K3, _, _, _, rfl, rfl, SqL.of upd_same, ek, ?_⟩
      refine ⟨(by show 1 ≤ sizeLine; decide), fun T1 nT1 => ?_⟩
      have s4 := same_upd (o := .tup [.str k]) nT1
      refine ⟨_, rfl, _, _, rfl, rfl, _, rfl, ite2 (fun c3 => ?_) (fun c3 => ?_)⟩
      · refine ⟨_, rfl, _, rfl, (by show 2 ≤ sizeLine; decide), fun T2 nT2 => ?_⟩
        have s5 := same_upd (o := .tup [.int (a : Int), .int (a' : Int)]) nT2
        refine ⟨T1, T2, _, _, rfl, rfl, .inl (.inl (s5 _ _ upd_same)), .inl (.inl upd_same), (fun z => nomatch z), (by show 3 ≤ sizeLine; decide), (fun z => nomatch z), fun _ T nT => ?_⟩
        have s6 := same_upd (o := .tup ([.str k] ++ [.int (a : Int), .int (a' : Int)])) nT
        have sZ := ((s3.trans s4).trans s5).trans s6
        refine ⟨R, _, _, rfl, rfl, sZ _ _ eR8, lts, ?_⟩
        refine fin (.w k [a, a']) T _ _ _ _ _ _ ⟨.inl ⟨hk, rfl⟩, fun x hx => ?_⟩ sZ upd_same (sZ _ _ eR8)
        simp only [List.mem_cons, List.not_mem_nil, or_false] at hx
        rcases hx with z | z <;> rw [z] <;> assumption
      · refine ⟨_, rfl, _, rfl, (by show 2 ≤ sizeLine; decide), fun T2 nT2 => ?_⟩
        have s5 := same_upd (o := .tup [.int (a' : Int), .int (a : Int)]) nT2
        refine ⟨T1, T2, _, _, rfl, rfl, .inl (.inl (s5 _ _ upd_same)), .inl (.inl upd_same), (fun z => nomatch z), (by show 3 ≤ sizeLine; decide), (fun z => nomatch z), fun _ T nT => ?_⟩
        have s6 := same_upd (o := .tup ([.str k] ++ [.int (a' : Int), .int (a : Int)])) nT
        have sZ := ((s3.trans s4).trans s5).trans s6
        refine ⟨R, _, _, rfl, rfl, sZ _ _ eR8, lts, ?_⟩
        refine fin (.w k [a', a]) T _ _ _ _ _ _ ⟨.inl ⟨hk, rfl⟩, fun x hx => ?_⟩ sZ upd_same (sZ _ _ eR8)
        simp only [List.mem_cons, List.not_mem_nil, or_false] at hx
        rcases hx with z | z <;> rw [z] <;> assumption
    · have c6 : ¬ r1 < 6 := fun z => c6 (decide_eq_true z)
      refine ⟨_, rfl, .inl ⟨rfl, _, SqL.of eR8⟩, ?_⟩
      refine ⟨_, rfl, (by show 2 ≤ sizeLine; decide), fun P1 nP1 => ?_⟩
      have s1 := same_upd (o := .tup [.str "other", .int (a' : Int)]) nP1
      refine ⟨_, rfl, _, _, rfl, rfl, (by show (0 : Int) < 2; decide), (by show 2 ≤ sizeLine; decide), fun P2 nP2 => ?_⟩
      have s2 := same_upd (o := .tup [.str "fixed", .int ((a : Int) % 2)]) nP2
      refine ⟨_, rfl, _, rfl, (by show 3 ≤ sizeLine; decide), fun P3 nP3 => ?_⟩
      have s3 := same_upd (o := .tup [.str "unlike", .int (a' : Int), .int (a' : Int)]) nP3
      refine ⟨(by show 3 ≤ sizeLine; decide), fun PL nPL => ?_⟩
      have s4 := same_upd (o := .lst [.ref P1, .ref P2, .ref P3]) nPL
      have sZ := ((s1.trans s2).trans s3).trans s4
      have g1 := s4 _ _ (s3 _ _ (s2 _ _ (upd_same (H := H8) (a := P1) (o := .tup [.str "other", .int (a' : Int)]))))
      have g2 := s4 _ _ (s3 _ _ (upd_same (H := upd H8 P1 (.tup [.str "other", .int (a' : Int)])) (a := P2) (o := .tup [.str "fixed", .int ((a : Int) % 2)])))
      have g3 := s4 _ _ (upd_same (H := upd (upd H8 P1 (.tup [.str "other", .int (a' : Int)])) P2 (.tup [.str "fixed", .int ((a : Int) % 2)])) (a := P3) (o := .tup [.str "unlike", .int (a' : Int), .int (a' : Int)]))
      have r678 : r1 - 6 = 0 ∨ r1 - 6 = 1 ∨ r1 - 6 = 2 := by omega
      refine ⟨_, rfl, _, _, rfl, rfl, ?_⟩
      dsimp only
      rcases r678 with z | z | z <;> rw [z]
      · refine ⟨PL, _, _, _, rfl, rfl, SqL.of upd_same, rfl, ?_⟩
        refine ⟨R, _, _, rfl, rfl, sZ _ _ eR8, lts, ?_⟩
        exact fin (.w "other" [a']) P1 _ _ _ _ _ _ ⟨.inr ⟨rfl, rfl⟩, fun x hx => by rw [List.mem_singleton.mp hx]; exact la'⟩ sZ g1 (sZ _ _ eR8)
      · refine ⟨PL, _, _, _, rfl, rfl, SqL.of upd_same, rfl, ?_⟩
        refine ⟨R, _, _, rfl, rfl, sZ _ _ eR8, lts, ?_⟩
        exact fin (.fi (a % 2)) P2 _ _ _ _ _ _ (show a % 2 ≤ 1 by omega) sZ g2 (sZ _ _ eR8)
      · refine ⟨PL, _, _, _, rfl, rfl, SqL.of upd_same, rfl, ?_⟩
        refine ⟨R, _, _, rfl, rfl, sZ _ _ eR8, lts, ?_⟩
        refine fin (.w "unlike" [a', a']) P3 _ _ _ _ _ _ ⟨.inl ⟨.inr (.inr rfl), rfl⟩, fun x hx => ?_⟩ sZ g3 (sZ _ _ eR8)
        simp only [List.mem_cons, List.not_mem_nil, or_false] at hx
        rcases hx with z | z <;> rw [z] <;> assumption
  · rintro σ H5 ⟨gs, y4, y5, y6, y7, y8, rfl, lg, ok, hR, B5, k5⟩
    exact ⟨_, rfl, q R gs _ lg ok nRb hR B5 k5⟩
/-! ### the net of drawn gates -/
theorem Gt.row0 (k : Str) (ws : List Nat) : atI (Gt.w k ws).row 0 = some (.str k) := atI_nat (j := 0) rfl
def spMadeL (C : Addr) : Sp := fun vs H Q _ => ∃ (Z : List Addr) (R : Addr) (m : Nat) (gs : List Gt), vs = [.ref R, .int (m : Int)] ∧ (∀ z ∈ Z, H z ≠ none) ∧ RowsAt46 H R gs ∧ GsOk m gs ∧ m ≤ 100 ∧ gs.length ≤ 200 ∧
  ∀ (p : NetP) (H' : Hp), Same H H' → NetAt C Z H' p m gs [] → (H p.x = none ∧ H p.lm = none ∧ H p.ld = none ∧ H p.dn = none) → Q (.ref p.x) H'
theorem ok__law_made (B : Bl mg) (L : LL K mg C za zl base) : FnOk P w K mg base CX0 5 (za 10) (zl 10) ["_law_rows", "_law_wide"] (spMadeL C) := by
  have G_Net___init__ : FnOk P w K mg base CX0 3 (za 17) (zl 17) ["self", "many"] (spNetI C) := (ok_Net___init__ B L).mono (by decide)
  have G_Net_both : FnOk P w K mg base CX0 4 (za 18) (zl 18) ["self", "a", "b"] (spG2 C "both") := (ok_Net_both B L).mono (by decide)
  have G_Net_either : FnOk P w K mg base CX0 4 (za 19) (zl 19) ["self", "a", "b"] (spG2 C "either") := (ok_Net_either B L).mono (by decide)
  have G_Net_unlike : FnOk P w K mg base CX0 4 (za 20) (zl 20) ["self", "a", "b"] (spG2 C "unlike") := (ok_Net_unlike B L).mono (by decide)
  have G_Net_other : FnOk P w K mg base CX0 4 (za 21) (zl 21) ["self", "a"] (spG1 C) := (ok_Net_other B L).mono (by decide)
  have G_Net_fixed : FnOk P w K mg base CX0 4 (za 22) (zl 22) ["self", "bit"] (spFixed C) := (ok_Net_fixed B L).mono (by decide)
  refine L.F__law_made.ok sc__law_made (fun vs H Q E h => ?_) (fun cdv A outer s H vs Q E hr h => ?_)
  · obtain ⟨Z, R, m, gs, rfl, _⟩ := h
    rfl
  obtain ⟨Z, R, m, gs, rfl, hZ, ⟨ts, lt, eR, hts⟩, ok, hm, hg, q⟩ := h
  refine ⟨_, (pss_cons (ps_set (i := 2) sc__law_made.nd rfl (.inl rfl) (pe_make L.M G_Net___init__ hr (by rfl) L.T.mgC L.b_Net___init__ .nil pass0 (pa_cons (pv 1) pa_nil)))
    (pss_cons (ps_for PassesOwn.never rfl (pi_list (pv 0)) (pg_name (i := 3) sc__law_made.nd rfl (.inl rfl)) (pss_one (ps_if (pt_cmpR op_eq (pe_ix ix_tup (pv 3) pe_int (fun _ _ => rfl)) pe_str (nomark _)) (pss_one (ps_expr (pe_meth (pv 2) L.T.cl L.M_Net_both G_Net_both hr L.b_Net_both .nil pass0 (pa_cons (pe_ix ix_tup (pv 3) pe_int (fun _ _ => rfl)) (pa_cons (pe_ix ix_tup (pv 3) pe_int (fun _ _ => rfl)) pa_nil))))) (pss_one (ps_if (pt_cmpR op_eq (pe_ix ix_tup (pv 3) pe_int (fun _ _ => rfl)) pe_str (nomark _)) (pss_one (ps_expr (pe_meth (pv 2) L.T.cl L.M_Net_either G_Net_either hr L.b_Net_either .nil pass0 (pa_cons (pe_ix ix_tup (pv 3) pe_int (fun _ _ => rfl)) (pa_cons (pe_ix ix_tup (pv 3) pe_int (fun _ _ => rfl)) pa_nil))))) (pss_one (ps_if (pt_cmpR op_eq (pe_ix ix_tup (pv 3) pe_int (fun _ _ => rfl)) pe_str (nomark _)) (pss_one (ps_expr (pe_meth (pv 2) L.T.cl L.M_Net_unlike G_Net_unlike hr L.b_Net_unlike .nil pass0 (pa_cons (pe_ix ix_tup (pv 3) pe_int (fun _ _ => rfl)) (pa_cons (pe_ix ix_tup (pv 3) pe_int (fun _ _ => rfl)) pa_nil))))) (pss_one (ps_if (pt_cmpR op_eq (pe_ix ix_tup (pv 3) pe_int (fun _ _ => rfl)) pe_str (nomark _)) (pss_one (ps_expr (pe_meth (pv 2) L.T.cl L.M_Net_other G_Net_other hr L.b_Net_other .nil pass0 (pa_cons (pe_ix ix_tup (pv 3) pe_int (fun _ _ => rfl)) pa_nil)))) (pss_one (ps_expr (pe_meth (pv 2) L.T.cl L.M_Net_fixed G_Net_fixed hr L.b_Net_fixed .nil pass0 (pa_cons (pe_ix ix_tup (pv 3) pe_int (fun _ _ => rfl)) pa_nil)))))))))))))
    (pss_one (ps_ret (pv 2))))), ?_⟩
  refine ⟨_, rfl, fun x dx nx ndx ne => ?_⟩
  refine ⟨x, dx, m, rfl, upd_same, by omega, fun p H1 px fr ⟨n1, n2, n3⟩ N0 => ⟨rfl, ?_⟩⟩
  have s1 : Same H H1 := made nx ndx ne fr
  subst px
  have up : ∀ {y : Addr}, (upd (upd H dx (.own p.x)) p.x (.ins C dx [])) y = none → H y = none := fun {y} e => by
    cases h : H y with
    | none => rfl
    | some o =>
      rw [upd_ne (ne_of_none h nx), upd_ne (ne_of_none h ndx), h] at e
      cases e
  have N1 := N0 Z (fun z hz => by
    have h := hZ z hz
    have a : z ≠ p.x := fun y => h (by rw [y]; exact nx)
    have b : z ≠ dx := fun y => h (by rw [y]; exact ndx)
    exact ⟨a, by rw [upd_ne a, upd_ne b]; exact h⟩)
  have m1 := up n1
  have m2 := up n2
  have m3 := up n3
  try simp only [L2.start, List.map_cons, List.map_nil, List.length_cons, List.length_nil, List.replicate_succ, List.replicate_zero, List.cons_append, List.nil_append, List.set_cons_succ, List.set_cons_zero, Nat.reduceAdd, Nat.reduceSub, Nat.zero_add]
  have eR1 := s1 _ _ eR
  refine ⟨_, rfl, R, rfl, ⟨_, SqL.of eR1⟩, ?_⟩
  refine for_it (walk_list (K := K) (a := R) (xs := ts.map V.ref)) (fun j σ H9 => ∃ y : Option V, σ = [some (.ref R), some (.int (m : Int)), some (.ref p.x), y] ∧ Same H H9 ∧ NetAt C Z H9 p m (gs.take j) []) ⟨_, rfl, s1, N1⟩ (fun j σ H9 _ ⟨_, _, s9, _⟩ => SqL.of (s9 _ _ eR)) ?_ ?_
  · rintro j z σ H9 H10 hj ⟨y, rfl, s9, N9⟩ ⟨rfl, hz⟩
    rw [List.getElem?_map] at hz
    have hj' : j < ts.length := by
      rw [List.length_map] at hj
      exact hj
    rw [List.getElem?_eq_getElem hj'] at hz
    cases hz
    have hgj : gs[j]? = some (gs[j]'(by omega)) := List.getElem?_eq_getElem (by omega)
    have et := s9 _ _ (hts j _ _ (List.getElem?_eq_getElem hj') hgj)
    have okj := ok j _ hgj
    have lj : (gs.take j).length = j := by
      rw [List.length_take]
      omega
    have tk : gs.take (j + 1) = gs.take j ++ [gs[j]'(by omega)] := by
      rw [List.take_add_one, hgj]
      rfl
    obtain ⟨_, _, _, dx9, _, _, e1, _⟩ := id N9
    have kp : ∀ {H' : Hp}, KeepS [p.lm, p.ld] H10 H' → Same H H' := fun k y o e => k.1 y o (s9 _ _ e) (fun z => by
      simp only [List.mem_cons, List.not_mem_nil, or_false] at z
      rcases z with z | z
      · rw [z, m1] at e
        cases e
      · rw [z, m2] at e
        cases e)
    generalize gs[j]'(by omega) = g at et okj tk
    try simp only [L2.start, List.map_cons, List.map_nil, List.length_cons, List.length_nil, List.replicate_succ, List.replicate_zero, List.cons_append, List.nil_append, List.set_cons_succ, List.set_cons_zero, Nat.reduceAdd, Nat.reduceSub, Nat.zero_add]
    have nS : ∀ {x y : Str}, ¬ x = y → ¬ decide (V.str x = V.str y) = true := fun h z => h (V.str.inj (of_decide_eq_true z))
    dsimp only [gName]
    try simp only [L2.start, List.map_cons, List.map_nil, List.length_cons, List.length_nil, List.replicate_succ, List.replicate_zero, List.cons_append, List.nil_append, List.set_cons_succ, List.set_cons_zero, Nat.reduceAdd, Nat.reduceSub, Nat.zero_add]
    cases g with
    | fi b =>
      have r0 : atI (Gt.fi b).row 0 = some (.str "fixed") := rfl
      refine ⟨_, rfl, ts[j], _, _, _, rfl, rfl, .inl (.inl et), r0, rfl, _, rfl, ite2 (fun z => absurd z (nS (by decide +kernel))) (fun _ => ?_)⟩
      refine ⟨_, rfl, ts[j], _, _, _, rfl, rfl, .inl (.inl et), r0, rfl, _, rfl, ite2 (fun z => absurd z (nS (by decide +kernel))) (fun _ => ?_)⟩
      refine ⟨_, rfl, ts[j], _, _, _, rfl, rfl, .inl (.inl et), r0, rfl, _, rfl, ite2 (fun z => absurd z (nS (by decide +kernel))) (fun _ => ?_)⟩
      refine ⟨_, rfl, ts[j], _, _, _, rfl, rfl, .inl (.inl et), r0, rfl, _, rfl, ite2 (fun z => absurd z (nS (by decide +kernel))) (fun _ => ?_)⟩
      refine ⟨_, rfl, p.x, dx9, _, rfl, e1, rfl, _, rfl, ts[j], _, _, _, rfl, rfl, .inl (.inl et), rfl, Z, p, m, gs.take j, [], b, rfl, N9, by rw [lj]; omega, fun H' k' N' => ?_⟩
      exact ⟨_, rfl, kp k', by rw [tk]; exact N'⟩
    | w k ws =>
      have r0 := Gt.row0 k ws
      rcases okj.1 with ⟨hk, l2⟩ | ⟨rfl, l1⟩
      · obtain ⟨a, b, rfl⟩ : ∃ a b, ws = [a, b] := by
          match ws, l2 with
          | [a, b], _ => exact ⟨_, _, rfl⟩
        rcases hk with rfl | rfl | rfl
        · refine ⟨_, rfl, ts[j], _, _, _, rfl, rfl, .inl (.inl et), r0, rfl, _, rfl, ite2 (fun _ => ?_) (fun z => absurd (decide_eq_true rfl) z)⟩
          refine ⟨_, rfl, p.x, dx9, _, rfl, e1, rfl, _, rfl, ts[j], _, _, _, rfl, rfl, .inl (.inl et), rfl, _, rfl, ts[j], _, _, _, rfl, rfl, .inl (.inl et), rfl, Z, p, m, gs.take j, [], a, b, rfl, N9, by rw [lj]; exact okj.2 a (by simp), by rw [lj]; exact okj.2 b (by simp), by rw [lj]; omega, fun H' k' N' => ?_⟩
          exact ⟨_, rfl, kp k', by rw [tk]; exact N'⟩
        · refine ⟨_, rfl, ts[j], _, _, _, rfl, rfl, .inl (.inl et), r0, rfl, _, rfl, ite2 (fun z => absurd z (nS (by decide +kernel))) (fun _ => ?_)⟩
          refine ⟨_, rfl, ts[j], _, _, _, rfl, rfl, .inl (.inl et), r0, rfl, _, rfl, ite2 (fun _ => ?_) (fun z => absurd (decide_eq_true rfl) z)⟩
          refine ⟨_, rfl, p.x, dx9, _, rfl, e1, rfl, _, rfl, ts[j], _, _, _, rfl, rfl, .inl (.inl et), rfl, _, rfl, ts[j], _, _, _, rfl, rfl, .inl (.inl et), rfl, Z, p, m, gs.take j, [], a, b, rfl, N9, by rw [lj]; exact okj.2 a (by simp), by rw [lj]; exact okj.2 b (by simp), by rw [lj]; omega, fun H' k' N' => ?_⟩
          exact ⟨_, rfl, kp k', by rw [tk]; exact N'⟩
        · refine ⟨_, rfl, ts[j], _, _, _, rfl, rfl, .inl (.inl et), r0, rfl, _, rfl, ite2 (fun z => absurd z (nS (by decide +kernel))) (fun _ => ?_)⟩
          refine ⟨_, rfl, ts[j], _, _, _, rfl, rfl, .inl (.inl et), r0, rfl, _, rfl, ite2 (fun z => absurd z (nS (by decide +kernel))) (fun _ => ?_)⟩
          refine ⟨_, rfl, ts[j], _, _, _, rfl, rfl, .inl (.inl et), r0, rfl, _, rfl, ite2 (fun _ => ?_) (fun z => absurd (decide_eq_true rfl) z)⟩
          refine ⟨_, rfl, p.x, dx9, _, rfl, e1, rfl, _, rfl, ts[j], _, _, _, rfl, rfl, .inl (.inl et), rfl, _, rfl, ts[j], _, _, _, rfl, rfl, .inl (.inl et), rfl, Z, p, m, gs.take j, [], a, b, rfl, N9, by rw [lj]; exact okj.2 a (by simp), by rw [lj]; exact okj.2 b (by simp), by rw [lj]; omega, fun H' k' N' => ?_⟩
          exact ⟨_, rfl, kp k', by rw [tk]; exact N'⟩
      · obtain ⟨a, rfl⟩ : ∃ a, ws = [a] := by
          match ws, l1 with
          | [a], _ => exact ⟨_, rfl⟩
        refine ⟨_, rfl, ts[j], _, _, _, rfl, rfl, .inl (.inl et), r0, rfl, _, rfl, ite2 (fun z => absurd z (nS (by decide +kernel))) (fun _ => ?_)⟩
        refine ⟨_, rfl, ts[j], _, _, _, rfl, rfl, .inl (.inl et), r0, rfl, _, rfl, ite2 (fun z => absurd z (nS (by decide +kernel))) (fun _ => ?_)⟩
        refine ⟨_, rfl, ts[j], _, _, _, rfl, rfl, .inl (.inl et), r0, rfl, _, rfl, ite2 (fun z => absurd z (nS (by decide +kernel))) (fun _ => ?_)⟩
        refine ⟨_, rfl, ts[j], _, _, _, rfl, rfl, .inl (.inl et), r0, rfl, _, rfl, ite2 (fun _ => ?_) (fun z => absurd (decide_eq_true rfl) z)⟩
        refine ⟨_, rfl, p.x, dx9, _, rfl, e1, rfl, _, rfl, ts[j], _, _, _, rfl, rfl, .inl (.inl et), rfl, Z, p, m, gs.take j, [], a, rfl, N9, by rw [lj]; exact okj.2 a (by simp), by rw [lj]; omega, fun H' k' N' => ?_⟩
        exact ⟨_, rfl, kp k', by rw [tk]; exact N'⟩
  · rintro σ H9 ⟨y, rfl, s9, N9⟩
    rw [List.length_map, List.take_of_length_le (by omega)] at N9
    exact ⟨_, rfl, q p H9 s9 N9 ⟨nx, m1, m2, m3⟩⟩
end
section
variable {P : Program} {w : World} {K : PySem.W.Frag} {mg : Str → Option Value} {base : Heap}
variable {C : Addr} {za : Nat → Addr} {zl : Nat → FuncData}
def spLenN (C : Addr) : Sp := fun vs H Q _ => ∃ (Z : List Addr) (p : NetP) (m : Nat) (gs : List Gt) (nm : List (Str × List Nat)), vs = [.ref p.x] ∧ NetAt C Z H p m gs nm ∧ Q (.int (gs.length : Nat)) H
theorem ok_Net___len__ (B : Bl mg) (L : LL K mg C za zl base) : FnOk P w K mg base CX0 1 (za 31) (zl 31) ["self"] (spLenN C) := by
  refine L.F_Net___len__.ok sc_Net___len__ (fun vs H Q E h => ?_) (fun cdv A outer s H vs Q E hr h => ?_)
  · obtain ⟨Z, p, m, gs, nm, rfl, _⟩ := h
    rfl
  obtain ⟨Z, p, m, gs, nm, rfl, hN, q⟩ := h
  refine ⟨_, (pss_one (ps_ret (pe_callB call_len_seq (by rfl) B.len PySem.boot_len (pa_cons (pe_fld (pv 0) rfl) pa_nil)))), ?_⟩
  obtain ⟨_, _, _, dx, ps, kvs, e1, e2, e3, _, ⟨g1, _⟩, _⟩ := id hN
  refine ⟨_, rfl, p.x, C, dx, _, _, rfl, e1, L.T.cl, L.T.n_made, rfl, p.lm, _, rfl, .inl (SqL.of e2), ?_⟩
  rw [List.length_map, g1]
  exact q
theorem big_lt {n : Nat} (h : n ≤ 500000) : n < sizeLine := Nat.lt_of_le_of_lt h (by decide)
def spLike (C : Addr) : Sp := fun vs H Q _ => ∃ (Z : List Addr) (p : NetP) (m : Nat) (gs : List Gt) (nm : List (Str × List Nat)), vs = [.ref p.x] ∧ NetAt C Z H p m gs nm ∧ m ≤ 100000 ∧ m + gs.length ≤ 400000 ∧ nm.length ≤ 900 ∧
  ∀ (p2 : NetP) (H' : Hp), Same H H' → (H p2.x = none ∧ H p2.lm = none ∧ H p2.ld = none ∧ H p2.dn = none) → (∀ Z2 : List Addr, (∀ z ∈ Z2, H z ≠ none ∧ (z ∈ Z ∨ z ∈ [p.x, p.lm, p.ld, p.dn])) → NetAt C Z2 H' p2 m gs nm) → Q (.ref p2.x) H'
theorem ok_Net_like (B : Bl mg) (L : LL K mg C za zl base) : FnOk P w K mg base CX0 3 (za 32) (zl 32) ["self"] (spLike C) := by
  have G_Net___init__ : FnOk P w K mg base CX0 1 (za 17) (zl 17) ["self", "many"] (spNetI C) := (ok_Net___init__ B L).mono (by decide)
  refine L.F_Net_like.ok sc_Net_like (fun vs H Q E h => ?_) (fun cdv A outer s H vs Q E hr h => ?_)
  · obtain ⟨Z, p, m, gs, nm, rfl, _⟩ := h
    rfl
  obtain ⟨Z, p, m, gs, nm, rfl, hN, hm, hl, hnm, q⟩ := h
  refine ⟨_, (pss_cons (ps_set (i := 1) sc_Net_like.nd rfl (.inl rfl) (pe_make L.M G_Net___init__ hr (by rfl) L.T.mgC L.b_Net___init__ .nil pass0 (pa_cons (pe_fld (pv 0) rfl) pa_nil)))
    (pss_cons (ps_fld (pv 1) (pe_callTy call_list_of (by rfl) B.list PyProof.Rows.boot_list (pa_cons (pe_fld (pv 0) rfl) pa_nil)) rfl)
    (pss_cons (ps_fld (pv 1) (pe_callTy call_list_of (by rfl) B.list PyProof.Rows.boot_list (pa_cons (pe_fld (pv 0) rfl) pa_nil)) rfl)
    (pss_cons (ps_fld (pv 1) (pe_lock (pe_dc (own := [("name", 2)]) (by rfl) sc_Net_like.nd (pi_keys (pe_fld (pv 0) rfl)) (blkOk_by (own := [("name", 2)]) (N := ["self", "twin", "name"]) (sc := defScope s_Net_like) (by decide +kernel)) (fun _ _ _ _ _ => pg_name (i := 2) sc_Net_like.nd rfl (Or.inl rfl)) (fun _ _ _ _ _ => pts_nil) (fun _ _ _ _ _ => (pv 2)) (fun _ _ _ _ _ => (pe_callTy (call_list_ofK (K := K)) (by rfl) B.list PyProof.Rows.boot_list (pa_cons (pe_dget (units1 hr) (pe_fldK (K := K) (pv 0) rfl) (pv 2) (fun _ _ => rfl)) pa_nil))))) rfl)
    (pss_one (ps_ret (pv 1))))))), ?_⟩
  obtain ⟨hz, hb, ⟨c1, c2, c3, c4⟩, dx0, ps, kvs, e1, e2, e3, e4, ⟨g1, g2⟩, n0⟩ := id hN
  refine ⟨_, rfl, p.x, C, dx0, _, _, rfl, e1, L.T.cl, L.T.n_input_count, rfl, fun x dx nx ndx ne => ?_⟩
  refine ⟨x, dx, m, rfl, upd_same, by omega, fun p2 H7 px fr ⟨n1, n2, n3⟩ N0 => ⟨rfl, ?_⟩⟩
  have s7 : Same H H7 := made nx ndx ne fr
  subst px
  obtain ⟨_, _, _, dx2, ps2, kvs2, x1, x2, x3, x4, _⟩ := N0 [] (fun z hz => nomatch hz)
  try simp only [L2.start, List.map_cons, List.map_nil, List.length_cons, List.length_nil, List.replicate_succ, List.replicate_zero, List.cons_append, List.nil_append, List.set_cons_succ, List.set_cons_zero, Nat.reduceAdd, Nat.reduceSub, Nat.zero_add]
  dsimp only [gName]
  try simp only [L2.start, List.map_cons, List.map_nil, List.length_cons, List.length_nil, List.replicate_succ, List.replicate_zero, List.cons_append, List.nil_append, List.set_cons_succ, List.set_cons_zero, Nat.reduceAdd, Nat.reduceSub, Nat.zero_add]
  have nxp : ∀ {y : Addr} {o : HO}, H y = some o → y ≠ p2.x := fun e => ne_of_none e nx
  have F1 := s7 _ _ e1
  have F2 := s7 _ _ e2
  have F3 := s7 _ _ e3
  refine ⟨_, rfl, p.x, C, dx0, _, _, rfl, F1, L.T.cl, L.T.n_made, rfl, p.lm, _, rfl, .inl (SqL.of F2), fun A1 nA1 => ?_⟩
  have sA1 := same_upd (o := .lst (ps.map V.ref)) nA1
  have a1x : p2.x ≠ A1 := ne_of_none x1 nA1
  refine ⟨_, rfl, p2.x, C, dx2, _, rfl, sA1 _ _ x1, L.T.cl, L.T.n_made, (by show 4 < 1000; decide), ?_⟩
  have f9 : ∀ y o, H7 y = some o → y ≠ p2.x → (upd (upd H7 A1 (.lst (ps.map V.ref))) p2.x (.ins C dx2 [("input_count", .int (m : Int)), ("made", .ref A1), ("depths", .ref p2.ld), ("by_name", .ref p2.dn)])) y = some o := fun y o e n => by rw [upd_ne n]; exact sA1 _ _ e
  have x9 : (upd (upd H7 A1 (.lst (ps.map V.ref))) p2.x (.ins C dx2 [("input_count", .int (m : Int)), ("made", .ref A1), ("depths", .ref p2.ld), ("by_name", .ref p2.dn)])) p2.x = some (.ins C dx2 [("input_count", .int (m : Int)), ("made", .ref A1), ("depths", .ref p2.ld), ("by_name", .ref p2.dn)]) := upd_same
  have g9 : (upd (upd H7 A1 (.lst (ps.map V.ref))) p2.x (.ins C dx2 [("input_count", .int (m : Int)), ("made", .ref A1), ("depths", .ref p2.ld), ("by_name", .ref p2.dn)])) A1 = some (.lst (ps.map V.ref)) := by rw [upd_ne a1x.symm, upd_same]
  show tSeq _ _ _ _ (upd (upd H7 A1 (.lst (ps.map V.ref))) p2.x (.ins C dx2 [("input_count", .int (m : Int)), ("made", .ref A1), ("depths", .ref p2.ld), ("by_name", .ref p2.dn)]))
  generalize upd (upd H7 A1 (.lst (ps.map V.ref))) p2.x (.ins C dx2 [("input_count", .int (m : Int)), ("made", .ref A1), ("depths", .ref p2.ld), ("by_name", .ref p2.dn)]) = H9 at *
  have s9 : Same H H9 := fun y o e => f9 _ _ (s7 _ _ e) (nxp e)
  have G1 := s9 _ _ e1
  have G3 := s9 _ _ e3
  refine ⟨_, rfl, p.x, C, dx0, _, _, rfl, G1, L.T.cl, L.T.n_depths, rfl, p.ld, _, rfl, .inl (SqL.of G3), fun A2 nA2 => ?_⟩
  have sA2 := same_upd (o := .lst ((dps m gs).map V.int)) nA2
  have a2x : p2.x ≠ A2 := ne_of_none x9 nA2
  have a21 : A1 ≠ A2 := ne_of_none g9 nA2
  refine ⟨_, rfl, p2.x, C, dx2, _, rfl, sA2 _ _ x9, L.T.cl, L.T.n_depths, (by show 4 < 1000; decide), ?_⟩
  have f10 : ∀ y o, H9 y = some o → y ≠ p2.x → (upd (upd H9 A2 (.lst ((dps m gs).map V.int))) p2.x (.ins C dx2 [("input_count", .int (m : Int)), ("made", .ref A1), ("depths", .ref A2), ("by_name", .ref p2.dn)])) y = some o := fun y o e n => by rw [upd_ne n]; exact sA2 _ _ e
  have x10 : (upd (upd H9 A2 (.lst ((dps m gs).map V.int))) p2.x (.ins C dx2 [("input_count", .int (m : Int)), ("made", .ref A1), ("depths", .ref A2), ("by_name", .ref p2.dn)])) p2.x = some (.ins C dx2 [("input_count", .int (m : Int)), ("made", .ref A1), ("depths", .ref A2), ("by_name", .ref p2.dn)]) := upd_same
  have h10 : (upd (upd H9 A2 (.lst ((dps m gs).map V.int))) p2.x (.ins C dx2 [("input_count", .int (m : Int)), ("made", .ref A1), ("depths", .ref A2), ("by_name", .ref p2.dn)])) A2 = some (.lst ((dps m gs).map V.int)) := by rw [upd_ne a2x.symm, upd_same]
  have g10 := f10 _ _ g9 a1x.symm
  show tSeq _ _ _ _ (upd (upd H9 A2 (.lst ((dps m gs).map V.int))) p2.x (.ins C dx2 [("input_count", .int (m : Int)), ("made", .ref A1), ("depths", .ref A2), ("by_name", .ref p2.dn)]))
  generalize upd (upd H9 A2 (.lst ((dps m gs).map V.int))) p2.x (.ins C dx2 [("input_count", .int (m : Int)), ("made", .ref A1), ("depths", .ref A2), ("by_name", .ref p2.dn)]) = HA at *
  have sA : Same H HA := fun y o e => f10 _ _ (s9 _ _ e) (nxp e)
  have J1 := sA _ _ e1
  have J4 := sA _ _ e4
  have nHA1 : H A1 = none := by
    cases e : H A1 with
    | none => rfl
    | some o => rw [s7 _ _ e] at nA1; cases nA1
  have nHA2 : H A2 = none := by
    cases e : H A2 with
    | none => rfl
    | some o => rw [s9 _ _ e] at nA2; cases nA2
  refine ⟨p.dn, .dK kvs, J4, by exact True.intro, fun od => ?_⟩
  have ndx : p.x ≠ p.dn := fun z => by rw [z, J4] at J1; cases J1
  have fL : ∀ y o, HA y = some o → y ≠ p.dn → (upd HA p.dn (.frz od (.dK kvs))) y = some o := fun y o e n => by rw [upd_ne n]; exact e
  have L1 := fL _ _ J1 ndx
  have Ld : (upd HA p.dn (.frz od (.dK kvs))) p.dn = some (.frz od (.dK kvs)) := upd_same
  have nL : ∀ y, (upd HA p.dn (.frz od (.dK kvs))) y = none → HA y = none := fun y e => by
    by_cases c : y = p.dn
    · rw [c, upd_same] at e
      cases e
    · rw [upd_ne c] at e
      exact e
  have bL : ∀ G : Hp, Same (upd HA p.dn (.frz od (.dK kvs))) G → Same HA (upd G p.dn (.dK kvs)) := fun G sG y o e => by
    by_cases c : y = p.dn
    · rw [c, J4] at e
      rw [c, upd_same]
      exact e
    · rw [upd_ne c]
      exact sG _ _ (fL _ _ e c)
  generalize upd HA p.dn (.frz od (.dK kvs)) = HL at *
  refine ⟨_, rfl, p.x, C, dx0, _, _, rfl, L1, L.T.cl, L.T.n_by_name, rfl, p.dn, od, rfl, .inl ⟨kvs, Ld, fun D nD => ?_⟩⟩
  have lkv : kvs.length = nm.length := n0.1
  refine dc_it (walk_keys (kvs := kvs) (d := p.dn) (o := od)) (fun j Hj => ∃ ls : List Addr, ls.length = j ∧ Same HL Hj ∧ Hj D = some (.dK (((kvs.take j).zip ls).map fun q => (q.1.1, V.ref q.2))) ∧ ∀ (i : Nat) (l : Addr) (nw : Str × List Nat), ls[i]? = some l → nm[i]? = some nw → Hj l = some (.lst (nts nw.2)) ∧ HL l = none ∧ l ≠ D) ⟨[], rfl, same_upd nD, by rw [upd_same]; rfl, fun i l nw h => by simp at h⟩ (fun j Hj _ ⟨_, _, sj, _⟩ => sj _ _ Ld) ?_ ?_
  · rintro j x H0 Hj hj ⟨ls, ll, sj, eD, hls⟩ ⟨rfl, k, v, hk, rfl⟩
    obtain ⟨⟨n, ws⟩, hn⟩ : ∃ nw, nm[j]? = some nw := ⟨nm[j]'(by omega), List.getElem?_eq_getElem (by omega)⟩
    obtain ⟨rfl, l, rfl, l1, l2, l3, l4⟩ := n0.2.2 j k v n ws hk hn
    have ldn : l ≠ p.dn := fun z => by rw [z, e4] at l4; cases l4
    have el := sj _ _ (fL _ _ (sA _ _ l4) ldn)
    dsimp only [gName]
    refine ⟨rfl, yesT ?_⟩
    try simp only [L2.start, List.map_cons, List.map_nil, List.length_cons, List.length_nil, List.replicate_succ, List.replicate_zero, List.cons_append, List.nil_append, List.set_cons_succ, List.set_cons_zero, Nat.reduceAdd, Nat.reduceSub, Nat.zero_add]
    refine ⟨_, rfl, ?_⟩
    refine ⟨_, rfl, p.x, C, dx0, _, _, rfl, sj _ _ L1, L.T.cl, L.T.n_by_name, rfl, _, rfl, p.dn, .ref l, rfl, .inl ⟨kvs, .inr n, .inr ⟨od, sj _ _ Ld⟩, rfl, (valV_at n0.nodup hk).symm⟩, ?_⟩
    refine ⟨l, _, rfl, .inl (SqL.of el), fun A nA => ?_⟩
    have sAA := same_upd (o := .lst (nts ws)) nA
    have nAD : A ≠ D := fun z => by rw [z, eD] at nA; cases nA
    have kz : (((kvs.take j).zip ls).map fun q => (q.1.1, V.ref q.2)).length = j := by rw [List.length_map, List.length_zip, List.length_take, ll]; omega
    have out : valV (((kvs.take j).zip ls).map fun q => (q.1.1, V.ref q.2)) (.inr n) = none := by
      refine valV_out (fun z => ?_)
      obtain ⟨q1, hq, e⟩ := List.mem_map.mp z
      obtain ⟨r, hr, rfl⟩ := List.mem_map.mp hq
      obtain ⟨i, hi⟩ := List.mem_iff_getElem?.mp (List.of_mem_zip hr).1
      have il : i < j := by
        have := (List.getElem?_eq_some_iff.mp hi).1
        rw [List.length_take] at this
        omega
      rw [List.getElem?_take_of_lt il] at hi
      have := (List.getElem?_inj (i := i) (j := j) (l := kvs.map (·.1)) (by rw [List.length_map]; omega) n0.nodup).mp (by rw [List.getElem?_map, List.getElem?_map, hi, hk]; exact congrArg some e)
      omega
    refine ⟨_, .inr n, rfl, sAA _ _ eD, by rw [kz]; exact big_lt (by omega), ls ++ [A], by rw [List.length_append, ll]; rfl, fun y o e => ?_, ?_, fun i l' nw h1 h2 => ?_⟩
    · rw [upd_ne (ne_of_none e nD)]
      exact sAA _ _ (sj _ _ e)
    · rw [upd_same, putK_new _ out, List.take_add_one, hk, List.zip_append (by rw [List.length_take, ll]; omega), List.map_append]
      rfl
    · have key : Hj l' = some (.lst (nts nw.2)) ∧ l' ≠ A ∧ HL l' = none ∧ l' ≠ D ∨ l' = A ∧ nw.2 = ws := by
        by_cases c : i < ls.length
        · rw [List.getElem?_append_left c] at h1
          obtain ⟨b1, b2, b3⟩ := hls i l' nw h1 h2
          exact .inl ⟨b1, (fun z => by rw [z, nA] at b1; cases b1), b2, b3⟩
        · have i0 : i = ls.length := by
            have := (List.getElem?_eq_some_iff.mp h1).1
            rw [List.length_append, List.length_cons, List.length_nil] at this
            omega
          rw [List.getElem?_append_right (by omega), i0, Nat.sub_self] at h1
          cases h1
          rw [i0, ll, hn] at h2
          cases h2
          exact .inr ⟨rfl, rfl⟩
      rcases key with ⟨b1, b2, b3, b4⟩ | ⟨rfl, b2⟩
      · exact ⟨by rw [upd_ne b4, upd_ne b2]; exact b1, b3, b4⟩
      · refine ⟨by rw [upd_ne nAD, upd_same, b2], ?_, nAD⟩
        cases e : HL l' with
        | none => rfl
        | some o => rw [sj _ _ e] at nA; cases nA
  rintro HN ⟨ls, ll, sN, eD, hls⟩
  refine ⟨sN _ _ Ld, ?_⟩
  have sB := bL _ sN
  have ndD : D ≠ p.dn := fun z => by rw [z, Ld] at nD; cases nD
  have eDB : (upd HN p.dn (.dK kvs)) D = _ := (upd_ne ndD).trans eD
  have hlB : ∀ (i : Nat) (l : Addr) (nw : Str × List Nat), ls[i]? = some l → nm[i]? = some nw → (upd HN p.dn (.dK kvs)) l = some (.lst (nts nw.2)) ∧ HL l = none ∧ l ≠ D := fun i l nw h1 h2 => by
    obtain ⟨b1, b2, b3⟩ := hls i l nw h1 h2
    exact ⟨by rw [upd_ne (fun z => by rw [z, Ld] at b2; cases b2)]; exact b1, b2, b3⟩
  generalize upd HN p.dn (.dK kvs) = HB at *
  refine ⟨_, rfl, p2.x, C, dx2, _, rfl, sB _ _ x10, L.T.cl, L.T.n_by_name, (by show 4 < 1000; decide), ?_⟩
  have nHD : H D = none := by
    have := nL _ nD
    cases e : H D with
    | none => rfl
    | some o => rw [sA _ _ e] at this; cases this
  have nn : ∀ {y : Addr}, HL y = none → H y = none := fun {y} h => by
    have := nL _ h
    cases e : H y with
    | none => rfl
    | some o => rw [sA _ _ e] at this; cases this
  have xdn : p2.x ≠ p.dn := fun z => by rw [z, e4] at nx; cases nx
  have a1dn : A1 ≠ p.dn := fun z => by rw [z, e4] at nHA1; cases nHA1
  have a2dn : A2 ≠ p.dn := fun z => by rw [z, e4] at nHA2; cases nHA2
  have LX := fL _ _ x10 xdn
  have LA1 := fL _ _ g10 a1dn
  have LA2 := fL _ _ h10 a2dn
  have dX : D ≠ p2.x := fun z => by rw [z, LX] at nD; cases nD
  have sF : Same H (upd HB p2.x (.ins C dx2 [("input_count", .int (m : Int)), ("made", .ref A1), ("depths", .ref A2), ("by_name", .ref D)])) := fun y o e => by
    rw [upd_ne (nxp e)]
    exact sB _ _ (sA _ _ e)
  refine ⟨_, rfl, q ⟨p2.x, A1, A2, D⟩ (upd HB p2.x (.ins C dx2 [("input_count", .int (m : Int)), ("made", .ref A1), ("depths", .ref A2), ("by_name", .ref D)])) sF ⟨nx, nHA1, nHA2, nHD⟩ (fun Z2 hZ2 => ?_)⟩
  have nZ : ∀ {y : Addr}, H y = none → y ∉ Z2 := fun h z => (hZ2 _ z).1 h
  have lk : (((kvs.take kvs.length).zip ls).map fun q => (q.1.1, V.ref q.2)).length = nm.length := by rw [List.length_map, List.length_zip, List.take_length, ll]; omega
  refine ⟨fun z h => ?_, a21, ⟨nZ nx, nZ nHA1, nZ nHA2, nZ nHD⟩, dx2, ps, _, upd_same, (upd_ne a1x.symm).trans (sB _ _ g10), (upd_ne a2x.symm).trans (sB _ _ h10), (upd_ne dX).trans eDB, ⟨g1, fun i r g hi hg => ?_⟩, lk, n0.2.1, fun i k v n ws hi hn => ?_⟩
  · cases e : H z with
    | none => exact absurd e (hZ2 z h).1
    | some o => exact some_ne (sF _ _ e)
  · obtain ⟨w1, w2⟩ := g2 i r g hi hg
    refine ⟨fun z => ?_, sF _ _ w2⟩
    rcases (hZ2 _ z).2 with y | y
    · exact w1 y
    · simp only [List.mem_cons, List.not_mem_nil, or_false] at y
      rcases y with y | y | y | y
      · rw [y, e1] at w2; cases w2
      · rw [y, e2] at w2; cases w2
      · rw [y, e3] at w2; cases w2
      · rw [y, e4] at w2; cases w2
  · rw [List.getElem?_map, List.take_length] at hi
    cases hq : (kvs.zip ls)[i]? with
    | none => rw [hq] at hi; cases hi
    | some qq =>
      rw [hq] at hi
      cases hi
      obtain ⟨h1, h2⟩ := List.getElem?_zip_eq_some.mp hq
      obtain ⟨ek, _⟩ := n0.2.2 i qq.1.1 qq.1.2 n ws h1 hn
      obtain ⟨b1, b2, b3⟩ := hlB i _ _ h2 hn
      have lx : qq.2 ≠ p2.x := fun z => by rw [z, LX] at b2; cases b2
      exact ⟨ek, qq.2, rfl, nZ (nn b2), (fun z => by rw [z, LA1] at b2; cases b2), (fun z => by rw [z, LA2] at b2; cases b2), (upd_ne lx).trans b1⟩
end
section
variable {P : Program} {w : World} {K : PySem.W.Frag} {mg : Str → Option Value} {base : Heap}
variable {C : Addr} {za : Nat → Addr} {zl : Nat → FuncData}
theorem rep_flat (x : V) : ∀ n : Nat, (List.replicate n [x]).flatten = List.replicate n x
  | 0 => rfl
  | n + 1 => by rw [List.replicate_succ, List.flatten_cons, rep_flat x n]; rfl
def Sd (m : Nat) (d : PyData) : Prop := d.canLay0 = true ∧ d.depth ≤ m
theorem sdA {m : Nat} : ∀ ds : List PyData, (∀ d ∈ ds, Sd m d) → PyData.canLayAll0 ds = true ∧ PyData.depthAll ds ≤ m
  | [], _ => ⟨rfl, Nat.zero_le _⟩
  | d :: ds, h => by
    obtain ⟨a, b⟩ := sdA ds (fun e he => h e (List.mem_cons_of_mem _ he))
    obtain ⟨c, e⟩ := h d List.mem_cons_self
    exact ⟨by unfold PyData.canLayAll0; rw [c, a]; rfl, by unfold PyData.depthAll; exact Nat.max_le.mpr ⟨e, b⟩⟩
theorem Sd.lst {m : Nat} {ds : List PyData} (h : ∀ d ∈ ds, Sd m d) : Sd (m + 1) (.list ds) := by
  obtain ⟨a, b⟩ := sdA ds h
  exact ⟨by unfold PyData.canLay0; exact a, by unfold PyData.depth; exact Nat.succ_le_succ b⟩
theorem Sd.tup {m : Nat} {ds : List PyData} (h : ∀ d ∈ ds, Sd m d) : Sd (m + 1) (.tuple ds) := by
  obtain ⟨a, b⟩ := sdA ds h
  exact ⟨by unfold PyData.canLay0; exact a, by unfold PyData.depth; exact Nat.succ_le_succ b⟩
theorem Sd.int {m : Nat} (i : Int) : Sd m (.int i) := ⟨rfl, Nat.zero_le _⟩
theorem Sd.str {m : Nat} {x : Str} (h : PyData.strOk x = true) : Sd m (.str x) := ⟨h, Nat.zero_le _⟩
theorem Sd.up {m k : Nat} {d : PyData} (h : Sd m d) (l : m ≤ k) : Sd k d := ⟨h.1, Nat.le_trans h.2 l⟩
theorem Sd.sh {m : Nat} {d : PyData} (h : Sd m d) (l : m ≤ 64) : PySem.SeqAt.shaped d = true := by
  unfold PySem.SeqAt.shaped
  rw [h.1, decide_eq_true (Nat.le_trans h.2 l)]
  rfl
theorem Sd.self {m : Nat} {d : PyData} (h : Sd m d) : PyData.eqv d d = true := PySem.SeqAt.eqv_refl _ h.1
theorem NetAt.nin {C : Addr} {Z : List Addr} {H : Hp} {p : NetP} {m : Nat} {gs : List Gt} {nm : List (Str × List Nat)} (h : NetAt C Z H p m gs nm) {a : Addr} (n : H a = none) : a ∉ [p.lm, p.ld] := by
  obtain ⟨_, _, _, dx, ps, kvs, e1, e2, e3, _⟩ := h
  intro z
  rcases List.mem_cons.mp z with rfl | z
  · rw [e2] at n; cases n
  · rw [List.mem_singleton.mp z, e3] at n; cases n
theorem NetAt.add {C : Addr} {Z : List Addr} {H : Hp} {p : NetP} {m : Nat} {gs : List Gt} {nm : List (Str × List Nat)} {D : Addr} {o : HO} (h : NetAt C Z H p m gs nm) (n : H D = none) : NetAt C (D :: Z) (upd H D o) p m gs nm := by
  have k := same_upd (o := o) n
  obtain ⟨a, b, ⟨c1, c2, c3, c4⟩, dx, ps, kvs, e1, e2, e3, e4, ⟨g1, g2⟩, n1, n2, n3⟩ := h
  have ne : ∀ {y : Addr} {u : HO}, H y = some u → y ≠ D := fun e z => by rw [z, n] at e; cases e
  have ni : ∀ {y : Addr} {u : HO}, H y = some u → y ∉ Z → y ∉ D :: Z := fun e z y => by
    rcases List.mem_cons.mp y with w | w
    · exact ne e w
    · exact z w
  refine ⟨fun z hz => ?_, b, ⟨ni e1 c1, ni e2 c2, ni e3 c3, ni e4 c4⟩, dx, ps, kvs, k _ _ e1, k _ _ e2, k _ _ e3, k _ _ e4, ⟨g1, fun i q g hi hg => ?_⟩, n1, n2, fun i k' v n' ws hi hn => ?_⟩
  · rcases List.mem_cons.mp hz with w | w
    · rw [w, upd_same]
      exact fun z => nomatch z
    · exact (KeepS.ofSame (S := []) k).2 z (a z w)
  · have := g2 i q g hi hg
    exact ⟨ni this.2 this.1, k _ _ this.2⟩
  · obtain ⟨ek, l, ev, l1, l2, l3, l4⟩ := n3 i k' v n' ws hi hn
    exact ⟨ek, l, ev, ni l4 l1, l2, l3, k _ _ l4⟩
theorem NetAt.less {C : Addr} {Z : List Addr} {H : Hp} {p : NetP} {m : Nat} {gs : List Gt} {nm : List (Str × List Nat)} {D : Addr} (h : NetAt C (D :: Z) H p m gs nm) : NetAt C Z H p m gs nm := by
  obtain ⟨a, b, ⟨c1, c2, c3, c4⟩, dx, ps, kvs, e1, e2, e3, e4, ⟨g1, g2⟩, n1, n2, n3⟩ := h
  have ni : ∀ {y : Addr}, y ∉ D :: Z → y ∉ Z := fun z y => z (List.mem_cons_of_mem _ y)
  refine ⟨fun z hz => a z (List.mem_cons_of_mem _ hz), b, ⟨ni c1, ni c2, ni c3, ni c4⟩, dx, ps, kvs, e1, e2, e3, e4, ⟨g1, fun i q g hi hg => ?_⟩, n1, n2, fun i k' v n' ws hi hn => ?_⟩
  · have := g2 i q g hi hg
    exact ⟨ni this.1, this.2⟩
  · obtain ⟨ek, l, ev, l1, l2, l3, l4⟩ := n3 i k' v n' ws hi hn
    exact ⟨ek, l, ev, ni l1, l2, l3, l4⟩
theorem NetAt.put {C : Addr} {Z : List Addr} {H : Hp} {p : NetP} {m : Nat} {gs : List Gt} {nm : List (Str × List Nat)} {D : Addr} {o : HO} (h : NetAt C Z H p m gs nm) (hD : D ∈ Z) : NetAt C Z (upd H D o) p m gs nm := h.keep (S := [D]) (.upd (List.mem_singleton.mpr rfl)) (fun y hy => by rw [List.mem_singleton.mp hy]; exact hD)
def SG : Str := "abcdefghijklmnoprstuvwxyzABCXYZ 0123456789_-.:/~!\"#"
theorem SG51 : SG.length = 51 := by decide +kernel
theorem SGl : SG.cps.toList.length = 51 := by decide +kernel
theorem atSG {r : Int} (h0 : 0 ≤ r) (h1 : r < 51) : ∃ c, atI SG.cps.toList r = some c := by
  obtain ⟨n, rfl⟩ : ∃ n : Nat, r = (n : Int) := ⟨r.toNat, by omega⟩
  exact ⟨_, atI_nat (List.getElem?_eq_getElem (by rw [SGl]; omega))⟩
theorem keepN {b a : Addr} {H H' : Hp} (k : Keep b H H') (n : a ≠ b) (h : H' a = none) : H a = none := by
  cases e : H a with
  | none => rfl
  | some o =>
    rw [k _ _ e n] at h
    cases h
theorem joinL_len : ∀ ys : List (List Nat), (TL.joinL [] ys).length = (ys.map List.length).sum
  | [] => rfl
  | [p] => by simp [TL.joinL]
  | p :: q :: r => by
    show (p ++ ([] ++ TL.joinL [] (q :: r))).length = _
    rw [List.nil_append, List.length_append, joinL_len (q :: r)]
    rfl
def chAt (i : Nat) : Nat := SG.cps.toList.getD (i % 25) 0
theorem noq : ∀ c ∈ SG.cps.toList, c ≠ 113 := by decide +kernel
/-- a text whose signs are signs of Unicode -/
def Tx (s : Str) : Prop := ∀ c ∈ s.cps.toList, c < 1114112
theorem Tx.ok {s : Str} (h : Tx s) : PyData.strOk s = true := by
  unfold PyData.strOk
  rw [Array.all_eq_true]
  intro i hi
  exact decide_eq_true (h _ (by simp))
theorem Tx.app {a b : Str} (h : Tx a) (k : Tx b) : Tx (a ++ b) := fun c hc => by
  have e : (a ++ b).cps.toList = a.cps.toList ++ b.cps.toList := by
    show (a.cps ++ b.cps).toList = _
    rw [Array.toList_append]
  rw [e] at hc
  exact (List.mem_append.mp hc).elim (h c) (k c)
theorem Tx.rep {a : Str} (h : Tx a) (n : Nat) : Tx (strRep a n) := by
  have key : ∀ (n : Nat) (b : Array Nat), (∀ c ∈ b.toList, c < 1114112) → ∀ c ∈ ((List.replicate n a.cps).foldl (· ++ ·) b).toList, c < 1114112 := by
    intro n
    induction n with
    | zero => intro b hb c hc; exact hb c hc
    | succ k ih =>
      intro b hb c hc
      rw [List.replicate_succ, List.foldl_cons] at hc
      refine ih (b ++ a.cps) (fun x hx => ?_) c hc
      rw [Array.toList_append] at hx
      exact (List.mem_append.mp hx).elim (hb x) (h x)
  exact fun c hc => key n #[] (fun x hx => nomatch hx) c hc
theorem sgB : ∀ c ∈ SG.cps.toList, c < 1114112 := by decide +kernel
theorem sgA {r : Int} {c : Nat} (h : atI SG.cps.toList r = some c) : c < 1114112 := sgB c (by
  unfold atI at h
  cases e : ixN SG.cps.toList.length r with
  | none => rw [e] at h; cases h
  | some i => rw [e] at h; exact List.mem_of_getElem? h)
theorem Tx.one {c : Nat} (h : c < 1114112) : Tx (⟨#[c]⟩ : Str) := fun x hx => by
  rw [List.mem_singleton.mp (show x ∈ [c] from hx)]
  exact h
theorem noqA {r : Int} {c : Nat} (h : atI SG.cps.toList r = some c) : c ≠ 113 := noq c (by
  unfold atI at h
  cases e : ixN SG.cps.toList.length r with
  | none => rw [e] at h; cases h
  | some i => rw [e] at h; exact List.mem_of_getElem? h)
theorem chAt_ne : ∀ i, i < 25 → ∀ k, k < 25 → chAt i = chAt k → i = k := by decide +kernel
theorem chAt_noq : ∀ i, i < 25 → chAt i ≠ 113 := by decide +kernel
def NmF (jn : List Nat) (ss : List Str) : Prop := ∀ (i : Nat) (s : Str), ss[i]? = some s → ∃ r : List Nat, s.cps.toList = jn ++ chAt i :: r
theorem NmF.nodup {jn : List Nat} {ss : List Str} (h : NmF jn ss) (l : ss.length ≤ 25) : ss.Nodup := by
  refine List.pairwise_iff_getElem.mpr fun i k hi hk hik e => ?_
  obtain ⟨r, hr⟩ := h i _ (List.getElem?_eq_getElem hi)
  obtain ⟨r2, hr2⟩ := h k _ (List.getElem?_eq_getElem hk)
  rw [e, hr2] at hr
  have := List.append_cancel_left hr
  have := chAt_ne k (by omega) i (by omega) (List.cons.inj this).1
  omega
theorem NmF.noq {jn : List Nat} {ss : List Str} (h : NmF jn ss) (l : ss.length ≤ 25) (hj : ∀ c ∈ jn, c ≠ 113) : ∀ s ∈ ss, s.cps.toList.head? ≠ some 113 := fun s hs => by
  obtain ⟨i, hi⟩ := List.mem_iff_getElem?.mp hs
  obtain ⟨r, hr⟩ := h i s hi
  have li := (List.getElem?_eq_some_iff.mp hi).1
  rw [hr]
  cases jn with
  | nil => exact fun z => chAt_noq i (by omega) (Option.some.inj z)
  | cons c jn => exact fun z => hj c (by simp) (Option.some.inj z)
theorem NmF.ne {jn : List Nat} {ss : List Str} (h : NmF jn ss) : ∀ s ∈ ss, s ≠ Str.ofString "" := fun s hs e => by
  obtain ⟨i, hi⟩ := List.mem_iff_getElem?.mp hs
  obtain ⟨r, hr⟩ := h i s hi
  rw [e] at hr
  have : (Str.ofString "").cps.toList = [] := by decide +kernel
  rw [this] at hr
  cases jn <;> cases hr
theorem joinL_mem : ∀ (ys : List (List Nat)) (x : Nat), x ∈ TL.joinL [] ys → ∃ y ∈ ys, x ∈ y
  | [], x, h => by cases h
  | [p], x, h => ⟨p, by simp, by simpa [TL.joinL] using h⟩
  | p :: q :: r, x, h => by
    have h : x ∈ p ++ ([] ++ TL.joinL [] (q :: r)) := h
    rw [List.nil_append] at h
    rcases List.mem_append.mp h with z | z
    · exact ⟨p, by simp, z⟩
    · obtain ⟨y, hy, hx⟩ := joinL_mem (q :: r) x z
      exact ⟨y, List.mem_cons_of_mem _ hy, hx⟩
def spNmsL : Sp := fun vs H Q _ => ∃ (b : Addr) (c : Int) (n : Nat), vs = [.ref b, .int (n : Int)] ∧ BoxAt c H b ∧ c ≤ 800000000 ∧ n ≤ 20 ∧
  ∀ (ss : List Str) (D : Addr) (H' : Hp), ss.length ≤ n + 1 → (∀ s ∈ ss, s.length ≤ 10 ∧ Tx s) → ss.Nodup → (∀ s ∈ ss, s.cps.toList.head? ≠ some 113) → n ≤ ss.length → H D = none → H' D = some (.lst (ss.map V.str)) → BoxAt (c + 40 + 20 * n) H' b → Keep b H H' → Q (.ref D) H'
theorem ok__law_names (B : Bl mg) (L : LL K mg C za zl base) : FnOk P w K mg base CX0 2 (za 8) (zl 8) ["_law_box_here", "_law_size"] spNmsL := by
  have G__law_take : FnOk P w K mg base CX0 1 (za 6) (zl 6) ["_law_box_here", "_law_size"] (spTake 1) := (ok_take L.F__law_take L.b__law_take L.m__law_take B 1).mono (by decide)
  refine L.F__law_names.ok sc__law_names (fun vs H Q E h => ?_) (fun cdv A outer s H vs Q E hr h => ?_)
  · obtain ⟨b, c, n, rfl, _⟩ := h
    rfl
  obtain ⟨b, c, n, rfl, hB, hc, hn, q⟩ := h
  refine ⟨_, (pss_cons (ps_set (i := 2) sc__law_names.nd rfl (.inr rfl) pe_str)
    (pss_cons (ps_setLc (i := 3) (own := [("_law_k", 5)]) (by rfl) sc__law_names.nd rfl rfl (sw_true rfl rfl rfl (by decide +kernel)) (pi_range1 (by rfl) B.range (pa_cons (pe_call G__law_take hr (by rfl) L.m__law_take L.F__law_take.kp L.b__law_take .nil pass0 (pa_cons (pv 0) (pa_cons pe_int pa_nil))) pa_nil)) (blkOk_by (own := [("_law_k", 5)]) (N := ["_law_box_here", "_law_size", "_law_signs", "_law_first", "_law_found", "_law_k", "_law_last"]) (sc := defScope s__law_names) (by decide +kernel)) (fun _ _ _ _ _ => pg_name (i := 5) sc__law_names.nd rfl (Or.inl rfl)) (fun _ _ _ _ _ => pts_nil) (fun _ _ _ _ _ => (pe_ix ix_str (pv 2) (pe_call G__law_take hr (by rfl) L.m__law_take L.F__law_take.kp L.b__law_take .nil pass0 (pa_cons (pv 0) (pa_cons (pe_callB call_len_str (by rfl) B.len PySem.boot_len (pa_cons (pv 2) pa_nil)) pa_nil))) (fun _ _ => rfl))))
    (pss_cons (ps_set (i := 4) sc__law_names.nd rfl (.inl rfl) (pe_lst pa_nil))
    (pss_cons (ps_for PassesOwn.never rfl (pi_range1 (by rfl) B.range (pa_cons (pv 1) pa_nil)) (pg_name (i := 5) sc__law_names.nd rfl (.inl rfl)) (pss_cons (ps_set (i := 6) sc__law_names.nd rfl (.inl rfl) (pe_op op_mul_str (pe_ix ix_str (pv 2) (pe_op op_add pe_int (pe_call G__law_take hr (by rfl) L.m__law_take L.F__law_take.kp L.b__law_take .nil pass0 (pa_cons (pv 0) (pa_cons pe_int pa_nil)))) (fun _ _ => rfl)) (pe_call G__law_take hr (by rfl) L.m__law_take L.F__law_take.kp L.b__law_take .nil pass0 (pa_cons (pv 0) (pa_cons pe_int pa_nil)))))
    (pss_one (ps_expr (pe_bm PySem.F.plainAttrs_list PySem.F.slot_list_append PySem.F.type_list_append mt_append (pv 4) (pa_cons (pe_op op_add_str (pe_op op_add_str (pe_op op_add_str (pe_bm PySem.F.plainAttrs_str PySem.F.slot_str_join PySem.F.type_str_join mt_join pe_str (pa_cons (pv 3) pa_nil)) (pe_ix ix_str (pv 2) (pe_op op_mod (pv 5) pe_int) (fun _ _ => rfl))) (pe_op op_mul_str pe_str (pe_op op_fdiv (pv 5) pe_int))) (pv 6)) pa_nil))))))
    (pss_one (ps_ret (pe_op op_cat (pe_op op_rep (pe_lst (pa_cons pe_str pa_nil)) (pe_callTy call_int1 (by rfl) B.int PyProof.Rows.boot_int (pa_cons (pe_and (pe_cmpR op_gt (pv 1) pe_int (nomark _)) (pe_one (pe_cmpR op_eq (pe_call G__law_take hr (by rfl) L.m__law_take L.F__law_take.kp L.b__law_take .nil pass0 (pa_cons (pv 0) (pa_cons pe_int pa_nil))) pe_int (nomark _)))) pa_nil))) (pv 4)))))))), ?_⟩
  have sg : (Str.ofString "abcdefghijklmnoprstuvwxyzABCXYZ 0123456789_-.:/~!\"#") = SG := rfl
  rw [sg]
  try simp only [L2.start, List.map_cons, List.map_nil, List.length_cons, List.length_nil, List.replicate_succ, List.replicate_zero, List.cons_append, List.nil_append, List.set_cons_succ, List.set_cons_zero, Nat.reduceAdd, Nat.reduceSub, Nat.zero_add]
  refine ⟨_, rfl, b, _, _, rfl, hB, by decide, by decide, by decide, by omega, by decide, fun r1 H1 u1 v1 B1 k1 => ?_⟩
  replace B1 := bx1 B1
  obtain ⟨j1, rfl⟩ : ∃ j1 : Nat, r1 = (j1 : Int) := ⟨r1.toNat, by omega⟩
  refine ⟨_, rfl, by omega, by omega, fun D nD => ?_⟩
  have nDb : D ≠ b := (B1.ne nD).symm
  rw [Int.toNat_natCast]
  refine lc_range (n := j1) (fun j H9 => ∃ cs : List Nat, cs.length = j ∧ (∀ x ∈ cs, x ≠ 113 ∧ x < 1114112) ∧ Keep b H1 H9 ∧ BoxAt (c + 2 + 2 * j) H9 b ∧ H9 D = some (.lst ((cs.map fun c => SX.S [c]).map V.str))) ⟨[], rfl, (fun _ z => nomatch z), Keep.new nD, (B1.same (same_upd nD)).mono (by omega), upd_same⟩ ?_ ?_
  · rintro j H9 hj ⟨cs, lc, hcs, k9, B9, eD⟩
    dsimp only [gName]
    refine ⟨rfl, yesT ?_⟩
    try simp only [L2.start, List.map_cons, List.map_nil, List.length_cons, List.length_nil, List.replicate_succ, List.replicate_zero, List.cons_append, List.nil_append, List.set_cons_succ, List.set_cons_zero, Nat.reduceAdd, Nat.reduceSub, Nat.zero_add]
    refine ⟨_, rfl, _, rfl, _, rfl, SG, rfl, by rw [SG51]; decide, ?_⟩
    rw [SG51]
    refine ⟨b, _, _, rfl, B9, by decide, by decide, by decide, by omega, by decide, fun r2 H2 u2 v2 B2 k2 => ?_⟩
    replace B2 := bx1 B2
    obtain ⟨ch, hch⟩ := atSG u2 v2
    refine ⟨SG, r2, ch, rfl, rfl, by rw [SG51]; decide, hch, ?_⟩
    refine ⟨_, k2 _ _ eD nDb, by rw [List.length_map, List.length_map, lc]; exact big_lt (by omega), cs ++ [ch], by rw [List.length_append, lc]; rfl, (fun x hx => by
      rcases List.mem_append.mp hx with z | z
      · exact hcs x z
      · rw [List.mem_singleton.mp z]
        exact ⟨noqA hch, sgA hch⟩), fun y o e ny => ?_, BoxAt.mono (B2.at (upd_ne nDb.symm)) (by omega), by rw [upd_same, List.map_append, List.map_append]; rfl⟩
    rw [upd_ne (ne_of_none e nD)]
    exact k2 _ _ (k9 _ _ e ny) ny
  rintro H9 ⟨cs, lc, hcs, k9, B9, eD⟩
  dsimp only [gName]
  try simp only [L2.start, List.map_cons, List.map_nil, List.length_cons, List.length_nil, List.replicate_succ, List.replicate_zero, List.cons_append, List.nil_append, List.set_cons_succ, List.set_cons_zero, Nat.reduceAdd, Nat.reduceSub, Nat.zero_add]
  have k09 := k1.trans k9
  have nDH : H D = none := by
    cases e : H D with
    | none => rfl
    | some o =>
      rw [k1 _ _ e nDb] at nD
      cases nD
  refine ⟨Nat.zero_le _, fun F nF => ?_⟩
  have nFb : F ≠ b := (B9.ne nF).symm
  have nFD : F ≠ D := fun z => by rw [z, eD] at nF; cases nF
  have nFH : H F = none := by
    cases e : H F with
    | none => rfl
    | some o =>
      rw [k09 _ _ e nFb] at nF
      cases nF
  have sF := same_upd (o := .lst []) nF
  have eF : (upd H9 F (.lst [])) F = some (.lst []) := upd_same
  have BF := B9.same sF
  have eDF := sF _ _ eD
  have k0F : Keep b H _ := k09.trans (Keep.ofSame sF)
  generalize upd H9 F (.lst []) = HF at *
  try simp only [L2.start, List.map_cons, List.map_nil, List.length_cons, List.length_nil, List.replicate_succ, List.replicate_zero, List.cons_append, List.nil_append, List.set_cons_succ, List.set_cons_zero, Nat.reduceAdd, Nat.reduceSub, Nat.zero_add]
  refine ⟨_, rfl, _, rfl, by omega, by omega, ?_⟩
  rw [Int.toNat_natCast]
  refine for_range (n := n) (fun j σ H5 => ∃ (ss : List Str) (y5 y6 : Option V), σ = [some (.ref b), some (.int (n : Int)), some (.str SG), some (.ref D), some (.ref F), y5, y6] ∧ ss.length = j ∧ (∀ s ∈ ss, s.length ≤ 10 ∧ Tx s) ∧ NmF (TL.joinL [] (cs.map fun c => [c])) ss ∧ H5 F = some (.lst (ss.map V.str)) ∧ H5 D = some (.lst ((cs.map fun c => SX.S [c]).map V.str)) ∧ BoxAt (c + 10 + 10 * j) H5 b ∧ Keep b H H5) ⟨[], _, _, rfl, rfl, (fun _ z => nomatch z), (fun i s h => by simp at h), eF, eDF, BF.mono (by omega), k0F⟩ ?_ ?_
  · rintro j σ H5 hj ⟨ss, y5, y6, rfl, lss, hss, hnf, eF5, eD5, B5, k5⟩
    dsimp only [gName]
    try simp only [L2.start, List.map_cons, List.map_nil, List.length_cons, List.length_nil, List.replicate_succ, List.replicate_zero, List.cons_append, List.nil_append, List.set_cons_succ, List.set_cons_zero, Nat.reduceAdd, Nat.reduceSub, Nat.zero_add]
    refine ⟨_, rfl, _, rfl, b, _, _, rfl, B5, by decide, by decide, by decide, by omega, by decide, fun r3 H3 u3 v3 B3 k3 => ?_⟩
    replace B3 := bx1 B3
    obtain ⟨ch, hch⟩ := atSG (r := 25 + r3) (by omega) (by omega)
    refine ⟨_, _, rfl, rfl, SG, _, ch, rfl, rfl, by rw [SG51]; decide, hch, ?_⟩
    refine ⟨_, rfl, b, _, _, rfl, B3, by decide, by decide, by decide, by omega, by decide, fun r4 H4 u4 v4 B4 k4 => ?_⟩
    replace B4 := bx1 B4
    obtain ⟨n4, rfl⟩ : ∃ n4 : Nat, r4 = (n4 : Int) := ⟨r4.toNat, by omega⟩
    have l1 : (⟨#[ch]⟩ : Str).length = 1 := rfl
    refine ⟨⟨#[ch]⟩, n4, rfl, rfl, by rw [l1]; decide, by omega, ?_⟩
    have ll : (strRep ⟨#[ch]⟩ n4).length ≤ 1 := by rw [strRep_len, l1]; omega
    have tl : Tx (strRep ⟨#[ch]⟩ n4) := (Tx.one (sgA hch)).rep n4
    generalize strRep ⟨#[ch]⟩ n4 = last at *
    have k34 := k3.trans k4
    have eF4 := k34 _ _ eF5 nFb
    have eD4 := k34 _ _ eD5 nDb
    dsimp only [gName]
    try simp only [L2.start, List.map_cons, List.map_nil, List.length_cons, List.length_nil, List.replicate_succ, List.replicate_zero, List.cons_append, List.nil_append, List.set_cons_succ, List.set_cons_zero, Nat.reduceAdd, Nat.reduceSub, Nat.zero_add]
    refine ⟨_, rfl, .inl ⟨rfl, _, SqL.of eF4⟩, ?_⟩
    have eJ : Txt.join (Str.ofString "") (cs.map fun c => SX.S [c]) = SX.S (TL.joinL [] (cs.map fun c => [c])) := by
      have := SX.join_S [] (cs.map fun c => [c])
      rw [List.map_map] at this
      exact this
    have lJ : (SX.S (TL.joinL [] (cs.map fun c => [c]))).length ≤ 3 := by
      show (TL.joinL [] (cs.map fun c => [c])).toArray.size ≤ 3
      rw [List.size_toArray, joinL_len, List.map_map]
      have : ((List.length ∘ fun c => [c]) : Nat → Nat) = fun _ => 1 := rfl
      rw [this]
      have k : ∀ l : List Nat, (l.map fun _ => 1).sum = l.length := by
        intro l
        induction l with
        | nil => rfl
        | cons a l ih => rw [List.map_cons, List.sum_cons, ih, List.length_cons]; omega
      rw [k]
      omega
    have lsum : ((cs.map fun c => SX.S [c]).map (·.length)).sum ≤ 3 := by
      rw [List.map_map]
      have k : ∀ l : List Nat, (l.map ((·.length) ∘ fun c => SX.S [c])).sum = l.length := by
        intro l
        induction l with
        | nil => rfl
        | cons a l ih =>
          rw [List.map_cons, List.sum_cons, ih, List.length_cons]
          show 1 + _ = _
          omega
      rw [k]
      omega
    obtain ⟨ch2, hch2⟩ := atSG (r := ((j : Nat) : Int) % 25) (by omega) (by omega)
    have lz : (Str.ofString "z").length = 1 := by decide +kernel
    have l0 : (Str.ofString "").length = 0 := by decide +kernel
    refine ⟨rfl, _, rfl, Str.ofString "", D, cs.map fun c => SX.S [c], rfl, rfl, .inl (SqL.of eD4), by rw [l0, Nat.mul_zero]; omega, ?_⟩
    rw [eJ]
    have hjn : (SX.S (TL.joinL [] (cs.map fun c => [c]))).cps.toList = TL.joinL [] (cs.map fun c => [c]) := rfl
    have tj : Tx (SX.S (TL.joinL [] (cs.map fun c => [c]))) := fun x hx => by
      rw [hjn] at hx
      obtain ⟨y, hy, hxy⟩ := joinL_mem _ _ hx
      obtain ⟨z, hz, rfl⟩ := List.mem_map.mp hy
      rw [List.mem_singleton.mp hxy]
      exact (hcs z hz).2
    generalize SX.S (TL.joinL [] (cs.map fun c => [c])) = jn at *
    refine ⟨_, rfl, _, rfl, _, _, rfl, rfl, (by show (0 : Int) < 25; decide), SG, _, ch2, rfl, rfl, by rw [SG51]; decide, by rw [Int.zero_add]; exact hch2, ?_⟩
    have lc2 : (⟨#[ch2]⟩ : Str).length = 1 := rfl
    refine ⟨_, _, rfl, rfl, by rw [lc2]; exact Nat.le_of_lt (big_lt (by omega)), ?_⟩
    have la1 : (jn ++ (⟨#[ch2]⟩ : Str)).length ≤ 4 := by
      show (jn.cps ++ #[ch2]).size ≤ 4
      rw [Array.size_append]
      show jn.length + 1 ≤ 4
      omega
    have hce : ch2 = chAt j := by
      rw [show ((j : Nat) : Int) % 25 = ((j % 25 : Nat) : Int) by omega] at hch2
      have hl : j % 25 < SG.cps.toList.length := by rw [SGl]; omega
      have e := atI_nat (List.getElem?_eq_getElem hl)
      rw [e] at hch2
      have e2 : SG.cps.toList.getD (j % 25) 0 = SG.cps.toList[j % 25] := by simp [List.getD, List.getElem?_eq_getElem hl]
      unfold chAt
      rw [e2]
      exact (Option.some.inj hch2).symm
    have hs1 : (jn ++ (⟨#[ch2]⟩ : Str)).cps.toList = TL.joinL [] (cs.map fun c => [c]) ++ [chAt j] := by
      show (jn.cps ++ #[ch2]).toList = _
      rw [Array.toList_append, hjn, hce]
    have t1 : Tx (jn ++ (⟨#[ch2]⟩ : Str)) := tj.app (Tx.one (sgA hch2))
    generalize jn ++ (⟨#[ch2]⟩ : Str) = s1 at *
    refine ⟨_, rfl, _, _, rfl, rfl, ⟨by decide, by decide⟩, Str.ofString "z", j / 25, rfl, congrArg V.int (by omega), by rw [lz]; decide, by omega, ?_⟩
    have lr : (strRep (Str.ofString "z") (j / 25)).length ≤ 1 := by
      rw [strRep_len, lz]
      omega
    have t2 : Tx (strRep (Str.ofString "z") (j / 25)) := Tx.rep (by unfold Tx; decide +kernel) _
    generalize strRep (Str.ofString "z") (j / 25) = s2 at *
    refine ⟨_, _, rfl, rfl, Nat.le_of_lt (big_lt (by omega)), ?_⟩
    have la2 : (s1 ++ s2).length ≤ 5 := by
      show (s1.cps ++ s2.cps).size ≤ 5
      rw [Array.size_append]
      show s1.length + s2.length ≤ 5
      omega
    have hs3 : ∃ r, (s1 ++ s2).cps.toList = (TL.joinL [] (cs.map fun c => [c]) ++ [chAt j]) ++ r := ⟨s2.cps.toList, by
      show (s1.cps ++ s2.cps).toList = _
      rw [Array.toList_append, hs1]⟩
    have t3 := t1.app t2
    generalize s1 ++ s2 = s3 at *
    refine ⟨_, rfl, _, _, rfl, rfl, Nat.le_of_lt (big_lt (by omega)), ?_⟩
    have la3 : (s3 ++ last).length ≤ 10 := by
      show (s3.cps ++ last.cps).size ≤ 10
      rw [Array.size_append]
      show s3.length + last.length ≤ 10
      omega
    have hs4 : ∃ r, (s3 ++ last).cps.toList = TL.joinL [] (cs.map fun c => [c]) ++ chAt j :: r := by
      obtain ⟨r, hr⟩ := hs3
      refine ⟨r ++ last.cps.toList, ?_⟩
      show (s3.cps ++ last.cps).toList = _
      rw [Array.toList_append, hr]
      simp
    have t4 := t3.app tl
    generalize s3 ++ last = s4 at *
    refine ⟨F, _, _, rfl, rfl, eF4, by rw [List.length_map, lss]; exact big_lt (by omega), ?_⟩
    refine ⟨ss ++ [s4], _, _, rfl, by rw [List.length_append, lss]; rfl, fun x hx => ?_, fun i' x hi' => ?_, by rw [upd_same, List.map_append]; rfl, by rw [upd_ne nFD.symm]; exact eD4, BoxAt.mono (B4.at (upd_ne nFb.symm)) (by omega), fun y o e ny => ?_⟩
    · rcases List.mem_append.mp hx with z | z
      · exact hss x z
      · rw [List.mem_singleton.mp z]
        exact ⟨la3, t4⟩
    · by_cases c : i' < ss.length
      · rw [List.getElem?_append_left c] at hi'
        exact hnf i' x hi'
      · have i0 : i' = ss.length := by
          have := (List.getElem?_eq_some_iff.mp hi').1
          rw [List.length_append, List.length_cons, List.length_nil] at this
          omega
        rw [List.getElem?_append_right (by omega), i0, Nat.sub_self] at hi'
        cases hi'
        rw [i0, lss]
        exact hs4
    · rw [upd_ne (ne_of_none e nFH)]
      exact k34 _ _ (k5 _ _ e ny) ny
  · rintro σ H5 ⟨ss, y5, y6, rfl, lss, hss, hnf, eF5, eD5, B5, k5⟩
    refine ⟨(by show 1 ≤ sizeLine; decide), fun L1 nL1 => ?_⟩
    have s1 := same_upd (o := .lst [.str (Str.ofString "")]) nL1
    have e1 : (upd H5 L1 (.lst [.str (Str.ofString "")])) L1 = some (.lst [.str (Str.ofString "")]) := upd_same
    have nL1b : L1 ≠ b := (B5.ne nL1).symm
    have eF6 := s1 _ _ eF5
    have B6 := B5.same s1
    have k6 := k5.trans (Keep.ofSame s1)
    generalize upd H5 L1 (.lst [.str (Str.ofString "")]) = H6 at *
    refine and_ev (fun z G => ∃ bb : Bool, z = .bl bb ∧ BoxAt (c + 20 + 10 * n) G b ∧ Keep b H6 G) (fun Q' q' => ?_) ?_
    · refine ⟨_, rfl, _, _, rfl, rfl, _, rfl, ite2 (fun _ => ?_) (fun _ => q' _ _ ⟨false, rfl, B6.mono (by omega), Keep.refl _ _⟩)⟩
      exact ⟨_, rfl, b, _, _, rfl, B6, by decide, by decide, by decide, by omega, by decide, fun r7 H7 u7 v7 B7 k7 => ⟨rfl, q' _ _ ⟨_, rfl, BoxAt.mono (bx1 B7) (by omega), k7⟩⟩⟩
    · rintro z G ⟨bb, rfl, BG, kG⟩
      have e1G := kG _ _ e1 nL1b
      have eFG := kG _ _ eF6 nFb
      obtain ⟨w1, hw1, ew⟩ : ∃ w1 : Nat, w1 ≤ 1 ∧ (if bb = true then (1 : Int) else 0) = (w1 : Int) := by
        cases bb
        · exact ⟨0, by decide, rfl⟩
        · exact ⟨1, by decide, rfl⟩
      refine .inr ⟨bb, rfl, ?_⟩
      rw [ew]
      refine ⟨L1, _, _, rfl, rfl, e1G, by omega, by omega, by rw [Int.toNat_natCast, List.length_singleton]; exact Nat.le_of_lt (big_lt (by omega)), fun L3 nL3 => ?_⟩
      rw [Int.toNat_natCast, rep_flat]
      have s3 := same_upd (o := .lst (List.replicate w1 (.str (Str.ofString "")))) nL3
      have e3 : (upd G L3 (.lst (List.replicate w1 (.str (Str.ofString ""))))) L3 = some (.lst (List.replicate w1 (.str (Str.ofString "")))) := upd_same
      have eF7 := s3 _ _ eFG
      have B8 := BG.same s3
      have k8 := (k6.trans kG).trans (Keep.ofSame s3)
      generalize upd G L3 (.lst (List.replicate w1 (.str (Str.ofString "")))) = H8 at *
      refine ⟨_, rfl, L3, F, _, _, rfl, rfl, e3, eF7, by rw [List.length_replicate, List.length_map, lss]; exact Nat.le_of_lt (big_lt (by omega)), fun R nR => ?_⟩
      have el : List.replicate w1 (V.str (Str.ofString "")) ++ ss.map V.str = (List.replicate w1 (Str.ofString "") ++ ss).map V.str := by rw [List.map_append, List.map_replicate]
      rw [el]
      have sR := same_upd (o := .lst ((List.replicate w1 (Str.ofString "") ++ ss).map V.str)) nR
      have nRb : R ≠ b := (B8.ne nR).symm
      have jq : ∀ x ∈ TL.joinL [] (cs.map fun c => [c]), x ≠ 113 := fun x hx => by
        obtain ⟨y, hy, hxy⟩ := joinL_mem _ _ hx
        obtain ⟨z, hz, rfl⟩ := List.mem_map.mp hy
        rw [List.mem_singleton.mp hxy]
        exact (hcs z hz).1
      refine q _ R _ (by rw [List.length_append, List.length_replicate, lss]; omega) (fun x hx => ?_) ?_ (fun x hx => ?_) (by rw [List.length_append, lss]; omega) (keepN k8 nRb nR) upd_same ((B8.same sR).mono (by omega)) (k8.trans (Keep.ofSame sR))
      rcases List.mem_append.mp hx with y | y
      · rw [(List.mem_replicate.mp y).2]
        exact ⟨by decide +kernel, by unfold Tx; decide +kernel⟩
      · exact hss x y
      · rw [List.nodup_append]
        refine ⟨by rcases (show w1 = 0 ∨ w1 = 1 by omega) with z | z <;> subst z <;> simp, hnf.nodup (by omega), fun x hx y hy e => ?_⟩
        rw [(List.mem_replicate.mp hx).2] at e
        exact hnf.ne y hy e.symm
      · rcases List.mem_append.mp hx with y | y
        · rw [(List.mem_replicate.mp y).2]
          decide +kernel
        · exact hnf.noq (by omega) jq x y
theorem rise_pw : ∀ (ss : List Str) (p : Str), risingS p ss = true → (p :: ss).Pairwise fun x y => x.cps.toList ≤ y.cps.toList
  | [], p, _ => List.pairwise_singleton _ _
  | s :: ss, p, h => by
    unfold risingS at h
    obtain ⟨h1, h2⟩ := Bool.and_eq_true_iff.mp h
    have ih := rise_pw ss s h2
    have le : p.cps.toList ≤ s.cps.toList := by
      rw [ltCps_eq] at h1
      simpa using h1
    refine List.pairwise_cons.mpr ⟨fun y hy => ?_, ih⟩
    rcases List.mem_cons.mp hy with e | hy
    · rw [e]
      exact le
    · exact List.le_trans le ((List.pairwise_cons.mp ih).1 y hy)
theorem sortS_one {xs ys zs : List Str} (h1 : xs.Perm zs) (s1 : sortedS xs = true) (h2 : ys.Perm zs) (s2 : sortedS ys = true) : xs = ys := by
  have pw : ∀ l : List Str, sortedS l = true → l.Pairwise fun x y => x.cps.toList ≤ y.cps.toList := fun l h => by
    cases l with
    | nil => exact .nil
    | cons x r => exact rise_pw r x h
  refine List.Perm.eq_of_pairwise (le := fun x y : Str => x.cps.toList ≤ y.cps.toList) (fun x y _ _ a b => ?_) (pw _ s1) (pw _ s2) (h1.trans h2.symm)
  have e := List.le_antisymm a b
  cases x
  cases y
  congr 1
  exact Array.toList_inj.mp e
/-! ### what a net tells, as data -/
def dInts (ws : List Nat) : List PyData := ws.map fun (a : Nat) => PyData.int (a : Int)
def dGt : Gt → PyData
  | .w k ws => .tuple (.str k :: dInts ws)
  | .fi b => .tuple [.str "fixed", .int (b : Int)]
theorem dpa_nts {H : Hp} : ∀ ws : List Nat, DpAll K H (nts ws) (dInts ws)
  | [] => .nil
  | a :: ws => .cons (.int _) (dpa_nts ws)
theorem dp_row {H : Hp} {t : Addr} {g : Gt} (h : H t = some (.tup g.row)) : Dp K H (.ref t) (dGt g) := by
  cases g with
  | w k ws => exact .tup (.inl (.inl h)) (.cons (.str _) (dpa_nts ws))
  | fi b => exact .tup (.inl (.inl h)) (.cons (.str _) (.cons (.int _) .nil))
theorem dpa_rows {H : Hp} : ∀ (ts : List Addr) (gs : List Gt), ts.length = gs.length → (∀ (i : Nat) (t : Addr) (g : Gt), ts[i]? = some t → gs[i]? = some g → H t = some (.tup g.row)) → DpAll K H (ts.map V.ref) (gs.map dGt)
  | [], [], _, _ => .nil
  | [], _ :: _, h, _ => by cases h
  | _ :: _, [], h, _ => by cases h
  | t :: ts, g :: gs, h, f => .cons (dp_row (f 0 t g rfl rfl)) (dpa_rows ts gs (Nat.succ.inj h) fun i a b h1 h2 => f (i + 1) a b h1 h2)
theorem dpa_strs {H : Hp} : ∀ ys : List Str, DpAll K H (ys.map V.str) (ys.map PyData.str)
  | [] => .nil
  | y :: ys => .cons (.str _) (dpa_strs ys)
theorem dpa_lists {H : Hp} : ∀ (ls : List Addr) (wss : List (List Nat)), ls.length = wss.length → (∀ (i : Nat) (l : Addr) (ws : List Nat), ls[i]? = some l → wss[i]? = some ws → H l = some (.lst (nts ws))) → DpAll K H (ls.map V.ref) (wss.map fun ws => .list (dInts ws))
  | [], [], _, _ => .nil
  | [], _ :: _, h, _ => by cases h
  | _ :: _, [], h, _ => by cases h
  | t :: ts, g :: gs, h, f => .cons (.lst (SqL.of (f 0 t g rfl rfl)) (dpa_nts g)) (dpa_lists ts gs (Nat.succ.inj h) fun i a b h1 h2 => f (i + 1) a b h1 h2)
def lkN (nm : List (Str × List Nat)) (y : Str) : List Nat := ((nm.find? fun x => decide (x.1 = y)).map (·.2)).getD []
theorem lkN_at : ∀ {nm : List (Str × List Nat)} {i : Nat} {n : Str} {ws : List Nat}, (nm.map (·.1)).Nodup → nm[i]? = some (n, ws) → lkN nm n = ws
  | [], i, n, ws, _, h => by simp at h
  | x :: nm, 0, n, ws, _, h => by
    cases h
    simp [lkN]
  | x :: nm, i + 1, n, ws, hd, h => by
    have hd' := List.nodup_cons.mp hd
    have hx : ¬ x.1 = n := fun e => hd'.1 (by show x.1 ∈ _; rw [e]; exact List.mem_map.mpr ⟨(n, ws), List.mem_of_getElem? h, rfl⟩)
    have ih := lkN_at (nm := nm) (i := i) hd'.2 h
    unfold lkN at ih ⊢
    rw [List.find?_cons_of_neg (by simpa using hx)]
    exact ih
theorem sameN {H G : Hp} {y : Addr} {o : HO} (s : Same H G) (n : H y = none) : Same H (upd G y o) := fun a u e => by
  rw [upd_ne (ne_of_none e n)]
  exact s _ _ e
theorem back {H G : Hp} (s : Same H G) {y : Addr} (n : G y = none) : H y = none := by
  cases e : H y with
  | none => rfl
  | some o => rw [s _ _ e] at n; cases n
theorem lv0_ints (ws : List Nat) : ∀ d ∈ dInts ws, Lv 0 d := fun d hd => by
  obtain ⟨a, _, rfl⟩ := List.mem_map.mp hd
  exact True.intro
theorem lv_gt {n : Nat} {g : Gt} (h : g.ok n) : Lv 1 (dGt g) := by
  cases g with
  | w k ws =>
    refine ⟨by rw [List.length_cons]; unfold dInts; rw [List.length_map]; rcases h.1 with ⟨_, e⟩ | ⟨_, e⟩ <;> omega, fun d hd => ?_⟩
    rcases List.mem_cons.mp hd with e | hd
    · rw [e]; exact True.intro
    · exact lv0_ints ws d hd
  | fi b =>
    refine ⟨by show 2 ≤ 1000000; decide, fun d hd => ?_⟩
    simp only [List.mem_cons, List.not_mem_nil, or_false] at hd
    rcases hd with e | e <;> rw [e] <;> exact True.intro
theorem lv_rows {m : Nat} {gs : List Gt} (ok : GsOk m gs) (h : gs.length ≤ 200) : Lv 2 (.list (gs.map dGt)) := by
  refine ⟨by rw [List.length_map]; omega, fun d hd => ?_⟩
  obtain ⟨g, hg, rfl⟩ := List.mem_map.mp hd
  obtain ⟨i, hi⟩ := List.mem_iff_getElem?.mp hg
  exact lv_gt (ok i g hi)
theorem lv_strs {ys : List Str} (h : ys.length ≤ 200) : Lv 2 (.list (ys.map PyData.str)) := ⟨by rw [List.length_map]; omega, fun d hd => by
  obtain ⟨y, _, rfl⟩ := List.mem_map.mp hd
  exact True.intro⟩
theorem lv_lists {ys : List Str} {f : Str → List Nat} (h : ys.length ≤ 200) (hf : ∀ y ∈ ys, (f y).length ≤ 200) : Lv 2 (.list (ys.map fun y => .list (dInts (f y)))) := ⟨by rw [List.length_map]; omega, fun d hd => by
  obtain ⟨y, hy, rfl⟩ := List.mem_map.mp hd
  exact ⟨by unfold dInts; rw [List.length_map]; have := hf y hy; omega, lv0_ints _⟩⟩
end
section
variable {P : Program} {w : World} {K : PySem.W.Frag} {mg : Str → Option Value} {base : Heap}
variable {C : Addr} {za : Nat → Addr} {zl : Nat → FuncData}
/-! ### the law's own bits -/
def z01 (vals : List Int) : Prop := ∀ v ∈ vals, v = 0 ∨ v = 1
theorem z01_getD {vals : List Int} (h : z01 vals) (a : Nat) : vals.getD a 0 = 0 ∨ vals.getD a 0 = 1 := by
  simp only [List.getD]
  cases e : vals[a]? with
  | none => exact .inl rfl
  | some v => exact h v (List.mem_of_getElem? e)
theorem gv_01 {vals : List Int} (h : z01 vals) (g : Gt) : gv 1 vals g = 0 ∨ gv 1 vals g = 1 := by
  cases g with
  | fi b =>
    show (if b = 1 then (1 : Int) else 0) = 0 ∨ (if b = 1 then (1 : Int) else 0) = 1
    split
    · exact .inr rfl
    · exact .inl rfl
  | w k l =>
    show gvw 1 _ _ k = 0 ∨ gvw 1 _ _ k = 1
    have h1 := z01_getD h (l.getD 0 0)
    have h2 := z01_getD h (l.getD 1 0)
    unfold gvw
    have e : ∀ x y : Int, (x = 0 ∨ x = 1) → (y = 0 ∨ y = 1) → (Builtin.bitXor x 1 = 0 ∨ Builtin.bitXor x 1 = 1) ∧ (Builtin.bitAnd x y = 0 ∨ Builtin.bitAnd x y = 1) ∧ (Builtin.bitOr x y = 0 ∨ Builtin.bitOr x y = 1) ∧ (Builtin.bitXor x y = 0 ∨ Builtin.bitXor x y = 1) := fun x y hx hy => by
      rcases hx with rfl | rfl <;> rcases hy with rfl | rfl <;> decide
    obtain ⟨e1, e2, e3, e4⟩ := e _ _ h1 h2
    split
    · exact e1
    split
    · exact e2
    split
    · exact e3
    · exact e4
theorem rv_01 {vals : List Int} (h : z01 vals) (gs : List Gt) : z01 (rv 1 vals gs) := by
  induction gs generalizing vals with
  | nil => exact h
  | cons g gs ih =>
    unfold rv at ih ⊢
    rw [List.foldl_cons]
    refine ih fun v hv => ?_
    rcases List.mem_append.mp hv with z | z
    · exact h v z
    · rw [List.mem_singleton.mp z]
      exact gv_01 h g
def spBits (K : PySem.W.Frag) : Sp := fun vs H Q _ => ∃ (R vl : Addr) (gs : List Gt) (vals : List Int), vs = [.ref R, .ref vl] ∧ RowsAt46 H R gs ∧ GsOk vals.length gs ∧ SqL K H vl (vals.map V.int) ∧ z01 vals ∧ vals.length + gs.length ≤ 900 ∧
  ∀ (D : Addr) (H' : Hp), H D = none → Same H H' → H' D = some (.lst ((rv 1 vals gs).map V.int)) → Q (.ref D) H'
theorem ok__law_bits (B : Bl mg) (L : LL K mg C za zl base) : FnOk P w K mg base CX0 1 (za 11) (zl 11) ["_law_rows", "_law_bits_here"] (spBits K) := by
  refine L.F__law_bits.ok sc__law_bits (fun vs H Q E h => ?_) (fun cdv A outer s H vs Q E hr h => ?_)
  · obtain ⟨R, vl, gs, vals, rfl, _⟩ := h
    rfl
  obtain ⟨R, vl, gs, vals, rfl, ⟨ts, lt, eR, hts⟩, ok, eV, h01, hl, q⟩ := h
  refine ⟨_, (pss_cons (ps_set (i := 2) sc__law_bits.nd rfl (.inl rfl) (pe_callTy call_list_of (by rfl) B.list PyProof.Rows.boot_list (pa_cons (pv 1) pa_nil)))
    (pss_cons (ps_for PassesOwn.never rfl (pi_list (pv 0)) (pg_name (i := 3) sc__law_bits.nd rfl (.inl rfl)) (pss_one (ps_if (pt_cmpR op_eq (pe_ix ix_tup (pv 3) pe_int (fun _ _ => rfl)) pe_str (nomark _)) (pss_one (ps_expr (pe_bm PySem.F.plainAttrs_list PySem.F.slot_list_append PySem.F.type_list_append mt_append (pv 2) (pa_cons (pe_ix ix_tup (pv 3) pe_int (fun _ _ => rfl)) pa_nil)))) (pss_one (ps_if (pt_cmpR op_eq (pe_ix ix_tup (pv 3) pe_int (fun _ _ => rfl)) pe_str (nomark _)) (pss_one (ps_expr (pe_bm PySem.F.plainAttrs_list PySem.F.slot_list_append PySem.F.type_list_append mt_append (pv 2) (pa_cons (pe_op op_sub pe_int (pe_ix ix_list (pv 2) (pe_ix ix_tup (pv 3) pe_int (fun _ _ => rfl)) (fun _ _ => rfl))) pa_nil)))) (pss_cons (ps_par (by rfl) sc__law_bits.nd (i := 4) (j := 5) rfl rfl (by decide) rfl rfl (pa_cons (pe_ix ix_list (pv 2) (pe_ix ix_tup (pv 3) pe_int (fun _ _ => rfl)) (fun _ _ => rfl)) (pa_cons (pe_ix ix_list (pv 2) (pe_ix ix_tup (pv 3) pe_int (fun _ _ => rfl)) (fun _ _ => rfl)) pa_nil)) (by rfl))
    (pss_one (ps_expr (pe_bm PySem.F.plainAttrs_list PySem.F.slot_list_append PySem.F.type_list_append mt_append (pv 2) (pa_cons (pe_dget (units1 hr) (pe_disp (pps_cons pe_str (pe_op op_mul (pv 4) (pv 5)) (pps_cons pe_str (pe_callB (call_max2 rfl) (by rfl) B.max boot_max (pa_cons (pv 4) (pa_cons (pv 5) pa_nil))) (pps_cons pe_str (pe_callTy call_int1 (by rfl) B.int PyProof.Rows.boot_int (pa_cons (pe_cmpR op_ne (pv 4) (pv 5) (nomark _)) pa_nil)) pps_nil))) rfl rfl (by decide) (by decide)) (pe_ix ix_tup (pv 3) pe_int (fun _ _ => rfl)) (fun _ _ => rfl)) pa_nil))))))))))
    (pss_one (ps_ret (pv 2))))), ?_⟩
  refine ⟨_, rfl, vl, _, rfl, .inl eV, fun D nD => ?_⟩
  have sD := same_upd (o := .lst (vals.map V.int)) nD
  try simp only [L2.start, List.map_cons, List.map_nil, List.length_cons, List.length_nil, List.replicate_succ, List.replicate_zero, List.cons_append, List.nil_append, List.set_cons_succ, List.set_cons_zero, Nat.reduceAdd, Nat.reduceSub, Nat.zero_add]
  refine ⟨_, rfl, R, rfl, ⟨_, SqL.of (sD _ _ eR)⟩, ?_⟩
  refine for_it (walk_list (K := K) (a := R) (xs := ts.map V.ref)) (fun j σ H9 => ∃ (y3 y4 y5 : Option V), σ = [some (.ref R), some (.ref vl), some (.ref D), y3, y4, y5] ∧ Same H H9 ∧ H9 D = some (.lst ((rv 1 vals (gs.take j)).map V.int))) ⟨_, _, _, rfl, sD, upd_same⟩ (fun j σ H9 _ ⟨_, _, _, _, s9, _⟩ => SqL.of (s9 _ _ eR)) ?_ ?_
  · rintro j z σ H9 H10 hj ⟨y3, y4, y5, rfl, s9, eD⟩ ⟨rfl, hz⟩
    rw [List.getElem?_map] at hz
    have hj' : j < ts.length := by
      rw [List.length_map] at hj
      exact hj
    rw [List.getElem?_eq_getElem hj'] at hz
    cases hz
    have hgj : gs[j]? = some (gs[j]'(by omega)) := List.getElem?_eq_getElem (by omega)
    have et := s9 _ _ (hts j _ _ (List.getElem?_eq_getElem hj') hgj)
    have okj := ok j _ hgj
    have lj : (gs.take j).length = j := by
      rw [List.length_take]
      omega
    have tk : gs.take (j + 1) = gs.take j ++ [gs[j]'(by omega)] := by
      rw [List.take_add_one, hgj]
      rfl
    have lr : (rv 1 vals (gs.take j)).length = vals.length + j := by rw [rv_len, lj]
    have ll : ((rv 1 vals (gs.take j)).map V.int).length < sizeLine := by rw [List.length_map, lr]; exact big_lt (by omega)
    have w01 := rv_01 h01 (gs.take j)
    generalize gs[j]'(by omega) = g at et okj tk
    generalize ts[j] = t at *
    have nS : ∀ {x y : Str}, ¬ x = y → ¬ decide (V.str x = V.str y) = true := fun h z => h (V.str.inj (of_decide_eq_true z))
    have fin : ∀ (G : Hp) (v : Int) (z4 z5 : Option V), Same H10 G → v = gv 1 (rv 1 vals (gs.take j)) g → ∃ (y3 y4 y5 : Option V), [some (V.ref R), some (V.ref vl), some (V.ref D), some (.ref t), z4, z5] = [some (.ref R), some (.ref vl), some (.ref D), y3, y4, y5] ∧ Same H (upd G D (.lst ((rv 1 vals (gs.take j)).map V.int ++ [.int v]))) ∧ (upd G D (.lst ((rv 1 vals (gs.take j)).map V.int ++ [.int v]))) D = some (.lst ((rv 1 vals (gs.take (j + 1))).map V.int)) := fun G v z4 z5 sG e => ⟨_, _, _, rfl, fun y u e' => by
      rw [upd_ne (ne_of_none e' nD)]
      exact sG _ _ (s9 _ _ e'), by rw [upd_same, tk, rv_snoc, List.map_append, e]; rfl⟩
    dsimp only [gName]
    try simp only [L2.start, List.map_cons, List.map_nil, List.length_cons, List.length_nil, List.replicate_succ, List.replicate_zero, List.cons_append, List.nil_append, List.set_cons_succ, List.set_cons_zero, Nat.reduceAdd, Nat.reduceSub, Nat.zero_add]
    cases g with
    | fi b =>
      have r0 : atI (Gt.fi b).row 0 = some (.str "fixed") := rfl
      refine ⟨_, rfl, t, _, _, _, rfl, rfl, .inl (.inl et), r0, rfl, _, rfl, ite2 (fun _ => ?_) (fun z => absurd (decide_eq_true rfl) z)⟩
      refine ⟨_, rfl, .inl ⟨rfl, _, SqL.of eD⟩, _, rfl, t, _, _, _, rfl, rfl, .inl (.inl et), rfl, D, _, _, rfl, rfl, eD, ll, ?_⟩
      refine fin _ (b : Int) _ _ (Same.refl _) ?_
      show (b : Int) = if b = 1 then (1 : Int) else 0
      have hb : b ≤ 1 := okj
      split <;> omega
    | w k ws =>
      have r0 : atI (Gt.w k ws).row 0 = some (.str k) := atI_nat (j := 0) rfl
      rcases okj.1 with ⟨hk, l2⟩ | ⟨rfl, l1⟩
      · obtain ⟨a, c, rfl⟩ : ∃ a c, ws = [a, c] := by
          match ws, l2 with
          | [a, c], _ => exact ⟨_, _, rfl⟩
        have la : a < (rv 1 vals (gs.take j)).length := by rw [lr]; exact okj.2 a (by simp)
        have lc : c < (rv 1 vals (gs.take j)).length := by rw [lr]; exact okj.2 c (by simp)
        have ha := z01_getD w01 a
        have hc := z01_getD w01 c
        have ea := at_getD la
        have ec := at_getD lc
        have ev : ∀ k, gv 1 (rv 1 vals (gs.take j)) (.w k [a, c]) = gvw 1 ((rv 1 vals (gs.take j)).getD a 0) ((rv 1 vals (gs.take j)).getD c 0) k := fun _ => rfl
        generalize (rv 1 vals (gs.take j)).getD a 0 = va at *
        generalize (rv 1 vals (gs.take j)).getD c 0 = vc at *
        have nf : ¬ k = "fixed" := by rcases hk with z | z | z <;> rw [z] <;> decide +kernel
        have no : ¬ k = "other" := by rcases hk with z | z | z <;> rw [z] <;> decide +kernel
        refine ⟨_, rfl, t, _, _, _, rfl, rfl, .inl (.inl et), r0, rfl, _, rfl, ite2 (fun z => absurd z (nS nf)) (fun _ => ?_)⟩
        refine ⟨_, rfl, t, _, _, _, rfl, rfl, .inl (.inl et), r0, rfl, _, rfl, ite2 (fun z => absurd z (nS no)) (fun _ => ?_)⟩
        refine ⟨_, rfl, _, rfl, t, _, _, _, rfl, rfl, .inl (.inl et), rfl, D, _, _, _, rfl, rfl, SqL.of eD, ea, _, rfl, _, rfl, t, _, _, _, rfl, rfl, .inl (.inl et), rfl, D, _, _, _, rfl, rfl, SqL.of eD, ec, ?_⟩
        refine ⟨_, _, rfl, ?_⟩
        refine ⟨_, rfl, .inl ⟨rfl, _, SqL.of eD⟩, fun p np => ⟨_, rfl, _, rfl, _, _, rfl, rfl, ?_⟩⟩
        have sp1 := same_upd (o := .dK []) np
        have ep : (upd H10 p (.dK [])) p = some (.dK []) := upd_same
        have eD1 := sp1 _ _ eD
        have et1 := sp1 _ _ et
        have npD : p ≠ D := fun z => by rw [z, eD] at np; cases np
        have npt : p ≠ t := fun z => by rw [z, et] at np; cases np
        refine ⟨.inl (by rcases ha with z | z <;> rw [z] <;> decide), _, rfl, _, rfl, _, _, rfl, _, rfl, _, rfl, rfl, .inr ⟨_, rfl, ep, [(.inr "both", .int (va * vc)), (.inr "either", .int (if vc > va then vc else va)), (.inr "unlike", _)], rfl, (by show 3 ≤ 15; decide), ?_⟩⟩
        have sp2 : Same H10 (upd (upd H10 p (.dK [])) p (.dK (mergeK [] [(.inr ("both" : Str), .int (va * vc)), (.inr "either", .int (if vc > va then vc else va)), (.inr "unlike", .int (if (!decide (V.int va = V.int vc)) = true then 1 else 0))]))) := fun y u e => by
          rw [upd_ne (ne_of_none e np), upd_ne (ne_of_none e np)]
          exact e
        have hv : valV (mergeK [] [(.inr ("both" : Str), .int (va * vc)), (.inr "either", .int (if vc > va then vc else va)), (.inr "unlike", .int (if (!decide (V.int va = V.int vc)) = true then 1 else 0))]) (.inr k) = some (.int (gv 1 (rv 1 vals (gs.take j)) (.w k [a, c]))) := by
          rw [ev]
          rcases hk with rfl | rfl | rfl <;> rcases ha with rfl | rfl <;> rcases hc with rfl | rfl <;> decide +kernel
        refine ⟨_, rfl, t, _, _, _, rfl, rfl, .inl (.inl (sp2 _ _ et)), r0, p, .int (gv 1 (rv 1 vals (gs.take j)) (.w k [a, c])), rfl, ?_, ?_⟩
        · rw [← hv]
          exact DGet.k (k := .inr k) upd_same
        refine ⟨D, _, _, rfl, rfl, sp2 _ _ eD, ll, ?_⟩
        exact fin _ _ _ _ sp2 rfl
      · have la : ws.getD 0 0 < (rv 1 vals (gs.take j)).length := by
          obtain ⟨a, rfl⟩ : ∃ a, ws = [a] := by
            match ws, l1 with
            | [a], _ => exact ⟨_, rfl⟩
          rw [lr]
          exact okj.2 a (by simp)
        have ea := at_getD la
        have ha := z01_getD w01 (ws.getD 0 0)
        have nf : ¬ ("other" : Str) = "fixed" := by decide +kernel
        have r1 : atI (Gt.w "other" ws).row 1 = some (.int ((ws.getD 0 0 : Nat) : Int)) := by
          obtain ⟨a, rfl⟩ : ∃ a, ws = [a] := by
            match ws, l1 with
            | [a], _ => exact ⟨_, rfl⟩
          exact atI_nat (j := 1) rfl
        refine ⟨_, rfl, t, _, _, _, rfl, rfl, .inl (.inl et), r0, rfl, _, rfl, ite2 (fun z => absurd z (nS nf)) (fun _ => ?_)⟩
        refine ⟨_, rfl, t, _, _, _, rfl, rfl, .inl (.inl et), r0, rfl, _, rfl, ite2 (fun _ => ?_) (fun z => absurd (decide_eq_true rfl) z)⟩
        refine ⟨_, rfl, .inl ⟨rfl, _, SqL.of eD⟩, _, rfl, _, rfl, t, _, _, _, rfl, rfl, .inl (.inl et), r1, D, _, _, _, rfl, rfl, SqL.of eD, ea, _, _, rfl, rfl, D, _, _, rfl, rfl, eD, ll, ?_⟩
        refine fin _ _ _ _ (Same.refl _) ?_
        show 1 - _ = gvw 1 ((rv 1 vals (gs.take j)).getD (ws.getD 0 0) 0) _ "other"
        unfold gvw
        rw [if_pos rfl]
        rcases ha with z | z <;> rw [z] <;> decide
  · rintro σ H9 ⟨y3, y4, y5, rfl, s9, eD⟩
    rw [List.length_map, List.take_of_length_le (by omega)] at eD
    exact ⟨_, rfl, q D H9 nD s9 eD⟩
def spNumb (K : PySem.W.Frag) : Sp := fun vs H Q _ => ∃ (t : Addr) (ds : List Int), vs = [.ref t] ∧ SqL K H t (ds.map V.int) ∧ Q (.int (wf ds)) H
theorem ok__law_number (B : Bl mg) (L : LL K mg C za zl base) : FnOk P w K mg base CX0 1 (za 12) (zl 12) ["_law_bits_here"] (spNumb K) := by
  refine L.F__law_number.ok sc__law_number (fun vs H Q E h => ?_) (fun cdv A outer s H vs Q E hr h => ?_)
  · obtain ⟨t, ds, rfl, _⟩ := h
    rfl
  obtain ⟨t, ds, rfl, hT, q⟩ := h
  refine ⟨_, (pss_cons (ps_set (i := 1) sc__law_number.nd rfl (.inl rfl) pe_int)
    (pss_cons (ps_for PassesOwn.never rfl (pi_list (pv 0)) (pg_name (i := 2) sc__law_number.nd rfl (.inl rfl)) (pss_one (ps_set (i := 1) sc__law_number.nd rfl (.inl rfl) (pe_op op_add (pe_op op_mul pe_int (pv 1)) (pv 2)))))
    (pss_one (ps_ret (pv 1))))), ?_⟩
  refine ⟨_, rfl, t, rfl, ⟨_, hT⟩, ?_⟩
  refine for_it (walk_list (K := K) (a := t) (xs := ds.map V.int)) (fun j σ H9 => ∃ y : Option V, σ = [some (.ref t), some (.int (wf (ds.take j))), y] ∧ H9 = H) ⟨_, rfl, rfl⟩ (fun j σ H9 _ ⟨_, _, e⟩ => by rw [e]; exact hT) ?_ ?_
  · rintro j v σ H9 H10 hj ⟨y, rfl, rfl⟩ ⟨rfl, hz⟩
    obtain ⟨d, hd, rfl⟩ := at_int46 hz
    refine ⟨_, rfl, _, _, rfl, rfl, .inl ⟨by decide, by decide⟩, _, rfl, _, _, rfl, rfl, ?_⟩
    refine ⟨some (.int d), ?_, rfl⟩
    rw [List.take_add_one, hd]
    show _ = [some (V.ref t), some (.int (wf (ds.take j ++ [d]))), _]
    rw [wf_snoc]
    rfl
  · rintro σ H9 ⟨y, rfl, rfl⟩
    rw [List.length_map, List.take_length]
    exact ⟨_, rfl, q⟩
def spVals : Sp := fun vs H Q _ => ∃ (b : Addr) (c : Int) (n k : Nat), vs = [.ref b, .int (n : Int), .int (k : Int)] ∧ BoxAt c H b ∧ c ≤ 900000000 ∧ n ≤ 20 ∧ k ≤ 4096 ∧
  ∀ (us : List Int) (D : Addr) (H' : Hp), us.length = n → (∀ u ∈ us, 0 ≤ u ∧ u < 2 ^ 4200) → H D = none → H' D = some (.lst (us.map V.int)) → BoxAt (c + 300 * n) H' b → Keep b H H' → Q (.ref D) H'
theorem bx2n {c : Int} {H : Hp} {b : Addr} (h : BoxAt (c + 2 ^ (2 - 1)) H b) : BoxAt (c + 2) H b := h
theorem val_step {v r : Int} {i : Nat} (h : 0 ≤ v ∧ v < 2 ^ (30 * i)) (h0 : 0 ≤ r) (h1 : r < 2 ^ 30) : 0 ≤ v * 2 ^ 30 + r ∧ v * 2 ^ 30 + r < 2 ^ (30 * (i + 1)) := by
  have e : (2 : Int) ^ (30 * (i + 1)) = 2 ^ (30 * i) * 2 ^ 30 := by rw [Nat.mul_add, Nat.mul_one, Int.pow_add]
  rw [e]
  generalize (2 : Int) ^ (30 * i) = P at h
  have e2 : (2 : Int) ^ 30 = 1073741824 := by decide
  rw [e2] at h1 ⊢
  omega
theorem val_fits {v : Int} {g : Nat} (h : 0 ≤ v ∧ v < 2 ^ (30 * g)) (hg : g ≤ 137) : 0 ≤ v ∧ v < 2 ^ 4200 := ⟨h.1, Int.lt_of_lt_of_le h.2 (GM.pow_le' (by omega))⟩
theorem ok__law_values (B : Bl mg) (L : LL K mg C za zl base) : FnOk P w K mg base CX0 3 (za 13) (zl 13) ["_law_box_here", "_law_inputs", "_law_cases"] spVals := by
  have G__law_take : FnOk P w K mg base CX0 2 (za 6) (zl 6) ["_law_box_here", "_law_size"] (spTake 2) := (ok_take L.F__law_take L.b__law_take L.m__law_take B 2).mono (by decide)
  refine L.F__law_values.ok sc__law_values (fun vs H Q E h => ?_) (fun cdv A outer s H vs Q E hr h => ?_)
  · obtain ⟨b, c, n, k, rfl, _⟩ := h
    rfl
  obtain ⟨b, c, n, k, rfl, hB, hc, hn, hk, q⟩ := h
  refine ⟨_, (pss_cons (ps_set (i := 3) sc__law_values.nd rfl (.inl rfl) (pe_lst pa_nil))
    (pss_cons (ps_for PassesOwn.never rfl (pi_range1 (by rfl) B.range (pa_cons (pv 1) pa_nil)) (pg_name (i := 4) sc__law_values.nd rfl (.inl rfl)) (pss_cons (ps_set (i := 5) sc__law_values.nd rfl (.inl rfl) pe_int)
    (pss_cons (ps_for PassesOwn.never rfl (pi_range1 (by rfl) B.range (pa_cons (pe_op op_add pe_int (pe_op op_fdiv (pv 2) pe_int)) pa_nil)) (pg_name (i := 6) sc__law_values.nd rfl (.inl rfl)) (pss_one (ps_set (i := 5) sc__law_values.nd rfl (.inl rfl) (pe_op op_add (pe_op op_mul (pv 5) (pe_op op_pow pe_int pe_int)) (pe_call G__law_take hr (by rfl) L.m__law_take L.F__law_take.kp L.b__law_take .nil pass0 (pa_cons (pv 0) (pa_cons (pe_op op_pow pe_int pe_int) pa_nil)))))))
    (pss_one (ps_expr (pe_bm PySem.F.plainAttrs_list PySem.F.slot_list_append PySem.F.type_list_append mt_append (pv 3) (pa_cons (pv 5) pa_nil)))))))
    (pss_one (ps_ret (pv 3))))), ?_⟩
  refine ⟨Nat.zero_le _, fun D nD => ?_⟩
  have nDb : D ≠ b := (hB.ne nD).symm
  try simp only [L2.start, List.map_cons, List.map_nil, List.length_cons, List.length_nil, List.replicate_succ, List.replicate_zero, List.cons_append, List.nil_append, List.set_cons_succ, List.set_cons_zero, Nat.reduceAdd, Nat.reduceSub, Nat.zero_add]
  refine ⟨_, rfl, _, rfl, by omega, by omega, ?_⟩
  rw [Int.toNat_natCast]
  refine for_range (n := n) (fun j σ H5 => ∃ (us : List Int) (y1 y2 y3 : Option V), σ = [some (.ref b), some (.int (n : Int)), some (.int (k : Int)), some (.ref D), y1, y2, y3] ∧ us.length = j ∧ (∀ u ∈ us, 0 ≤ u ∧ u < 2 ^ 4200) ∧ H5 D = some (.lst (us.map V.int)) ∧ BoxAt (c + 300 * j) H5 b ∧ Keep b H H5) ⟨[], none, none, none, rfl, rfl, (fun _ z => nomatch z), upd_same, (hB.same (same_upd nD)).mono (by omega), Keep.new nD⟩ ?_ ?_
  · rintro j σ H5 hj ⟨us, y1, y2, y3, rfl, lu, hus, eD, B5, k5⟩
    dsimp only [gName]
    try simp only [L2.start, List.map_cons, List.map_nil, List.length_cons, List.length_nil, List.replicate_succ, List.replicate_zero, List.cons_append, List.nil_append, List.set_cons_succ, List.set_cons_zero, Nat.reduceAdd, Nat.reduceSub, Nat.zero_add]
    refine ⟨_, rfl, _, _, rfl, rfl, ⟨by decide, by decide⟩, _, _, rfl, rfl, ?_⟩
    obtain ⟨g, eg, g3⟩ : ∃ g : Nat, 1 + (k : Int) / 30 = (g : Int) ∧ g ≤ 137 := ⟨(1 + (k : Int) / 30).toNat, by omega, by omega⟩
    refine ⟨1 + (k : Int) / 30, rfl, by omega, by omega, ?_⟩
    rw [eg, Int.toNat_natCast]
    refine for_range (n := g) (fun i σ H6 => ∃ (v : Int) (y3 : Option V), σ = [some (.ref b), some (.int (n : Int)), some (.int (k : Int)), some (.ref D), some (.int (0 + (j : Int))), some (.int v), y3] ∧ (0 ≤ v ∧ v < 2 ^ (30 * i)) ∧ H6 D = some (.lst (us.map V.int)) ∧ BoxAt (c + 300 * j + 2 * i) H6 b ∧ Keep b H H6) ⟨0, y3, rfl, ⟨by decide, by decide⟩, eD, B5.mono (by omega), k5⟩ ?_ ?_
    · rintro i σ H6 hi ⟨v, z3, rfl, hv, eD6, B6, k6⟩
      try simp only [L2.start, List.map_cons, List.map_nil, List.length_cons, List.length_nil, List.replicate_succ, List.replicate_zero, List.cons_append, List.nil_append, List.set_cons_succ, List.set_cons_zero, Nat.reduceAdd, Nat.reduceSub, Nat.zero_add]
      refine ⟨_, rfl, _, _, rfl, rfl, ⟨by decide, by decide, by decide⟩, _, _, rfl, rfl, .inr ⟨by decide, by decide⟩, _, rfl, _, _, rfl, rfl, ⟨by decide, by decide, by decide⟩, b, _, _, rfl, B6, by decide, by decide, by decide, by omega, by decide, fun r H7 u1 u2 B7 k7 => ?_⟩
      replace B7 := bx2n B7
      refine ⟨_, _, rfl, rfl, ?_⟩
      try simp only [L2.start, List.map_cons, List.map_nil, List.length_cons, List.length_nil, List.replicate_succ, List.replicate_zero, List.cons_append, List.nil_append, List.set_cons_succ, List.set_cons_zero, Nat.reduceAdd, Nat.reduceSub, Nat.zero_add]
      exact ⟨_, _, rfl, val_step hv u1 u2, k7 _ _ eD6 nDb, B7.mono (by omega), k6.trans k7⟩
    · rintro σ H6 ⟨v, z3, rfl, hv, eD6, B6, k6⟩
      dsimp only
      refine ⟨_, rfl, .inl ⟨rfl, _, SqL.of eD6⟩, _, rfl, D, _, _, rfl, rfl, eD6, by rw [List.length_map]; exact big_lt (by omega), ?_⟩
      refine ⟨us ++ [v], _, _, _, rfl, by rw [List.length_append, lu]; rfl, (fun u hu => (List.mem_append.mp hu).elim (hus u) (fun z => by rw [List.mem_singleton.mp z]; exact val_fits hv g3)), ?_, BoxAt.mono (B6.at (upd_ne nDb.symm)) (by omega), fun y u e ny => ?_⟩
      · rw [upd_same, List.map_append]
        rfl
      · rw [upd_ne (ne_of_none e nD)]
        exact k6 _ _ e ny
  · rintro σ H5 ⟨us, y1, y2, y3, rfl, lu, hus, eD, B5, k5⟩
    exact ⟨_, rfl, q us D H5 lu hus nD eD B5 k5⟩
end
section
variable {P : Program} {w : World} {K : PySem.W.Frag} {mg : Str → Option Value} {base : Heap}
variable {C : Addr} {za : Nat → Addr} {zl : Nat → FuncData}
/-! ### the law's own lists by names -/
def DlAt (S : List Addr) (H : Hp) (d : Addr) (nm : List (Str × List Nat)) : Prop := d ∉ S ∧ ∃ kvs, H d = some (.dK kvs) ∧ kvs.length = nm.length ∧ (nm.map (·.1)).Nodup ∧ ∀ (i : Nat) (k : Key) (v : V) (n : Str) (ws : List Nat), kvs[i]? = some (k, v) → nm[i]? = some (n, ws) → k = .inr n ∧ ∃ l, v = .ref l ∧ l ∉ S ∧ l ≠ d ∧ H l = some (.lst (nts ws))
theorem DlAt.keep {S T : List Addr} {H H' : Hp} {d : Addr} {nm : List (Str × List Nat)} (h : DlAt S H d nm) (k : KeepS T H H') (hs : ∀ y ∈ T, y ∈ S) : DlAt S H' d nm := by
  obtain ⟨a, kvs, e, l, nd, f⟩ := h
  refine ⟨a, kvs, k.1 _ _ e (fun z => a (hs _ z)), l, nd, fun i k' v n ws hi hn => ?_⟩
  obtain ⟨ek, l', ev, m1, m2, m3⟩ := f i k' v n ws hi hn
  exact ⟨ek, l', ev, m1, m2, k.1 _ _ m3 (fun z => m1 (hs _ z))⟩
theorem DlAt.same {S : List Addr} {H H' : Hp} {d : Addr} {nm : List (Str × List Nat)} (h : DlAt S H d nm) (s : Same H H') : DlAt S H' d nm := h.keep (T := []) (.ofSame s) (fun _ z => nomatch z)
theorem DlAt.keepB {b : Addr} {S : List Addr} {H H' : Hp} {d : Addr} {nm : List (Str × List Nat)} (h : DlAt S H d nm) (k : Keep b H H') (hb : H' b ≠ none) (m : b ∈ S) : DlAt S H' d nm := h.keep (T := [b]) (.ofKeep k (by simp) hb) (fun y hy => by rw [List.mem_singleton.mp hy]; exact m)
theorem DlAt.keys {S : List Addr} {H : Hp} {d : Addr} {nm : List (Str × List Nat)} (h : DlAt S H d nm) : ∃ kvs, H d = some (.dK kvs) ∧ kvs.map (·.1) = (nm.map (·.1)).map Sum.inr ∧ ∀ y ∈ nm.map (·.1), ∃ l, valV kvs (.inr y) = some (.ref l) ∧ l ∉ S ∧ l ≠ d ∧ H l = some (.lst (nts (lkN nm y))) ∧ (y, lkN nm y) ∈ nm := by
  obtain ⟨a, kvs, e, l, nd, f⟩ := h
  have N : NmAt [] H ⟨d, d, d, d⟩ kvs nm := ⟨l, nd, fun i k v n ws hi hn => by
    obtain ⟨ek, l', ev, m1, m2, m3⟩ := f i k v n ws hi hn
    exact ⟨ek, l', ev, (fun z => nomatch z), m2, m2, m3⟩⟩
  refine ⟨kvs, e, by rw [N.keys, List.map_map]; rfl, fun y hy => ?_⟩
  obtain ⟨x, hx, ex⟩ := List.mem_map.mp hy
  obtain ⟨i, hi⟩ := List.mem_iff_getElem?.mp hx
  have hi' : nm[i]? = some (y, x.2) := by rw [hi, ← ex]
  have lk := lkN_at nd hi'
  rw [lk]
  have li : i < kvs.length := by
    have := (List.getElem?_eq_some_iff.mp hi').1
    omega
  obtain ⟨ek, l', ev, m1, m2, m3⟩ := f i kvs[i].1 kvs[i].2 y x.2 (List.getElem?_eq_getElem li) hi'
  refine ⟨l', ?_, m1, m2, m3, by rw [← ex]; exact hx⟩
  rw [← ev, ← ek]
  exact valV_at N.nodup (List.getElem?_eq_getElem li)
def RowsOf (H : Hp) (R : Addr) (gs : List Gt) := RowsAt46 H R gs
theorem RowsAt46.ne {c : Int} {H : Hp} {R b : Addr} {gs : List Gt} (h : RowsAt46 H R gs) (B : BoxAt c H b) : R ≠ b := fun z => by
  obtain ⟨ts, lt, e, _⟩ := h
  obtain ⟨x0, x1, x2, eb, _⟩ := B
  rw [z, eb] at e
  have := HO.lst.inj (Option.some.inj e)
  cases ts with
  | nil => cases this
  | cons t ts => cases this
theorem RowsAt46.keep {T : List Addr} {H H' : Hp} {R : Addr} {gs : List Gt} (h : RowsAt46 H R gs) (k : KeepS T H H') (n : R ∉ T) (nt : ∀ y ∈ T, ∀ xs, H y ≠ some (.tup xs)) : RowsAt46 H' R gs := by
  obtain ⟨ts, lt, e, f⟩ := h
  exact ⟨ts, lt, k.1 _ _ e n, fun i t g hi hg => k.1 _ _ (f i t g hi hg) (fun z => nt t z _ (f i t g hi hg))⟩
theorem RowsAt46.same {H H' : Hp} {R : Addr} {gs : List Gt} (h : RowsAt46 H R gs) (s : Same H H') : RowsAt46 H' R gs := h.keep (T := []) (.ofSame s) (fun z => nomatch z) (fun _ z => nomatch z)
theorem RowsAt46.keepB {c : Int} {H H' : Hp} {R b : Addr} {gs : List Gt} (h : RowsAt46 H R gs) (k : Keep b H H') (B : BoxAt c H b) : RowsAt46 H' R gs := by
  have n := h.ne B
  obtain ⟨ts, lt, e, f⟩ := h
  exact ⟨ts, lt, k _ _ e n, fun i t g hi hg => k _ _ (f i t g hi hg) (fun z => by
    obtain ⟨_, _, _, eb, _⟩ := B
    have := f i t g hi hg
    rw [z, eb] at this
    cases this)⟩
theorem z01_vals (w : Int) (m : Nat) : z01 (vals1 w m) := fun v hv => by
  obtain ⟨i, _, rfl⟩ := List.mem_map.mp hv
  exact tb_01 _ _
theorem vals1_len (w : Int) (m : Nat) : (vals1 w m).length = m := by
  unfold vals1
  rw [List.length_map, List.length_range]
theorem lkN_mem {nm : List (Str × List Nat)} {n : Str} {ws : List Nat} (nd : (nm.map (·.1)).Nodup) (h : (n, ws) ∈ nm) : lkN nm n = ws := by
  obtain ⟨i, hi⟩ := List.mem_iff_getElem?.mp h
  exact lkN_at nd hi
theorem dpa_one {H : Hp} (f : Str → Int) : ∀ (ts : List Addr) (ys : List Str), ts.length = ys.length → (∀ (i : Nat) (t : Addr) (y : Str), ts[i]? = some t → ys[i]? = some y → H t = some (.tup [.str y, .int (f y)])) → DpAll K H (ts.map V.ref) (ys.map fun y => .tuple [.str y, .int (f y)])
  | [], [], _, _ => .nil
  | [], _ :: _, h, _ => by cases h
  | _ :: _, [], h, _ => by cases h
  | t :: ts, g :: gs, h, e => .cons (.tup (.inl (.inl (e 0 t g rfl rfl))) (.cons (.str _) (.cons (.int _) .nil))) (dpa_one f ts gs (Nat.succ.inj h) fun i a b h1 h2 => e (i + 1) a b h1 h2)
theorem lv_one (f : Str → Int) (ys : List Str) (h : ys.length ≤ 200) : Lv 2 (.list (ys.map fun y => .tuple [.str y, .int (f y)])) := ⟨by rw [List.length_map]; omega, fun d hd => by
  obtain ⟨y, _, rfl⟩ := List.mem_map.mp hd
  refine ⟨by show 2 ≤ 1000000; decide, fun d hd => ?_⟩
  simp only [List.mem_cons, List.not_mem_nil, or_false] at hd
  rcases hd with e | e <;> rw [e] <;> exact True.intro⟩
theorem p12 {m : Nat} (h : m ≤ 12) : (1 : Int) ≤ 2 ^ m ∧ (2 : Int) ^ m ≤ 4096 := by
  have h1 := GM.pow_pos' m
  have h2 : (2 : Int) ^ m ≤ 2 ^ 12 := GM.pow_le' h
  have h3 : (2 : Int) ^ 12 = 4096 := by decide
  omega
/-! ### one case right -/
def NmOk (n : Nat) (nm : List (Str × List Nat)) : Prop := nm.length ≤ 10 ∧ ∀ x ∈ nm, x.2.length ≤ 10 ∧ ∀ a ∈ x.2, a < n
def spCaseR (C : Addr) : Sp := fun vs H Q _ => ∃ (Z : List Addr) (p : NetP) (b R d : Addr) (c : Int) (m : Nat) (gs : List Gt) (nm : List (Str × List Nat)), vs = [.ref b, .ref p.x, .ref R, .ref d, .int (m : Int)] ∧ NetAt C Z H p m gs nm ∧ b ∈ Z ∧ BoxAt c H b ∧ c ≤ 900000000 ∧ RowsAt46 H R gs ∧ GsOk m gs ∧ DlAt [b] H d nm ∧ NmOk (m + gs.length) nm ∧ 1 ≤ m ∧ m ≤ 12 ∧ gs.length ≤ 100 ∧
  ∀ H', Keep b H H' → BoxAt (c + 10) H' b → Q (.bl true) H'
theorem ok__law_case_right (B : Bl mg) (L : LL K mg C za zl base) : FnOk P w K mg base CX0 6 (za 15) (zl 15) ["_law_box_here", "_law_net", "_law_rows", "_law_lists", "_law_inputs"] (spCaseR C) := by
  have G__law_take : FnOk P w K mg base CX0 5 (za 6) (zl 6) ["_law_box_here", "_law_size"] (spTake 1) := (ok_take L.F__law_take L.b__law_take L.m__law_take B 1).mono (by decide)
  have G__law_bits : FnOk P w K mg base CX0 5 (za 11) (zl 11) ["_law_rows", "_law_bits_here"] (spBits K) := (ok__law_bits B L).mono (by decide)
  have G__law_number : FnOk P w K mg base CX0 5 (za 12) (zl 12) ["_law_bits_here"] (spNumb K) := (ok__law_number B L).mono (by decide)
  have G_one_case : FnOk P w K mg base CX0 5 (za 4) (zl 4) ["net", "word"] (spOneC C) := (ok_one_case B L).mono (by decide)
  have G__law_same : FnOk P w K mg base CX0 5 (za 7) (zl 7) ["_law_found", "_law_due"] (spSame K 3) := (ok_same L.F__law_same L.b__law_same L.m__law_same B 3).mono (by decide)
  refine L.F__law_case_right.ok sc__law_case_right (fun vs H Q E h => ?_) (fun cdv A outer s H vs Q E hr h => ?_)
  · obtain ⟨Z, p, b, R, d, c, m, gs, nm, rfl, _⟩ := h
    rfl
  obtain ⟨Z, p, b, R, d, c, m, gs, nm, rfl, hN, hbZ, hB, hc, hR, ok, hD, hm, m1, m12, hg, q⟩ := h
  refine ⟨_, (pss_cons (ps_set (i := 5) sc__law_case_right.nd rfl (.inr rfl) (pe_call G__law_take hr (by rfl) L.m__law_take L.F__law_take.kp L.b__law_take .nil pass0 (pa_cons (pv 0) (pa_cons (pe_op op_oneShl pe_int (pv 4)) pa_nil))))
    (pss_cons (ps_set (i := 6) sc__law_case_right.nd rfl (.inr rfl) (pe_call G__law_bits hr (by rfl) L.m__law_bits L.F__law_bits.kp L.b__law_bits .nil pass0 (pa_cons (pv 2) (pa_cons (pe_lc (own := [("_law_at", 8)]) (by rfl) sc__law_case_right.nd (pi_range1 (by rfl) B.range (pa_cons (pv 4) pa_nil)) (blkOk_by (own := [("_law_at", 8)]) (N := ["_law_box_here", "_law_net", "_law_rows", "_law_lists", "_law_inputs", "_law_word", "_law_own", "_law_due", "_law_at", "_law_name", "_law_wire"]) (sc := defScope s__law_case_right) (by decide +kernel)) (fun _ _ _ _ _ => pg_name (i := 8) sc__law_case_right.nd rfl (Or.inl rfl)) (fun _ _ _ _ _ => pts_nil) (fun _ _ _ _ _ => (pe_op op_andM (pe_op op_shrN (pv 5) (pe_op op_sub (pe_op op_sub (pv 4) pe_int) (pv 8))) pe_int))) pa_nil))))
    (pss_cons (ps_setLc (i := 7) (own := [("_law_name", 9)]) (by rfl) sc__law_case_right.nd rfl rfl (sw_true rfl rfl rfl (by decide +kernel)) (pi_list (pe_callB (call_sortedD rfl) (by rfl) L.z_sorted boot_sorted (pa_cons (pv 3) pa_nil))) (blkOk_by (own := [("_law_name", 9)]) (N := ["_law_box_here", "_law_net", "_law_rows", "_law_lists", "_law_inputs", "_law_word", "_law_own", "_law_due", "_law_at", "_law_name", "_law_wire"]) (sc := defScope s__law_case_right) (by decide +kernel)) (fun _ _ _ _ _ => pg_name (i := 9) sc__law_case_right.nd rfl (Or.inl rfl)) (fun _ _ _ _ _ => pts_nil) (fun _ _ _ _ _ => (pe_tup (pa_cons (pv 9) (pa_cons (pe_call G__law_number hr (by rfl) L.m__law_number L.F__law_number.kp L.b__law_number .nil pass0 (pa_cons (pe_lc (own := [("_law_wire", 10)]) (by rfl) sc__law_case_right.nd (pi_listK (K := K) (pe_dget (units1 hr) (pv 3) (pv 9) (fun _ _ => rfl))) (blkOk_by (own := [("_law_wire", 10)]) (N := ["_law_box_here", "_law_net", "_law_rows", "_law_lists", "_law_inputs", "_law_word", "_law_own", "_law_due", "_law_at", "_law_name", "_law_wire"]) (sc := ({ kind := ScopeKind.function, names := [(".0", NameKind.local), ("_law_name", NameKind.local), ("_law_number", NameKind.globalImplicit), ("_law_lists", NameKind.cell), ("_law_own", NameKind.cell)], isGenerator := false, isCoroutine := false } : Scope)) (by decide +kernel)) (fun _ _ _ _ _ => pg_name (i := 10) sc__law_case_right.nd rfl (Or.inl rfl)) (fun _ _ _ _ _ => pts_nil) (fun _ _ _ _ _ => (pe_ix (ix_listK (K := K)) (pv 6) (pv 10) (fun _ _ => rfl)))) pa_nil)) pa_nil)))))
    (pss_one (ps_ret (pe_call G__law_same hr (by rfl) L.m__law_same L.F__law_same.kp L.b__law_same .nil pass0 (pa_cons (pe_call G_one_case hr (by rfl) L.m_one_case L.F_one_case.kp L.b_one_case .nil pass0 (pa_cons (pv 1) (pa_cons (pv 5) pa_nil))) (pa_cons (pv 7) pa_nil)))))))), ?_⟩
  obtain ⟨p1, p2⟩ := p12 m12
  refine ⟨_, rfl, _, rfl, m, rfl, rfl, by omega, b, _, _, rfl, hB, by omega, by omega, by omega, by omega, by decide, fun w H1 u1 v1 B1 k1 => ?_⟩
  replace B1 := bx1 B1
  have N1 := hN.keepB k1 B1.some hbZ
  have R1 := hR.keepB k1 hB
  have D1 := hD.keepB k1 B1.some (by simp)
  try simp only [L2.start, List.map_cons, List.map_nil, List.length_cons, List.length_nil, List.replicate_succ, List.replicate_zero, List.cons_append, List.nil_append, List.set_cons_succ, List.set_cons_zero, Nat.reduceAdd, Nat.reduceSub, Nat.zero_add]
  refine ⟨_, rfl, _, rfl, _, rfl, by omega, by omega, fun V1 nV => ?_⟩
  rw [Int.toNat_natCast]
  refine lc_range (n := m) (fun i H3 => Same H1 H3 ∧ H3 V1 = some (.lst (((vals1 w m).take i).map V.int))) ⟨same_upd nV, upd_same⟩ ?_ ?_
  · rintro i H3 hi ⟨s3, eV⟩
    refine ⟨rfl, yesT ?_⟩
    refine ⟨_, rfl, _, rfl, _, _, rfl, rfl, _, rfl, _, _, rfl, rfl, _, m - 1 - i, rfl, congrArg V.int (by omega), _, 1, rfl, rfl, ?_⟩
    refine ⟨_, eV, ?_, fun y u e => ?_, ?_⟩
    · rw [List.length_map, List.length_take]
      exact Nat.lt_of_le_of_lt (Nat.min_le_left _ _) (small1000 (by omega))
    · rw [upd_ne (ne_of_none e nV)]
      exact s3 _ _ e
    · unfold vals1
      rw [upd_same, take_rng hi, List.map_append]
      rfl
  rintro H3 ⟨s3, eV⟩
  rw [List.take_of_length_le (by rw [vals1_len]; exact Nat.le_refl _)] at eV
  refine ⟨R, V1, gs, vals1 w m, rfl, R1.same s3, by rw [vals1_len]; exact ok, SqL.of eV, z01_vals _ _, by rw [vals1_len]; omega, fun O H4 nO s4 eO => ?_⟩
  have s34 := s3.trans s4
  have N4 := N1.same s34
  have D4 := D1.same s34
  have B4 := B1.same s34
  obtain ⟨kvs, ed, keys, dg⟩ := D4.keys
  dsimp only [gName]
  try simp only [L2.start, List.map_cons, List.map_nil, List.length_cons, List.length_nil, List.replicate_succ, List.replicate_zero, List.cons_append, List.nil_append, List.set_cons_succ, List.set_cons_zero, Nat.reduceAdd, Nat.reduceSub, Nat.zero_add]
  refine ⟨_, rfl, d, kvs, nm.map (·.1), rfl, .of ed, keys, by rw [List.length_map]; have := hm.1; omega, fun ys p3 hp hs np3 => ?_⟩
  have s5 := same_upd (o := .lst (ys.map V.str)) np3
  have e5 : (upd H4 p3 (.lst (ys.map V.str))) p3 = some (.lst (ys.map V.str)) := upd_same
  have eO5 := s5 _ _ eO
  have N5 := N4.same s5
  have s15 := s34.trans s5
  generalize upd H4 p3 (.lst (ys.map V.str)) = H5 at *
  refine ⟨p3, rfl, ⟨_, SqL.of e5⟩, fun U nU => ?_⟩
  refine lc_it (walk_list (K := K) (a := p3) (xs := ys.map V.str)) (fun j H9 => ∃ us : List Addr, us.length = j ∧ Same H5 H9 ∧ H9 U = some (.lst (us.map V.ref)) ∧ ∀ (i : Nat) (u : Addr) (y : Str), us[i]? = some u → ys[i]? = some y → H9 u = some (.tup [.str y, .int (wf ((lkN nm y).map fun a => (rv 1 (vals1 w m) gs).getD a 0))])) ⟨[], rfl, same_upd nU, upd_same, fun i u y h => by simp at h⟩ (fun j H9 _ ⟨_, _, s9, _⟩ => SqL.of (s9 _ _ e5)) ?_ ?_
  · rintro j v H10 H9 hj ⟨us, lu, s9, eU, hus⟩ ⟨rfl, hz⟩
    replace hz : (ys.map V.str)[j]? = some v := hz
    rw [List.length_map] at hj
    rw [List.getElem?_map, List.getElem?_eq_getElem hj] at hz
    have hy : ys[j]? = some ys[j] := List.getElem?_eq_getElem hj
    cases hz
    generalize ys[j] = y at *
    obtain ⟨l, ev, _, _, el, hmem⟩ := dg y (hp.mem_iff.mp (List.mem_of_getElem? hy))
    dsimp only [gName]
    refine ⟨rfl, yesT ?_⟩
    try simp only [L2.start, List.map_cons, List.map_nil, List.length_cons, List.length_nil, List.replicate_succ, List.replicate_zero, List.cons_append, List.nil_append, List.set_cons_succ, List.set_cons_zero, Nat.reduceAdd, Nat.reduceSub, Nat.zero_add]
    have ev' : DGet H9 d (.str y) (some (.ref l)) := by
      rw [← ev]
      exact DGet.k (k := .inr y) (s9 _ _ (s5 _ _ ed))
    have el9 := s9 _ _ (s5 _ _ el)
    have eO9 := s9 _ _ eO5
    have lw := hm.2 _ hmem
    have lw2 : (lkN nm y).length ≤ 10 := lw.1
    refine ⟨_, rfl, _, rfl, _, rfl, d, .ref l, rfl, ev', l, rfl, ⟨_, SqL.of el9⟩, fun W nW => ?_⟩
    refine lc_it (walk_list (K := K) (a := l) (xs := nts (lkN nm y))) (fun i H6 => Same H9 H6 ∧ H6 W = some (.lst ((((lkN nm y).map fun a => (rv 1 (vals1 w m) gs).getD a 0).take i).map V.int))) ⟨same_upd nW, upd_same⟩ (fun i H6 _ ⟨s6, _⟩ => SqL.of (s6 _ _ el9)) ?_ ?_
    · rintro i v H6 H7 hi ⟨s6, eW⟩ ⟨rfl, hz⟩
      obtain ⟨a, ha, rfl⟩ := nts_at hz
      have la := lw.2 a (List.mem_of_getElem? ha)
      refine ⟨rfl, yesT ?_⟩
      refine ⟨_, rfl, _, rfl, O, _, _, _, rfl, rfl, SqL.of (s6 _ _ eO9), at_getD (by rw [rv_len, vals1_len]; exact la), ?_⟩
      refine ⟨_, eW, ?_, fun y u e => ?_, ?_⟩
      · rw [List.length_map, List.length_take, List.length_map]
        exact Nat.lt_of_le_of_lt (Nat.min_le_right _ _) (small1000 (by omega))
      · rw [upd_ne (ne_of_none e nW)]
        exact s6 _ _ e
      · rw [upd_same, List.take_add_one, List.getElem?_map, ha, List.map_append]
        rfl
    rintro H6 ⟨s6, eW⟩
    rw [nts_len, List.take_of_length_le (by rw [List.length_map]; exact Nat.le_refl _)] at eW
    refine ⟨W, _, rfl, SqL.of eW, (by show 2 ≤ sizeLine; decide), fun u nu => ?_⟩
    have su := same_upd (o := .tup [.str y, .int (wf ((lkN nm y).map fun a => (rv 1 (vals1 w m) gs).getD a 0))]) nu
    have s96 := s6.trans su
    have nuU : u ≠ U := fun z => by
      rw [z, s6 _ _ eU] at nu
      cases nu
    refine ⟨_, s96 _ _ eU, by rw [List.length_map, lu]; exact big_lt (by have := hp.length_eq; rw [List.length_map] at this; have := hm.1; omega), us ++ [u], by rw [List.length_append, lu]; rfl, fun a o e => ?_, by rw [upd_same, List.map_append]; rfl, fun i' u' y' h1 h2 => ?_⟩
    · rw [upd_ne (ne_of_none e nU)]
      exact s96 _ _ (s9 _ _ e)
    · by_cases c : i' < us.length
      · rw [List.getElem?_append_left c] at h1
        have q3 := hus i' u' y' h1 h2
        rw [upd_ne (fun z => by rw [z, eU] at q3; cases q3)]
        exact s96 _ _ q3
      · have i0 : i' = us.length := by
          have := (List.getElem?_eq_some_iff.mp h1).1
          rw [List.length_append, List.length_cons, List.length_nil] at this
          omega
        rw [List.getElem?_append_right (by omega), i0, Nat.sub_self] at h1
        rw [i0, lu, hy] at h2
        cases h1
        cases h2
        rw [upd_ne nuU]
        exact upd_same
  rintro H9 ⟨us, lu, s9, eU, hus⟩
  rw [List.length_map] at lu
  have s19 := s15.trans s9
  dsimp only [gName]
  try simp only [L2.start, List.map_cons, List.map_nil, List.length_cons, List.length_nil, List.replicate_succ, List.replicate_zero, List.cons_append, List.nil_append, List.set_cons_succ, List.set_cons_zero, Nat.reduceAdd, Nat.reduceSub, Nat.zero_add]
  refine ⟨_, rfl, _, rfl, Z, p, m, gs, nm, w, rfl, N5.same s9, by omega, by have := hm.1; omega, ok, fun x hx => ⟨by have := (hm.2 x hx).1; omega, (hm.2 x hx).2⟩, fun zs t G _ hp2 hs2 sG ⟨ts, lt, eT, hts⟩ => ?_⟩
  obtain rfl : zs = ys := sortS_one hp2 hs2 hp hs
  have nd := (hD.2).elim fun _ h => h.2.2.1
  refine ⟨_, rfl, _, _, .list (zs.map fun y => .tuple [.str y, .int (wf ((lkN nm y).map fun a => (rv 1 (vals1 w m) gs).getD a 0))]), 2, rfl, rfl, lv_one (fun y => wf ((lkN nm y).map fun a => (rv 1 (vals1 w m) gs).getD a 0)) zs (by have := hp.length_eq; rw [List.length_map] at this; have := hm.1; omega), .lst (SqL.of eT) (dpa_one (fun y => wf ((lkN nm y).map fun a => (rv 1 (vals1 w m) gs).getD a 0)) ts zs lt fun i u y h1 h2 => ?_), .lst (SqL.of (sG _ _ eU)) (dpa_one (fun y => wf ((lkN nm y).map fun a => (rv 1 (vals1 w m) gs).getD a 0)) us zs lu fun i u y h1 h2 => sG _ _ (hus i u y h1 h2)), fun G2 sG2 => q _ (k1.trans (Keep.ofSame ((s19.trans sG).trans sG2))) (BoxAt.mono ((((B1.same s19).same sG).same sG2)) (by omega))⟩
  obtain ⟨ws, hws, e⟩ := hts i u y h1 h2
  rw [lkN_mem nd hws]
  exact e
end
section
variable {P : Program} {w : World} {K : PySem.W.Frag} {mg : Str → Option Value} {base : Heap}
variable {C : Addr} {za : Nat → Addr} {zl : Nat → FuncData}
/-! ### what a run tells is as wide as its cases -/
theorem bt_rng : ∀ (n : Nat) {x y : Int}, 0 ≤ x → x < 2 ^ n → 0 ≤ y → y < 2 ^ n → (0 ≤ Builtin.bitAnd x y ∧ Builtin.bitAnd x y < 2 ^ n) ∧ (0 ≤ Builtin.bitOr x y ∧ Builtin.bitOr x y < 2 ^ n) ∧ (0 ≤ Builtin.bitXor x y ∧ Builtin.bitXor x y < 2 ^ n)
  | 0, x, y, a, b, c, d => by
    rw [Int.pow_zero] at b d
    obtain rfl : x = 0 := by omega
    obtain rfl : y = 0 := by omega
    decide
  | n + 1, x, y, a, b, c, d => by
    have e : (2 : Int) ^ (n + 1) = 2 * 2 ^ n := by
      rw [Int.pow_succ, Int.mul_comm]
    rw [e] at b d
    obtain ⟨h1, h2, h3⟩ := bt_rng n (x := x / 2) (y := y / 2) (by omega) (by omega) (by omega) (by omega)
    rw [e, PySem.W.kbt_halves x y, or_halves x y, xor_halves x y]
    generalize Builtin.bitAnd (x / 2) (y / 2) = u at *
    generalize Builtin.bitOr (x / 2) (y / 2) = v at *
    generalize Builtin.bitXor (x / 2) (y / 2) = w at *
    generalize (2 : Int) ^ n = P at *
    refine ⟨?_, ?_, ?_⟩ <;> split <;> constructor <;> omega
def Rng (n : Nat) (vals : List Int) : Prop := ∀ v ∈ vals, 0 ≤ v ∧ v < 2 ^ n
theorem Rng.getD {n : Nat} {vals : List Int} (h : Rng n vals) (a : Nat) : 0 ≤ vals.getD a 0 ∧ vals.getD a 0 < 2 ^ n := by
  simp only [List.getD]
  cases e : vals[a]? with
  | none => exact ⟨Int.le_refl _, GM.pow_pos' n⟩
  | some v => exact h v (List.mem_of_getElem? e)
theorem gv_rng {n : Nat} {vals : List Int} (h : Rng n vals) (g : Gt) : 0 ≤ gv (2 ^ n - 1) vals g ∧ gv (2 ^ n - 1) vals g < 2 ^ n := by
  have hp := GM.pow_pos' n
  cases g with
  | fi b =>
    show 0 ≤ (if b = 1 then (2 : Int) ^ n - 1 else 0) ∧ (if b = 1 then (2 : Int) ^ n - 1 else 0) < 2 ^ n
    split <;> omega
  | w k l =>
    show 0 ≤ gvw (2 ^ n - 1) _ _ k ∧ gvw (2 ^ n - 1) _ _ k < 2 ^ n
    have h1 := h.getD (l.getD 0 0)
    have h2 := h.getD (l.getD 1 0)
    have r1 := bt_rng n h1.1 h1.2 (y := 2 ^ n - 1) (by omega) (by omega)
    have r2 := bt_rng n h1.1 h1.2 h2.1 h2.2
    unfold gvw
    split
    · exact r1.2.2
    split
    · exact r2.1
    split
    · exact r2.2.1
    · exact r2.2.2
theorem rv_rng {n : Nat} {vals : List Int} (h : Rng n vals) (gs : List Gt) : Rng n (rv (2 ^ n - 1) vals gs) := by
  induction gs generalizing vals with
  | nil => exact h
  | cons g gs ih =>
    unfold rv at ih ⊢
    rw [List.foldl_cons]
    refine ih fun v hv => ?_
    rcases List.mem_append.mp hv with z | z
    · exact h v z
    · rw [List.mem_singleton.mp z]
      exact gv_rng h g
theorem rng_mod (n : Nat) (us : List Int) : Rng n (us.map (· % 2 ^ n)) := fun v hv => by
  obtain ⟨u, _, rfl⟩ := List.mem_map.mp hv
  have := GM.pow_pos' n
  exact ⟨Int.emod_nonneg _ (by omega), Int.emod_lt_of_pos _ this⟩
def spRanR (C : Addr) : Sp := fun vs H Q _ => ∃ (Z : List Addr) (p : NetP) (b R d : Addr) (c : Int) (m : Nat) (gs : List Gt) (nm : List (Str × List Nat)), vs = [.ref b, .ref p.x, .ref R, .ref d, .int (m : Int)] ∧ NetAt C Z H p m gs nm ∧ b ∈ Z ∧ BoxAt c H b ∧ c ≤ 800000000 ∧ RowsAt46 H R gs ∧ GsOk m gs ∧ DlAt [b] H d nm ∧ NmOk (m + gs.length) nm ∧ (∀ x ∈ nm, PyData.strOk x.1 = true) ∧ 1 ≤ nm.length ∧ 1 ≤ m ∧ m ≤ 12 ∧ gs.length ≤ 100 ∧
  ∀ H', Keep b H H' → BoxAt (c + 10000) H' b → Q (.bl true) H'
theorem rs_bit {n k : Nat} (hk : k < n) (us : List Int) (gs : List Gt) (a : Nat) : tb ((rv (2 ^ n - 1) (us.map (· % 2 ^ n)) gs).getD a 0) k = (rv 1 (us.map (tb · k)) gs).getD a 0 := by
  rw [← getD_map, rv_bit hk, List.map_map]
  have e : ((tb · k) ∘ (· % 2 ^ n) : Int → Int) = (tb · k) := funext fun x => tb_mod x hk
  rw [e]
theorem dpa_two {H : Hp} (f : Str → List Int) : ∀ (ts : List Addr) (ys : List Str), ts.length = ys.length → (∀ (i : Nat) (t : Addr) (y : Str), ts[i]? = some t → ys[i]? = some y → ∃ l, H t = some (.tup [.str y, .ref l]) ∧ H l = some (.lst ((f y).map V.int))) → DpAll K H (ts.map V.ref) (ys.map fun y => .tuple [.str y, .list ((f y).map PyData.int)])
  | [], [], _, _ => .nil
  | [], _ :: _, h, _ => by cases h
  | _ :: _, [], h, _ => by cases h
  | t :: ts, g :: gs, h, e => by
    obtain ⟨l, e1, e2⟩ := e 0 t g rfl rfl
    exact .cons (.tup (.inl (.inl e1)) (.cons (.str _) (.cons (.lst (SqL.of e2) (dp_ints _)) .nil))) (dpa_two f ts gs (Nat.succ.inj h) fun i a b h1 h2 => e (i + 1) a b h1 h2)
theorem lv_two45 (f : Str → List Int) (ys : List Str) (h : ys.length ≤ 200) (hf : ∀ y ∈ ys, (f y).length ≤ 200) : Lv 3 (.list (ys.map fun y => .tuple [.str y, .list ((f y).map PyData.int)])) := ⟨by rw [List.length_map]; omega, fun d hd => by
  obtain ⟨y, hy, rfl⟩ := List.mem_map.mp hd
  refine ⟨by show 2 ≤ 1000000; decide, fun d hd => ?_⟩
  simp only [List.mem_cons, List.not_mem_nil, or_false] at hd
  rcases hd with e | e <;> rw [e]
  · exact True.intro
  · refine ⟨by rw [List.length_map]; have := hf y hy; omega, fun d hd => ?_⟩
    obtain ⟨x, _, rfl⟩ := List.mem_map.mp hd
    exact True.intro⟩
theorem cutI_last (ws : List Int) (v : V) : cutV (ws.map V.int ++ [v]) none (some (-1)) = ws.map V.int := by
  have e : HT.sIx (ws.map V.int ++ [v]).length (ws.map V.int ++ [v]).length (some (-1)) = (ws.map V.int).length := by
    rw [List.length_append, List.length_singleton]
    unfold HT.sIx
    simp
    try omega
  have e0 : HT.sIx (ws.map V.int ++ [v]).length 0 none = 0 := rfl
  unfold cutV
  rw [e, e0, List.drop_zero, Nat.sub_zero, List.take_left']
  rfl
theorem dpa_ls {H : Hp} (f : Str → List Int) : ∀ (ls : List Addr) (ys : List Str), ls.length = ys.length → (∀ (i : Nat) (l : Addr) (y : Str), ls[i]? = some l → ys[i]? = some y → H l = some (.lst ((f y).map V.int))) → DpAll K H (ls.map V.ref) (ys.map fun y => .list ((f y).map PyData.int))
  | [], [], _, _ => .nil
  | [], _ :: _, h, _ => by cases h
  | _ :: _, [], h, _ => by cases h
  | l :: ls, g :: gs, h, e => .cons (.lst (SqL.of (e 0 l g rfl rfl)) (dp_ints _)) (dpa_ls f ls gs (Nat.succ.inj h) fun i a b h1 h2 => e (i + 1) a b h1 h2)
theorem sd_ls (f : Str → List Int) (ys : List Str) : Sd 2 (.list (ys.map fun y => .list ((f y).map PyData.int))) := .lst fun d hd => by
  obtain ⟨y, _, rfl⟩ := List.mem_map.mp hd
  exact .lst fun d hd => by
    obtain ⟨x, _, rfl⟩ := List.mem_map.mp hd
    exact .int _
theorem rs_bit0 {n : Nat} (hn : 0 < n) (us : List Int) (gs : List Gt) (a : Nat) : (rv (2 ^ n - 1) (us.map (· % 2 ^ n)) gs).getD a 0 % 2 = (rv 1 (us.map (· % 2)) gs).getD a 0 := by
  have := rs_bit hn us gs a
  rw [tb_zero] at this
  rw [this]
  have e : (tb · 0 : Int → Int) = (· % 2) := funext fun x => tb_zero x
  rw [e]
theorem ixN_nat {n k : Nat} (h : k < n) : ixN n (k : Int) = some k := by
  unfold ixN
  rw [if_pos (by omega)]
  simp
  omega
theorem val_nat {v : Int} (h : 0 ≤ v ∧ v < 2 ^ 4200) : v.natAbs < 2 ^ 5000 := by
  have h1 : v < ((2 ^ 4200 : Nat) : Int) := by
    rw [Int.natCast_pow]
    exact h.2
  have h2 : v.natAbs < 2 ^ 4200 := by omega
  exact Nat.lt_trans h2 (Nat.pow_lt_pow_right (by decide) (by decide))
theorem ok__law_ran_right (B : Bl mg) (L : LL K mg C za zl base) : FnOkG P w K mg base CX0 6 (za 14) (zl 14) ["_law_box_here", "_law_net", "_law_rows", "_law_lists", "_law_inputs"] (spRanR C) := by
  have G__law_take : FnOk P w K mg base CX0 5 (za 6) (zl 6) ["_law_box_here", "_law_size"] (spTake 1) := (ok_take L.F__law_take L.b__law_take L.m__law_take B 1).mono (by decide)
  have G__law_values : FnOk P w K mg base CX0 5 (za 13) (zl 13) ["_law_box_here", "_law_inputs", "_law_cases"] spVals := (ok__law_values B L).mono (by decide)
  have G__law_bits : FnOk P w K mg base CX0 5 (za 11) (zl 11) ["_law_rows", "_law_bits_here"] (spBits K) := (ok__law_bits B L).mono (by decide)
  have G_ran : FnOk P w K mg base CX0 5 (za 2) (zl 2) ["net", "values", "many"] (spRan K C) := (ok_ran B L).mono (by decide)
  have G__law_same : FnOk P w K mg base CX0 5 (za 7) (zl 7) ["_law_found", "_law_due"] (spSame K 4) := (ok_same L.F__law_same L.b__law_same L.m__law_same B 4).mono (by decide)
  refine L.F__law_ran_right.okG sc__law_ran_right (fun vs H Q E h => ?_) (fun cdv A outer s H vs Q E gd hr h => ?_)
  · obtain ⟨Z, p, b, R, d, c, m, gs, nm, rfl, _⟩ := h
    rfl
  obtain ⟨Z, p, b, R, d, c, m, gs, nm, rfl, hN, hbZ, hB, hc, hR, ok, hD, hm, hT, hm1, m1, m12, hg, q⟩ := h
  refine ⟨_, (pss_cons (ps_set (i := 5) sc__law_ran_right.nd rfl (.inr rfl) (pe_ix ix_list (pe_lst (pa_cons pe_int (pa_cons (pe_op op_add pe_int (pe_call G__law_take hr (by rfl) L.m__law_take L.F__law_take.kp L.b__law_take .nil pass0 (pa_cons (pv 0) (pa_cons pe_int pa_nil)))) (pa_cons (pe_ix ix_list (pe_lst (pa_cons pe_int (pa_cons pe_int pa_nil))) (pe_callTy call_int1 (by rfl) B.int PyProof.Rows.boot_int (pa_cons (pe_cmpR op_eq (pe_call G__law_take hr (by rfl) L.m__law_take L.F__law_take.kp L.b__law_take .nil pass0 (pa_cons (pv 0) (pa_cons pe_int pa_nil))) pe_int (nomark _)) pa_nil)) (fun _ _ => rfl)) pa_nil)))) (pe_call G__law_take hr (by rfl) L.m__law_take L.F__law_take.kp L.b__law_take .nil pass0 (pa_cons (pv 0) (pa_cons pe_int pa_nil))) (fun _ _ => rfl)))
    (pss_cons (ps_set (i := 6) sc__law_ran_right.nd rfl (.inl rfl) (pe_call G__law_values hr (by rfl) L.m__law_values L.F__law_values.kp L.b__law_values .nil pass0 (pa_cons (pv 0) (pa_cons (pv 4) (pa_cons (pv 5) pa_nil)))))
    (pss_cons (ps_par (by rfl) sc__law_ran_right.nd (i := 7) (j := 8) rfl rfl (by decide) rfl rfl (pa_cons (pe_ix ix_list (pe_lst (pa_cons (pv 6) (pa_cons (pe_callTy call_tuple_of (by rfl) B.tuple PyProof.Rows.boot_tuple (pa_cons (pv 6) pa_nil)) pa_nil))) (pe_call G__law_take hr (by rfl) L.m__law_take L.F__law_take.kp L.b__law_take .nil pass0 (pa_cons (pv 0) (pa_cons pe_int pa_nil))) (fun _ _ => rfl)) (pa_cons (pe_callB (call_reprN L.ND gd (roomS hr)) (by rfl) L.z_repr PyProof.Rows.boot_repr (pa_cons (pv 6) pa_nil)) pa_nil)) (by rfl))
    (pss_cons (ps_set (i := 9) sc__law_ran_right.nd rfl (.inl rfl) (pe_ifExp (PW.pt (pw_and (pt_cmpR op_eq (pv 5) pe_int (nomark _)) (pw_and1 (pt_cmpR op_eq (pe_call G__law_take hr (by rfl) L.m__law_take L.F__law_take.kp L.b__law_take .nil pass0 (pa_cons (pv 0) (pa_cons pe_int pa_nil))) pe_int (nomark _))))) (pe_call G_ran hr (by rfl) L.m_ran L.F_ran.kp (L.kb_ran).choose_spec.2 (L.kb_ran).choose_spec.1 pass0 (pa_cons (pv 1) (pa_cons (pv 7) pa_nil))) (pe_callN G_ran hr (by rfl) L.m_ran L.F_ran.kp (L.kb_ran_many).choose_spec pass0 (pa_cons (pv 1) (pa_cons (pv 7) pa_nil)) (pk_cons (pv 5) pk_nil))))
    (pss_cons (ps_if (PW.pt (pw_or (pt_cmpR op_ne (pe_callB (call_reprN L.ND gd (roomS hr)) (by rfl) L.z_repr PyProof.Rows.boot_repr (pa_cons (pe_callTy call_list_of (by rfl) B.list PyProof.Rows.boot_list (pa_cons (pv 7) pa_nil)) pa_nil)) (pv 8) (nomark _)) (pw_or1 (pt_cmpR (op_neD hr.units) (pe_lc (own := [("_law_name", 10), ("_law_numbers", 11)]) (g := gTup K 2 (gCons (gName 10) (gCons (gName 11) gNil))) (by rfl) sc__law_ran_right.nd (pi_list (pv 9)) (blkOk_by (own := [("_law_name", 10), ("_law_numbers", 11)]) (N := ["_law_box_here", "_law_net", "_law_rows", "_law_lists", "_law_inputs", "_law_cases", "_law_values_here", "_law_handed", "_law_kept", "_law_told", "_law_name", "_law_numbers", "_law_case", "_law_own", "_law_due", "_law_again", "_law_at", "_law_found", "_law_one", "_law_turn", "_law_value", "_law_wire"]) (sc := defScope s__law_ran_right) (by decide +kernel)) (fun _ _ _ _ _ => pg_tup rfl (pgs_cons (pg_name (i := 10) sc__law_ran_right.nd rfl (Or.inl rfl) (.inr rfl)) (pgs_cons (pg_name (i := 11) sc__law_ran_right.nd rfl (Or.inl rfl) (.inr rfl)) pgs_nil))) (fun _ _ _ _ _ => pts_nil) (fun _ _ _ _ _ => (pv 10))) (pe_callB (call_sortedD rfl) (by rfl) L.z_sorted boot_sorted (pa_cons (pv 3) pa_nil)) (nomark _))))) (pss_one (ps_ret pe_bl)) pss_nil)
    (pss_cons (ps_for PassesOwn.never rfl (pi_list (pv 9)) (pg_tup (by rfl) (pgs_cons (pg_name (i := 10) sc__law_ran_right.nd rfl (.inl rfl)) (pgs_cons (pg_name (i := 11) sc__law_ran_right.nd rfl (.inl rfl)) pgs_nil))) (pss_one (ps_if (PW.pt (pw_or (pt_not (pt_val (pe_callB call_isi (by rfl) B.isinstance boot_isinstance (pa_cons (pv 11) (pa_cons (pe_bltn (v := .ty "list") (by rfl) B.list PyProof.Rows.boot_list rfl) pa_nil))))) (pw_or1 (pt_not (pt_val (pe_callB (cr_all rfl) (by rfl) B.all boot_all (pa_cons (pe_lc (own := [("_law_one", 18)]) (by rfl) sc__law_ran_right.nd (pi_list (pv 11)) (blkOk_by (own := [("_law_one", 18)]) (N := ["_law_box_here", "_law_net", "_law_rows", "_law_lists", "_law_inputs", "_law_cases", "_law_values_here", "_law_handed", "_law_kept", "_law_told", "_law_name", "_law_numbers", "_law_case", "_law_own", "_law_due", "_law_again", "_law_at", "_law_found", "_law_one", "_law_turn", "_law_value", "_law_wire"]) (sc := defScope s__law_ran_right) (by decide +kernel)) (fun _ _ _ _ _ => pg_name (i := 18) sc__law_ran_right.nd rfl (Or.inl rfl)) (fun _ _ _ _ _ => pts_nil) (fun _ _ _ _ _ => (pe_chain op_le op_lt pe_int (pv 18) (pe_op op_oneShl pe_int (pv 5))))) pa_nil))))))) (pss_one (ps_ret pe_bl)) pss_nil)))
    (pss_cons (ps_for PassesOwn.never rfl (pi_list (pe_op op_cat (pe_lst (pa_cons pe_int (pa_cons (pe_op op_sub (pv 5) pe_int) pa_nil))) (pe_lc (own := [("_law_turn", 19)]) (by rfl) sc__law_ran_right.nd (pi_range1 (by rfl) B.range (pa_cons pe_int pa_nil)) (blkOk_by (own := [("_law_turn", 19)]) (N := ["_law_box_here", "_law_net", "_law_rows", "_law_lists", "_law_inputs", "_law_cases", "_law_values_here", "_law_handed", "_law_kept", "_law_told", "_law_name", "_law_numbers", "_law_case", "_law_own", "_law_due", "_law_again", "_law_at", "_law_found", "_law_one", "_law_turn", "_law_value", "_law_wire"]) (sc := defScope s__law_ran_right) (by decide +kernel)) (fun _ _ _ _ _ => pg_name (i := 19) sc__law_ran_right.nd rfl (Or.inl rfl)) (fun _ _ _ _ _ => pts_nil) (fun _ _ _ _ _ => (pe_call G__law_take hr (by rfl) L.m__law_take L.F__law_take.kp L.b__law_take .nil pass0 (pa_cons (pv 0) (pa_cons (pv 5) pa_nil))))))) (pg_name (i := 12) sc__law_ran_right.nd rfl (.inr rfl)) (pss_cons (ps_set (i := 13) sc__law_ran_right.nd rfl (.inr rfl) (pe_call G__law_bits hr (by rfl) L.m__law_bits L.F__law_bits.kp L.b__law_bits .nil pass0 (pa_cons (pv 2) (pa_cons (pe_lc (own := [("_law_value", 20)]) (by rfl) sc__law_ran_right.nd (pi_list (pv 6)) (blkOk_by (own := [("_law_value", 20)]) (N := ["_law_box_here", "_law_net", "_law_rows", "_law_lists", "_law_inputs", "_law_cases", "_law_values_here", "_law_handed", "_law_kept", "_law_told", "_law_name", "_law_numbers", "_law_case", "_law_own", "_law_due", "_law_again", "_law_at", "_law_found", "_law_one", "_law_turn", "_law_value", "_law_wire"]) (sc := defScope s__law_ran_right) (by decide +kernel)) (fun _ _ _ _ _ => pg_name (i := 20) sc__law_ran_right.nd rfl (Or.inl rfl)) (fun _ _ _ _ _ => pts_nil) (fun _ _ _ _ _ => (pe_op op_andM (pe_op op_shrN (pv 20) (pv 12)) pe_int))) pa_nil))))
    (pss_cons (ps_setLc (i := 14) (own := [("_law_name", 10)]) (by rfl) sc__law_ran_right.nd rfl rfl (sw_true rfl rfl rfl (by decide +kernel)) (pi_list (pe_callB (call_sortedD rfl) (by rfl) L.z_sorted boot_sorted (pa_cons (pv 3) pa_nil))) (blkOk_by (own := [("_law_name", 10)]) (N := ["_law_box_here", "_law_net", "_law_rows", "_law_lists", "_law_inputs", "_law_cases", "_law_values_here", "_law_handed", "_law_kept", "_law_told", "_law_name", "_law_numbers", "_law_case", "_law_own", "_law_due", "_law_again", "_law_at", "_law_found", "_law_one", "_law_turn", "_law_value", "_law_wire"]) (sc := defScope s__law_ran_right) (by decide +kernel)) (fun _ _ _ _ _ => pg_name (i := 10) sc__law_ran_right.nd rfl (Or.inl rfl)) (fun _ _ _ _ _ => pts_nil) (fun _ _ _ _ _ => (pe_tup (pa_cons (pv 10) (pa_cons (pe_lc (own := [("_law_wire", 21)]) (by rfl) sc__law_ran_right.nd (pi_listK (K := K) (pe_dget (units1 hr) (pv 3) (pv 10) (fun _ _ => rfl))) (blkOk_by (own := [("_law_wire", 21)]) (N := ["_law_box_here", "_law_net", "_law_rows", "_law_lists", "_law_inputs", "_law_cases", "_law_values_here", "_law_handed", "_law_kept", "_law_told", "_law_name", "_law_numbers", "_law_case", "_law_own", "_law_due", "_law_again", "_law_at", "_law_found", "_law_one", "_law_turn", "_law_value", "_law_wire"]) (sc := ({ kind := ScopeKind.function, names := [(".0", NameKind.local), ("_law_name", NameKind.local), ("_law_lists", NameKind.cell), ("_law_own", NameKind.cell)], isGenerator := false, isCoroutine := false } : Scope)) (by decide +kernel)) (fun _ _ _ _ _ => pg_name (i := 21) sc__law_ran_right.nd rfl (Or.inl rfl)) (fun _ _ _ _ _ => pts_nil) (fun _ _ _ _ _ => (pe_ix (ix_listK (K := K)) (pv 13) (pv 21) (fun _ _ => rfl)))) pa_nil)))))
    (pss_one (ps_if (pt_not (pt_val (pe_call G__law_same hr (by rfl) L.m__law_same L.F__law_same.kp L.b__law_same .nil pass0 (pa_cons (pe_lc (own := [("_law_name", 10), ("_law_numbers", 11)]) (g := gTup K 2 (gCons (gName 10) (gCons (gName 11) gNil))) (by rfl) sc__law_ran_right.nd (pi_list (pv 9)) (blkOk_by (own := [("_law_name", 10), ("_law_numbers", 11)]) (N := ["_law_box_here", "_law_net", "_law_rows", "_law_lists", "_law_inputs", "_law_cases", "_law_values_here", "_law_handed", "_law_kept", "_law_told", "_law_name", "_law_numbers", "_law_case", "_law_own", "_law_due", "_law_again", "_law_at", "_law_found", "_law_one", "_law_turn", "_law_value", "_law_wire"]) (sc := defScope s__law_ran_right) (by decide +kernel)) (fun _ _ _ _ _ => pg_tup rfl (pgs_cons (pg_name (i := 10) sc__law_ran_right.nd rfl (Or.inl rfl) (.inr rfl)) (pgs_cons (pg_name (i := 11) sc__law_ran_right.nd rfl (Or.inl rfl) (.inr rfl)) pgs_nil))) (fun _ _ _ _ _ => pts_nil) (fun _ _ _ _ _ => (pe_tup (pa_cons (pv 10) (pa_cons (pe_lc (own := [("_law_one", 18)]) (by rfl) sc__law_ran_right.nd (pi_listK (K := K) (pv 11)) (blkOk_by (own := [("_law_one", 18)]) (N := ["_law_box_here", "_law_net", "_law_rows", "_law_lists", "_law_inputs", "_law_cases", "_law_values_here", "_law_handed", "_law_kept", "_law_told", "_law_name", "_law_numbers", "_law_case", "_law_own", "_law_due", "_law_again", "_law_at", "_law_found", "_law_one", "_law_turn", "_law_value", "_law_wire"]) (sc := ({ kind := ScopeKind.function, names := [(".0", NameKind.local), ("_law_name", NameKind.local), ("_law_numbers", NameKind.local), ("_law_case", NameKind.cell)], isGenerator := false, isCoroutine := false } : Scope)) (by decide +kernel)) (fun _ _ _ _ _ => pg_name (i := 18) sc__law_ran_right.nd rfl (Or.inl rfl)) (fun _ _ _ _ _ => pts_nil) (fun _ _ _ _ _ => (pe_op op_andM (pe_op op_shrN (pv 18) (pv 12)) pe_int))) pa_nil))))) (pa_cons (pv 14) pa_nil))))) (pss_one (ps_ret pe_bl)) pss_nil)))))
    (pss_cons (ps_set (i := 15) sc__law_ran_right.nd rfl (.inl rfl) (pe_callN G_ran hr (by rfl) L.m_ran L.F_ran.kp (L.kb_ran_many).choose_spec pass0 (pa_cons (pv 1) (pa_cons (pv 7) pa_nil)) (pk_cons (pv 5) pk_nil)))
    (pss_cons (ps_expr (pe_bm PySem.F.plainAttrs_list PySem.F.slot_list_append PySem.F.type_list_append mt_append (pe_ix ix_tup (pe_ix ix_list (pv 9) pe_int (fun _ _ => rfl)) pe_int (fun _ _ => rfl)) (pa_cons pe_int pa_nil)))
    (pss_cons (ps_expr (pe_bm0 PySem.F.plainAttrs_list PySem.F.slot_list_pop PySem.F.type_list_pop mt_pop (pv 15)))
    (pss_cons (ps_if (pt_not (pt_val (pe_call G__law_same hr (by rfl) L.m__law_same L.F__law_same.kp L.b__law_same .nil pass0 (pa_cons (pe_ix ix_tup (pe_ix ix_list (pe_callN G_ran hr (by rfl) L.m_ran L.F_ran.kp (L.kb_ran_many).choose_spec pass0 (pa_cons (pv 1) (pa_cons (pv 7) pa_nil)) (pk_cons (pv 5) pk_nil)) pe_int (fun _ _ => rfl)) pe_int (fun _ _ => rfl)) (pa_cons (pe_slice sl_list (pe_ix ix_tup (pe_ix ix_list (pv 9) pe_int (fun _ _ => rfl)) pe_int (fun _ _ => rfl)) po_none (po_some (pe_un un_neg pe_int))) pa_nil))))) (pss_one (ps_ret pe_bl)) pss_nil)
    (pss_cons (ps_expr (pe_callN G_ran hr (by rfl) L.m_ran L.F_ran.kp (L.kb_ran_many).choose_spec pass0 (pa_cons (pv 1) (pa_cons (pv 6) pa_nil)) (pk_cons (pv 5) pk_nil)))
    (pss_cons (ps_set (i := 16) sc__law_ran_right.nd rfl (.inl rfl) (pe_call G__law_take hr (by rfl) L.m__law_take L.F__law_take.kp L.b__law_take .nil pass0 (pa_cons (pv 0) (pa_cons (pv 4) pa_nil))))
    (pss_cons (ps_asg (pe_op op_xor (pe_ix ix_list (pv 6) (pv 16) (fun _ _ => rfl)) (pe_op op_sub (pe_op op_oneShl pe_int (pv 5)) pe_int)) (pg_sub (pv 6) (pv 16) set_list))
    (pss_cons (ps_set (i := 13) sc__law_ran_right.nd rfl (.inr rfl) (pe_call G__law_bits hr (by rfl) L.m__law_bits L.F__law_bits.kp L.b__law_bits .nil pass0 (pa_cons (pv 2) (pa_cons (pe_lc (own := [("_law_value", 20)]) (by rfl) sc__law_ran_right.nd (pi_list (pv 6)) (blkOk_by (own := [("_law_value", 20)]) (N := ["_law_box_here", "_law_net", "_law_rows", "_law_lists", "_law_inputs", "_law_cases", "_law_values_here", "_law_handed", "_law_kept", "_law_told", "_law_name", "_law_numbers", "_law_case", "_law_own", "_law_due", "_law_again", "_law_at", "_law_found", "_law_one", "_law_turn", "_law_value", "_law_wire"]) (sc := defScope s__law_ran_right) (by decide +kernel)) (fun _ _ _ _ _ => pg_name (i := 20) sc__law_ran_right.nd rfl (Or.inl rfl)) (fun _ _ _ _ _ => pts_nil) (fun _ _ _ _ _ => (pe_op op_andM (pv 20) pe_int))) pa_nil))))
    (pss_cons (ps_setLc (i := 17) (own := [("_law_name", 10), ("_law_numbers", 11)]) (g := gTup K 2 (gCons (gName 10) (gCons (gName 11) gNil))) (by rfl) sc__law_ran_right.nd rfl rfl (sw_true rfl rfl rfl (by decide +kernel)) (pi_list (pe_callN G_ran hr (by rfl) L.m_ran L.F_ran.kp (L.kb_ran_many).choose_spec pass0 (pa_cons (pv 1) (pa_cons (pv 6) pa_nil)) (pk_cons (pv 5) pk_nil))) (blkOk_by (own := [("_law_name", 10), ("_law_numbers", 11)]) (N := ["_law_box_here", "_law_net", "_law_rows", "_law_lists", "_law_inputs", "_law_cases", "_law_values_here", "_law_handed", "_law_kept", "_law_told", "_law_name", "_law_numbers", "_law_case", "_law_own", "_law_due", "_law_again", "_law_at", "_law_found", "_law_one", "_law_turn", "_law_value", "_law_wire"]) (sc := defScope s__law_ran_right) (by decide +kernel)) (fun _ _ _ _ _ => pg_tup rfl (pgs_cons (pg_name (i := 10) sc__law_ran_right.nd rfl (Or.inl rfl) (.inr rfl)) (pgs_cons (pg_name (i := 11) sc__law_ran_right.nd rfl (Or.inl rfl) (.inr rfl)) pgs_nil))) (fun _ _ _ _ _ => pts_nil) (fun _ _ _ _ _ => (pe_lc (own := [("_law_one", 18)]) (by rfl) sc__law_ran_right.nd (pi_listK (K := K) (pv 11)) (blkOk_by (own := [("_law_one", 18)]) (N := ["_law_box_here", "_law_net", "_law_rows", "_law_lists", "_law_inputs", "_law_cases", "_law_values_here", "_law_handed", "_law_kept", "_law_told", "_law_name", "_law_numbers", "_law_case", "_law_own", "_law_due", "_law_again", "_law_at", "_law_found", "_law_one", "_law_turn", "_law_value", "_law_wire"]) (sc := ({ kind := ScopeKind.function, names := [(".0", NameKind.local), ("_law_name", NameKind.local), ("_law_numbers", NameKind.local)], isGenerator := false, isCoroutine := false } : Scope)) (by decide +kernel)) (fun _ _ _ _ _ => pg_name (i := 18) sc__law_ran_right.nd rfl (Or.inl rfl)) (fun _ _ _ _ _ => pts_nil) (fun _ _ _ _ _ => (pe_op op_andM (pv 18) pe_int)))))
    (pss_one (ps_ret (pe_cmpR (op_eqD hr.units) (pv 17) (pe_lc (own := [("_law_name", 10)]) (by rfl) sc__law_ran_right.nd (pi_list (pe_callB (call_sortedD rfl) (by rfl) L.z_sorted boot_sorted (pa_cons (pv 3) pa_nil))) (blkOk_by (own := [("_law_name", 10)]) (N := ["_law_box_here", "_law_net", "_law_rows", "_law_lists", "_law_inputs", "_law_cases", "_law_values_here", "_law_handed", "_law_kept", "_law_told", "_law_name", "_law_numbers", "_law_case", "_law_own", "_law_due", "_law_again", "_law_at", "_law_found", "_law_one", "_law_turn", "_law_value", "_law_wire"]) (sc := defScope s__law_ran_right) (by decide +kernel)) (fun _ _ _ _ _ => pg_name (i := 10) sc__law_ran_right.nd rfl (Or.inl rfl)) (fun _ _ _ _ _ => pts_nil) (fun _ _ _ _ _ => (pe_lc (own := [("_law_wire", 21)]) (by rfl) sc__law_ran_right.nd (pi_listK (K := K) (pe_dget (units1 hr) (pv 3) (pv 10) (fun _ _ => rfl))) (blkOk_by (own := [("_law_wire", 21)]) (N := ["_law_box_here", "_law_net", "_law_rows", "_law_lists", "_law_inputs", "_law_cases", "_law_values_here", "_law_handed", "_law_kept", "_law_told", "_law_name", "_law_numbers", "_law_case", "_law_own", "_law_due", "_law_again", "_law_at", "_law_found", "_law_one", "_law_turn", "_law_value", "_law_wire"]) (sc := ({ kind := ScopeKind.function, names := [(".0", NameKind.local), ("_law_name", NameKind.local), ("_law_lists", NameKind.cell), ("_law_own", NameKind.cell)], isGenerator := false, isCoroutine := false } : Scope)) (by decide +kernel)) (fun _ _ _ _ _ => pg_name (i := 21) sc__law_ran_right.nd rfl (Or.inl rfl)) (fun _ _ _ _ _ => pts_nil) (fun _ _ _ _ _ => (pe_ix (ix_listK (K := K)) (pv 13) (pv 21) (fun _ _ => rfl)))))) (nomark _)))))))))))))))))))), ?_⟩
  try simp only [L2.start, List.map_cons, List.map_nil, List.length_cons, List.length_nil, List.replicate_succ, List.replicate_zero, List.cons_append, List.nil_append, List.set_cons_succ, List.set_cons_zero, Nat.reduceAdd, Nat.reduceSub, Nat.zero_add]
  refine ⟨_, rfl, b, _, _, rfl, hB, by decide, by decide, by decide, by omega, by decide, fun r1 H1 u1 v1 B1 k1 => ?_⟩
  replace B1 := bx1 B1
  refine ⟨_, _, rfl, rfl, ?_⟩
  refine ⟨by decide, fun p2 np2 => ?_⟩
  have sp2 := same_upd (o := .lst [.int 64, .int 4096]) np2
  have ep2 : (upd H1 p2 (.lst [.int 64, .int 4096])) p2 = some (.lst [.int 64, .int 4096]) := upd_same
  have np2b : p2 ≠ b := (B1.ne np2).symm
  replace B1 := B1.same sp2
  replace k1 := k1.trans (Keep.ofSame sp2)
  generalize upd H1 p2 (.lst [.int 64, .int 4096]) = H1' at *
  refine ⟨_, rfl, b, _, _, rfl, B1, by decide, by decide, by decide, by omega, by decide, fun r2 H2 u2 v2 B2 k2 => ?_⟩
  replace B2 := bx1 B2
  have e2 := k2 _ _ ep2 np2b
  have a2 : ∃ n2 : Nat, 1 ≤ n2 ∧ n2 ≤ 4096 ∧ atI [V.int 64, V.int 4096] (if decide (V.int r2 = V.int 0) = true then 1 else 0) = some (.int (n2 : Int)) := by
    split
    · exact ⟨4096, by decide, by decide, rfl⟩
    · exact ⟨64, by decide, by decide, rfl⟩
  obtain ⟨n2, n21, n22, en2⟩ := a2
  refine ⟨rfl, .inr ⟨_, rfl, p2, _, _, _, rfl, rfl, SqL.of e2, en2, ?_⟩⟩
  refine ⟨(by show 3 ≤ sizeLine; decide), fun p3 np3 => ?_⟩
  have np3b : p3 ≠ b := (B2.ne np3).symm
  have sp3 := same_upd (o := .lst [.int 1, .int (1 + r1), .int (n2 : Int)]) np3
  have ep3 : (upd H2 p3 (.lst [.int 1, .int (1 + r1), .int (n2 : Int)])) p3 = some (.lst [.int 1, .int (1 + r1), .int (n2 : Int)]) := upd_same
  replace B2 := B2.same sp3
  have k12 := (k1.trans k2).trans (Keep.ofSame sp3)
  dsimp only
  generalize upd H2 p3 (.lst [.int 1, .int (1 + r1), .int (n2 : Int)]) = H2' at *
  refine ⟨_, rfl, b, _, _, rfl, B2, by decide, by decide, by decide, by omega, by decide, fun r3 H3 u3 v3 B3 k3 => ?_⟩
  replace B3 := bx1 B3
  have e3 := k3 _ _ ep3 np3b
  have a3 : ∃ n3 : Nat, 1 ≤ n3 ∧ n3 ≤ 4096 ∧ atI [V.int 1, V.int (1 + r1), V.int (n2 : Int)] r3 = some (.int (n3 : Int)) := by
    have c : r3 = 0 ∨ r3 = 1 ∨ r3 = 2 := by omega
    rcases c with z | z | z <;> rw [z]
    · exact ⟨1, by decide, by decide, rfl⟩
    · exact ⟨(1 + r1).toNat, by omega, by omega, by
        rw [Int.toNat_of_nonneg (by omega)]
        rfl⟩
    · exact ⟨n2, n21, n22, rfl⟩
  obtain ⟨n, n1, n4, en⟩ := a3
  refine ⟨p3, _, _, _, rfl, rfl, SqL.of e3, en, ?_⟩
  try simp only [L2.start, List.map_cons, List.map_nil, List.length_cons, List.length_nil, List.replicate_succ, List.replicate_zero, List.cons_append, List.nil_append, List.set_cons_succ, List.set_cons_zero, Nat.reduceAdd, Nat.reduceSub, Nat.zero_add]
  have k13 := k12.trans k3
  have N3 := hN.keepB k13 B3.some hbZ
  have R3 := hR.keepB k13 hB
  have D3 := hD.keepB k13 B3.some (by simp)
  refine ⟨_, rfl, _, rfl, _, rfl, b, _, m, n, rfl, B3, by omega, by omega, n4, fun us V0 H4 lu hus nV eV B4 k4 => ?_⟩
  dsimp only [gName]
  try simp only [L2.start, List.map_cons, List.map_nil, List.length_cons, List.length_nil, List.replicate_succ, List.replicate_zero, List.cons_append, List.nil_append, List.set_cons_succ, List.set_cons_zero, Nat.reduceAdd, Nat.reduceSub, Nat.zero_add]
  have k03 := k13.trans k4
  have nVb : V0 ≠ b := (B3.ne nV).symm
  have N4 := N3.keepB k4 B4.some hbZ
  have R4 := R3.keepB k4 B3
  have D4 := D3.keepB k4 B4.some (by simp)
  refine ⟨_, rfl, _, rfl, V0, us.map V.int, rfl, .inl ⟨SqL.of eV, fun T nT => ?_⟩⟩
  have nTb : T ≠ b := (B4.ne nT).symm
  have sT := same_upd (o := .tup (us.map V.int)) nT
  have eT : (upd H4 T (.tup (us.map V.int))) T = some (.tup (us.map V.int)) := upd_same
  have eV5 := sT _ _ eV
  have B5 := B4.same sT
  have N5 := N4.same sT
  have R5 := R4.same sT
  have D5 := D4.same sT
  have k05 := k03.trans (Keep.ofSame sT)
  generalize upd H4 T (.tup (us.map V.int)) = H5 at *
  refine ⟨(by show 2 ≤ sizeLine; decide), fun p6 np6 => ?_⟩
  have np6b : p6 ≠ b := (B5.ne np6).symm
  have s6 := same_upd (o := .lst [.ref V0, .ref T]) np6
  have e6 : (upd H5 p6 (.lst [.ref V0, .ref T])) p6 = some (.lst [.ref V0, .ref T]) := upd_same
  replace B5 := B5.same s6
  replace N5 := N5.same s6
  replace R5 := R5.same s6
  replace D5 := D5.same s6
  replace eV5 := s6 _ _ eV5
  replace eT := s6 _ _ eT
  replace k05 := k05.trans (Keep.ofSame s6)
  dsimp only
  generalize upd H5 p6 (.lst [.ref V0, .ref T]) = H6 at *
  refine ⟨_, rfl, b, _, _, rfl, B5, by decide, by decide, by decide, by omega, by decide, fun r7 H7 u7 v7 B7 k7 => ?_⟩
  replace B7 := bx1 B7
  have e7 := k7 _ _ e6 np6b
  have eV7 := k7 _ _ eV5 nVb
  have eT7 := k7 _ _ eT nTb
  have N7 := N5.keepB k7 B7.some hbZ
  have R7 := R5.keepB k7 B5
  have D7 := D5.keepB k7 B7.some (by simp)
  have k07 := k05.trans k7
  have a7 : ∃ hd : Addr, atI [V.ref V0, V.ref T] r7 = some (.ref hd) ∧ hd ≠ b ∧ (H7 hd = some (.lst (us.map V.int)) ∨ H7 hd = some (.tup (us.map V.int))) := by
    have c : r7 = 0 ∨ r7 = 1 := by omega
    rcases c with z | z <;> rw [z]
    · exact ⟨V0, rfl, nVb, .inl eV7⟩
    · exact ⟨T, rfl, nTb, .inr eT7⟩
  obtain ⟨hd, ehd, nhb, Shd⟩ := a7
  refine ⟨p6, _, _, _, rfl, rfl, SqL.of e7, ehd, ?_⟩
  have une : us ≠ [] := fun z => by rw [z] at lu; simp at lu; omega
  have uB : ∀ i ∈ us, i.natAbs < 2 ^ 5000 := fun i hi => val_nat (hus i hi)
  refine ⟨_, rfl, V0, us, rfl, SqL.of eV7, une, by omega, uB, ?_⟩
  refine ⟨_, _, rfl, ?_⟩
  try simp only [L2.start, List.map_cons, List.map_nil, List.length_cons, List.length_nil, List.replicate_succ, List.replicate_zero, List.cons_append, List.nil_append, List.set_cons_succ, List.set_cons_zero, Nat.reduceAdd, Nat.reduceSub, Nat.zero_add]
  replace B7 : BoxAt (c + 4000) H7 b := B7.mono (by omega)
  have nmL := hm.1
  have hmA : ∀ x ∈ nm, x.2.length ≤ 900 ∧ ∀ a ∈ x.2, a < m + gs.length := fun x hx => ⟨by have := (hm.2 x hx).1; omega, (hm.2 x hx).2⟩
  refine if_ev (fun z G => ∃ (t : Addr) (ys : List Str) (H0 : Hp), z = .ref t ∧ ys.Perm (nm.map (·.1)) ∧ sortedS ys = true ∧ Keep b H7 H0 ∧ BoxAt (c + 4002) H0 b ∧ Same H0 G ∧ RunAt H0 G t ys nm (rv (2 ^ n - 1) (us.map (· % 2 ^ n)) gs) ∧ BoxAt (c + 4002) G b) (fun Q' q' => ?_) ?_
  · have two : ∀ G, Keep b H7 G → SqL K G hd (us.map V.int) ∨ SqT K G hd (us.map V.int) := fun G kG => by
      rcases Shd with z | z
      · exact .inl (SqL.of (kG _ _ z nhb))
      · exact .inr (.inl (.inl (kG _ _ z nhb)))
    have go : ∀ (G : Hp) (k : Nat), k = n → Keep b H7 G → BoxAt (c + 4002) G b → spRan K C [.ref p.x, .ref hd, .int (k : Int)] G Q' E0 := fun G k ek kG BG => by
      subst ek
      exact ⟨Z, p, m, gs, nm, hd, us, k, rfl, N7.keepB kG BG.some hbZ, two G kG, lu, by omega, by omega, by omega, ok, hmA, fun ys t G2 hp hs sG hR => q' _ _ ⟨t, ys, G, rfl, hp, hs, kG, BG, sG, hR, BG.same sG⟩⟩
    refine ⟨_, rfl, rfl, _, rfl, ite2 (fun cc => ?_) (fun _ => ?_)⟩
    · have n1' : (n : Int) = 1 := V.int.inj (of_decide_eq_true cc)
      refine ⟨_, rfl, b, _, _, rfl, B7, by decide, by decide, by decide, by omega, by decide, fun r8 H8 u8 v8 B8 k8 => ?_⟩
      refine ⟨rfl, _, rfl, ite2 (fun _ => ?_) (fun _ => ?_)⟩
      · exact ⟨_, rfl, _, rfl, go H8 1 (by omega) k8 (BoxAt.mono (bx1 B8) (by omega))⟩
      · exact ⟨_, rfl, _, rfl, _, rfl, rfl, rfl, go H8 n rfl k8 (BoxAt.mono (bx1 B8) (by omega))⟩
    · exact ⟨_, rfl, _, rfl, _, rfl, rfl, rfl, go H7 n rfl (Keep.refl _ _) (B7.mono (by omega))⟩
  rintro _ H8 ⟨t, ys, H0, rfl, hp, hs, k8, B0, s8, hRun, B8⟩
  dsimp only [gName]
  try simp only [L2.start, List.map_cons, List.map_nil, List.length_cons, List.length_nil, List.replicate_succ, List.replicate_zero, List.cons_append, List.nil_append, List.set_cons_succ, List.set_cons_zero, Nat.reduceAdd, Nat.reduceSub, Nat.zero_add]
  have k78 : Keep b H7 H8 := k8.trans (Keep.ofSame s8)
  have N8 := N7.keepB k78 B8.some hbZ
  have R8 := R7.keepB k78 B7
  have D8 := D7.keepB k78 B8.some (by simp)
  have k08 := k07.trans k78
  have eV8 := k78 _ _ eV7 nVb
  have Shd8 : SqL K H8 hd (us.map V.int) ∨ SqT K H8 hd (us.map V.int) := by
    rcases Shd with z | z
    · exact .inl (SqL.of (k78 _ _ z nhb))
    · exact .inr (.inl (.inl (k78 _ _ z nhb)))
  obtain ⟨nT0, ts, lt, eT8, hts⟩ := hRun
  obtain ⟨kvs, ed, keys, dg⟩ := D8.keys
  refine ⟨_, rfl, hd, _, rfl, Shd8, fun L9 nL9 => ?_⟩
  have s9 := same_upd (o := .lst (us.map V.int)) nL9
  have e9 : (upd H8 L9 (.lst (us.map V.int))) L9 = some (.lst (us.map V.int)) := upd_same
  generalize upd H8 L9 (.lst (us.map V.int)) = H9 at *
  refine ⟨L9, us, rfl, SqL.of e9, une, by omega, uB, ?_⟩
  refine ⟨_, rfl, rfl, _, rfl, ite2 (fun z => absurd z (by simp)) (fun _ => ?_)⟩
  have eT9 := s9 _ _ eT8
  refine ⟨_, rfl, t, rfl, ⟨_, SqL.of eT9⟩, fun U nU => ?_⟩
  refine lc_it (walk_list (K := K) (a := t) (xs := ts.map V.ref)) (fun j HX => Same H9 HX ∧ HX U = some (.lst ((ys.take j).map V.str))) ⟨same_upd nU, upd_same⟩ (fun j HX _ ⟨sX, _⟩ => SqL.of (sX _ _ eT9)) ?_ ?_
  · rintro j v HX HY hj ⟨sX, eU⟩ ⟨rfl, hz⟩
    rw [List.getElem?_map] at hz
    rw [List.length_map] at hj
    rw [List.getElem?_eq_getElem hj] at hz
    cases hz
    have hy : ys[j]? = some (ys[j]'(by omega)) := List.getElem?_eq_getElem (by omega)
    obtain ⟨ws, l, hmem, nl, eu, el⟩ := hts j _ _ (List.getElem?_eq_getElem hj) hy
    have eu' := sX _ _ (s9 _ _ eu)
    refine ⟨_, _, rfl, SqT.of eu', rfl, ?_⟩
    refine ⟨_, _, rfl, _, _, rfl, rfl, rfl, yesT ?_⟩
    refine ⟨_, rfl, _, eU, ?_, fun y o e => ?_, ?_⟩
    · rw [List.length_map, List.length_take]
      exact Nat.lt_of_le_of_lt (Nat.min_le_right _ _) (small1000 (by have := hp.length_eq; rw [List.length_map] at this; omega))
    · rw [upd_ne (ne_of_none e nU)]
      exact sX _ _ e
    · rw [upd_same, List.take_add_one, hy, List.map_append]
      rfl
  rintro HX ⟨sX, eU⟩
  have lys : ys.length = nm.length := by
    have := hp.length_eq
    rw [List.length_map] at this
    exact this
  rw [List.length_map, List.take_of_length_le (by omega)] at eU
  refine ⟨_, rfl, d, kvs, nm.map (·.1), rfl, .of (sX _ _ (s9 _ _ ed)), keys, by rw [List.length_map]; omega, fun zs p3 hp2 hs2 np3 => ?_⟩
  obtain rfl : zs = ys := sortS_one hp2 hs2 hp hs
  have s3 := same_upd (o := .lst (zs.map V.str)) np3
  have e3' : (upd HX p3 (.lst (zs.map V.str))) p3 = some (.lst (zs.map V.str)) := upd_same
  have eU3 := s3 _ _ eU
  have SS : Sd 1 (.list (zs.map PyData.str)) := .lst fun d hd => by
    obtain ⟨y, hy, rfl⟩ := List.mem_map.mp hd
    obtain ⟨x, hx, ex⟩ := List.mem_map.mp (hp.mem_iff.mp hy)
    exact .str (by rw [← ex]; exact hT x hx)
  refine ⟨_, _, .lst (SqL.of eU3) (dpa_strs zs), .lst (SqL.of e3') (dpa_strs zs), SS.sh (by decide), SS.sh (by decide), _, rfl, ?_⟩
  rw [SS.self]
  refine ite2 (fun z => absurd z (by decide)) (fun _ => ?_)
  have sU := (s9.trans sX).trans s3
  generalize upd HX p3 (.lst (zs.map V.str)) = HU at *
  have eTU := sU _ _ eT8
  have isl : kitB "list" "list" = some true := by decide +kernel
  have RG := rv_rng (rng_mod n us) gs
  refine ⟨_, rfl, t, rfl, ⟨_, SqL.of eTU⟩, ?_⟩
  refine for_it (walk_list (K := K) (a := t) (xs := ts.map V.ref)) (fun j σ HX => ∃ (y10 y11 : Option V), σ = [some (.ref b), some (.ref p.x), some (.ref R), some (.ref d), some (.int (m : Int)), some (.int (n : Int)), some (.ref V0), some (.ref hd), some (.str (repN us)), some (.ref t), y10, y11, none, none, none, none, none, none, none, none, none, none] ∧ Same HU HX) ⟨_, _, rfl, Same.refl _⟩ (fun j σ HX _ ⟨_, _, _, sX⟩ => SqL.of (sX _ _ eTU)) ?_ ?_
  · rintro j v σ HX HY hj ⟨y10, y11, rfl, sX⟩ ⟨rfl, hz⟩
    rw [List.getElem?_map] at hz
    rw [List.length_map] at hj
    rw [List.getElem?_eq_getElem hj] at hz
    cases hz
    have hy : zs[j]? = some (zs[j]'(by omega)) := List.getElem?_eq_getElem (by omega)
    obtain ⟨ws, l, hmem, nl, eu, el⟩ := hts j _ _ (List.getElem?_eq_getElem hj) hy
    have eu' := sX _ _ (sU _ _ eu)
    have el' := sX _ _ (sU _ _ el)
    refine ⟨_, _, rfl, SqT.of eu', rfl, _, _, rfl, _, _, rfl, rfl, ?_⟩
    try simp only [L2.start, List.map_cons, List.map_nil, List.length_cons, List.length_nil, List.replicate_succ, List.replicate_zero, List.cons_append, List.nil_append, List.set_cons_succ, List.set_cons_zero, Nat.reduceAdd, Nat.reduceSub, Nat.zero_add]
    refine ⟨_, rfl, _, _, _, _, _, rfl, .ty _, ty_lst (SqL.of el'), kit_ty isl, _, rfl, iteF ?_⟩
    refine ⟨_, rfl, l, rfl, ⟨_, SqL.of el'⟩, fun W nW => ?_⟩
    refine lc_it (walk_list (K := K) (a := l) (xs := (ws.map fun a => (rv (2 ^ n - 1) (us.map (· % 2 ^ n)) gs).getD a 0).map V.int)) (fun i H6 => Same HY H6 ∧ H6 W = some (.lst ((List.replicate i true).map V.bl))) ⟨same_upd nW, upd_same⟩ (fun i H6 _ ⟨s6, _⟩ => SqL.of (s6 _ _ el')) ?_ ?_
    · rintro i v H6 H7 hi ⟨s6, eW⟩ ⟨rfl, hz⟩
      obtain ⟨v, hv, rfl⟩ := at_int46 hz
      obtain ⟨a, _, ea⟩ := List.mem_map.mp (List.mem_of_getElem? hv)
      have rg := RG.getD a
      rw [ea] at rg
      refine ⟨rfl, yesT ?_⟩
      refine ⟨_, rfl, _, _, rfl, rfl, _, rfl, ite2 (fun _ => ?_) (fun z => absurd (decide_eq_true rg.1) z)⟩
      refine ⟨_, rfl, n, rfl, rfl, by omega, _, _, rfl, rfl, _, eW, ?_, fun y o e => ?_, ?_⟩
      · rw [List.length_map, List.length_replicate]
        rw [List.length_map, List.length_map] at hi
        have : ws.length ≤ 10 := (hm.2 _ hmem).1
        exact small1000 (by omega)
      · rw [upd_ne (ne_of_none e nW)]
        exact s6 _ _ e
      · rw [upd_same]
        show some (HO.lst (_ ++ [V.bl (decide (v < 2 ^ n))])) = _
        rw [decide_eq_true rg.2, List.replicate_succ', List.map_append]
        rfl
    rintro H6 ⟨s6, eW⟩
    refine ⟨W, _, rfl, SqL.of eW, ?_⟩
    have ar : ∀ k, (List.replicate k true).all id = true := fun k => List.all_eq_true.mpr fun x hx => (List.mem_replicate.mp hx).2
    rw [ar]
    refine ⟨_, rfl, ite2 (fun z => absurd z (by decide)) (fun _ => ?_)⟩
    exact ⟨_, _, rfl, sX.trans s6⟩
  rintro σ HX' ⟨y10, y11, rfl, sX'⟩
  have s8X := sU.trans sX'
  have BX := B8.same s8X
  have nT8 : ∀ {y : Addr} {o : HO}, H8 y = some o → HX' y = some o := fun e => s8X _ _ e
  refine ⟨_, rfl, _, _, rfl, rfl, (by show 2 ≤ sizeLine; decide), fun pA npA => ?_⟩
  have npAb : pA ≠ b := (BX.ne npA).symm
  have sA := same_upd (o := .lst [.int 0, .int ((n : Int) - 1)]) npA
  have eA : (upd HX' pA (.lst [.int 0, .int ((n : Int) - 1)])) pA = some (.lst [.int 0, .int ((n : Int) - 1)]) := upd_same
  have BA := BX.same sA
  replace s8X := s8X.trans sA
  generalize upd HX' pA (.lst [.int 0, .int ((n : Int) - 1)]) = HA at *
  refine ⟨_, rfl, by decide, by decide, fun pB npB => ?_⟩
  have npBb : pB ≠ b := (BA.ne npB).symm
  have npBA : pB ≠ pA := fun z => by rw [z, eA] at npB; cases npB
  refine lc_range (n := 6) (fun j H9 => ∃ cs : List Int, cs.length = j ∧ (∀ x ∈ cs, 0 ≤ x ∧ x < (n : Int)) ∧ Keep b HA H9 ∧ BoxAt (c + 4010 + 2 * j) H9 b ∧ H9 pB = some (.lst (cs.map V.int))) ⟨[], rfl, (fun _ z => nomatch z), Keep.new npB, (BA.same (same_upd npB)).mono (by omega), upd_same⟩ ?_ ?_
  · rintro j H9 hj ⟨cs, lc, hcs, k9, B9, eB⟩
    dsimp only [gName]
    refine ⟨rfl, yesT ?_⟩
    try simp only [L2.start, List.map_cons, List.map_nil, List.length_cons, List.length_nil, List.replicate_succ, List.replicate_zero, List.cons_append, List.nil_append, List.set_cons_succ, List.set_cons_zero, Nat.reduceAdd, Nat.reduceSub, Nat.zero_add]
    refine ⟨_, rfl, _, rfl, b, _, _, rfl, B9, by omega, by omega, by omega, by omega, by decide, fun r2 H2 u2 v2 B2 k2 => ?_⟩
    replace B2 := bx1 B2
    have eB2 := k2 _ _ eB npBb
    refine ⟨_, eB2, by rw [List.length_map, lc]; exact big_lt (by omega), cs ++ [r2], by rw [List.length_append, lc]; rfl, fun x hx => ?_, fun y o e ny => ?_, BoxAt.mono (B2.at (upd_ne npBb.symm)) (by omega), by rw [upd_same, List.map_append]; rfl⟩
    · rcases List.mem_append.mp hx with z | z
      · exact hcs x z
      · rw [List.mem_singleton.mp z]
        exact ⟨u2, v2⟩
    · rw [upd_ne (ne_of_none e npB)]
      exact k2 _ _ (k9 _ _ e ny) ny
  rintro H9 ⟨cs, lc, hcs, k9, B9, eB⟩
  have eA9 := k9 _ _ eA npAb
  refine ⟨pA, pB, _, _, rfl, rfl, eA9, eB, by rw [List.length_map, lc]; exact Nat.le_of_lt (big_lt (by show 2 + 6 ≤ 500000; decide)), fun pL npL => ?_⟩
  have npLb : pL ≠ b := (B9.ne npL).symm
  have sL := same_upd (o := .lst ([.int 0, .int ((n : Int) - 1)] ++ cs.map V.int)) npL
  have eL : (upd H9 pL (.lst ([.int 0, .int ((n : Int) - 1)] ++ cs.map V.int))) pL = some (.lst ([.int 0, .int ((n : Int) - 1)] ++ cs.map V.int)) := upd_same
  have BL := B9.same sL
  have k8L : Keep b H8 _ := ((Keep.ofSame s8X).trans k9).trans (Keep.ofSame sL)
  have allk : ∀ v ∈ ([.int 0, .int ((n : Int) - 1)] ++ cs.map V.int : List V), ∃ k : Nat, v = .int (k : Int) ∧ k < n := fun v hv => by
    rcases List.mem_append.mp hv with z | z
    · simp only [List.mem_cons, List.not_mem_nil, or_false] at z
      rcases z with e | e <;> rw [e]
      · exact ⟨0, rfl, by omega⟩
      · exact ⟨n - 1, congrArg V.int (by omega), by omega⟩
    · obtain ⟨x, hx, rfl⟩ := List.mem_map.mp z
      obtain ⟨a1, a2⟩ := hcs x hx
      exact ⟨x.toNat, congrArg V.int (by omega), by omega⟩
  generalize ([.int 0, .int ((n : Int) - 1)] ++ cs.map V.int : List V) = xs at *
  generalize upd H9 pL (.lst xs) = HL at *
  have NL := N8.keepB k8L BL.some hbZ
  have RL := R8.keepB k8L B8
  have DL := D8.keepB k8L BL.some (by simp)
  have eVL := k8L _ _ eV8 nVb
  have ntb : t ≠ b := fun z => by
    obtain ⟨_, _, _, eb, _⟩ := B8
    rw [z, eb] at eT8
    have := HO.lst.inj (Option.some.inj eT8)
    cases ts with
    | nil => cases this
    | cons t ts => cases this
  have eTL := k8L _ _ eT8 ntb
  refine ⟨pL, rfl, ⟨_, SqL.of eL⟩, ?_⟩
  refine for_it (walk_list (K := K) (a := pL) (xs := xs)) (fun j σ HX => ∃ (y12 y13 y14 : Option V), σ = [some (.ref b), some (.ref p.x), some (.ref R), some (.ref d), some (.int (m : Int)), some (.int (n : Int)), some (.ref V0), some (.ref hd), some (.str (repN us)), some (.ref t), y10, y11, y12, y13, y14, none, none, none, none, none, none, none] ∧ Same HL HX) ⟨_, _, _, rfl, Same.refl _⟩ (fun j σ HX _ ⟨_, _, _, _, sX⟩ => SqL.of (sX _ _ eL)) ?_ ?_
  · rintro j v σ HX HY hj ⟨y12, y13, y14, rfl, sX⟩ ⟨rfl, hz⟩
    obtain ⟨k, rfl, hk⟩ := allk v (List.mem_of_getElem? hz)
    dsimp only [gName]
    try simp only [L2.start, List.map_cons, List.map_nil, List.length_cons, List.length_nil, List.replicate_succ, List.replicate_zero, List.cons_append, List.nil_append, List.set_cons_succ, List.set_cons_zero, Nat.reduceAdd, Nat.reduceSub, Nat.zero_add]
    have lys : zs.length = nm.length := by
      have := hp.length_eq
      rw [List.length_map] at this
      exact this
    have eVY := sX _ _ eVL
    refine ⟨_, rfl, _, rfl, V0, rfl, ⟨_, SqL.of eVY⟩, fun V1 nV1 => ?_⟩
    refine lc_it (walk_list (K := K) (a := V0) (xs := us.map V.int)) (fun i H3 => Same HY H3 ∧ H3 V1 = some (.lst (((us.map (tb · k)).take i).map V.int))) ⟨same_upd nV1, upd_same⟩ (fun i H3 _ ⟨s3, _⟩ => SqL.of (s3 _ _ eVY)) ?_ ?_
    · rintro i v H3 H4 hi ⟨s3, eV1⟩ ⟨rfl, hz⟩
      obtain ⟨x, hx, rfl⟩ := at_int46 hz
      refine ⟨rfl, yesT ?_⟩
      refine ⟨_, rfl, _, rfl, _, k, rfl, rfl, _, 1, rfl, rfl, ?_⟩
      refine ⟨_, eV1, ?_, fun y o e => ?_, ?_⟩
      · rw [List.length_map, List.length_take, List.length_map]
        exact Nat.lt_of_le_of_lt (Nat.min_le_right _ _) (small1000 (by omega))
      · rw [upd_ne (ne_of_none e nV1)]
        exact s3 _ _ e
      · rw [upd_same, List.take_add_one, List.getElem?_map, hx, List.map_append]
        rfl
    rintro H3 ⟨s3, eV1⟩
    rw [List.length_map, List.take_of_length_le (by rw [List.length_map]; exact Nat.le_refl _)] at eV1
    have z1 : z01 (us.map (tb · k)) := fun v hv => by
      obtain ⟨u, _, rfl⟩ := List.mem_map.mp hv
      exact tb_01 _ _
    have l1 : (us.map (tb · k)).length = m := by rw [List.length_map, lu]
    refine ⟨R, V1, gs, us.map (tb · k), rfl, (RL.same sX).same s3, by rw [l1]; exact ok, SqL.of eV1, z1, by rw [l1]; omega, fun O H4 nO s4 eO => ?_⟩
    have sL4 := (sX.trans s3).trans s4
    obtain ⟨kvs4, ed4, keys4, dg4⟩ := (DL.same sL4).keys
    dsimp only [gName]
    try simp only [L2.start, List.map_cons, List.map_nil, List.length_cons, List.length_nil, List.replicate_succ, List.replicate_zero, List.cons_append, List.nil_append, List.set_cons_succ, List.set_cons_zero, Nat.reduceAdd, Nat.reduceSub, Nat.zero_add]
    refine ⟨_, rfl, d, kvs4, nm.map (·.1), rfl, .of ed4, keys4, by rw [List.length_map]; omega, fun ys5 p5 hp5 hs5 np5 => ?_⟩
    obtain rfl : zs = ys5 := (sortS_one hp5 hs5 hp hs).symm
    have s5 := same_upd (o := .lst (zs.map V.str)) np5
    have e5 : (upd H4 p5 (.lst (zs.map V.str))) p5 = some (.lst (zs.map V.str)) := upd_same
    have eO5 := s5 _ _ eO
    have sL5 := sL4.trans s5
    generalize upd H4 p5 (.lst (zs.map V.str)) = H5 at *
    refine ⟨p5, rfl, ⟨_, SqL.of e5⟩, fun U nU => ?_⟩
    refine lc_it (walk_list (K := K) (a := p5) (xs := zs.map V.str)) (fun j H9 => ∃ us5 : List Addr, us5.length = j ∧ Same H5 H9 ∧ H9 U = some (.lst (us5.map V.ref)) ∧ ∀ (i : Nat) (u : Addr) (y : Str), us5[i]? = some u → zs[i]? = some y → ∃ l, H9 u = some (.tup [.str y, .ref l]) ∧ H9 l = some (.lst (((lkN nm y).map fun a => (rv 1 (us.map (tb · k)) gs).getD a 0).map V.int)) ∧ l ≠ U) ⟨[], rfl, same_upd nU, upd_same, fun i u y h => by simp at h⟩ (fun j H9 _ ⟨_, _, s9, _⟩ => SqL.of (s9 _ _ e5)) ?_ ?_
    · rintro j v H10 H9 hj ⟨us5, lu5, s9, eU, hus5⟩ ⟨rfl, hz⟩
      replace hz : (zs.map V.str)[j]? = some v := hz
      rw [List.length_map] at hj
      rw [List.getElem?_map, List.getElem?_eq_getElem hj] at hz
      have hy : zs[j]? = some zs[j] := List.getElem?_eq_getElem hj
      cases hz
      generalize zs[j] = y at *
      obtain ⟨l, ev, _, _, el, hmem⟩ := dg4 y (hp.mem_iff.mp (List.mem_of_getElem? hy))
      dsimp only [gName]
      refine ⟨rfl, yesT ?_⟩
      try simp only [L2.start, List.map_cons, List.map_nil, List.length_cons, List.length_nil, List.replicate_succ, List.replicate_zero, List.cons_append, List.nil_append, List.set_cons_succ, List.set_cons_zero, Nat.reduceAdd, Nat.reduceSub, Nat.zero_add]
      have ev' : DGet H9 d (.str y) (some (.ref l)) := by
        rw [← ev]
        exact DGet.k (k := .inr y) (s9 _ _ (s5 _ _ ed4))
      have el9 := s9 _ _ (s5 _ _ el)
      have eO9 := s9 _ _ eO5
      have lw := hm.2 _ hmem
      have lw2 : (lkN nm y).length ≤ 10 := lw.1
      refine ⟨_, rfl, _, rfl, _, rfl, d, .ref l, rfl, ev', l, rfl, ⟨_, SqL.of el9⟩, fun W nW => ?_⟩
      refine lc_it (walk_list (K := K) (a := l) (xs := nts (lkN nm y))) (fun i H6 => Same H9 H6 ∧ H6 W = some (.lst ((((lkN nm y).map fun a => (rv 1 (us.map (tb · k)) gs).getD a 0).take i).map V.int))) ⟨same_upd nW, upd_same⟩ (fun i H6 _ ⟨s6, _⟩ => SqL.of (s6 _ _ el9)) ?_ ?_
      · rintro i v H6 H7 hi ⟨s6, eW⟩ ⟨rfl, hz⟩
        obtain ⟨a, ha, rfl⟩ := nts_at hz
        have la := lw.2 a (List.mem_of_getElem? ha)
        refine ⟨rfl, yesT ?_⟩
        refine ⟨_, rfl, _, rfl, O, _, _, _, rfl, rfl, SqL.of (s6 _ _ eO9), at_getD (by rw [rv_len, l1]; exact la), ?_⟩
        refine ⟨_, eW, ?_, fun y u e => ?_, ?_⟩
        · rw [List.length_map, List.length_take, List.length_map]
          exact Nat.lt_of_le_of_lt (Nat.min_le_right _ _) (small1000 (by omega))
        · rw [upd_ne (ne_of_none e nW)]
          exact s6 _ _ e
        · rw [upd_same, List.take_add_one, List.getElem?_map, ha, List.map_append]
          rfl
      rintro H6 ⟨s6, eW⟩
      rw [nts_len, List.take_of_length_le (by rw [List.length_map]; exact Nat.le_refl _)] at eW
      refine ⟨(by show 2 ≤ sizeLine; decide), fun u nu => ?_⟩
      have su := same_upd (o := .tup [.str y, .ref W]) nu
      have s96 := s6.trans su
      have nuU : u ≠ U := fun z => by
        rw [z, s6 _ _ eU] at nu
        cases nu
      have nUH : ∀ {y : Addr} {o : HO}, H9 y = some o → (∀ xs, o ≠ .lst xs) → y ≠ U := fun e ne z => by
        rw [z, eU] at e
        exact ne _ (Option.some.inj e).symm
      refine ⟨_, s96 _ _ eU, by rw [List.length_map, lu5]; exact big_lt (by omega), us5 ++ [u], by rw [List.length_append, lu5]; rfl, fun a o e => ?_, by rw [upd_same, List.map_append]; rfl, fun i' u' y' h1 h2 => ?_⟩
      · rw [upd_ne (ne_of_none e nU)]
        exact s96 _ _ (s9 _ _ e)
      · by_cases c : i' < us5.length
        · rw [List.getElem?_append_left c] at h1
          obtain ⟨l', q3, q4, nlU⟩ := hus5 i' u' y' h1 h2
          refine ⟨l', ?_, ?_, nlU⟩
          · rw [upd_ne (fun z => by rw [z, eU] at q3; cases q3)]
            exact s96 _ _ q3
          · rw [upd_ne nlU]
            exact s96 _ _ q4
        · have i0 : i' = us5.length := by
            have := (List.getElem?_eq_some_iff.mp h1).1
            rw [List.length_append, List.length_cons, List.length_nil] at this
            omega
          rw [List.getElem?_append_right (by omega), i0, Nat.sub_self] at h1
          rw [i0, lu5, hy] at h2
          cases h1
          cases h2
          have nWU : W ≠ U := fun z => by rw [z, eU] at nW; cases nW
          refine ⟨W, by rw [upd_ne nuU]; exact upd_same, by rw [upd_ne nWU]; exact su _ _ eW, nWU⟩
    rintro H6 ⟨us5, lu5, s6, eU, hus5⟩
    rw [List.length_map] at lu5
    dsimp only [gName]
    try simp only [L2.start, List.map_cons, List.map_nil, List.length_cons, List.length_nil, List.replicate_succ, List.replicate_zero, List.cons_append, List.nil_append, List.set_cons_succ, List.set_cons_zero, Nat.reduceAdd, Nat.reduceSub, Nat.zero_add]
    have sL6 := sL5.trans s6
    have eTY := sL6 _ _ eTL
    have hts9 : ∀ (i : Nat) (u : Addr) (y : Str), ts[i]? = some u → zs[i]? = some y → ∃ l, H6 u = some (.tup [.str y, .ref l]) ∧ H6 l = some (.lst (((lkN nm y).map fun a => (rv (2 ^ n - 1) (us.map (· % 2 ^ n)) gs).getD a 0).map V.int)) ∧ (lkN nm y).length ≤ 10 := fun i u y h1 h2 => by
      obtain ⟨ws, l, hws, nl, e1, e2⟩ := hts i u y h1 h2
      have nd := (hD.2).elim fun _ h => h.2.2.1
      have ew := lkN_mem nd hws
      have nb : ∀ {z : Addr} {o : HO}, H8 z = some o → z ≠ b ∨ ∃ x, o = .lst x := fun {z o} e => by
        by_cases c : z = b
        · obtain ⟨x0, x1, x2, eb, _⟩ := B8
          rw [c, eb] at e
          exact .inr ⟨_, (Option.some.inj e).symm⟩
        · exact .inl c
      have nu : u ≠ b := by
        rcases nb e1 with z | ⟨_, z⟩
        · exact z
        · cases z
      rw [ew]
      refine ⟨l, sL6 _ _ (k8L _ _ e1 nu), sL6 _ _ (k8L _ _ e2 ?_), (hm.2 _ hws).1⟩
      intro z
      rw [z] at nl
      exact B0.some nl
    refine ⟨_, rfl, t, rfl, ⟨_, SqL.of eTY⟩, fun U2 nU2 => ?_⟩
    refine lc_it (walk_list (K := K) (a := t) (xs := ts.map V.ref)) (fun j H9 => ∃ us6 : List Addr, us6.length = j ∧ Same H6 H9 ∧ H9 U2 = some (.lst (us6.map V.ref)) ∧ ∀ (i : Nat) (u : Addr) (y : Str), us6[i]? = some u → zs[i]? = some y → ∃ l, H9 u = some (.tup [.str y, .ref l]) ∧ H9 l = some (.lst (((lkN nm y).map fun a => (rv 1 (us.map (tb · k)) gs).getD a 0).map V.int)) ∧ l ≠ U2) ⟨[], rfl, same_upd nU2, upd_same, fun i u y h => by simp at h⟩ (fun j H9 _ ⟨_, _, s9, _⟩ => SqL.of (s9 _ _ eTY)) ?_ ?_
    · rintro j v H10 H9 hj ⟨us6, lu6, s9, eU2, hus6⟩ ⟨rfl, hz⟩
      rw [List.getElem?_map] at hz
      rw [List.length_map] at hj
      rw [List.getElem?_eq_getElem hj] at hz
      cases hz
      have hy : zs[j]? = some (zs[j]'(by omega)) := List.getElem?_eq_getElem (by omega)
      generalize zs[j]'(by omega) = y at hy
      obtain ⟨l, eu, el, lw2⟩ := hts9 j _ _ (List.getElem?_eq_getElem hj) hy
      have eu' := s9 _ _ eu
      have el' := s9 _ _ el
      refine ⟨_, _, rfl, SqT.of eu', rfl, _, _, rfl, _, _, rfl, rfl, rfl, yesT ?_⟩
      try simp only [L2.start, List.map_cons, List.map_nil, List.length_cons, List.length_nil, List.replicate_succ, List.replicate_zero, List.cons_append, List.nil_append, List.set_cons_succ, List.set_cons_zero, Nat.reduceAdd, Nat.reduceSub, Nat.zero_add]
      refine ⟨_, rfl, _, rfl, l, rfl, ⟨_, SqL.of el'⟩, fun W nW => ?_⟩
      refine lc_it (walk_list (K := K) (a := l) (xs := ((lkN nm y).map fun a => (rv (2 ^ n - 1) (us.map (· % 2 ^ n)) gs).getD a 0).map V.int)) (fun i H6 => Same H9 H6 ∧ H6 W = some (.lst ((((lkN nm y).map fun a => (rv 1 (us.map (tb · k)) gs).getD a 0).take i).map V.int))) ⟨same_upd nW, upd_same⟩ (fun i H6 _ ⟨s6, _⟩ => SqL.of (s6 _ _ el')) ?_ ?_
      · rintro i v HP HQ hi ⟨sP, eW⟩ ⟨rfl, hz⟩
        obtain ⟨x, hx, rfl⟩ := at_int46 hz
        rw [List.getElem?_map] at hx
        cases ha : (lkN nm y)[i]? with
        | none => rw [ha] at hx; cases hx
        | some a =>
          rw [ha] at hx
          cases hx
          refine ⟨rfl, yesT ?_⟩
          refine ⟨_, rfl, _, rfl, _, k, rfl, rfl, _, 1, rfl, rfl, ?_⟩
          refine ⟨_, eW, ?_, fun y u e => ?_, ?_⟩
          · rw [List.length_map, List.length_take, List.length_map]
            exact Nat.lt_of_le_of_lt (Nat.min_le_right _ _) (small1000 (by omega))
          · rw [upd_ne (ne_of_none e nW)]
            exact sP _ _ e
          · rw [upd_same, List.take_add_one, List.getElem?_map, ha, List.map_append]
            show some (HO.lst (_ ++ [V.int (tb ((rv (2 ^ n - 1) (us.map (· % 2 ^ n)) gs).getD a 0) k)])) = _
            rw [rs_bit hk]
            rfl
      rintro HP ⟨sP, eW⟩
      rw [List.length_map, List.length_map, List.take_of_length_le (by rw [List.length_map]; exact Nat.le_refl _)] at eW
      refine ⟨(by show 2 ≤ sizeLine; decide), fun u nu => ?_⟩
      have su := same_upd (o := .tup [.str y, .ref W]) nu
      have s96 := sP.trans su
      have nuU : u ≠ U2 := fun z => by
        rw [z, sP _ _ eU2] at nu
        cases nu
      refine ⟨_, s96 _ _ eU2, by rw [List.length_map, lu6]; exact big_lt (by omega), us6 ++ [u], by rw [List.length_append, lu6]; rfl, fun a o e => ?_, by rw [upd_same, List.map_append]; rfl, fun i' u' y' h1 h2 => ?_⟩
      · rw [upd_ne (ne_of_none e nU2)]
        exact s96 _ _ (s9 _ _ e)
      · by_cases c : i' < us6.length
        · rw [List.getElem?_append_left c] at h1
          obtain ⟨l', q3, q4, nlU⟩ := hus6 i' u' y' h1 h2
          refine ⟨l', ?_, ?_, nlU⟩
          · rw [upd_ne (fun z => by rw [z, eU2] at q3; cases q3)]
            exact s96 _ _ q3
          · rw [upd_ne nlU]
            exact s96 _ _ q4
        · have i0 : i' = us6.length := by
            have := (List.getElem?_eq_some_iff.mp h1).1
            rw [List.length_append, List.length_cons, List.length_nil] at this
            omega
          rw [List.getElem?_append_right (by omega), i0, Nat.sub_self] at h1
          rw [i0, lu6, hy] at h2
          cases h1
          cases h2
          have nWU : W ≠ U2 := fun z => by rw [z, eU2] at nW; cases nW
          refine ⟨W, by rw [upd_ne nuU]; exact upd_same, by rw [upd_ne nWU]; exact su _ _ eW, nWU⟩
    rintro H7 ⟨us6, lu6, s7', eU2, hus6⟩
    rw [List.length_map] at lu6
    have fl : ∀ y ∈ zs, ((lkN nm y).map fun a => (rv 1 (us.map (tb · k)) gs).getD a 0).length ≤ 200 := fun y hy => by
      obtain ⟨l, _, _, _, _, hmem⟩ := dg4 y (hp.mem_iff.mp hy)
      have := (hm.2 _ hmem).1
      rw [List.length_map]
      exact Nat.le_trans this (by decide)
    refine ⟨_, rfl, _, _, .list (zs.map fun y => .tuple [.str y, .list (((lkN nm y).map fun a => (rv 1 (us.map (tb · k)) gs).getD a 0).map PyData.int)]), 3, rfl, rfl, lv_two45 (fun y => ((lkN nm y).map fun a => (rv 1 (us.map (tb · k)) gs).getD a 0)) zs (by omega) fl, .lst (SqL.of eU2) (dpa_two (fun y => ((lkN nm y).map fun a => (rv 1 (us.map (tb · k)) gs).getD a 0)) us6 zs (by omega) fun i u y h1 h2 => by obtain ⟨l, a1, a2, _⟩ := hus6 i u y h1 h2; exact ⟨l, a1, a2⟩), .lst (SqL.of (s7' _ _ eU)) (dpa_two (fun y => ((lkN nm y).map fun a => (rv 1 (us.map (tb · k)) gs).getD a 0)) us5 zs (by omega) fun i u y h1 h2 => by obtain ⟨l, a1, a2, _⟩ := hus5 i u y h1 h2; exact ⟨l, s7' _ _ a1, s7' _ _ a2⟩), fun G2 sG2 => ?_⟩
    refine ⟨_, rfl, ite2 (fun z => absurd z (by decide)) (fun _ => ?_)⟩
    exact ⟨_, _, _, rfl, (sL6.trans s7').trans sG2⟩
  rintro σ HX ⟨y12, y13, y14, rfl, sX⟩
  have k7X : Keep b H7 HX := (k78.trans k8L).trans (Keep.ofSame sX)
  have ShX : ∀ G, Keep b HX G → SqL K G hd (us.map V.int) ∨ SqT K G hd (us.map V.int) := fun G kG => by
    rcases Shd with z | z
    · exact .inl (SqL.of ((k7X.trans kG) _ _ z nhb))
    · exact .inr (.inl (.inl ((k7X.trans kG) _ _ z nhb)))
  have NX := NL.same sX
  have BX2 := BL.same sX
  refine ⟨_, rfl, _, rfl, _, rfl, rfl, rfl, Z, p, m, gs, nm, hd, us, n, rfl, NX, ShX _ (Keep.refl _ _), lu, by omega, by omega, by omega, ok, hmA, fun ys2 t2 G1 hp2' hs2' sG1 hR2 => ?_⟩
  dsimp only [gName]
  try simp only [L2.start, List.map_cons, List.map_nil, List.length_cons, List.length_nil, List.replicate_succ, List.replicate_zero, List.cons_append, List.nil_append, List.set_cons_succ, List.set_cons_zero, Nat.reduceAdd, Nat.reduceSub, Nat.zero_add]
  have lzs : zs.length = nm.length := lys
  have hz0 : zs[0]? = some (zs[0]'(by omega)) := List.getElem?_eq_getElem (by omega)
  have ht0 : ts[0]? = some (ts[0]'(by omega)) := List.getElem?_eq_getElem (by omega)
  obtain ⟨ws0, l0, hws0, nl0, eu0, el0⟩ := hts 0 _ _ ht0 hz0
  have at0 : atI (ts.map V.ref) 0 = some (.ref (ts[0]'(by omega))) := atI_nat (j := 0) (by rw [List.getElem?_map, ht0]; rfl)
  generalize ts[0]'(by omega) = u0 at *
  generalize zs[0]'(by omega) = y0 at *
  have nl0b : l0 ≠ b := fun z => by
    rw [z] at nl0
    exact B0.some nl0
  have nu0b : u0 ≠ b := fun z => by
    obtain ⟨_, _, _, eb, _⟩ := B8
    rw [z, eb] at eu0
    cases eu0
  have eT1 := sG1 _ _ (sX _ _ eTL)
  have eu1 := sG1 _ _ (sX _ _ (k8L _ _ eu0 nu0b))
  have el1 := sG1 _ _ (sX _ _ (k8L _ _ el0 nl0b))
  have lw0 : ws0.length ≤ 10 := (hm.2 _ hws0).1
  generalize hA0 : (ws0.map fun a => (rv (2 ^ n - 1) (us.map (· % 2 ^ n)) gs).getD a 0) = A0 at *
  have lA0 : A0.length ≤ 10 := by rw [← hA0, List.length_map]; exact lw0
  refine ⟨_, rfl, t, _, _, _, rfl, rfl, SqL.of eT1, at0, u0, _, _, _, rfl, rfl, .inl (.inl eu1), rfl, .inl ⟨rfl, _, SqL.of el1⟩, l0, _, _, rfl, rfl, el1, by rw [List.length_map]; exact big_lt (by omega), ?_⟩
  try simp only [L2.start, List.map_cons, List.map_nil, List.length_cons, List.length_nil, List.replicate_succ, List.replicate_zero, List.cons_append, List.nil_append, List.set_cons_succ, List.set_cons_zero, Nat.reduceAdd, Nat.reduceSub, Nat.zero_add]
  obtain ⟨nT2, ts2, lt2, eT2, hts2⟩ := hR2
  obtain rfl : zs = ys2 := (sortS_one hp2' hs2' hp hs).symm
  have nl0HX : HX l0 ≠ none := fun z => by
    rw [sX _ _ (k8L _ _ el0 nl0b)] at z
    cases z
  have nl2 : l0 ≠ t2 := fun z => nl0HX (by rw [z]; exact nT2)
  have nt2b : t2 ≠ b := fun z => by
    rw [z] at nT2
    exact BX2.some nT2
  have k0H0 : Keep b H H0 := k07.trans k8
  have nl0H : H l0 = none := keepN k0H0 nl0b nl0
  have k0X : Keep b H HX := k07.trans k7X
  have nt2H : H t2 = none := keepN k0X nt2b nT2
  have ht20 : ts2[0]? = some (ts2[0]'(by omega)) := List.getElem?_eq_getElem (by omega)
  have e2' : (upd G1 l0 (.lst (A0.map V.int ++ [.int 5]))) t2 = some (.lst (ts2.map V.ref)) := by
    rw [upd_ne nl2.symm]
    exact eT2
  have hlast : (ts2.map V.ref)[(ts2.map V.ref).length - 1]? = some (.ref (ts2[ts2.length - 1]'(by omega))) := by
    rw [List.length_map, List.getElem?_map, List.getElem?_eq_getElem (by omega)]
    rfl
  refine ⟨_, rfl, .inl ⟨rfl, _, SqL.of e2'⟩, t2, _, _, rfl, rfl, e2', hlast, ?_⟩
  have fC : ∀ (y : Addr) (o : HO), G1 y = some o → y ≠ l0 → y ≠ t2 → (upd (upd G1 l0 (.lst (A0.map V.int ++ [.int 5]))) t2 (.lst (ts2.map V.ref).dropLast)) y = some o := fun y o e n1 n2 => by
    rw [upd_ne n2, upd_ne n1]
    exact e
  have eC0 : (upd (upd G1 l0 (.lst (A0.map V.int ++ [.int 5]))) t2 (.lst (ts2.map V.ref).dropLast)) l0 = some (.lst (A0.map V.int ++ [.int 5])) := by
    rw [upd_ne nl2]
    exact upd_same
  generalize upd (upd G1 l0 (.lst (A0.map V.int ++ [.int 5]))) t2 (.lst (ts2.map V.ref).dropLast) = HC at *
  have k0G1 : Keep b H G1 := k0X.trans (Keep.ofSame sG1)
  have kC : Keep b H HC := fun y o e ny => fC y o (k0G1 _ _ e ny) (ne_of_none e nl0H) (ne_of_none e nt2H)
  have BC : BoxAt (c + 4030) HC b := by
    refine BoxAt.mono ((BX2.same sG1).at ?_) (by omega)
    obtain ⟨_, _, _, eb, _⟩ := BX2.same sG1
    rw [eb]
    exact fC _ _ eb nl0b.symm nt2b.symm
  have oldC : ∀ {y : Addr} {o : HO}, H7 y = some o → y ≠ b → HC y = some o := fun {y o} e ny => fC y o (sG1 _ _ (k7X _ _ e ny)) (fun z => by
    have := k8 _ _ e ny
    rw [z, nl0] at this
    cases this) (fun z => by
    have := k7X _ _ e ny
    rw [z, nT2] at this
    cases this)
  have ntl0 : t ≠ l0 := fun z => by
    rw [z, el0] at eT8
    have q8 := HO.lst.inj (Option.some.inj eT8)
    have h0 : (ts.map V.ref)[0]? = some (.ref u0) := by rw [List.getElem?_map, ht0]; rfl
    rw [← q8, List.getElem?_map] at h0
    cases hA : A0[0]? with
    | none => rw [hA] at h0; cases h0
    | some x => rw [hA] at h0; cases h0
  have nt2' : ∀ {y : Addr} {o : HO}, HX y = some o → y ≠ t2 := fun e z => by
    rw [z, nT2] at e
    cases e
  have eTC := fC _ _ eT1 ntl0 (nt2' (sX _ _ eTL))
  have nul : u0 ≠ l0 := fun z => by
    rw [z, el0] at eu0
    cases eu0
  have euC := fC _ _ eu1 nul (nt2' (sX _ _ (k8L _ _ eu0 nu0b)))
  have ShC : SqL K HC hd (us.map V.int) ∨ SqT K HC hd (us.map V.int) := by
    rcases Shd with z | z
    · exact .inl (SqL.of (oldC z nhb))
    · exact .inr (.inl (.inl (oldC z nhb)))
  have eVC := oldC eV7 nVb
  have NC := hN.keepB kC BC.some hbZ
  refine ⟨_, rfl, _, rfl, _, rfl, rfl, rfl, Z, p, m, gs, nm, hd, us, n, rfl, NC, ShC, lu, by omega, by omega, by omega, ok, hmA, fun ys3 t3 G2 hp3 hs3 sG2 hR3 => ?_⟩
  obtain ⟨nT3, ts3, lt3, eT3, hts3⟩ := hR3
  obtain rfl : zs = ys3 := (sortS_one hp3 hs3 hp hs).symm
  have ht30 : ts3[0]? = some (ts3[0]'(by omega)) := List.getElem?_eq_getElem (by omega)
  obtain ⟨ws3, l3, hws3, nl3, eu3, el3⟩ := hts3 0 _ _ ht30 hz0
  have at3 : atI (ts3.map V.ref) 0 = some (.ref (ts3[0]'(by omega))) := atI_nat (j := 0) (by rw [List.getElem?_map, ht30]; rfl)
  generalize ts3[0]'(by omega) = u3 at *
  have nd := (hD.2).elim fun _ h => h.2.2.1
  obtain rfl : ws0 = ws3 := (lkN_mem nd hws0).symm.trans (lkN_mem nd hws3)
  rw [hA0] at el3
  refine ⟨t3, _, _, _, rfl, rfl, SqL.of eT3, at3, u3, _, _, _, rfl, rfl, .inl (.inl eu3), rfl, ?_⟩
  refine ⟨_, rfl, t, _, _, _, rfl, rfl, SqL.of (sG2 _ _ eTC), at0, u0, _, _, _, rfl, rfl, .inl (.inl (sG2 _ _ euC)), rfl, ?_⟩
  refine ⟨1, rfl, _, rfl, l0, _, rfl, SqL.of (sG2 _ _ eC0), fun O3 nO3 => ?_⟩
  rw [cutI_last]
  have sO3 := same_upd (o := .lst (A0.map V.int)) nO3
  have eO3 : (upd G2 O3 (.lst (A0.map V.int))) O3 = some (.lst (A0.map V.int)) := upd_same
  have lvA : Lv 3 (.list (A0.map PyData.int)) := ⟨by rw [List.length_map]; omega, fun d hd => by
    obtain ⟨x, _, rfl⟩ := List.mem_map.mp hd
    exact True.intro⟩
  refine ⟨_, _, .list (A0.map PyData.int), 3, rfl, rfl, lvA, .lst (SqL.of (sO3 _ _ el3)) (dp_ints _), .lst (SqL.of eO3) (dp_ints _), fun G3 sG3 => ?_⟩
  refine ⟨_, rfl, ite2 (fun z => absurd z (by decide)) (fun _ => ?_)⟩
  have sC3 := (sG2.trans sO3).trans sG3
  have k03 := kC.trans (Keep.ofSame sC3)
  have B3' := BC.same sC3
  have eV3 := sC3 _ _ eVC
  refine ⟨_, rfl, _, rfl, _, rfl, rfl, rfl, Z, p, m, gs, nm, V0, us, n, rfl, hN.keepB k03 B3'.some hbZ, .inl (SqL.of eV3), lu, by omega, by omega, by omega, ok, hmA, fun _ _ G4 _ _ sG4 _ => ?_⟩
  have B4' := B3'.same sG4
  have eV4 := sG4 _ _ eV3
  have k04 := k03.trans (Keep.ofSame sG4)
  refine ⟨_, rfl, _, rfl, b, _, _, rfl, B4', by omega, by omega, by omega, by omega, by decide, fun ra H5 ua va B5' k5 => ?_⟩
  replace B5' := bx1 B5'
  have eV5' := k5 _ _ eV4 nVb
  have k05' := k04.trans k5
  dsimp only [gName]
  try simp only [L2.start, List.map_cons, List.map_nil, List.length_cons, List.length_nil, List.replicate_succ, List.replicate_zero, List.cons_append, List.nil_append, List.set_cons_succ, List.set_cons_zero, Nat.reduceAdd, Nat.reduceSub, Nat.zero_add]
  obtain ⟨ai, rfl⟩ : ∃ ai : Nat, ra = (ai : Int) := ⟨ra.toNat, by omega⟩
  have hai : ai < us.length := by omega
  have eai : us[ai]? = some us[ai] := List.getElem?_eq_getElem hai
  have atV : atI (us.map V.int) (ai : Int) = some (.int us[ai]) := atI_nat (by rw [List.getElem?_map, eai]; rfl)
  refine ⟨_, rfl, _, rfl, V0, _, _, _, rfl, rfl, SqL.of eV5', atV, _, rfl, n, rfl, rfl, by omega, _, _, rfl, rfl, _, _, rfl, rfl, _, rfl, _, rfl, V0, _, _, ai, rfl, rfl, eV5', ixN_nat (by rw [List.length_map]; exact hai), ?_⟩
  rw [← List.map_set]
  have lu' : (us.set ai (Builtin.bitXor us[ai] (2 ^ n - 1))).length = m := by rw [List.length_set, lu]
  generalize us.set ai (Builtin.bitXor us[ai] (2 ^ n - 1)) = us' at *
  have nVH : H V0 = none := keepN k13 nVb nV
  have k06 : Keep b H (upd H5 V0 (.lst (us'.map V.int))) := fun y o e ny => by
    rw [upd_ne (ne_of_none e nVH)]
    exact k05' _ _ e ny
  have eV6 : (upd H5 V0 (.lst (us'.map V.int))) V0 = some (.lst (us'.map V.int)) := upd_same
  have B6 := B5'.at (upd_ne nVb.symm (o := .lst (us'.map V.int)))
  generalize upd H5 V0 (.lst (us'.map V.int)) = H6 at *
  refine ⟨_, rfl, _, rfl, V0, rfl, ⟨_, SqL.of eV6⟩, fun V1 nV1 => ?_⟩
  refine lc_it (walk_list (K := K) (a := V0) (xs := us'.map V.int)) (fun i H3 => Same H6 H3 ∧ H3 V1 = some (.lst (((us'.map (· % 2)).take i).map V.int))) ⟨same_upd nV1, upd_same⟩ (fun i H3 _ ⟨s3, _⟩ => SqL.of (s3 _ _ eV6)) ?_ ?_
  · rintro i v H3 H4 hi ⟨s3, eV1⟩ ⟨rfl, hz⟩
    obtain ⟨x, hx, rfl⟩ := at_int46 hz
    refine ⟨rfl, yesT ?_⟩
    refine ⟨_, rfl, _, 1, rfl, rfl, ?_⟩
    refine ⟨_, eV1, ?_, fun y o e => ?_, ?_⟩
    · rw [List.length_map, List.length_take, List.length_map]
      exact Nat.lt_of_le_of_lt (Nat.min_le_right _ _) (small1000 (by omega))
    · rw [upd_ne (ne_of_none e nV1)]
      exact s3 _ _ e
    · rw [upd_same, List.take_add_one, List.getElem?_map, hx, List.map_append]
      rfl
  rintro H7' ⟨s7', eV1⟩
  rw [List.length_map, List.take_of_length_le (by rw [List.length_map]; exact Nat.le_refl _)] at eV1
  have z2 : z01 (us'.map (· % 2)) := fun v hv => by
    obtain ⟨u, _, rfl⟩ := List.mem_map.mp hv
    show u % 2 = 0 ∨ u % 2 = 1
    omega
  have l2 : (us'.map (· % 2)).length = m := by rw [List.length_map, lu']
  have k07' := k06.trans (Keep.ofSame s7')
  have B7' := B6.same s7'
  refine ⟨R, V1, gs, us'.map (· % 2), rfl, hR.keepB k07' hB, by rw [l2]; exact ok, SqL.of eV1, z2, by rw [l2]; omega, fun O H8' nO s8' eO => ?_⟩
  dsimp only [gName]
  try simp only [L2.start, List.map_cons, List.map_nil, List.length_cons, List.length_nil, List.replicate_succ, List.replicate_zero, List.cons_append, List.nil_append, List.set_cons_succ, List.set_cons_zero, Nat.reduceAdd, Nat.reduceSub, Nat.zero_add]
  have k08' := k07'.trans (Keep.ofSame s8')
  have B8' := B7'.same s8'
  have eV8' := s8' _ _ (s7' _ _ eV6)
  refine ⟨_, rfl, _, rfl, _, rfl, rfl, rfl, Z, p, m, gs, nm, V0, us', n, rfl, hN.keepB k08' B8'.some hbZ, .inl (SqL.of eV8'), lu', by omega, by omega, by omega, ok, hmA, fun ys9 t9 H9' hp9 hs9 s9' hR9 => ?_⟩
  obtain ⟨nT9, ts9, lt9, eT9', hts9'⟩ := hR9
  obtain rfl : zs = ys9 := (sortS_one hp9 hs9 hp hs).symm
  have lz9 : zs.length = nm.length := lys
  have ltz : ts9.length = zs.length := lt9
  refine ⟨t9, rfl, ⟨_, SqL.of eT9'⟩, fun U nU => ?_⟩
  refine lc_it (walk_list (K := K) (a := t9) (xs := ts9.map V.ref)) (fun j HP => ∃ ls : List Addr, ls.length = j ∧ Same H9' HP ∧ HP U = some (.lst (ls.map V.ref)) ∧ ∀ (i : Nat) (l : Addr) (y : Str), ls[i]? = some l → zs[i]? = some y → HP l = some (.lst (((lkN nm y).map fun a => (rv 1 (us'.map (· % 2)) gs).getD a 0).map V.int)) ∧ l ≠ U) ⟨[], rfl, same_upd nU, upd_same, fun i l y h => by simp at h⟩ (fun j HP _ ⟨_, _, sP, _⟩ => SqL.of (sP _ _ eT9')) ?_ ?_
  · rintro j v HP HQ hj ⟨ls, lls, sP, eU, hls⟩ ⟨rfl, hz⟩
    rw [List.getElem?_map] at hz
    rw [List.length_map] at hj
    rw [List.getElem?_eq_getElem hj] at hz
    cases hz
    have hy : zs[j]? = some (zs[j]'(by omega)) := List.getElem?_eq_getElem (by omega)
    generalize zs[j]'(by omega) = y at hy
    obtain ⟨ws, l, hws, _, eu, el⟩ := hts9' j _ _ (List.getElem?_eq_getElem hj) hy
    obtain rfl : ws = lkN nm y := (lkN_mem nd hws).symm
    have lw2 : (lkN nm y).length ≤ 10 := (hm.2 _ hws).1
    have eu' := sP _ _ eu
    have el' := sP _ _ el
    refine ⟨_, _, rfl, SqT.of eu', rfl, _, _, rfl, _, _, rfl, rfl, rfl, yesT ?_⟩
    try simp only [L2.start, List.map_cons, List.map_nil, List.length_cons, List.length_nil, List.replicate_succ, List.replicate_zero, List.cons_append, List.nil_append, List.set_cons_succ, List.set_cons_zero, Nat.reduceAdd, Nat.reduceSub, Nat.zero_add]
    refine ⟨_, rfl, l, rfl, ⟨_, SqL.of el'⟩, fun W nW => ?_⟩
    refine lc_it (walk_list (K := K) (a := l) (xs := ((lkN nm y).map fun a => (rv (2 ^ n - 1) (us'.map (· % 2 ^ n)) gs).getD a 0).map V.int)) (fun i H6 => Same HQ H6 ∧ H6 W = some (.lst ((((lkN nm y).map fun a => (rv 1 (us'.map (· % 2)) gs).getD a 0).take i).map V.int))) ⟨same_upd nW, upd_same⟩ (fun i H6 _ ⟨s6, _⟩ => SqL.of (s6 _ _ el')) ?_ ?_
    · rintro i v HZ H6 hi ⟨s6, eW⟩ ⟨rfl, hz⟩
      obtain ⟨x, hx, rfl⟩ := at_int46 hz
      rw [List.getElem?_map] at hx
      cases ha : (lkN nm y)[i]? with
      | none => rw [ha] at hx; cases hx
      | some a =>
        rw [ha] at hx
        cases hx
        refine ⟨rfl, yesT ?_⟩
        refine ⟨_, rfl, _, 1, rfl, rfl, ?_⟩
        refine ⟨_, eW, ?_, fun y u e => ?_, ?_⟩
        · rw [List.length_map, List.length_take, List.length_map]
          exact Nat.lt_of_le_of_lt (Nat.min_le_right _ _) (small1000 (by omega))
        · rw [upd_ne (ne_of_none e nW)]
          exact s6 _ _ e
        · rw [upd_same, List.take_add_one, List.getElem?_map, ha, List.map_append]
          show some (HO.lst (_ ++ [V.int ((rv (2 ^ n - 1) (us'.map (· % 2 ^ n)) gs).getD a 0 % 2)])) = _
          rw [rs_bit0 (n := n) (by omega)]
          rfl
    rintro H6 ⟨s6, eW⟩
    rw [List.length_map, List.length_map, List.take_of_length_le (by rw [List.length_map]; exact Nat.le_refl _)] at eW
    have nWU : W ≠ U := fun z => by rw [z, eU] at nW; cases nW
    refine ⟨_, s6 _ _ eU, by rw [List.length_map, lls]; exact big_lt (by omega), ls ++ [W], by rw [List.length_append, lls]; rfl, fun a o e => ?_, by rw [upd_same, List.map_append]; rfl, fun i' l' y' h1 h2 => ?_⟩
    · rw [upd_ne (ne_of_none e nU)]
      exact s6 _ _ (sP _ _ e)
    · by_cases c : i' < ls.length
      · rw [List.getElem?_append_left c] at h1
        obtain ⟨q3, nlU⟩ := hls i' l' y' h1 h2
        exact ⟨by rw [upd_ne nlU]; exact s6 _ _ q3, nlU⟩
      · have i0 : i' = ls.length := by
          have := (List.getElem?_eq_some_iff.mp h1).1
          rw [List.length_append, List.length_cons, List.length_nil] at this
          omega
        rw [List.getElem?_append_right (by omega), i0, Nat.sub_self] at h1
        rw [i0, lls, hy] at h2
        cases h1
        cases h2
        exact ⟨by rw [upd_ne nWU]; exact eW, nWU⟩
  rintro HP ⟨ls, lls, sP, eU, hls⟩
  rw [List.length_map] at lls
  have k9P := (k08'.trans (Keep.ofSame s9')).trans (Keep.ofSame sP)
  have BP := (B8'.same s9').same sP
  have eOP := sP _ _ (s9' _ _ eO)
  obtain ⟨kvs5, ed5, keys5, dg5⟩ := (hD.keepB k9P BP.some (by simp)).keys
  dsimp only [gName]
  try simp only [L2.start, List.map_cons, List.map_nil, List.length_cons, List.length_nil, List.replicate_succ, List.replicate_zero, List.cons_append, List.nil_append, List.set_cons_succ, List.set_cons_zero, Nat.reduceAdd, Nat.reduceSub, Nat.zero_add]
  refine ⟨_, rfl, _, rfl, d, kvs5, nm.map (·.1), rfl, .of ed5, keys5, by rw [List.length_map]; omega, fun zs' p5 hp5 hs5 np5 => ?_⟩
  obtain rfl : zs = zs' := (sortS_one hp5 hs5 hp hs).symm
  have s5 := same_upd (o := .lst (zs.map V.str)) np5
  have e5 : (upd HP p5 (.lst (zs.map V.str))) p5 = some (.lst (zs.map V.str)) := upd_same
  have eO5 := s5 _ _ eOP
  generalize upd HP p5 (.lst (zs.map V.str)) = H5' at *
  refine ⟨p5, rfl, ⟨_, SqL.of e5⟩, fun U2 nU2 => ?_⟩
  refine lc_it (walk_list (K := K) (a := p5) (xs := zs.map V.str)) (fun j H9 => ∃ ls5 : List Addr, ls5.length = j ∧ Same H5' H9 ∧ H9 U2 = some (.lst (ls5.map V.ref)) ∧ ∀ (i : Nat) (l : Addr) (y : Str), ls5[i]? = some l → zs[i]? = some y → H9 l = some (.lst (((lkN nm y).map fun a => (rv 1 (us'.map (· % 2)) gs).getD a 0).map V.int)) ∧ l ≠ U2) ⟨[], rfl, same_upd nU2, upd_same, fun i l y h => by simp at h⟩ (fun j H9 _ ⟨_, _, s9, _⟩ => SqL.of (s9 _ _ e5)) ?_ ?_
  · rintro j v H10 H9 hj ⟨ls5, lls5, s9, eU2, hls5⟩ ⟨rfl, hz⟩
    replace hz : (zs.map V.str)[j]? = some v := hz
    rw [List.length_map] at hj
    rw [List.getElem?_map, List.getElem?_eq_getElem hj] at hz
    have hy : zs[j]? = some zs[j] := List.getElem?_eq_getElem hj
    cases hz
    generalize zs[j] = y at *
    obtain ⟨l, ev, _, _, el, hmem⟩ := dg5 y (hp.mem_iff.mp (List.mem_of_getElem? hy))
    dsimp only [gName]
    refine ⟨rfl, yesT ?_⟩
    try simp only [L2.start, List.map_cons, List.map_nil, List.length_cons, List.length_nil, List.replicate_succ, List.replicate_zero, List.cons_append, List.nil_append, List.set_cons_succ, List.set_cons_zero, Nat.reduceAdd, Nat.reduceSub, Nat.zero_add]
    have ev' : DGet H9 d (.str y) (some (.ref l)) := by
      rw [← ev]
      exact DGet.k (k := .inr y) (s9 _ _ (s5 _ _ ed5))
    have el9 := s9 _ _ (s5 _ _ el)
    have eO9 := s9 _ _ eO5
    have lw := hm.2 _ hmem
    have lw2 : (lkN nm y).length ≤ 10 := lw.1
    refine ⟨_, rfl, _, rfl, d, .ref l, rfl, ev', l, rfl, ⟨_, SqL.of el9⟩, fun W nW => ?_⟩
    refine lc_it (walk_list (K := K) (a := l) (xs := nts (lkN nm y))) (fun i H6 => Same H9 H6 ∧ H6 W = some (.lst ((((lkN nm y).map fun a => (rv 1 (us'.map (· % 2)) gs).getD a 0).take i).map V.int))) ⟨same_upd nW, upd_same⟩ (fun i H6 _ ⟨s6, _⟩ => SqL.of (s6 _ _ el9)) ?_ ?_
    · rintro i v H7 H6 hi ⟨s6, eW⟩ ⟨rfl, hz⟩
      obtain ⟨a, ha, rfl⟩ := nts_at hz
      have la := lw.2 a (List.mem_of_getElem? ha)
      refine ⟨rfl, yesT ?_⟩
      refine ⟨_, rfl, _, rfl, O, _, _, _, rfl, rfl, SqL.of (s6 _ _ eO9), at_getD (by rw [rv_len, l2]; exact la), ?_⟩
      refine ⟨_, eW, ?_, fun y u e => ?_, ?_⟩
      · rw [List.length_map, List.length_take, List.length_map]
        exact Nat.lt_of_le_of_lt (Nat.min_le_right _ _) (small1000 (by omega))
      · rw [upd_ne (ne_of_none e nW)]
        exact s6 _ _ e
      · rw [upd_same, List.take_add_one, List.getElem?_map, ha, List.map_append]
        rfl
    rintro H6 ⟨s6, eW⟩
    rw [nts_len, List.take_of_length_le (by rw [List.length_map]; exact Nat.le_refl _)] at eW
    have nWU : W ≠ U2 := fun z => by rw [z, eU2] at nW; cases nW
    refine ⟨_, s6 _ _ eU2, by rw [List.length_map, lls5]; exact big_lt (by omega), ls5 ++ [W], by rw [List.length_append, lls5]; rfl, fun a o e => ?_, by rw [upd_same, List.map_append]; rfl, fun i' l' y' h1 h2 => ?_⟩
    · rw [upd_ne (ne_of_none e nU2)]
      exact s6 _ _ (s9 _ _ e)
    · by_cases c : i' < ls5.length
      · rw [List.getElem?_append_left c] at h1
        obtain ⟨q3, nlU⟩ := hls5 i' l' y' h1 h2
        exact ⟨by rw [upd_ne nlU]; exact s6 _ _ q3, nlU⟩
      · have i0 : i' = ls5.length := by
          have := (List.getElem?_eq_some_iff.mp h1).1
          rw [List.length_append, List.length_cons, List.length_nil] at this
          omega
        rw [List.getElem?_append_right (by omega), i0, Nat.sub_self] at h1
        rw [i0, lls5, hy] at h2
        cases h1
        cases h2
        exact ⟨by rw [upd_ne nWU]; exact eW, nWU⟩
  rintro H7 ⟨ls5, lls5, s7, eU2, hls5⟩
  rw [List.length_map] at lls5
  have eU7 := s7 _ _ (s5 _ _ eU)
  have k07 := ((k9P.trans (Keep.ofSame s5)).trans (Keep.ofSame s7))
  have B07 := (BP.same s5).same s7
  refine ⟨_, _, .lst (SqL.of eU7) (dpa_ls (fun y => ((lkN nm y).map fun a => (rv 1 (us'.map (· % 2)) gs).getD a 0)) ls zs (by omega) fun i l y h1 h2 => s7 _ _ (s5 _ _ (hls i l y h1 h2).1)), .lst (SqL.of eU2) (dpa_ls (fun y => ((lkN nm y).map fun a => (rv 1 (us'.map (· % 2)) gs).getD a 0)) ls5 zs (by omega) fun i l y h1 h2 => (hls5 i l y h1 h2).1), (sd_ls _ _).sh (by decide), (sd_ls _ _).sh (by decide), ?_⟩
  rw [(sd_ls _ _).self]
  exact q _ k07 (BoxAt.mono B07 (by omega))
end
section
variable {P : Program} {w : World} {K : PySem.W.Frag} {mg : Str → Option Value} {base : Heap}
variable {C : Addr} {za : Nat → Addr} {zl : Nat → FuncData}
theorem memL {α : Type} {P : α → Prop} {a : α} {l : List α} (h : P a) (t : ∀ x ∈ l, P x) : ∀ x ∈ a :: l, P x := fun x hx => by
  rcases List.mem_cons.mp hx with z | z
  · rw [z]
    exact h
  · exact t x z
theorem NetAt.more {C : Addr} {Z S Y Z' : List Addr} {H H' : Hp} {p : NetP} {m : Nat} {gs : List Gt} {nm : List (Str × List Nat)} (h : NetAt C Z H p m gs nm) (k : KeepS S H H') (hS : ∀ y ∈ S, y ∈ Z) (hY : ∀ y ∈ Y, H y = none ∧ H' y ≠ none) (hZ : ∀ z ∈ Z', z ∈ Z ∨ z ∈ Y) : NetAt C Z' H' p m gs nm := by
  have hh := h.keep k hS
  obtain ⟨a, b, ⟨c1, c2, c3, c4⟩, dx, ps, kvs, e1, e2, e3, e4, ⟨g1, g2⟩, n1, n2, n3⟩ := h
  obtain ⟨a', _, _, _⟩ := hh
  have no : ∀ {y : Addr} {o : HO}, y ∉ Z → H y = some o → y ∉ Z' := fun n e z => by
    rcases hZ _ z with w | w
    · exact n w
    · rw [(hY _ w).1] at e
      cases e
  have f : ∀ {y : Addr} {o : HO}, y ∉ Z → H y = some o → H' y = some o := fun n e => k.1 _ _ e (fun z => n (hS _ z))
  refine ⟨fun z hz => (hZ z hz).elim (a' z) (fun w => (hY z w).2), b, ⟨no c1 e1, no c2 e2, no c3 e3, no c4 e4⟩, dx, ps, kvs, f c1 e1, f c2 e2, f c3 e3, f c4 e4, ⟨g1, fun i q g hi hg => ?_⟩, n1, n2, fun i k' v n ws hi hn => ?_⟩
  · obtain ⟨x1, x2⟩ := g2 i q g hi hg
    exact ⟨no x1 x2, f x1 x2⟩
  · obtain ⟨ek, l, ev, l1, l2, l3, l4⟩ := n3 i k' v n ws hi hn
    exact ⟨ek, l, ev, no l1 l4, l2, l3, f l1 l4⟩
theorem DlAt.more {Z S Y Z' : List Addr} {H H' : Hp} {d : Addr} {nm : List (Str × List Nat)} (h : DlAt Z H d nm) (k : KeepS S H H') (hS : ∀ y ∈ S, y ∈ Z) (hY : ∀ y ∈ Y, H y = none) (hZ : ∀ z ∈ Z', z ∈ Z ∨ z ∈ Y) : DlAt Z' H' d nm := by
  obtain ⟨a, kvs, e, l, nd, f⟩ := h
  have no : ∀ {y : Addr} {o : HO}, y ∉ Z → H y = some o → y ∉ Z' := fun n e z => by
    rcases hZ _ z with w | w
    · exact n w
    · rw [hY _ w] at e
      cases e
  refine ⟨no a e, kvs, k.1 _ _ e (fun z => a (hS _ z)), l, nd, fun i k' v n ws hi hn => ?_⟩
  obtain ⟨ek, l', ev, m1, m2, m3⟩ := f i k' v n ws hi hn
  exact ⟨ek, l', ev, no m1 m3, m2, k.1 _ _ m3 (fun z => m1 (hS _ z))⟩
theorem DlAt.out {S : List Addr} {H : Hp} {d : Addr} {nm : List (Str × List Nat)} {kvs : List (Key × V)} {y : Str} (h : DlAt S H d nm) (e : H d = some (.dK kvs)) (hy : y ∉ nm.map (·.1)) : valV kvs (.inr y) = none := by
  obtain ⟨a, kvs', e', l, nd, f⟩ := h
  rw [e] at e'
  cases e'
  have N : NmAt [] H ⟨d, d, d, d⟩ kvs nm := ⟨l, nd, fun i k v n ws hi hn => by
    obtain ⟨ek, l', ev, m1, m2, m3⟩ := f i k v n ws hi hn
    exact ⟨ek, l', ev, (fun z => nomatch z), m2, m2, m3⟩⟩
  exact N.out hy
theorem DlAt.one {S : List Addr} {H : Hp} {d l : Addr} {nm : List (Str × List Nat)} {kvs : List (Key × V)} {y : Str} {ws : List Nat} (h : DlAt S H d nm) (e : H d = some (.dK kvs)) (hy : y ∉ nm.map (·.1)) (hl : l ∉ S) (ld : l ≠ d) (el : H l = some (.lst (nts ws))) : DlAt S (upd H d (.dK (putK kvs (.inr y) (.ref l)))) d (nm ++ [(y, ws)]) := by
  have out := h.out e hy
  obtain ⟨a, kvs', e', lk, nd, f⟩ := h
  rw [e] at e'
  cases e'
  rw [putK_new _ out]
  refine ⟨a, _, upd_same, by rw [List.length_append, List.length_append, lk]; rfl, ?_, fun i k v n' ws' hi hn => ?_⟩
  · rw [List.map_append, List.nodup_append]
    refine ⟨nd, by simp, fun a ha b hb' e => ?_⟩
    have hb' : b = y := by simpa using hb'
    rw [hb'] at e
    exact hy (e ▸ ha)
  · by_cases c : i < kvs.length
    · rw [List.getElem?_append_left c] at hi
      rw [List.getElem?_append_left (by rw [← lk]; exact c)] at hn
      obtain ⟨ek, l', ev, m1, m2, m3⟩ := f i k v n' ws' hi hn
      exact ⟨ek, l', ev, m1, m2, by rw [upd_ne m2]; exact m3⟩
    · have i0 : i = kvs.length := by
        have := (List.getElem?_eq_some_iff.mp hi).1
        rw [List.length_append, List.length_cons, List.length_nil] at this
        omega
      rw [List.getElem?_append_right (by omega), i0, Nat.sub_self] at hi
      rw [List.getElem?_append_right (by rw [i0, lk]; exact Nat.le_refl _), i0, lk, Nat.sub_self] at hn
      cases hi
      cases hn
      exact ⟨rfl, l, rfl, hl, ld, by rw [upd_ne ld]; exact el⟩
theorem KeepS.ext {S0 S : List Addr} {H0 H H' : Hp} (k : KeepS S0 H0 H) (e : KeepS S H H') (h : ∀ y ∈ S, y ∈ S0 ∨ H0 y = none) : KeepS S0 H0 H' := ⟨fun y o ey n => e.1 _ _ (k.1 _ _ ey n) (fun z => (h y z).elim n (fun w => by rw [w] at ey; cases ey)), fun y ey => e.2 y (k.2 y ey)⟩
theorem NetAt.four {C : Addr} {Z : List Addr} {H : Hp} {p : NetP} {m : Nat} {gs : List Gt} {nm : List (Str × List Nat)} (h : NetAt C Z H p m gs nm) : ∀ y ∈ [p.x, p.lm, p.ld, p.dn], H y ≠ none ∧ ∀ xs, H y ≠ some (.tup xs) := fun y hy => by
  obtain ⟨_, _, _, _, _, _, e1, e2, e3, e4, _⟩ := h
  simp only [List.mem_cons, List.not_mem_nil, or_false] at hy
  rcases hy with z | z | z | z <;> rw [z]
  · exact ⟨some_ne e1, fun xs w => by rw [e1] at w; cases w⟩
  · exact ⟨some_ne e2, fun xs w => by rw [e2] at w; cases w⟩
  · exact ⟨some_ne e3, fun xs w => by rw [e3] at w; cases w⟩
  · exact ⟨some_ne e4, fun xs w => by rw [e4] at w; cases w⟩
theorem NetAt.sub {C : Addr} {Z Z' : List Addr} {H : Hp} {p : NetP} {m : Nat} {gs : List Gt} {nm : List (Str × List Nat)} (h : NetAt C Z H p m gs nm) (hZ : ∀ z ∈ Z', z ∈ Z) : NetAt C Z' H p m gs nm := h.more (S := []) (Y := []) (KeepS.refl _ _) (fun _ z => nomatch z) (fun _ z => nomatch z) (fun z hz => .inl (hZ z hz))
/-! ### a list sorted, one name taken out -/
theorem pwS (l : List Str) (h : sortedS l = true) : l.Pairwise fun x y => x.cps.toList ≤ y.cps.toList := by
  cases l with
  | nil => exact .nil
  | cons x r => exact rise_pw r x h
theorem sort_less {zs ys ns : List Str} {q : Str} (hz : zs.Perm (ns ++ [q])) (sz : sortedS zs = true) (hy : ys.Perm ns) (sy : sortedS ys = true) (hq : q ∉ ns) : zs.filter (fun y => decide (y ≠ q)) = ys := by
  have e : (ns ++ [q]).filter (fun y => decide (y ≠ q)) = ns := by
    rw [List.filter_append]
    have e1 : ns.filter (fun y => decide (y ≠ q)) = ns := List.filter_eq_self.mpr fun a ha => decide_eq_true (fun z => hq (by rw [← z]; exact ha))
    have e2 : [q].filter (fun y => decide (y ≠ q)) = [] := by
      simp
    rw [e1, e2, List.append_nil]
  have hp : (zs.filter (fun y => decide (y ≠ q))).Perm ys := by
    have := hz.filter (fun y => decide (y ≠ q))
    rw [e] at this
    exact this.trans hy.symm
  refine List.Perm.eq_of_pairwise (le := fun x y : Str => x.cps.toList ≤ y.cps.toList) (fun x y _ _ a b => ?_) ((pwS _ sz).filter _) (pwS _ sy) hp
  have e := List.le_antisymm a b
  cases x
  cases y
  congr 1
  exact Array.toList_inj.mp e
def selP (q : Str) (ps : List (Addr × Str)) : List (Addr × Str) := ps.filter fun x => decide (x.2 ≠ q)
theorem selP_snd {q : Str} {ts : List Addr} {zs : List Str} (l : ts.length = zs.length) : (selP q (ts.zip zs)).map (·.2) = zs.filter (fun y => decide (y ≠ q)) := by
  unfold selP
  have e : zs = (ts.zip zs).map (·.2) := (List.map_snd_zip (by omega)).symm
  conv => rhs; rw [e]
  rw [List.filter_map]
  rfl
theorem selP_at {q : Str} {ts : List Addr} {zs ys : List Str} (l : ts.length = zs.length) (e : zs.filter (fun y => decide (y ≠ q)) = ys) {i : Nat} {u : Addr} {y : Str} (h1 : ((selP q (ts.zip zs)).map (·.1))[i]? = some u) (h2 : ys[i]? = some y) : ∃ j : Nat, ts[j]? = some u ∧ zs[j]? = some y := by
  rw [← e, ← selP_snd l] at h2
  rw [List.getElem?_map] at h1 h2
  cases h : (selP q (ts.zip zs))[i]? with
  | none => rw [h] at h1; cases h1
  | some x =>
    rw [h] at h1 h2
    cases h1
    cases h2
    have m := (List.mem_filter.mp (List.mem_of_getElem? h)).1
    obtain ⟨j, hj⟩ := List.mem_iff_getElem?.mp m
    have := List.getElem?_zip_eq_some.mp hj
    exact ⟨j, this.1, this.2⟩
theorem selP_len {q : Str} {ts : List Addr} {zs ys : List Str} (l : ts.length = zs.length) (e : zs.filter (fun y => decide (y ≠ q)) = ys) : ((selP q (ts.zip zs)).map (·.1)).length = ys.length := by
  rw [← e, ← selP_snd l, List.length_map, List.length_map]
theorem getD_app {xs : List Int} {x : Int} {a : Nat} (h : a < xs.length) : (xs ++ [x]).getD a 0 = xs.getD a 0 := by
  simp only [List.getD, List.getElem?_append_left h]
theorem DlAt.copy {S : List Addr} {H : Hp} {d d2 : Addr} {nm : List (Str × List Nat)} {kvs : List (Key × V)} (h : DlAt S H d nm) (e : H d = some (.dK kvs)) (n : H d2 = none) (hS : ∀ s ∈ S, H s ≠ none) : DlAt S (upd H d2 (.dK kvs)) d2 nm := by
  obtain ⟨a, kvs', e', lk, nd, f⟩ := h
  rw [e] at e'
  cases e'
  refine ⟨fun z => hS _ z n, kvs, upd_same, lk, nd, fun i k v n' ws' hi hn => ?_⟩
  obtain ⟨ek, l', ev, m1, m2, m3⟩ := f i k v n' ws' hi hn
  have nl : l' ≠ d2 := fun z => by rw [z, n] at m3; cases m3
  exact ⟨ek, l', ev, m1, nl, by rw [upd_ne nl]; exact m3⟩
theorem KeepS.tup {S : List Addr} {H H' : Hp} {y : Addr} {xs : List V} (k : KeepS S H H') (hS : ∀ y ∈ S, ∀ xs, H y ≠ some (.tup xs)) (e : H y = some (.tup xs)) : H' y = some (.tup xs) := k.1 _ _ e (fun z => hS y z xs e)
theorem RowsAt46.snoc {H : Hp} {R2 t : Addr} {gs : List Gt} {g : Gt} {ts : List Addr} (l : ts.length = gs.length) (f : ∀ (i : Nat) (t : Addr) (g : Gt), ts[i]? = some t → gs[i]? = some g → H t = some (.tup g.row)) (et : H t = some (.tup g.row)) (nR : H R2 = none) : RowsAt46 (upd H R2 (.lst (ts.map V.ref ++ [.ref t]))) R2 (gs ++ [g]) := ⟨ts ++ [t], by rw [List.length_append, List.length_append, l]; rfl, by rw [upd_same, List.map_append]; rfl, fun i t' g' hi hg => by
  have e : H t' = some (.tup g'.row) := by
    by_cases c : i < ts.length
    · rw [List.getElem?_append_left c] at hi
      rw [List.getElem?_append_left (by omega)] at hg
      exact f i t' g' hi hg
    · have i0 : i = ts.length := by
        have := (List.getElem?_eq_some_iff.mp hi).1
        rw [List.length_append, List.length_cons, List.length_nil] at this
        omega
      rw [List.getElem?_append_right (by omega), i0, Nat.sub_self] at hi
      rw [List.getElem?_append_right (by omega), i0, l, Nat.sub_self] at hg
      cases hi
      cases hg
      exact et
  rw [upd_ne (ne_of_none e nR)]
  exact e⟩
def spMoreR (C : Addr) : Sp := fun vs H Q _ => ∃ (Z : List Addr) (p : NetP) (b R d : Addr) (c : Int) (m : Nat) (gs : List Gt) (nm : List (Str × List Nat)), vs = [.ref b, .ref p.x, .ref R, .ref d, .int (m : Int)] ∧ NetAt C Z H p m gs nm ∧ b ∈ Z ∧ R ∈ Z ∧ BoxAt c H b ∧ c ≤ 900000000 ∧ RowsAt46 H R gs ∧ GsOk m gs ∧ DlAt [b, p.lm, p.ld, p.dn] H d nm ∧ NmOk (m + gs.length) nm ∧ (∀ x ∈ nm, PyData.strOk x.1 = true ∧ x.1.cps.toList.head? ≠ some 113) ∧ 1 ≤ m ∧ m ≤ 12 ∧ gs.length ≤ 100 ∧
  ∀ H', KeepS [b, p.lm, p.ld, p.dn] H H' → BoxAt (c + 10) H' b → Q (.bl true) H'
theorem ok__law_more_right (B : Bl mg) (L : LL K mg C za zl base) : FnOk P w K mg base CX0 6 (za 16) (zl 16) ["_law_box_here", "_law_net", "_law_rows", "_law_lists", "_law_inputs"] (spMoreR C) := by
  have G__law_take : FnOk P w K mg base CX0 5 (za 6) (zl 6) ["_law_box_here", "_law_size"] (spTake 1) := (ok_take L.F__law_take L.b__law_take L.m__law_take B 1).mono (by decide)
  have G__law_bits : FnOk P w K mg base CX0 5 (za 11) (zl 11) ["_law_rows", "_law_bits_here"] (spBits K) := (ok__law_bits B L).mono (by decide)
  have G__law_number : FnOk P w K mg base CX0 5 (za 12) (zl 12) ["_law_bits_here"] (spNumb K) := (ok__law_number B L).mono (by decide)
  have G_one_case : FnOk P w K mg base CX0 5 (za 4) (zl 4) ["net", "word"] (spOneC C) := (ok_one_case B L).mono (by decide)
  have G_ran : FnOk P w K mg base CX0 5 (za 2) (zl 2) ["net", "values", "many"] (spRan K C) := (ok_ran B L).mono (by decide)
  have G_Net_give : FnOk P w K mg base CX0 5 (za 26) (zl 26) ["self", "name", "wires"] (spGive K C) := (ok_Net_give B L).mono (by decide)
  have G_Net_other : FnOk P w K mg base CX0 5 (za 21) (zl 21) ["self", "a"] (spG1 C) := (ok_Net_other B L).mono (by decide)
  have G__law_same : FnOk P w K mg base CX0 5 (za 7) (zl 7) ["_law_found", "_law_due"] (spSame K 3) := (ok_same L.F__law_same L.b__law_same L.m__law_same B 3).mono (by decide)
  refine L.F__law_more_right.ok sc__law_more_right (fun vs H Q E h => ?_) (fun cdv A outer s H vs Q E hr h => ?_)
  · obtain ⟨Z, p, b, R, d, c, m, gs, nm, rfl, _⟩ := h
    rfl
  obtain ⟨Z, p, b, R, d, c, m, gs, nm, rfl, hN, hbZ, hRZ, hB, hc, hR, ok, hD, hm, hT, m1, m12, hg, q⟩ := h
  refine ⟨_, (pss_cons (ps_set (i := 5) sc__law_more_right.nd rfl (.inr rfl) (pe_call G__law_take hr (by rfl) L.m__law_take L.F__law_take.kp L.b__law_take .nil pass0 (pa_cons (pv 0) (pa_cons (pe_op op_oneShl pe_int (pv 4)) pa_nil))))
    (pss_cons (ps_setLc (i := 6) (own := [("_law_at", 11)]) (by rfl) sc__law_more_right.nd rfl rfl (sw_true rfl rfl rfl (by decide +kernel)) (pi_range1 (by rfl) B.range (pa_cons (pv 4) pa_nil)) (blkOk_by (own := [("_law_at", 11)]) (N := ["_law_box_here", "_law_net", "_law_rows", "_law_lists", "_law_inputs", "_law_word", "_law_values_here", "_law_told", "_law_own", "_law_lists_too", "_law_due", "_law_at", "_law_name", "_law_wire", "_law_row"]) (sc := defScope s__law_more_right) (by decide +kernel)) (fun _ _ _ _ _ => pg_name (i := 11) sc__law_more_right.nd rfl (Or.inl rfl)) (fun _ _ _ _ _ => pts_nil) (fun _ _ _ _ _ => (pe_op op_andM (pe_op op_shrN (pv 5) (pe_op op_sub (pe_op op_sub (pv 4) pe_int) (pv 11))) pe_int)))
    (pss_cons (ps_set (i := 7) sc__law_more_right.nd rfl (.inl rfl) (pe_lst (pa_cons (pe_call G_one_case hr (by rfl) L.m_one_case L.F_one_case.kp L.b_one_case .nil pass0 (pa_cons (pv 1) (pa_cons (pv 5) pa_nil))) (pa_cons (pe_call G_ran hr (by rfl) L.m_ran L.F_ran.kp (L.kb_ran).choose_spec.2 (L.kb_ran).choose_spec.1 pass0 (pa_cons (pv 1) (pa_cons (pv 6) pa_nil))) pa_nil))))
    (pss_cons (ps_expr (pe_meth (pv 1) L.T.cl L.M_Net_give G_Net_give hr L.b_Net_give .nil pass0 (pa_cons pe_str (pa_cons (pe_lst (pa_cons (pe_meth (pv 1) L.T.cl L.M_Net_other G_Net_other hr L.b_Net_other .nil pass0 (pa_cons pe_int pa_nil)) (pa_cons pe_int pa_nil))) pa_nil))))
    (pss_cons (ps_asg (pe_tup (pa_cons (pe_call G__law_bits hr (by rfl) L.m__law_bits L.F__law_bits.kp L.b__law_bits .nil pass0 (pa_cons (pe_op op_cat (pv 2) (pe_lst (pa_cons (pe_tup (pa_cons pe_str (pa_cons pe_int pa_nil))) pa_nil))) (pa_cons (pv 6) pa_nil))) (pa_cons (pe_callTy call_dictD (by rfl) L.z_dict PyProof.Rows.boot_dict (pa_cons (pv 3) pa_nil)) pa_nil))) (pg_tup (by rfl) (pgs_cons (pg_name (i := 8) sc__law_more_right.nd rfl (.inr rfl)) (pgs_cons (pg_name (i := 9) sc__law_more_right.nd rfl (.inr rfl)) pgs_nil))))
    (pss_cons (ps_asg (pe_lst (pa_cons (pe_op op_add (pv 4) (pe_callB call_len_seq (by rfl) B.len PySem.boot_len (pa_cons (pv 2) pa_nil))) (pa_cons pe_int pa_nil))) (pg_sub (pv 9) pe_str (set_dict (units1 hr))))
    (pss_cons (ps_setLc (i := 10) (own := [("_law_name", 12)]) (by rfl) sc__law_more_right.nd rfl rfl (sw_true rfl rfl rfl (by decide +kernel)) (pi_list (pe_callB (call_sortedD rfl) (by rfl) L.z_sorted boot_sorted (pa_cons (pv 9) pa_nil))) (blkOk_by (own := [("_law_name", 12)]) (N := ["_law_box_here", "_law_net", "_law_rows", "_law_lists", "_law_inputs", "_law_word", "_law_values_here", "_law_told", "_law_own", "_law_lists_too", "_law_due", "_law_at", "_law_name", "_law_wire", "_law_row"]) (sc := defScope s__law_more_right) (by decide +kernel)) (fun _ _ _ _ _ => pg_name (i := 12) sc__law_more_right.nd rfl (Or.inl rfl)) (fun _ _ _ _ _ => pts_nil) (fun _ _ _ _ _ => (pe_tup (pa_cons (pv 12) (pa_cons (pe_call G__law_number hr (by rfl) L.m__law_number L.F__law_number.kp L.b__law_number .nil pass0 (pa_cons (pe_lc (own := [("_law_wire", 13)]) (by rfl) sc__law_more_right.nd (pi_listK (K := K) (pe_dget (units1 hr) (pv 9) (pv 12) (fun _ _ => rfl))) (blkOk_by (own := [("_law_wire", 13)]) (N := ["_law_box_here", "_law_net", "_law_rows", "_law_lists", "_law_inputs", "_law_word", "_law_values_here", "_law_told", "_law_own", "_law_lists_too", "_law_due", "_law_at", "_law_name", "_law_wire", "_law_row"]) (sc := ({ kind := ScopeKind.function, names := [(".0", NameKind.local), ("_law_name", NameKind.local), ("_law_number", NameKind.globalImplicit), ("_law_lists_too", NameKind.cell), ("_law_own", NameKind.cell)], isGenerator := false, isCoroutine := false } : Scope)) (by decide +kernel)) (fun _ _ _ _ _ => pg_name (i := 13) sc__law_more_right.nd rfl (Or.inl rfl)) (fun _ _ _ _ _ => pts_nil) (fun _ _ _ _ _ => (pe_ix (ix_listK (K := K)) (pv 8) (pv 13) (fun _ _ => rfl)))) pa_nil)) pa_nil)))))
    (pss_cons (ps_if (PW.pt (pw_or (pt_not (pt_val (pe_call G__law_same hr (by rfl) L.m__law_same L.F__law_same.kp L.b__law_same .nil pass0 (pa_cons (pe_call G_one_case hr (by rfl) L.m_one_case L.F_one_case.kp L.b_one_case .nil pass0 (pa_cons (pv 1) (pa_cons (pv 5) pa_nil))) (pa_cons (pv 10) pa_nil))))) (pw_or1 (pt_cmpR (op_neD hr.units) (pe_lc (own := [("_law_row", 14)]) (by rfl) sc__law_more_right.nd (pi_list (pv 10)) (blkOk_by (own := [("_law_row", 14)]) (N := ["_law_box_here", "_law_net", "_law_rows", "_law_lists", "_law_inputs", "_law_word", "_law_values_here", "_law_told", "_law_own", "_law_lists_too", "_law_due", "_law_at", "_law_name", "_law_wire", "_law_row"]) (sc := defScope s__law_more_right) (by decide +kernel)) (fun _ _ _ _ _ => pg_name (i := 14) sc__law_more_right.nd rfl (Or.inl rfl)) (fun _ _ _ _ _ => pts_one (pt_cmpR op_ne (pe_ix (ix_tupK (K := K)) (pv 14) pe_int (fun _ _ => rfl)) pe_str (nomark _))) (fun _ _ _ _ _ => (pv 14))) (pe_ix ix_list (pv 7) pe_int (fun _ _ => rfl)) (nomark _))))) (pss_one (ps_ret pe_bl)) pss_nil)
    (pss_one (ps_ret (pe_and (pe_cmpR (op_eqD hr.units) (pe_lc (own := [("_law_row", 14)]) (by rfl) sc__law_more_right.nd (pi_list (pe_call G_ran hr (by rfl) L.m_ran L.F_ran.kp (L.kb_ran).choose_spec.2 (L.kb_ran).choose_spec.1 pass0 (pa_cons (pv 1) (pa_cons (pv 6) pa_nil)))) (blkOk_by (own := [("_law_row", 14)]) (N := ["_law_box_here", "_law_net", "_law_rows", "_law_lists", "_law_inputs", "_law_word", "_law_values_here", "_law_told", "_law_own", "_law_lists_too", "_law_due", "_law_at", "_law_name", "_law_wire", "_law_row"]) (sc := defScope s__law_more_right) (by decide +kernel)) (fun _ _ _ _ _ => pg_name (i := 14) sc__law_more_right.nd rfl (Or.inl rfl)) (fun _ _ _ _ _ => pts_one (pt_cmpR op_ne (pe_ix (ix_tupK (K := K)) (pv 14) pe_int (fun _ _ => rfl)) pe_str (nomark _))) (fun _ _ _ _ _ => (pv 14))) (pe_ix ix_list (pv 7) pe_int (fun _ _ => rfl)) (nomark _)) (pe_one (pe_cmpR op_eq (pe_callB call_len_seq (by rfl) B.len PySem.boot_len (pa_cons (pe_call G_ran hr (by rfl) L.m_ran L.F_ran.kp (L.kb_ran).choose_spec.2 (L.kb_ran).choose_spec.1 pass0 (pa_cons (pv 1) (pa_cons (pv 6) pa_nil))) pa_nil)) (pe_op op_add (pe_callB call_len_seq (by rfl) B.len PySem.boot_len (pa_cons (pe_ix ix_list (pv 7) pe_int (fun _ _ => rfl)) pa_nil)) pe_int) (nomark _)))))))))))))), ?_⟩
  obtain ⟨p1, p2⟩ := p12 m12
  refine ⟨_, rfl, _, rfl, m, rfl, rfl, by omega, b, _, _, rfl, hB, by omega, by omega, by omega, by omega, by decide, fun w H1 u1 v1 B1 k1 => ?_⟩
  replace B1 := bx1 B1
  have N1 := hN.keepB k1 B1.some hbZ
  have R1 := hR.keepB k1 hB
  have D1 := hD.keepB k1 B1.some (by simp)
  try simp only [L2.start, List.map_cons, List.map_nil, List.length_cons, List.length_nil, List.replicate_succ, List.replicate_zero, List.cons_append, List.nil_append, List.set_cons_succ, List.set_cons_zero, Nat.reduceAdd, Nat.reduceSub, Nat.zero_add]
  refine ⟨_, rfl, _, rfl, by omega, by omega, fun V1 nV => ?_⟩
  rw [Int.toNat_natCast]
  refine lc_range (n := m) (fun i H3 => Same H1 H3 ∧ H3 V1 = some (.lst (((vals1 w m).take i).map V.int))) ⟨same_upd nV, upd_same⟩ ?_ ?_
  · rintro i H3 hi ⟨s3, eV⟩
    refine ⟨rfl, yesT ?_⟩
    refine ⟨_, rfl, _, rfl, _, _, rfl, rfl, _, rfl, _, _, rfl, rfl, _, m - 1 - i, rfl, congrArg V.int (by omega), _, 1, rfl, rfl, ?_⟩
    refine ⟨_, eV, ?_, fun y u e => ?_, ?_⟩
    · rw [List.length_map, List.length_take]
      exact Nat.lt_of_le_of_lt (Nat.min_le_left _ _) (small1000 (by omega))
    · rw [upd_ne (ne_of_none e nV)]
      exact s3 _ _ e
    · unfold vals1
      rw [upd_same, take_rng hi, List.map_append]
      rfl
  rintro H3 ⟨s3, eV⟩
  rw [List.take_of_length_le (by rw [vals1_len]; exact Nat.le_refl _)] at eV
  have N3 := N1.same s3
  have R3 := R1.same s3
  have D3 := D1.same s3
  have B3 := B1.same s3
  have hmA : ∀ x ∈ nm, x.2.length ≤ 900 ∧ ∀ a ∈ x.2, a < m + gs.length := fun x hx => ⟨by have := (hm.2 x hx).1; omega, (hm.2 x hx).2⟩
  dsimp only [gName]
  try simp only [L2.start, List.map_cons, List.map_nil, List.length_cons, List.length_nil, List.replicate_succ, List.replicate_zero, List.cons_append, List.nil_append, List.set_cons_succ, List.set_cons_zero, Nat.reduceAdd, Nat.reduceSub, Nat.zero_add]
  refine ⟨_, rfl, _, rfl, Z, p, m, gs, nm, w, rfl, N3, by omega, by have := hm.1; omega, ok, hmA, fun ys t1 G1 nT1 hp hs sG1 ⟨ts1, lt1, eT1, hts1⟩ => ?_⟩
  refine ⟨_, rfl, _, rfl, Z, p, m, gs, nm, V1, vals1 w m, 1, rfl, N3.same sG1, .inl (SqL.of (sG1 _ _ eV)), vals1_len _ _, by omega, by omega, by have := hm.1; omega, ok, hmA, fun ys2 t2 G2 hp2 hs2 sG2 hR2 => ?_⟩
  obtain rfl : ys = ys2 := (sortS_one hp2 hs2 hp hs).symm
  obtain ⟨nT2, ts2, lt2, eT2, hts2⟩ := hR2
  refine ⟨by show 2 ≤ sizeLine; decide, fun T nT => ?_⟩
  have sT := same_upd (o := .lst [.ref t1, .ref t2]) nT
  have eT : (upd G2 T (.lst [.ref t1, .ref t2])) T = some (.lst [.ref t1, .ref t2]) := upd_same
  generalize upd G2 T (.lst [.ref t1, .ref t2]) = G3 at *
  have s33 : Same H3 G3 := (sG1.trans sG2).trans sT
  have N4 := N3.same s33
  have D4 := D3.same s33
  have R4 := R3.same s33
  have B4 := B3.same s33
  have eV4 := s33 _ _ eV
  try dsimp only [gName]
  try simp only [L2.start, List.map_cons, List.map_nil, List.length_cons, List.length_nil, List.replicate_succ, List.replicate_zero, List.cons_append, List.nil_append, List.set_cons_succ, List.set_cons_zero, Nat.reduceAdd, Nat.reduceSub, Nat.zero_add]
  obtain ⟨_, _, _, dx, _, _, e1, _⟩ := id N4
  refine ⟨_, rfl, p.x, dx, _, rfl, e1, rfl, ?_⟩
  try dsimp only [gName]
  try simp only [L2.start, List.map_cons, List.map_nil, List.length_cons, List.length_nil, List.replicate_succ, List.replicate_zero, List.cons_append, List.nil_append, List.set_cons_succ, List.set_cons_zero, Nat.reduceAdd, Nat.reduceSub, Nat.zero_add]
  refine ⟨_, rfl, p.x, dx, _, rfl, e1, rfl, Z, p, m, gs, nm, 0, rfl, N4, by omega, by omega, fun G4 k4 N5 => ?_⟩
  refine ⟨by show 2 ≤ sizeLine; decide, fun L nL => ?_⟩
  have sL := same_upd (o := .lst [.int ((m + gs.length : Nat) : Int), .int 0]) nL
  have eL : (upd G4 L (.lst [.int ((m + gs.length : Nat) : Int), .int 0])) L = some (.lst (nts [m + gs.length, 0])) := upd_same
  have N6 := N5.same sL
  generalize upd G4 L (.lst [.int ((m + gs.length : Nat) : Int), .int 0]) = G5 at *
  have qn : ("q" : Str) ∉ nm.map (·.1) := fun z => by
    obtain ⟨x, hx, ex⟩ := List.mem_map.mp z
    exact (hT x hx).2 (by rw [ex]; decide +kernel)
  have gl : (gs ++ [Gt.w "other" [0]]).length = gs.length + 1 := by rw [List.length_append]; rfl
  refine ⟨Z, p, m, _, nm, "q", L, [m + gs.length, 0], rfl, N6, qn, .inl (SqL.of eL), fun a ha => ?_, by have := hm.1; omega, fun G6 k6 N7 => ?_⟩
  · rw [gl]
    simp only [List.mem_cons, List.not_mem_nil, or_false] at ha
    omega
  have f4 := N4.four
  have kG : KeepS [p.lm, p.ld, p.dn] G3 G6 := ((k4.mono (fun y hy => by simp only [List.mem_cons, List.not_mem_nil, or_false] at hy ⊢; rcases hy with z | z <;> simp [z])).trans (.ofSame sL)).trans (k6.mono (fun y hy => by rw [List.mem_singleton.mp hy]; simp))
  have sub4 : ∀ {y : Addr}, y ∈ [p.lm, p.ld, p.dn] → y ∈ [p.x, p.lm, p.ld, p.dn] := fun h => List.mem_cons_of_mem _ h
  have z4 : ∀ {y : Addr}, y ∈ Z → y ∉ [p.lm, p.ld, p.dn] := fun {y} hy z => by
    obtain ⟨_, _, ⟨c1, c2, c3, c4⟩, _⟩ := id N4
    simp only [List.mem_cons, List.not_mem_nil, or_false] at z
    rcases z with w | w | w <;> rw [w] at hy
    · exact c2 hy
    · exact c3 hy
    · exact c4 hy
  have n4 : ∀ {y : Addr}, H1 y = none → y ∉ [p.lm, p.ld, p.dn] := fun {y} n z => (N1.four y (sub4 z)).1 n
  have nH3 : ∀ {y : Addr}, H3 y = none → H1 y = none := fun n => by
    rename_i y
    cases e : H1 y with
    | none => rfl
    | some o => rw [s3 _ _ e] at n; cases n
  have nG1 : ∀ {y : Addr}, G1 y = none → H1 y = none := fun n => by
    rename_i y
    cases e : H1 y with
    | none => rfl
    | some o => rw [sG1 _ _ (s3 _ _ e)] at n; cases n
  have nG2 : ∀ {y : Addr}, G2 y = none → H1 y = none := fun n => by
    rename_i y
    cases e : H1 y with
    | none => rfl
    | some o => rw [sG2 _ _ (sG1 _ _ (s3 _ _ e))] at n; cases n
  have tup4 : ∀ y ∈ [p.lm, p.ld, p.dn], ∀ xs, G3 y ≠ some (.tup xs) := fun y hy xs => (f4 y (sub4 hy)).2 xs
  have V6 := kG.1 _ _ eV4 (n4 nV)
  have T6 := kG.1 _ _ eT (n4 (nG2 nT))
  have R6 := R4.keep kG (z4 hRZ) tup4
  have B6 := B4.keepS kG (z4 hbZ)
  have D6 := D4.keep kG (fun y hy => List.mem_cons_of_mem _ hy)
  have et1 := kG.1 _ _ (sT _ _ (sG2 _ _ eT1)) (n4 (nH3 nT1))
  have et2 := kG.1 _ _ (sT _ _ eT2) (n4 (nG1 nT2))
  have a1 : ∀ (i : Nat) (u : Addr) (n : Str), ts1[i]? = some u → ys[i]? = some n → G6 u = some (.tup [.str n, .int (wf ((lkN nm n).map fun a => (rv 1 (vals1 w m) gs).getD a 0))]) := fun i u n h1 h2 => by
    obtain ⟨ws, hw, e⟩ := hts1 i u n h1 h2
    have nd := (hD.2).elim fun _ h => h.2.2.1
    rw [lkN_mem nd hw]
    exact kG.tup tup4 (sT _ _ (sG2 _ _ e))
  have rs1 : (rv (2 ^ 1 - 1) ((vals1 w m).map (· % 2 ^ 1)) gs) = rv 1 (vals1 w m) gs := by
    rw [show ((2 : Int) ^ 1 - 1) = 1 from rfl, show (vals1 w m).map (· % 2 ^ 1) = vals1 w m from by
      unfold vals1
      rw [List.map_map]
      refine List.map_congr_left fun i _ => ?_
      show tb w (m - 1 - i) % 2 ^ 1 = tb w (m - 1 - i)
      have := tb_01 w (m - 1 - i)
      have : (2 : Int) ^ 1 = 2 := rfl
      omega]
  have a2 : ∀ (i : Nat) (u : Addr) (n : Str), ts2[i]? = some u → ys[i]? = some n → ∃ l, G6 u = some (.tup [.str n, .ref l]) ∧ G6 l = some (.lst (((lkN nm n).map fun a => (rv 1 (vals1 w m) gs).getD a 0).map V.int)) := fun i u n h1 h2 => by
    obtain ⟨ws, l, hw, nl, e, el⟩ := hts2 i u n h1 h2
    have nd := (hD.2).elim fun _ h => h.2.2.1
    rw [lkN_mem nd hw, ← rs1]
    exact ⟨l, kG.tup tup4 (sT _ _ e), kG.1 _ _ (sT _ _ el) (n4 (nG1 nl))⟩
  have k36 : KeepS [b, p.lm, p.ld, p.dn] H G6 := ((KeepS.ofKeep k1 (by simp) B1.some).trans (.ofSame (s3.trans s33))).trans (kG.mono fun y hy => List.mem_cons_of_mem _ hy)
  clear hts1 hts2
  try dsimp only [gName]
  try simp only [L2.start, List.map_cons, List.map_nil, List.length_cons, List.length_nil, List.replicate_succ, List.replicate_zero, List.cons_append, List.nil_append, List.set_cons_succ, List.set_cons_zero, Nat.reduceAdd, Nat.reduceSub, Nat.zero_add]
  obtain ⟨rts, lrt, eR6, hrts⟩ := id R6
  refine ⟨_, rfl, by show 2 ≤ sizeLine; decide, fun u nu => ?_⟩
  have su := same_upd (o := .tup [.str "other", .int 0]) nu
  have eu : (upd G6 u (.tup [.str "other", .int 0])) u = some (.tup (Gt.w "other" [0]).row) := upd_same
  generalize upd G6 u (.tup [.str "other", .int 0]) = H7 at *
  refine ⟨by show 1 ≤ sizeLine; decide, fun Lo nL2 => ?_⟩
  have sL2 := same_upd (o := .lst [.ref u]) nL2
  have eL2 : (upd H7 Lo (.lst [.ref u])) Lo = some (.lst [.ref u]) := upd_same
  have eu2 := sL2 _ _ eu
  generalize upd H7 Lo (.lst [.ref u]) = H8 at *
  have s68 := su.trans sL2
  refine ⟨R, Lo, _, _, rfl, rfl, s68 _ _ eR6, eL2, by rw [List.length_map, lrt]; exact Nat.le_of_lt (big_lt (by show gs.length + 1 ≤ 500000; omega)), fun R2 nR2 => ?_⟩
  have RR : RowsAt46 (upd H8 R2 (.lst (rts.map V.ref ++ [.ref u]))) R2 (gs ++ [Gt.w "other" [0]]) := RowsAt46.snoc lrt (fun i t g hi hg => s68 _ _ (hrts i t g hi hg)) eu2 nR2
  have sR2 := same_upd (o := .lst (rts.map V.ref ++ [.ref u])) nR2
  generalize upd H8 R2 (.lst (rts.map V.ref ++ [.ref u])) = H9 at *
  have s69 := s68.trans sR2
  have ok' : GsOk m (gs ++ [Gt.w "other" [0]]) := fun i g hi => by
    by_cases c : i < gs.length
    · rw [List.getElem?_append_left c] at hi
      exact ok i g hi
    · have i0 : i = gs.length := by
        have := (List.getElem?_eq_some_iff.mp hi).1
        omega
      rw [List.getElem?_append_right (by omega), i0, Nat.sub_self] at hi
      cases hi
      exact ⟨.inr ⟨rfl, rfl⟩, fun a ha => by rw [List.mem_singleton.mp ha]; omega⟩
  refine ⟨_, rfl, R2, V1, _, vals1 w m, rfl, RR, by rw [vals1_len]; exact ok', SqL.of (s69 _ _ V6), z01_vals _ _, by rw [vals1_len, gl]; omega, fun O HA nO sA eO => ?_⟩
  have s6A := s69.trans sA
  have D7 := D6.same s6A
  obtain ⟨kvs, ed⟩ : ∃ kvs, HA d = some (.dK kvs) := by
    obtain ⟨_, kvs, e, _⟩ := id D7
    exact ⟨kvs, e⟩
  refine ⟨_, rfl, d, kvs, rfl, .of ed, fun d2 nd2 => ?_⟩
  have sB : ∀ y ∈ [b, p.lm, p.ld, p.dn], HA y ≠ none := fun y hy => by
    have h6 : ∀ y ∈ [p.lm, p.ld, p.dn], HA y ≠ none := fun y hy => (KeepS.ofSame (S := []) s6A).2 y (kG.2 y (f4 y (sub4 hy)).1)
    rcases List.mem_cons.mp hy with z | z
    · rw [z]
      exact (B6.same s6A).some
    · exact h6 y z
  have D8 := D7.copy ed nd2 sB
  have s2 := same_upd (o := .dK kvs) nd2
  have ed2 : (upd HA d2 (.dK kvs)) d2 = some (.dK kvs) := upd_same
  have eO2 := s2 _ _ eO
  generalize upd HA d2 (.dK kvs) = HB at *
  refine ⟨by show 2 ≤ sizeLine; decide, fun pt npt => ?_⟩
  have st := same_upd (o := .tup [.ref O, .ref d2]) npt
  have ept : (upd HB pt (.tup [.ref O, .ref d2])) pt = some (.tup [.ref O, .ref d2]) := upd_same
  generalize upd HB pt (.tup [.ref O, .ref d2]) = HC at *
  have D9 := D8.same st
  have ed9 := st _ _ ed2
  have eO9 := st _ _ eO2
  have s6C : Same G6 HC := (s6A.trans s2).trans st
  refine ⟨pt, _, rfl, .inl (.inl ept), rfl, _, _, rfl, _, _, rfl, rfl, ?_⟩
  try dsimp only [gName]
  try simp only [L2.start, List.map_cons, List.map_nil, List.length_cons, List.length_nil, List.replicate_succ, List.replicate_zero, List.cons_append, List.nil_append, List.set_cons_succ, List.set_cons_zero, Nat.reduceAdd, Nat.reduceSub, Nat.zero_add]
  refine ⟨_, rfl, _, rfl, R, _, rfl, .inl (SqL.of (s6C _ _ eR6)), ?_⟩
  refine ⟨_, _, rfl, rfl, ?_⟩
  have lR : ((List.map V.ref rts).length : Nat) = gs.length := by rw [List.length_map, lrt]
  rw [lR]
  refine ⟨by show 2 ≤ sizeLine; decide, fun lq nlq => ?_⟩
  have elq0 : (V.int ((m : Int) + (gs.length : Nat))) = V.int ((m + gs.length : Nat) : Int) := rfl
  have slq := same_upd (o := .lst (nts [m + gs.length, 0])) nlq
  have elq : (upd HC lq (.lst (nts [m + gs.length, 0]))) lq = some (.lst (nts [m + gs.length, 0])) := upd_same
  have edq := slq _ _ ed9
  have DQ := D9.same slq
  have nlS : lq ∉ [b, p.lm, p.ld, p.dn] := fun z => (KeepS.ofSame (S := []) (s2.trans st)).2 _ (sB _ z) nlq
  have nld : lq ≠ d2 := fun z => by rw [z, ed9] at nlq; cases nlq
  show gSub _ _ _ _ _ (upd HC lq (.lst (nts [m + gs.length, 0]))) _
  have sCq := slq
  generalize upd HC lq (.lst (nts [m + gs.length, 0])) = HD at *
  have lk : kvs.length = nm.length := by
    obtain ⟨_, kvs', e', l', _⟩ := id DQ
    rw [edq] at e'
    cases e'
    exact l'
  refine ⟨_, rfl, d2, _, rfl, DPut.k (k := .inr "q") edq (by rw [lk]; exact big_lt (by have := hm.1; omega)), ?_⟩
  have DN := DQ.one edq qn nlS nld elq
  have s6D := s6C.trans sCq
  have fD : ∀ {y : Addr} {o : HO}, HD y = some o → y ≠ d2 → (upd HD d2 (.dK (putK kvs (.inr "q") (.ref lq)))) y = some o := fun e n => by rw [upd_ne n]; exact e
  have keep6 : ∀ {y : Addr} {o : HO}, G6 y = some o → (upd HD d2 (.dK (putK kvs (.inr "q") (.ref lq)))) y = some o := fun {y o} e => fD (s6D _ _ e) (fun z => by
    have := s6A _ _ e
    rw [z, nd2] at this
    cases this)
  have eO1 := fD (sCq _ _ eO9) (fun z => by rw [z, nd2] at eO; cases eO)
  have nO6 : G6 O = none := by
    cases e : G6 O with
    | none => rfl
    | some o => rw [s69 _ _ e] at nO; cases nO
  clear D8 D9 DQ D7
  generalize upd HD d2 (.dK (putK kvs (.inr "q") (.ref lq))) = I0 at *
  obtain ⟨kvs', ed', keys', dg⟩ := DN.keys
  have nmL := hm.1
  have nd := (hD.2).elim fun _ h => h.2.2.1
  generalize hnm : nm ++ [(("q" : Str), [m + gs.length, 0])] = nm' at *
  generalize hgs : gs ++ [Gt.w "other" [0]] = gs' at *
  have nms : nm'.map (·.1) = nm.map (·.1) ++ [("q" : Str)] := by rw [← hnm, List.map_append]; rfl
  have ln' : (nm'.map (·.1)).length = nm.length + 1 := by rw [nms, List.length_append, List.length_map]; rfl
  have nd' : (nm'.map (·.1)).Nodup := (DN.2).elim fun _ h => h.2.2.1
  have lk' : ∀ y ∈ nm.map (·.1), lkN nm' y = lkN nm y := fun y hy => by
    obtain ⟨⟨y', ws⟩, hx, ex⟩ := List.mem_map.mp hy
    have ex : y' = y := ex
    rw [ex] at hx
    rw [lkN_mem nd hx, lkN_mem nd' (by rw [← hnm]; exact List.mem_append_left _ hx)]
  have rv' : ∀ a, a < m + gs.length → (rv 1 (vals1 w m) gs').getD a 0 = (rv 1 (vals1 w m) gs).getD a 0 := fun a ha => by
    rw [← hgs, rv_snoc, getD_app (by rw [rv_len, vals1_len]; exact ha)]
  have hm' : ∀ x ∈ nm', x.2.length ≤ 10 ∧ ∀ a ∈ x.2, a < m + gs'.length := fun x hx => by
    rw [← hnm] at hx
    rw [gl]
    rcases List.mem_append.mp hx with z | z
    · exact ⟨(hm.2 x z).1, fun a ha => by have := (hm.2 x z).2 a ha; omega⟩
    · rw [List.mem_singleton.mp z]
      refine ⟨by show 2 ≤ 10; decide, fun a ha => ?_⟩
      have ha : a ∈ [m + gs.length, 0] := ha
      simp only [List.mem_cons, List.not_mem_nil, or_false] at ha
      omega
  have eqv : ∀ y ∈ nm.map (·.1), ((lkN nm' y).map fun a => (rv 1 (vals1 w m) gs').getD a 0) = ((lkN nm y).map fun a => (rv 1 (vals1 w m) gs).getD a 0) := fun y hy => by
    rw [lk' y hy]
    refine List.map_congr_left fun a ha => rv' a ?_
    obtain ⟨⟨y', ws⟩, hx, ex⟩ := List.mem_map.mp hy
    have ex : y' = y := ex
    rw [ex] at hx
    rw [lkN_mem nd hx] at ha
    exact (hm.2 _ hx).2 a ha
  try dsimp only [gName]
  try simp only [L2.start, List.map_cons, List.map_nil, List.length_cons, List.length_nil, List.replicate_succ, List.replicate_zero, List.cons_append, List.nil_append, List.set_cons_succ, List.set_cons_zero, Nat.reduceAdd, Nat.reduceSub, Nat.zero_add]
  refine ⟨_, rfl, d2, kvs', _, rfl, .of ed', keys', by rw [ln']; omega, fun zs p3 hpz hsz np3 => ?_⟩
  have lzs : zs.length = nm.length + 1 := by rw [hpz.length_eq, ln']
  have s5 := same_upd (o := .lst (zs.map V.str)) np3
  have e5 : (upd I0 p3 (.lst (zs.map V.str))) p3 = some (.lst (zs.map V.str)) := upd_same
  have eO5 := s5 _ _ eO1
  have ed5 := s5 _ _ ed'
  have N8 : NetAt C Z G6 p m gs' nm' := N7
  refine ⟨p3, rfl, ⟨_, SqL.of e5⟩, fun U nU => ?_⟩
  have dgl : ∀ y ∈ nm'.map (·.1), ∃ l, valV kvs' (.inr y) = some (.ref l) ∧ (upd I0 p3 (.lst (zs.map V.str))) l = some (.lst (nts (lkN nm' y))) ∧ (y, lkN nm' y) ∈ nm' := fun y hy => by
    obtain ⟨l, ev, _, _, el, hmem⟩ := dg y hy
    exact ⟨l, ev, s5 _ _ el, hmem⟩
  generalize upd I0 p3 (.lst (zs.map V.str)) = H5 at *
  have s65 : Same G6 H5 := fun y o e => s5 _ _ (keep6 e)
  clear keep6 fD
  refine lc_it (walk_list (K := K) (a := p3) (xs := zs.map V.str)) (fun j H9 => ∃ us : List Addr, us.length = j ∧ Same H5 H9 ∧ H9 U = some (.lst (us.map V.ref)) ∧ ∀ (i : Nat) (u : Addr) (y : Str), us[i]? = some u → zs[i]? = some y → H9 u = some (.tup [.str y, .int (wf ((lkN nm' y).map fun a => (rv 1 (vals1 w m) gs').getD a 0))])) ⟨[], rfl, same_upd nU, upd_same, fun i u y h => by simp at h⟩ (fun j H9 _ ⟨_, _, s9, _⟩ => SqL.of (s9 _ _ e5)) ?_ ?_
  · rintro j v H10 H9 hj ⟨us, lu, s9, eU, hus⟩ ⟨rfl, hz⟩
    replace hz : (zs.map V.str)[j]? = some v := hz
    rw [List.length_map] at hj
    rw [List.getElem?_map, List.getElem?_eq_getElem hj] at hz
    have hy : zs[j]? = some zs[j] := List.getElem?_eq_getElem hj
    cases hz
    generalize zs[j] = y at *
    obtain ⟨l, ev, el, hmem⟩ := dgl y (hpz.mem_iff.mp (List.mem_of_getElem? hy))
    dsimp only [gName]
    refine ⟨rfl, yesT ?_⟩
    try dsimp only [gName]
    try simp only [L2.start, List.map_cons, List.map_nil, List.length_cons, List.length_nil, List.replicate_succ, List.replicate_zero, List.cons_append, List.nil_append, List.set_cons_succ, List.set_cons_zero, Nat.reduceAdd, Nat.reduceSub, Nat.zero_add]
    have ev' : DGet H9 d2 (.str y) (some (.ref l)) := by
      rw [← ev]
      exact DGet.k (k := .inr y) (s9 _ _ ed5)
    have el9 := s9 _ _ el
    have eO9 := s9 _ _ eO5
    have lw := hm' _ hmem
    have lw2 : (lkN nm' y).length ≤ 10 := lw.1
    refine ⟨_, rfl, _, rfl, _, rfl, d2, .ref l, rfl, ev', l, rfl, ⟨_, SqL.of el9⟩, fun W nW => ?_⟩
    refine lc_it (walk_list (K := K) (a := l) (xs := nts (lkN nm' y))) (fun i H6 => Same H9 H6 ∧ H6 W = some (.lst ((((lkN nm' y).map fun a => (rv 1 (vals1 w m) gs').getD a 0).take i).map V.int))) ⟨same_upd nW, upd_same⟩ (fun i H6 _ ⟨s6, _⟩ => SqL.of (s6 _ _ el9)) ?_ ?_
    · rintro i v H6 H7 hi ⟨s6, eW⟩ ⟨rfl, hz⟩
      obtain ⟨a, ha, rfl⟩ := nts_at hz
      have la := lw.2 a (List.mem_of_getElem? ha)
      refine ⟨rfl, yesT ?_⟩
      refine ⟨_, rfl, _, rfl, O, _, _, _, rfl, rfl, SqL.of (s6 _ _ eO9), at_getD (by rw [rv_len, vals1_len]; exact la), ?_⟩
      refine ⟨_, eW, ?_, fun y u e => ?_, ?_⟩
      · rw [List.length_map, List.length_take, List.length_map]
        exact Nat.lt_of_le_of_lt (Nat.min_le_right _ _) (small1000 (by omega))
      · rw [upd_ne (ne_of_none e nW)]
        exact s6 _ _ e
      · rw [upd_same, List.take_add_one, List.getElem?_map, ha, List.map_append]
        rfl
    rintro H6 ⟨s6, eW⟩
    rw [nts_len, List.take_of_length_le (by rw [List.length_map]; exact Nat.le_refl _)] at eW
    refine ⟨W, _, rfl, SqL.of eW, (by show 2 ≤ sizeLine; decide), fun u nu => ?_⟩
    have su := same_upd (o := .tup [.str y, .int (wf ((lkN nm' y).map fun a => (rv 1 (vals1 w m) gs').getD a 0))]) nu
    have s96 := s6.trans su
    have nuU : u ≠ U := fun z => by
      rw [z, s6 _ _ eU] at nu
      cases nu
    refine ⟨_, s96 _ _ eU, by rw [List.length_map, lu]; exact big_lt (by omega), us ++ [u], by rw [List.length_append, lu]; rfl, fun a o e => ?_, by rw [upd_same, List.map_append]; rfl, fun i' u' y' h1 h2 => ?_⟩
    · rw [upd_ne (ne_of_none e nU)]
      exact s96 _ _ (s9 _ _ e)
    · by_cases c : i' < us.length
      · rw [List.getElem?_append_left c] at h1
        have q3 := hus i' u' y' h1 h2
        rw [upd_ne (fun z => by rw [z, eU] at q3; cases q3)]
        exact s96 _ _ q3
      · have i0 : i' = us.length := by
          have := (List.getElem?_eq_some_iff.mp h1).1
          rw [List.length_append, List.length_cons, List.length_nil] at this
          omega
        rw [List.getElem?_append_right (by omega), i0, Nat.sub_self] at h1
        rw [i0, lu, hy] at h2
        cases h1
        cases h2
        rw [upd_ne nuU]
        exact upd_same
  rintro H9 ⟨us, lu, s9, eU, hus⟩
  rw [List.length_map] at lu
  dsimp only [gName]
  try simp only [L2.start, List.map_cons, List.map_nil, List.length_cons, List.length_nil, List.replicate_succ, List.replicate_zero, List.cons_append, List.nil_append, List.set_cons_succ, List.set_cons_zero, Nat.reduceAdd, Nat.reduceSub, Nat.zero_add]
  have s69' := s65.trans s9
  have N9 := N8.same s69'
  have lg' : gs'.length = gs.length + 1 := gl
  have hmA' : ∀ x ∈ nm', x.2.length ≤ 900 ∧ ∀ a ∈ x.2, a < m + gs'.length := fun x hx => ⟨by have := (hm' x hx).1; omega, (hm' x hx).2⟩
  have lnm' : nm'.length = nm.length + 1 := by rw [← ln', List.length_map]
  refine ⟨_, rfl, _, rfl, Z, p, m, gs', nm', w, rfl, N9, by omega, by omega, ok', hmA', fun zs2 t3 G7 _ hp3 hs3 sG7 ⟨ts3, lt3, eT3, hts3⟩ => ?_⟩
  obtain rfl : zs = zs2 := (sortS_one hp3 hs3 hpz hsz).symm
  refine ⟨_, rfl, _, _, .list (zs.map fun y => .tuple [.str y, .int (wf ((lkN nm' y).map fun a => (rv 1 (vals1 w m) gs').getD a 0))]), 2, rfl, rfl, lv_one (fun y => wf ((lkN nm' y).map fun a => (rv 1 (vals1 w m) gs').getD a 0)) zs (by omega), .lst (SqL.of eT3) (dpa_one (fun y => wf ((lkN nm' y).map fun a => (rv 1 (vals1 w m) gs').getD a 0)) ts3 zs lt3 fun i u y h1 h2 => ?_), .lst (SqL.of (sG7 _ _ eU)) (dpa_one (fun y => wf ((lkN nm' y).map fun a => (rv 1 (vals1 w m) gs').getD a 0)) us zs lu fun i u y h1 h2 => sG7 _ _ (hus i u y h1 h2)), fun G8 sG8 => ?_⟩
  · obtain ⟨ws, hws, e⟩ := hts3 i u y h1 h2
    rw [lkN_mem nd' hws]
    exact e
  have s98 := sG7.trans sG8
  refine ⟨_, rfl, iteF ?_⟩
  have eU8 := s98 _ _ eU
  refine ⟨_, rfl, U, rfl, ⟨_, SqL.of eU8⟩, fun F nF => ?_⟩
  refine lc_it (walk_list (K := K) (a := U) (xs := us.map V.ref)) (fun j HX => Same G8 HX ∧ HX F = some (.lst ((selP "q" ((us.zip zs).take j)).map fun x => V.ref x.1))) ⟨same_upd nF, upd_same⟩ (fun j HX _ ⟨sX, _⟩ => SqL.of (sX _ _ eU8)) ?_ ?_
  · rintro j v HY HX hj ⟨sX, eF⟩ ⟨rfl, hz⟩
    rw [List.getElem?_map] at hz
    rw [List.length_map] at hj
    have hu : us[j]? = some us[j] := List.getElem?_eq_getElem hj
    rw [hu] at hz
    cases hz
    have hy : zs[j]? = some (zs[j]'(by omega)) := List.getElem?_eq_getElem (by omega)
    have hp2 : (us.zip zs)[j]? = some (us[j], zs[j]'(by omega)) := List.getElem?_zip_eq_some.mpr ⟨hu, hy⟩
    have et := sX _ _ (s98 _ _ (hus j _ _ hu hy))
    have lF : ((selP "q" ((us.zip zs).take j)).map fun x => V.ref x.1).length ≤ 500000 := by
      rw [List.length_map]
      exact Nat.le_trans (List.length_filter_le _ _) (by rw [List.length_take]; omega)
    have tk : selP "q" ((us.zip zs).take (j + 1)) = selP "q" ((us.zip zs).take j) ++ selP "q" [(us[j], zs[j]'(by omega))] := by
      unfold selP
      rw [List.take_add_one, hp2, List.filter_append]
      rfl
    rw [tk]
    generalize zs[j]'(by omega) = y at *
    generalize us[j] = u at *
    refine ⟨rfl, ?_⟩
    try simp only [L2.start, List.map_cons, List.map_nil, List.length_cons, List.length_nil, List.replicate_succ, List.replicate_zero, List.cons_append, List.nil_append, List.set_cons_succ, List.set_cons_zero, Nat.reduceAdd, Nat.reduceSub, Nat.zero_add]
    refine ⟨_, rfl, u, _, _, _, rfl, rfl, .inl (.inl et), rfl, rfl, _, rfl, ?_⟩
    by_cases c : y = "q"
    · subst c
      refine ite2 (fun z => absurd z (by decide +kernel)) (fun _ => ?_)
      have e0 : selP "q" [(u, ("q" : Str))] = [] := by simp [selP]
      rw [e0, List.append_nil]
      exact ⟨sX, eF⟩
    · refine ite2 (fun _ => ?_) (fun z => absurd (by simp [c]) z)
      have e0 : selP "q" [(u, y)] = [(u, y)] := by simp [selP, c]
      rw [e0, List.map_append]
      refine ⟨_, rfl, _, eF, big_lt lF, fun a o e => ?_, upd_same⟩
      rw [upd_ne (ne_of_none e nF)]
      exact sX _ _ e
  rintro HX ⟨sX, eF⟩
  rw [show (us.zip zs).take (us.map V.ref).length = us.zip zs from List.take_of_length_le (by rw [List.length_zip, List.length_map]; omega)] at eF
  have sG6 := ((s65.trans s9).trans s98).trans sX
  have cutE := sort_less (by rw [← nms]; exact hpz) hsz hp hs qn
  have lus : us.length = zs.length := lu
  refine ⟨_, rfl, T, _, _, _, rfl, rfl, SqL.of (sG6 _ _ T6), rfl, ?_⟩
  have ymem : ∀ {i : Nat} {y : Str}, ys[i]? = some y → y ∈ nm.map (·.1) := fun h => hp.mem_iff.mp (List.mem_of_getElem? h)
  have one1 : DpAll K HX ((selP "q" (us.zip zs)).map fun x => V.ref x.1) (ys.map fun y => .tuple [.str y, .int (wf ((lkN nm y).map fun a => (rv 1 (vals1 w m) gs).getD a 0))]) := by
    have := dpa_one (K := K) (H := HX) (fun y => wf ((lkN nm y).map fun a => (rv 1 (vals1 w m) gs).getD a 0)) ((selP "q" (us.zip zs)).map (·.1)) ys (selP_len lus cutE) (fun i u y h1 h2 => by
      obtain ⟨j, j1, j2⟩ := selP_at lus cutE h1 h2
      rw [← eqv y (ymem h2)]
      exact sX _ _ (s98 _ _ (hus j u y j1 j2)))
    rw [List.map_map] at this
    exact this
  have one2 : DpAll K HX (ts1.map V.ref) (ys.map fun y => .tuple [.str y, .int (wf ((lkN nm y).map fun a => (rv 1 (vals1 w m) gs).getD a 0))]) := dpa_one (fun y => wf ((lkN nm y).map fun a => (rv 1 (vals1 w m) gs).getD a 0)) ts1 ys lt1 (fun i u y h1 h2 => sG6 _ _ (a1 i u y h1 h2))
  have SS : Sd 2 (.list (ys.map fun y => .tuple [.str y, .int (wf ((lkN nm y).map fun a => (rv 1 (vals1 w m) gs).getD a 0))])) := .lst fun d hd => by
    obtain ⟨y, hy, rfl⟩ := List.mem_map.mp hd
    obtain ⟨x, hx, ex⟩ := List.mem_map.mp (hp.mem_iff.mp hy)
    refine .tup fun d hd => ?_
    simp only [List.mem_cons, List.not_mem_nil, or_false] at hd
    rcases hd with z | z <;> rw [z]
    · exact .str (by rw [← ex]; exact (hT x hx).1)
    · exact .int _
  refine ⟨_, _, .lst (SqL.of eF) one1, .lst (SqL.of (sG6 _ _ et1)) one2, SS.sh (by decide), SS.sh (by decide), _, rfl, ?_⟩
  rw [SS.self]
  refine ite2 (fun z => absurd z (by decide)) (fun _ => ?_)
  try dsimp only [tNext]
  have NX := N8.same sG6
  refine ⟨_, rfl, _, rfl, Z, p, m, gs', nm', V1, vals1 w m, 1, rfl, NX, .inl (SqL.of (sG6 _ _ V6)), vals1_len _ _, by omega, by omega, by omega, ok', hmA', fun zs4 t4 G9 hp4 hs4 sG9 hR4 => ?_⟩
  obtain rfl : zs = zs4 := (sortS_one hp4 hs4 hpz hsz).symm
  obtain ⟨nT4, ts4, lt4, eT4, hts4⟩ := hR4
  have rs1' : (rv (2 ^ 1 - 1) ((vals1 w m).map (· % 2 ^ 1)) gs') = rv 1 (vals1 w m) gs' := by
    rw [show ((2 : Int) ^ 1 - 1) = 1 from rfl, show (vals1 w m).map (· % 2 ^ 1) = vals1 w m from by
      unfold vals1
      rw [List.map_map]
      refine List.map_congr_left fun i _ => ?_
      show tb w (m - 1 - i) % 2 ^ 1 = tb w (m - 1 - i)
      have := tb_01 w (m - 1 - i)
      have : (2 : Int) ^ 1 = 2 := rfl
      omega]
  have hus4 : ∀ (i : Nat) (u : Addr) (y : Str), ts4[i]? = some u → zs[i]? = some y → ∃ l, G9 u = some (.tup [.str y, .ref l]) ∧ G9 l = some (.lst (((lkN nm' y).map fun a => (rv 1 (vals1 w m) gs').getD a 0).map V.int)) := fun i u y h1 h2 => by
    obtain ⟨ws, l, hws, _, e, el⟩ := hts4 i u y h1 h2
    rw [rs1'] at el
    rw [lkN_mem nd' hws]
    exact ⟨l, e, el⟩
  clear hts4
  refine ⟨t4, rfl, ⟨_, SqL.of eT4⟩, fun F2 nF2 => ?_⟩
  refine lc_it (walk_list (K := K) (a := t4) (xs := ts4.map V.ref)) (fun j HZ => Same G9 HZ ∧ HZ F2 = some (.lst ((selP "q" ((ts4.zip zs).take j)).map fun x => V.ref x.1))) ⟨same_upd nF2, upd_same⟩ (fun j HZ _ ⟨sZ, _⟩ => SqL.of (sZ _ _ eT4)) ?_ ?_
  · rintro j v HY HZ hj ⟨sZ, eF2⟩ ⟨rfl, hz⟩
    rw [List.getElem?_map] at hz
    rw [List.length_map] at hj
    have hu : ts4[j]? = some ts4[j] := List.getElem?_eq_getElem hj
    rw [hu] at hz
    cases hz
    have hy : zs[j]? = some (zs[j]'(by omega)) := List.getElem?_eq_getElem (by omega)
    have hp2 : (ts4.zip zs)[j]? = some (ts4[j], zs[j]'(by omega)) := List.getElem?_zip_eq_some.mpr ⟨hu, hy⟩
    obtain ⟨l4, et4, _⟩ := hus4 j _ _ hu hy
    have et := sZ _ _ et4
    have lF : ((selP "q" ((ts4.zip zs).take j)).map fun x => V.ref x.1).length ≤ 500000 := by
      rw [List.length_map]
      exact Nat.le_trans (List.length_filter_le _ _) (by rw [List.length_take]; omega)
    have tk : selP "q" ((ts4.zip zs).take (j + 1)) = selP "q" ((ts4.zip zs).take j) ++ selP "q" [(ts4[j], zs[j]'(by omega))] := by
      unfold selP
      rw [List.take_add_one, hp2, List.filter_append]
      rfl
    rw [tk]
    generalize zs[j]'(by omega) = y at *
    generalize ts4[j] = u at *
    refine ⟨rfl, ?_⟩
    try simp only [L2.start, List.map_cons, List.map_nil, List.length_cons, List.length_nil, List.replicate_succ, List.replicate_zero, List.cons_append, List.nil_append, List.set_cons_succ, List.set_cons_zero, Nat.reduceAdd, Nat.reduceSub, Nat.zero_add]
    refine ⟨_, rfl, u, _, _, _, rfl, rfl, .inl (.inl et), rfl, rfl, _, rfl, ?_⟩
    by_cases c : y = "q"
    · subst c
      refine ite2 (fun z => absurd z (by decide +kernel)) (fun _ => ?_)
      have e0 : selP "q" [(u, ("q" : Str))] = [] := by simp [selP]
      rw [e0, List.append_nil]
      exact ⟨sZ, eF2⟩
    · refine ite2 (fun _ => ?_) (fun z => absurd (by simp [c]) z)
      have e0 : selP "q" [(u, y)] = [(u, y)] := by simp [selP, c]
      rw [e0, List.map_append]
      refine ⟨_, rfl, _, eF2, big_lt lF, fun a o e => ?_, upd_same⟩
      rw [upd_ne (ne_of_none e nF2)]
      exact sZ _ _ e
  rintro HZ ⟨sZ, eF2⟩
  rw [show (ts4.zip zs).take (ts4.map V.ref).length = ts4.zip zs from List.take_of_length_le (by rw [List.length_zip, List.length_map]; omega)] at eF2
  have sXZ := sG9.trans sZ
  have sGZ := sG6.trans sXZ
  refine ⟨_, rfl, T, _, _, _, rfl, rfl, SqL.of (sGZ _ _ T6), rfl, ?_⟩
  have two1 : DpAll K HZ ((selP "q" (ts4.zip zs)).map fun x => V.ref x.1) (ys.map fun y => .tuple [.str y, .list (((lkN nm y).map fun a => (rv 1 (vals1 w m) gs).getD a 0).map PyData.int)]) := by
    have := dpa_two (K := K) (H := HZ) (fun y => (lkN nm y).map fun a => (rv 1 (vals1 w m) gs).getD a 0) ((selP "q" (ts4.zip zs)).map (·.1)) ys (selP_len lt4 cutE) (fun i u y h1 h2 => by
      obtain ⟨j, j1, j2⟩ := selP_at lt4 cutE h1 h2
      obtain ⟨l, e, el⟩ := hus4 j u y j1 j2
      rw [eqv y (ymem h2)] at el
      exact ⟨l, sZ _ _ e, sZ _ _ el⟩)
    rw [List.map_map] at this
    exact this
  have two2 : DpAll K HZ (ts2.map V.ref) (ys.map fun y => .tuple [.str y, .list (((lkN nm y).map fun a => (rv 1 (vals1 w m) gs).getD a 0).map PyData.int)]) := dpa_two (fun y => (lkN nm y).map fun a => (rv 1 (vals1 w m) gs).getD a 0) ts2 ys lt2 (fun i u y h1 h2 => by
    obtain ⟨l, e, el⟩ := a2 i u y h1 h2
    exact ⟨l, sGZ _ _ e, sGZ _ _ el⟩)
  have S2 : Sd 3 (.list (ys.map fun y => .tuple [.str y, .list (((lkN nm y).map fun a => (rv 1 (vals1 w m) gs).getD a 0).map PyData.int)])) := .lst fun d hd => by
    obtain ⟨y, hy, rfl⟩ := List.mem_map.mp hd
    obtain ⟨x, hx, ex⟩ := List.mem_map.mp (hp.mem_iff.mp hy)
    refine .tup fun d hd => ?_
    simp only [List.mem_cons, List.not_mem_nil, or_false] at hd
    rcases hd with z | z <;> rw [z]
    · exact .str (by rw [← ex]; exact (hT x hx).1)
    · exact .lst fun d hd => by
        obtain ⟨x, _, rfl⟩ := List.mem_map.mp hd
        exact .int _
  refine ⟨_, _, .lst (SqL.of eF2) two1, .lst (SqL.of (sGZ _ _ et2)) two2, S2.sh (by decide), S2.sh (by decide), ?_⟩
  rw [S2.self]
  refine ⟨_, rfl, ite2 (fun _ => ?_) (fun z => absurd rfl z)⟩
  have NZ := N8.same sGZ
  refine ⟨_, rfl, _, rfl, Z, p, m, gs', nm', V1, vals1 w m, 1, rfl, NZ, .inl (SqL.of (sGZ _ _ V6)), vals1_len _ _, by omega, by omega, by omega, ok', hmA', fun zs5 t5 GA hp5 hs5 sGA hR5 => ?_⟩
  obtain rfl : zs = zs5 := (sortS_one hp5 hs5 hpz hsz).symm
  obtain ⟨_, ts5, lt5, eT5, _⟩ := hR5
  have sGA' := sGZ.trans sGA
  refine ⟨t5, _, rfl, .inl (SqL.of eT5), ?_⟩
  refine ⟨_, rfl, T, _, _, _, rfl, rfl, SqL.of (sGA' _ _ T6), rfl, t2, _, rfl, .inl (SqL.of (sGA' _ _ et2)), ?_⟩
  refine ⟨_, _, rfl, rfl, rfl, ?_⟩
  have el : decide (V.int ((ts5.map V.ref).length : Nat) = V.int (((ts2.map V.ref).length : Nat) + 1)) = true := decide_eq_true (congrArg V.int (by
    have h1 : ys.length = nm.length := by rw [hp.length_eq, List.length_map]
    rw [List.length_map, List.length_map, lt5, lt2, lzs, h1]
    rfl))
  show Q (V.bl (decide (V.int ((ts5.map V.ref).length : Nat) = V.int (((ts2.map V.ref).length : Nat) + 1)))) GA
  rw [el]
  exact q _ (k36.trans (.ofSame sGA')) (BoxAt.mono (B6.same sGA') (by omega))
end
section
variable {P : Program} {w : World} {K : PySem.W.Frag} {mg : Str → Option Value} {base : Heap}
variable {C : Addr} {za : Nat → Addr} {zl : Nat → FuncData}
theorem sd_ints (ws : List Nat) : Sd 1 (.list (dInts ws)) := .lst fun d hd => by
  obtain ⟨a, _, rfl⟩ := List.mem_map.mp hd
  exact .int _
theorem sd_gt {n : Nat} {g : Gt} (h : g.ok n) : Sd 1 (dGt g) := by
  cases g with
  | fi b =>
    exact .tup fun d hd => by
      simp only [List.mem_cons, List.not_mem_nil, or_false] at hd
      rcases hd with e | e <;> rw [e]
      · exact .str (by decide +kernel)
      · exact .int _
  | w k ws =>
    exact .tup fun d hd => by
      rcases List.mem_cons.mp hd with e | hd
      · rw [e]
        refine .str ?_
        rcases h.1 with ⟨z | z | z, _⟩ | ⟨z, _⟩ <;> rw [z] <;> decide +kernel
      · obtain ⟨a, _, rfl⟩ := List.mem_map.mp hd
        exact .int _
theorem sd_rows {m : Nat} {gs : List Gt} (h : GsOk m gs) : Sd 2 (.list (gs.map dGt)) := .lst fun d hd => by
  obtain ⟨g, hg, rfl⟩ := List.mem_map.mp hd
  obtain ⟨i, hi⟩ := List.mem_iff_getElem?.mp hg
  exact sd_gt (h i g hi)
def spLaw (K : PySem.W.Frag) : Sp := fun vs H Q _ => ∃ (a : Addr) (ns : List Int), vs = [.ref a] ∧ SqL K H a (ns.map V.int) ∧ ns.length ≤ 63 ∧ ∀ H', Q (.bl true) H'
theorem fz45 : ∀ m : Nat, (List.replicate m [V.int 0]).flatten = (List.replicate m (0 : Int)).map V.int
  | 0 => rfl
  | k + 1 => by rw [List.replicate_succ, List.replicate_succ, List.flatten_cons, fz45 k]; rfl
theorem sExt {H0 H H' : Hp} {S : List Addr} (s : Same H0 H) (k : KeepS S H H') (h : ∀ y ∈ S, H0 y = none) : Same H0 H' := fun y o e => k.1 _ _ (s _ _ e) (fun z => by rw [h _ z] at e; cases e)
theorem sExtB {H0 H H' : Hp} {b : Addr} (s : Same H0 H) (k : Keep b H H') (h : H0 b = none) : Same H0 H' := fun y o e => k _ _ (s _ _ e) (fun z => by rw [z, h] at e; cases e)
theorem ok_law {f : Addr} {fd : FuncData} (F : Fun K "law" "law" s_law f fd) (B : Bl mg) (L : LL K mg C za zl base) : FnOkG P w K mg base CX0 12 f fd ["_law_script"] (spLaw K) := by
  have G__law_box : FnOk P w K mg base CX0 11 (za 5) (zl 5) ["_law_script", "_law_k"] (spBox K) := ok_box L.F__law_box B
  have G__law_take : FnOk P w K mg base CX0 11 (za 6) (zl 6) ["_law_box_here", "_law_size"] (spTake 1) := (ok_take L.F__law_take L.b__law_take L.m__law_take B 1).mono (by decide)
  have G__law_gates : FnOk P w K mg base CX0 11 (za 9) (zl 9) ["_law_box_here", "_law_wide", "_law_size"] spGatesL := (ok__law_gates B L).mono (by decide)
  have G__law_made : FnOk P w K mg base CX0 11 (za 10) (zl 10) ["_law_rows", "_law_wide"] (spMadeL C) := (ok__law_made B L).mono (by decide)
  have G__law_names : FnOk P w K mg base CX0 11 (za 8) (zl 8) ["_law_box_here", "_law_size"] spNmsL := (ok__law_names B L).mono (by decide)
  have G_Net_give : FnOk P w K mg base CX0 11 (za 26) (zl 26) ["self", "name", "wires"] (spGive K C) := (ok_Net_give B L).mono (by decide)
  have G_Net_like : FnOk P w K mg base CX0 11 (za 32) (zl 32) ["self"] (spLike C) := (ok_Net_like B L).mono (by decide)
  have G_Net_fixed : FnOk P w K mg base CX0 11 (za 22) (zl 22) ["self", "bit"] (spFixed C) := (ok_Net_fixed B L).mono (by decide)
  have G__law_ran_right : FnOkG P w K mg base CX0 11 (za 14) (zl 14) ["_law_box_here", "_law_net", "_law_rows", "_law_lists", "_law_inputs"] (spRanR C) := (ok__law_ran_right B L).mono (by decide)
  have G__law_case_right : FnOk P w K mg base CX0 11 (za 15) (zl 15) ["_law_box_here", "_law_net", "_law_rows", "_law_lists", "_law_inputs"] (spCaseR C) := (ok__law_case_right B L).mono (by decide)
  have G_Net___len__ : FnOk P w K mg base CX0 11 (za 31) (zl 31) ["self"] (spLenN C) := (ok_Net___len__ B L).mono (by decide)
  have G_Net_gates : FnOk P w K mg base CX0 11 (za 30) (zl 30) ["self"] (spGates C) := (ok_Net_gates B L).mono (by decide)
  have G__law_more_right : FnOk P w K mg base CX0 11 (za 16) (zl 16) ["_law_box_here", "_law_net", "_law_rows", "_law_lists", "_law_inputs"] (spMoreR C) := (ok__law_more_right B L).mono (by decide)
  have G_ran : FnOk P w K mg base CX0 11 (za 2) (zl 2) ["net", "values", "many"] (spRan K C) := (ok_ran B L).mono (by decide)
  have G_one_case : FnOk P w K mg base CX0 11 (za 4) (zl 4) ["net", "word"] (spOneC C) := (ok_one_case B L).mono (by decide)
  have G__law_same : FnOk P w K mg base CX0 11 (za 7) (zl 7) ["_law_found", "_law_due"] (spSame K 3) := (ok_same L.F__law_same L.b__law_same L.m__law_same B 3).mono (by decide)
  refine F.okG sc_law (fun vs H Q E h => ?_) (fun cdv A outer s H vs Q E gd hr h => ?_)
  · obtain ⟨a, ns, rfl, _⟩ := h
    rfl
  obtain ⟨a, ns, rfl, hS, h63, q⟩ := h
  refine ⟨_, (pss_cons (ps_for PassesOwn.never rfl (pi_range1 (by rfl) B.range (pa_cons (pe_op op_add pe_int (pe_callB (call_min2 rfl) (by rfl) B.min boot_min (pa_cons pe_int (pa_cons (pe_callB call_len_seq (by rfl) B.len PySem.boot_len (pa_cons (pv 0) pa_nil)) pa_nil)))) pa_nil)) (pg_name (i := 1) sc_law.nd rfl (.inl rfl)) (pss_cons (ps_set (i := 2) sc_law.nd rfl (.inr rfl) (pe_call G__law_box hr (by rfl) L.m__law_box L.F__law_box.kp L.b__law_box .nil pass0 (pa_cons (pv 0) (pa_cons (pv 1) pa_nil))))
    (pss_cons (ps_asg (pe_tup (pa_cons (pe_op op_add pe_int (pe_call G__law_take hr (by rfl) L.m__law_take L.F__law_take.kp L.b__law_take .nil pass0 (pa_cons (pv 2) (pa_cons pe_int pa_nil)))) (pa_cons pe_dnewK pa_nil))) (pg_tup (by rfl) (pgs_cons (pg_name (i := 3) sc_law.nd rfl (.inr rfl)) (pgs_cons (pg_name (i := 4) sc_law.nd rfl (.inl rfl)) pgs_nil))))
    (pss_cons (ps_set (i := 5) sc_law.nd rfl (.inr rfl) (pe_call G__law_gates hr (by rfl) L.m__law_gates L.F__law_gates.kp L.b__law_gates .nil pass0 (pa_cons (pv 2) (pa_cons (pv 3) (pa_cons (pe_call G__law_take hr (by rfl) L.m__law_take L.F__law_take.kp L.b__law_take .nil pass0 (pa_cons (pv 2) (pa_cons pe_int pa_nil))) pa_nil)))))
    (pss_cons (ps_set (i := 6) sc_law.nd rfl (.inl rfl) (pe_call G__law_made hr (by rfl) L.m__law_made L.F__law_made.kp L.b__law_made .nil pass0 (pa_cons (pv 5) (pa_cons (pv 3) pa_nil))))
    (pss_cons (ps_for PassesOwn.never rfl (pi_list (pe_call G__law_names hr (by rfl) L.m__law_names L.F__law_names.kp L.b__law_names .nil pass0 (pa_cons (pv 2) (pa_cons (pe_op op_add pe_int (pe_call G__law_take hr (by rfl) L.m__law_take L.F__law_take.kp L.b__law_take .nil pass0 (pa_cons (pv 2) (pa_cons pe_int pa_nil)))) pa_nil)))) (pg_name (i := 7) sc_law.nd rfl (.inl rfl)) (pss_cons (ps_asg (pe_lc (own := [("_law_turn", 9)]) (by rfl) sc_law.nd (pi_range1 (by rfl) B.range (pa_cons (pe_call G__law_take hr (by rfl) L.m__law_take L.F__law_take.kp L.b__law_take .nil pass0 (pa_cons (pv 2) (pa_cons pe_int pa_nil))) pa_nil)) (blkOk_by (own := [("_law_turn", 9)]) (N := ["_law_script", "_law_k", "_law_box_here", "_law_inputs", "_law_lists", "_law_rows", "_law_net", "_law_name", "_law_like", "_law_turn", "_law_both", "_law_lists_too", "_law_bare"]) (sc := defScope s_law) (by decide +kernel)) (fun _ _ _ _ _ => pg_name (i := 9) sc_law.nd rfl (Or.inl rfl)) (fun _ _ _ _ _ => pts_nil) (fun _ _ _ _ _ => (pe_call G__law_take hr (by rfl) L.m__law_take L.F__law_take.kp L.b__law_take .nil pass0 (pa_cons (pv 2) (pa_cons (pe_op op_add (pv 3) (pe_callB (call_len_seqK (K := K)) (by rfl) B.len PySem.boot_len (pa_cons (pv 5) pa_nil))) pa_nil))))) (pg_sub (pv 4) (pv 7) (set_dict (units1 hr))))
    (pss_one (ps_expr (pe_meth (pv 6) L.T.cl L.M_Net_give G_Net_give hr L.b_Net_give .nil pass0 (pa_cons (pv 7) (pa_cons (pe_dget (units1 hr) (pv 4) (pv 7) (fun _ _ => rfl)) pa_nil)))))))
    (pss_cons (ps_set (i := 8) sc_law.nd rfl (.inl rfl) (pe_meth0 (pv 6) L.T.cl L.M_Net_like G_Net_like hr L.b_Net_like .nil pass0))
    (pss_cons (ps_expr (pe_meth (pv 8) L.T.cl L.M_Net_give G_Net_give hr L.b_Net_give .nil pass0 (pa_cons pe_str (pa_cons (pe_lst (pa_cons (pe_meth (pv 8) L.T.cl L.M_Net_fixed G_Net_fixed hr L.b_Net_fixed .nil pass0 (pa_cons pe_int pa_nil)) pa_nil)) pa_nil))))
    (pss_cons (ps_for PassesOwn.never rfl (pi_range1 (by rfl) B.range (pa_cons pe_int pa_nil)) (pg_name (i := 9) sc_law.nd rfl (.inl rfl)) (pss_one (ps_if (PW.pt (pw_or (pt_not (pt_val (pe_callG G__law_ran_right gd hr (by rfl) L.m__law_ran_right L.F__law_ran_right.kp L.b__law_ran_right .nil pass0 (pa_cons (pv 2) (pa_cons (pv 6) (pa_cons (pv 5) (pa_cons (pv 4) (pa_cons (pv 3) pa_nil)))))))) (pw_or1 (pt_not (pt_val (pe_call G__law_case_right hr (by rfl) L.m__law_case_right L.F__law_case_right.kp L.b__law_case_right .nil pass0 (pa_cons (pv 2) (pa_cons (pv 6) (pa_cons (pv 5) (pa_cons (pv 4) (pa_cons (pv 3) pa_nil))))))))))) (pss_one (ps_ret pe_bl)) pss_nil)))
    (pss_cons (ps_set (i := 10) sc_law.nd rfl (.inl rfl) (pe_op op_cat (pv 5) (pe_lst (pa_cons (pe_tup (pa_cons pe_str (pa_cons pe_int pa_nil))) pa_nil))))
    (pss_cons (ps_set (i := 11) sc_law.nd rfl (.inl rfl) (pe_callTy call_dictD (by rfl) L.z_dict PyProof.Rows.boot_dict (pa_cons (pv 4) pa_nil)))
    (pss_cons (ps_asg (pe_lst (pa_cons (pe_op op_add (pv 3) (pe_callB call_len_seq (by rfl) B.len PySem.boot_len (pa_cons (pv 5) pa_nil))) pa_nil)) (pg_sub (pv 11) pe_str (set_dict (units1 hr))))
    (pss_cons (ps_if (PW.pt (pw_or (pt_not (pt_val (pe_call G__law_case_right hr (by rfl) L.m__law_case_right L.F__law_case_right.kp L.b__law_case_right .nil pass0 (pa_cons (pv 2) (pa_cons (pv 8) (pa_cons (pv 10) (pa_cons (pv 11) (pa_cons (pv 3) pa_nil)))))))) (pw_or1 (pt_cmpR op_ne (pe_callB (call_lenOwn L.M_Net___len__ (ok_Net___len__ B L) L.b_Net___len__ (hr.mono (by decide)) pass0) (by rfl) B.len boot_len (pa_cons (pv 8) pa_nil)) (pe_op op_add (pe_callB (call_lenOwn L.M_Net___len__ (ok_Net___len__ B L) L.b_Net___len__ (hr.mono (by decide)) pass0) (by rfl) B.len boot_len (pa_cons (pv 6) pa_nil)) pe_int) (nomark _))))) (pss_one (ps_ret pe_bl)) pss_nil)
    (pss_cons (ps_if (PW.pt (pw_or (pt_cmpR (op_neD hr.units) (pe_meth0 (pv 6) L.T.cl L.M_Net_gates G_Net_gates hr L.b_Net_gates .nil pass0) (pv 5) (nomark _)) (pw_or1 (pt_not (pt_val (pe_call G__law_more_right hr (by rfl) L.m__law_more_right L.F__law_more_right.kp L.b__law_more_right .nil pass0 (pa_cons (pv 2) (pa_cons (pv 6) (pa_cons (pv 5) (pa_cons (pv 4) (pa_cons (pv 3) pa_nil))))))))))) (pss_one (ps_ret pe_bl)) pss_nil)
    (pss_cons (ps_set (i := 12) sc_law.nd rfl (.inl rfl) (pe_call G__law_made hr (by rfl) L.m__law_made L.F__law_made.kp L.b__law_made .nil pass0 (pa_cons (pv 5) (pa_cons (pv 3) pa_nil))))
    (pss_one (ps_if (pt_not (pt_val (pe_call G__law_same hr (by rfl) L.m__law_same L.F__law_same.kp L.b__law_same .nil pass0 (pa_cons (pe_lst (pa_cons (pe_callN G_ran hr (by rfl) L.m_ran L.F_ran.kp (L.kb_ran_many).choose_spec pass0 (pa_cons (pv 12) (pa_cons (pe_op op_rep (pe_lst (pa_cons pe_int pa_nil)) (pv 3)) pa_nil)) (pk_cons pe_int pk_nil)) (pa_cons (pe_call G_one_case hr (by rfl) L.m_one_case L.F_one_case.kp L.b_one_case .nil pass0 (pa_cons (pv 12) (pa_cons pe_int pa_nil))) pa_nil))) (pa_cons (pe_lst (pa_cons (pe_lst pa_nil) (pa_cons (pe_lst pa_nil) pa_nil))) pa_nil))))) (pss_one (ps_ret pe_bl)) pss_nil)))))))))))))))))
    (pss_one (ps_ret pe_bl))), ?_⟩
  refine ⟨_, rfl, a, _, rfl, .inl hS, _, _, rfl, ?_⟩
  obtain ⟨n, en, hn⟩ : ∃ n : Nat, 1 + (if (((ns.map V.int).length : Nat) : Int) < 3 then (((ns.map V.int).length : Nat) : Int) else (3 : Int)) = (n : Int) ∧ n ≤ 4 := by
    split
    · exact ⟨1 + (ns.map V.int).length, by omega, by omega⟩
    · exact ⟨4, by decide, by decide⟩
  refine ⟨_, _, rfl, rfl, (n : Int), congrArg (fun z => [V.int z]) en, by omega, by omega, ?_⟩
  rw [Int.toNat_natCast]
  refine for_range (n := n) (fun i σ H5 => ∃ (y1 y2 y3 y4 y5 y6 y7 y8 y9 y10 y11 y12 : Option V), σ = [some (.ref a), y1, y2, y3, y4, y5, y6, y7, y8, y9, y10, y11, y12] ∧ Same H H5) ⟨_, _, _, _, _, _, _, _, _, _, _, _, rfl, Same.refl _⟩ ?_ ?_
  · rintro i σ H5 hi ⟨y1, y2, y3, y4, y5, y6, y7, y8, y9, y10, y11, y12, rfl, s5⟩
    dsimp only [gName]
    try simp only [L2.start, List.map_cons, List.map_nil, List.length_cons, List.length_nil, List.replicate_succ, List.replicate_zero, List.cons_append, List.nil_append, List.set_cons_succ, List.set_cons_zero, Nat.reduceAdd, Nat.reduceSub, Nat.zero_add]
    refine ⟨_, rfl, _, rfl, a, ns, _, rfl, s5.seq hS, by omega, by omega, fun b H6 nb s6 B6 => ?_⟩
    dsimp only [gName]
    try simp only [L2.start, List.map_cons, List.map_nil, List.length_cons, List.length_nil, List.replicate_succ, List.replicate_zero, List.cons_append, List.nil_append, List.set_cons_succ, List.set_cons_zero, Nat.reduceAdd, Nat.reduceSub, Nat.zero_add]
    refine ⟨_, rfl, b, _, _, rfl, B6, by decide, by decide, by decide, by omega, by decide, fun r1 H1 u1 v1 B1 k1 => ?_⟩
    replace B1 := bx1 B1
    obtain ⟨r, rfl⟩ : ∃ r : Nat, r1 = (r : Int) := ⟨r1.toNat, by omega⟩
    obtain ⟨m, em, m1, m12⟩ : ∃ m : Nat, 1 + (r : Int) = (m : Int) ∧ 1 ≤ m ∧ m ≤ 12 := ⟨1 + r, by omega, by omega, by omega⟩
    refine ⟨_, _, rfl, rfl, fun d nd => ?_⟩
    have sd := same_upd (o := .dK []) nd
    have ed : (upd H1 d (.dK [])) d = some (.dK []) := upd_same
    have ndb : d ≠ b := (B1.ne nd).symm
    have B2 := B1.same sd
    have nb5 : H5 b = none := nb
    have S1 : Same H5 (upd H1 d (.dK [])) := (sExtB s6 k1 nb).trans sd
    have nd5 : H5 d = none := by
      cases e : H5 d with
      | none => rfl
      | some o => rw [sExtB s6 k1 nb _ _ e] at nd; cases nd
    generalize upd H1 d (.dK []) = H2 at *
    refine ⟨by show 2 ≤ sizeLine; decide, fun pt npt => ?_⟩
    have st := same_upd (o := .tup [.int (1 + (r : Int)), .ref d]) npt
    have ept : (upd H2 pt (.tup [.int (1 + (r : Int)), .ref d])) pt = some (.tup [.int (1 + (r : Int)), .ref d]) := upd_same
    refine ⟨pt, _, rfl, .inl (.inl ept), rfl, _, _, rfl, _, _, rfl, rfl, ?_⟩
    have B3 := B2.same st
    have ed3 := st _ _ ed
    have S3 := S1.trans st
    generalize upd H2 pt (.tup [.int (1 + (r : Int)), .ref d]) = H3 at *
    dsimp only
    rw [em]
    try simp only [L2.start, List.map_cons, List.map_nil, List.length_cons, List.length_nil, List.replicate_succ, List.replicate_zero, List.cons_append, List.nil_append, List.set_cons_succ, List.set_cons_zero, Nat.reduceAdd, Nat.reduceSub, Nat.zero_add]
    refine ⟨_, rfl, _, rfl, _, rfl, b, _, _, rfl, B3, by decide, by decide, by decide, by omega, by decide, fun r4 H4 u4 v4 B4 k4 => ?_⟩
    replace B4 := bx1 B4
    obtain ⟨ng, rfl⟩ : ∃ ng : Nat, r4 = (ng : Int) := ⟨r4.toNat, by omega⟩
    refine ⟨b, _, m, ng, rfl, B4, by omega, by omega, by omega, by omega, fun R gs H7 lgs ok nRb hR B7 k7 => ?_⟩
    have k37 := k4.trans k7
    have ed7 := k37 _ _ ed3 ndb
    have S7 := sExtB S3 k37 nb5
    have nRd : R ≠ d := fun z => by
      obtain ⟨ts, _, e, _⟩ := hR
      rw [z, ed7] at e
      cases e
    replace B7 : BoxAt 2000 H7 b := B7.mono (by omega)
    dsimp only [gName]
    try simp only [L2.start, List.map_cons, List.map_nil, List.length_cons, List.length_nil, List.replicate_succ, List.replicate_zero, List.cons_append, List.nil_append, List.set_cons_succ, List.set_cons_zero, Nat.reduceAdd, Nat.reduceSub, Nat.zero_add]
    have Zs : ∀ z ∈ [b, R, d], H7 z ≠ none := memL B7.some (memL (by obtain ⟨ts, _, e, _⟩ := hR; exact some_ne e) (memL (some_ne ed7) (fun _ z => nomatch z)))
    refine ⟨_, rfl, _, rfl, [b, R, d], R, m, gs, rfl, Zs, hR, ok, by omega, by omega, fun p H8 s8 N8 ⟨n1, n2, n3, n4⟩ => ?_⟩
    have nn : ∀ y ∈ [p.x, p.lm, p.ld, p.dn], H7 y = none := memL n1 (memL n2 (memL n3 (memL n4 (fun _ z => nomatch z))))
    have R8 := hR.same s8
    have B8 := B7.same s8
    have ed8 := s8 _ _ ed7
    have S8 := S7.trans s8
    have nn5 : ∀ y ∈ [p.x, p.lm, p.ld, p.dn], H5 y = none := fun y hy => by
      cases e : H5 y with
      | none => rfl
      | some o =>
        have := S7 _ _ e
        rw [nn y hy] at this
        cases this
    have f4 := N8.four
    dsimp only [gName]
    try simp only [L2.start, List.map_cons, List.map_nil, List.length_cons, List.length_nil, List.replicate_succ, List.replicate_zero, List.cons_append, List.nil_append, List.set_cons_succ, List.set_cons_zero, Nat.reduceAdd, Nat.reduceSub, Nat.zero_add]
    refine ⟨_, rfl, _, rfl, b, _, _, rfl, B8, by omega, by omega, by omega, by omega, by decide, fun r9 H9 u9 v9 B9 k9 => ?_⟩
    replace B9 := bx1 B9
    obtain ⟨nq, rfl⟩ : ∃ nq : Nat, r9 = (nq : Int) := ⟨r9.toNat, by omega⟩
    refine ⟨_, _, rfl, rfl, b, _, 1 + nq, congrArg (fun z => [V.ref b, V.int z]) (by omega), B9, by omega, by omega, fun ss D HA lss hss nds hq lss2 nD eD BA kA => ?_⟩
    have nDb : D ≠ b := (B9.ne nD).symm
    have k8A := k9.trans kA
    have nb8 : ∀ y ∈ [p.x, p.lm, p.ld, p.dn], y ≠ b := fun y hy z => by
      have := nn y hy
      rw [z] at this
      exact B7.some this
    have BA' : BoxAt 3000 HA b := BA.mono (by omega)
    have NA := N8.keepB k8A BA.some (by simp)
    have RA := R8.keepB k8A B8
    have edA := k8A _ _ ed8 ndb
    have SA := sExtB S8 k8A nb5
    have bk8 : ∀ {y : Addr} {o : HO}, H8 y = some o → HA y ≠ none := fun {y o} e => by
      by_cases c : y = b
      · rw [c]; exact BA.some
      · exact some_ne (k8A _ _ e c)
    have nD8 : H8 D = none := keepN k9 nDb nD
    have nD4 : D ∉ [p.x, p.lm, p.ld, p.dn] := fun z => (f4 D z).1 nD8
    have nDd : D ≠ d := fun z => by rw [z, ed8] at nD8; cases nD8
    have d4 : d ∉ [p.x, p.lm, p.ld, p.dn] := fun z => some_ne ed7 (nn d z)
    have DA : DlAt [b, p.x, p.lm, p.ld, p.dn] HA d [] := ⟨fun z => by
      rcases List.mem_cons.mp z with w | w
      · exact ndb w
      · exact d4 w, [], edA, rfl, List.nodup_nil, fun i k v n ws h => by simp at h⟩
    refine ⟨D, rfl, ⟨_, SqL.of eD⟩, ?_⟩
    refine for_it (walk_list (K := K) (a := D) (xs := ss.map V.str)) (fun j σ HX => ∃ (y7 : Option V) (nm : List (Str × List Nat)), σ = [some (.ref a), some (.int (0 + (i : Int))), some (.ref b), some (.int (m : Int)), some (.ref d), some (.ref R), some (.ref p.x), y7, y8, y9, y10, y11, y12] ∧ nm.map (·.1) = ss.take j ∧ (∀ x ∈ nm, x.2.length ≤ 6 ∧ ∀ a ∈ x.2, a < m + gs.length) ∧ NetAt C [b, R, d] HX p m gs nm ∧ DlAt [b, p.x, p.lm, p.ld, p.dn] HX d nm ∧ BoxAt (3000 + 50 * j) HX b ∧ KeepS [b, d, p.dn] HA HX) ⟨_, [], rfl, rfl, (fun _ z => nomatch z), NA, DA, BA', KeepS.refl _ _⟩ (fun j σ HX _ ⟨_, _, _, _, _, _, _, _, kX⟩ => SqL.of (kX.1 _ _ eD (fun z => by
      simp only [List.mem_cons, List.not_mem_nil, or_false] at z nD4
      rcases z with z | z | z
      · exact nDb z
      · exact nDd z
      · exact nD4 (by simp [z])))) ?_ ?_
    · rintro j v σ HY HX hj ⟨y7, nm, rfl, enm, hnm, NX, DX, BX, kX⟩ ⟨rfl, hz⟩
      rw [List.length_map] at hj
      rw [List.getElem?_map, List.getElem?_eq_getElem hj] at hz
      have hy : ss[j]? = some ss[j] := List.getElem?_eq_getElem hj
      cases hz
      have tk : ss.take (j + 1) = ss.take j ++ [ss[j]] := by rw [List.take_add_one, hy]; rfl
      have yn : ss[j] ∉ nm.map (·.1) := fun z => by
        rw [enm] at z
        have nt := nds.sublist (List.take_sublist (j + 1) ss)
        rw [tk, List.nodup_append] at nt
        exact nt.2.2 _ z _ (List.mem_singleton.mpr rfl) rfl
      have lnm : nm.length = j := by
        have := congrArg List.length enm
        rw [List.length_map, List.length_take] at this
        omega
      generalize ss[j] = y at *
      have RX := RA.keep kX (fun z => by
        simp only [List.mem_cons, List.not_mem_nil, or_false] at z
        rcases z with w | w | w
        · exact nRb w
        · exact nRd w
        · have n4' := n4
          obtain ⟨ts, _, e, _⟩ := hR
          rw [← w, e] at n4'
          cases n4') (fun y hy xs w => by
        simp only [List.mem_cons, List.not_mem_nil, or_false] at hy
        rcases hy with z | z | z <;> rw [z] at w
        · obtain ⟨_, _, _, eb, _⟩ := BA
          rw [eb] at w
          cases w
        · rw [edA] at w
          cases w
        · exact (NA.four p.dn (by simp)).2 _ w)
      dsimp only [gName]
      try simp only [L2.start, List.map_cons, List.map_nil, List.length_cons, List.length_nil, List.replicate_succ, List.replicate_zero, List.cons_append, List.nil_append, List.set_cons_succ, List.set_cons_zero, Nat.reduceAdd, Nat.reduceSub, Nat.zero_add]
      refine ⟨_, rfl, b, _, _, rfl, BX, by omega, by omega, by omega, by omega, by decide, fun r2 HB u2 v2 BB kB => ?_⟩
      replace BB := bx1 BB
      obtain ⟨nl, rfl⟩ : ∃ nl : Nat, r2 = (nl : Int) := ⟨r2.toNat, by omega⟩
      have NB := NX.keepB kB BB.some (by simp)
      have DB := DX.keepB kB BB.some (by simp)
      refine ⟨_, rfl, by omega, by omega, fun l nL => ?_⟩
      have nlb : l ≠ b := (BB.ne nL).symm
      rw [Int.toNat_natCast]
      refine lc_range (n := nl) (fun j' HC => ∃ ws : List Nat, ws.length = j' ∧ (∀ a ∈ ws, a < m + gs.length) ∧ Keep b HB HC ∧ BoxAt (3002 + 50 * j + 2 * j') HC b ∧ HC l = some (.lst (nts ws))) ⟨[], rfl, (fun _ z => nomatch z), Keep.new nL, (BB.same (same_upd nL)).mono (by omega), upd_same⟩ ?_ ?_
      · rintro j' HC hj' ⟨ws, lws, hws, kC, BC, eC⟩
        dsimp only [gName]
        refine ⟨rfl, yesT ?_⟩
        try simp only [L2.start, List.map_cons, List.map_nil, List.length_cons, List.length_nil, List.replicate_succ, List.replicate_zero, List.cons_append, List.nil_append, List.set_cons_succ, List.set_cons_zero, Nat.reduceAdd, Nat.reduceSub, Nat.zero_add]
        obtain ⟨rts, lrt, eRC, _⟩ := (RX.keepB kB BX).keepB kC BB
        refine ⟨_, rfl, _, rfl, _, rfl, R, _, rfl, .inl (SqL.of eRC), _, _, rfl, rfl, b, _, _, rfl, BC, ?_, ?_, ?_, by omega, by decide, fun r3 HD u3 v3 BD kD => ?_⟩
        · rw [List.length_map, lrt]; omega
        · rw [List.length_map, lrt]; omega
        · rw [List.length_map, lrt]; omega
        rw [List.length_map, lrt] at v3
        replace BD := bx1 BD
        obtain ⟨z, rfl⟩ : ∃ z : Nat, r3 = (z : Int) := ⟨r3.toNat, by omega⟩
        refine ⟨_, kD _ _ eC nlb, by rw [nts_len, lws]; exact big_lt (by omega), ws ++ [z], by rw [List.length_append, lws]; rfl, fun x hx => ?_, fun y o e ny => ?_, BoxAt.mono (BD.at (upd_ne nlb.symm)) (by omega), ?_⟩
        · rcases List.mem_append.mp hx with y | y
          · exact hws x y
          · rw [List.mem_singleton.mp y]
            omega
        · rw [upd_ne (ne_of_none e nL)]
          exact kD _ _ (kC _ _ e ny) ny
        · rw [upd_same]
          unfold nts
          rw [List.map_append]
          rfl
      rintro HC ⟨ws, lws, hws, kC, BC, eC⟩
      have NC := NB.keepB kC BC.some (by simp)
      have DC := DB.keepB kC BC.some (by simp)
      obtain ⟨kvs, edC⟩ : ∃ kvs, HC d = some (.dK kvs) := by
        obtain ⟨_, kvs, e, _⟩ := id DC
        exact ⟨kvs, e⟩
      have lk : kvs.length = nm.length := by
        obtain ⟨_, kvs', e', l', _⟩ := id DC
        rw [edC] at e'
        cases e'
        exact l'
      have nlS : l ∉ [b, p.x, p.lm, p.ld, p.dn] := fun z => by
        rcases List.mem_cons.mp z with w | w
        · exact nlb w
        · exact (NB.four l w).1 nL
      have nld : l ≠ d := fun z => by
        obtain ⟨_, _, e, _⟩ := id DB
        rw [← z, nL] at e
        cases e
      refine ⟨_, rfl, _, rfl, d, _, rfl, DPut.k (k := .inr y) edC (by rw [lk]; exact big_lt (by omega)), ?_⟩
      have DD := DC.one edC yn nlS nld eC
      have ND := NC.put (D := d) (o := .dK (putK kvs (.inr y) (.ref l))) (by simp)
      have BD := BC.at (H' := upd HC d (.dK (putK kvs (.inr y) (.ref l)))) (upd_ne ndb.symm)
      have kXD : KeepS [b, d, p.dn] HA (upd HC d (.dK (putK kvs (.inr y) (.ref l)))) := kX.trans (((KeepS.ofKeep kB (by simp) BB.some).trans (KeepS.ofKeep kC (by simp) BC.some)).trans (KeepS.upd (by simp)))
      generalize upd HC d (.dK (putK kvs (.inr y) (.ref l))) = HD at *
      have nmz : (nm ++ [(y, ws)]).map (·.1) = nm.map (·.1) ++ [y] := by rw [List.map_append]; rfl
      obtain ⟨kvs2, ed2, _, dg2⟩ := DD.keys
      obtain ⟨l2, ev2, _, _, el2, _⟩ := dg2 y (by rw [nmz]; simp)
      have nd2 : ((nm ++ [(y, ws)]).map (·.1)).Nodup := (DD.2).elim fun _ h => h.2.2.1
      rw [lkN_mem nd2 (show (y, ws) ∈ nm ++ [(y, ws)] by simp)] at el2
      have ev' : DGet HD d (.str y) (some (.ref l2)) := by
        rw [← ev2]
        exact DGet.k (k := .inr y) ed2
      obtain ⟨_, _, _, dx, _, _, e1, _⟩ := id ND
      refine ⟨_, rfl, p.x, dx, _, rfl, e1, rfl, _, rfl, _, rfl, _, rfl, d, .ref l2, rfl, ev', [b, R, d], p, m, gs, nm, y, l2, ws, rfl, ND, yn, .inl (SqL.of el2), hws, by omega, fun HE kE NE => ?_⟩
      have DE := DD.keep kE (fun z hz => by rw [List.mem_singleton.mp hz]; simp)
      have pnb : p.dn ≠ b := nb8 _ (by simp)
      exact ⟨_, nm ++ [(y, ws)], rfl, by rw [nmz, enm, tk], (fun x hx => by
        rcases List.mem_append.mp hx with z | z
        · exact hnm x z
        · rw [List.mem_singleton.mp z]
          exact ⟨by show ws.length ≤ 6; omega, hws⟩), NE, DE, BoxAt.mono (BD.keepS kE (fun z => pnb (List.mem_singleton.mp z).symm)) (by omega), kXD.trans (kE.mono (fun z hz => by rw [List.mem_singleton.mp hz]; simp))⟩
    rintro σ HX ⟨y7', nm, rfl, enm, hnm, NX, DX, BX, kX⟩
    rw [List.length_map, List.take_of_length_le (Nat.le_refl _)] at enm
    have lnm : nm.length = ss.length := by rw [← enm, List.length_map]
    replace BX : BoxAt 4000 HX b := BX.mono (by rw [List.length_map]; omega)
    have none3 : ∀ y ∈ [b, d, p.dn], H5 y = none := memL nb5 (memL nd5 (memL (nn5 _ (by simp)) (fun _ z => nomatch z)))
    have SX := sExt SA kX none3
    have tup3 : ∀ y ∈ [b, d, p.dn], ∀ xs, HA y ≠ some (.tup xs) := fun y hy xs w => by
      simp only [List.mem_cons, List.not_mem_nil, or_false] at hy
      rcases hy with z | z | z <;> rw [z] at w
      · obtain ⟨_, _, _, eb, _⟩ := BA
        rw [eb] at w
        cases w
      · rw [edA] at w
        cases w
      · exact (NA.four p.dn (by simp)).2 _ w
    have RX := RA.keep kX (fun z => by
      simp only [List.mem_cons, List.not_mem_nil, or_false] at z
      rcases z with w | w | w
      · exact nRb w
      · exact nRd w
      · have n4' := n4
        obtain ⟨ts, _, e, _⟩ := hR
        rw [← w, e] at n4'
        cases n4') tup3
    have nnX : nm.length ≤ 6 := by omega
    clear DA NA R8 N8 hR
    obtain ⟨_, _, _, dx, _, _, e1, _⟩ := id NX
    dsimp only
    refine ⟨_, rfl, p.x, dx, _, rfl, e1, rfl, [b, R, d], p, m, gs, nm, rfl, NX, by omega, by omega, by omega, fun p2 HL sL nn2 N2 => ?_⟩
    obtain ⟨q1, q2, q3, q4⟩ := nn2
    have nn2 : ∀ y ∈ [p2.x, p2.lm, p2.ld, p2.dn], HX y = none := memL q1 (memL q2 (memL q3 (memL q4 (fun _ z => nomatch z))))
    have nn25 : ∀ y ∈ [p2.x, p2.lm, p2.ld, p2.dn], H5 y = none := fun y hy => by
      cases e : H5 y with
      | none => rfl
      | some o =>
        have := SX _ _ e
        rw [nn2 y hy] at this
        cases this
    have Z0 : ∀ z ∈ [b, R, d], HX z ≠ none := NX.1
    have N2L := N2 [b, R, d, p.x, p.lm, p.ld, p.dn] (fun z hz => by
      simp only [List.mem_cons, List.not_mem_nil, or_false] at hz
      rcases hz with w | w | w | w | w | w | w <;> rw [w]
      · exact ⟨Z0 b (by simp), .inl (by simp)⟩
      · exact ⟨Z0 R (by simp), .inl (by simp)⟩
      · exact ⟨Z0 d (by simp), .inl (by simp)⟩
      · exact ⟨(NX.four _ (by simp)).1, .inr (by simp)⟩
      · exact ⟨(NX.four _ (by simp)).1, .inr (by simp)⟩
      · exact ⟨(NX.four _ (by simp)).1, .inr (by simp)⟩
      · exact ⟨(NX.four _ (by simp)).1, .inr (by simp)⟩)
    have NL := NX.more (S := []) (Y := [p2.x, p2.lm, p2.ld, p2.dn]) (Z' := [b, R, d, p2.lm, p2.ld, p2.dn]) (KeepS.ofSame sL) (fun _ z => nomatch z) (fun y hy => ⟨nn2 y hy, (N2L.four y hy).1⟩) (fun z hz => by
      simp only [List.mem_cons, List.not_mem_nil, or_false] at hz ⊢
      rcases hz with w | w | w | w | w | w <;> simp [w])
    have DL := DX.more (S := []) (Y := [p2.x, p2.lm, p2.ld, p2.dn]) (Z' := [b, p.lm, p.ld, p.dn, p2.lm, p2.ld, p2.dn]) (KeepS.ofSame sL) (fun _ z => nomatch z) nn2 (fun z hz => by
      simp only [List.mem_cons, List.not_mem_nil, or_false] at hz ⊢
      rcases hz with w | w | w | w | w | w | w <;> simp [w])
    have RL := RX.same sL
    have BL := BX.same sL
    have SL := SX.trans sL
    have b2 : b ∉ [p2.lm, p2.ld, p2.dn] := fun z => Z0 b (by simp) (nn2 b (List.mem_cons_of_mem _ z))
    have R2n : R ∉ [p2.lm, p2.ld, p2.dn] := fun z => Z0 R (by simp) (nn2 R (List.mem_cons_of_mem _ z))
    clear N2
    dsimp only [gName]
    try simp only [L2.start, List.map_cons, List.map_nil, List.length_cons, List.length_nil, List.replicate_succ, List.replicate_zero, List.cons_append, List.nil_append, List.set_cons_succ, List.set_cons_zero, Nat.reduceAdd, Nat.reduceSub, Nat.zero_add]
    obtain ⟨_, _, _, dx2, _, _, e2, _⟩ := id N2L
    refine ⟨_, rfl, p2.x, dx2, _, rfl, e2, rfl, ?_⟩
    refine ⟨_, rfl, p2.x, dx2, _, rfl, e2, rfl, [b, R, d, p.x, p.lm, p.ld, p.dn], p2, m, gs, nm, 1, rfl, N2L, by omega, fun HM kM NM => ?_⟩
    refine ⟨by show 1 ≤ sizeLine; decide, fun L nL => ?_⟩
    have sLL := same_upd (o := .lst [.int ((m + gs.length : Nat) : Int)]) nL
    have eL : (upd HM L (.lst [.int ((m + gs.length : Nat) : Int)])) L = some (.lst (nts [m + gs.length])) := upd_same
    have NM2 := NM.same sLL
    generalize upd HM L (.lst [.int ((m + gs.length : Nat) : Int)]) = HN at *
    have qn : ("q" : Str) ∉ nm.map (·.1) := fun z => by
      rw [enm] at z
      exact hq _ z (by decide +kernel)
    have gl : (gs ++ [Gt.fi 1]).length = gs.length + 1 := by rw [List.length_append]; rfl
    refine ⟨[b, R, d, p.x, p.lm, p.ld, p.dn], p2, m, gs ++ [.fi 1], nm, "q", L, [m + gs.length], rfl, NM2, qn, .inl (SqL.of eL), fun a ha => by rw [List.mem_singleton.mp ha, gl]; omega, by omega, fun HQ kQ NQ => ?_⟩
    have kLQ : KeepS [p2.lm, p2.ld, p2.dn] HL HQ := ((kM.mono (fun y hy => by simp only [List.mem_cons, List.not_mem_nil, or_false] at hy ⊢; rcases hy with z | z <;> simp [z])).trans (.ofSame sLL)).trans (kQ.mono (fun y hy => by rw [List.mem_singleton.mp hy]; simp))
    have in2 : ∀ y ∈ [p2.lm, p2.ld, p2.dn], y ∈ [p2.x, p2.lm, p2.ld, p2.dn] := fun y h => List.mem_cons_of_mem _ h
    have NP := NL.keep kLQ (fun y hy => by simp only [List.mem_cons, List.not_mem_nil, or_false] at hy ⊢; rcases hy with z | z | z <;> simp [z])
    have DP := DL.keep kLQ (fun y hy => by simp only [List.mem_cons, List.not_mem_nil, or_false] at hy ⊢; rcases hy with z | z | z <;> simp [z])
    have RP := RL.keep kLQ R2n (fun y hy => (N2L.four y (in2 y hy)).2)
    have BP := BL.keepS kLQ b2
    have SP := sExt SL kLQ (fun y hy => nn25 y (in2 y hy))
    have nmO : ∀ x ∈ nm, PyData.strOk x.1 = true ∧ x.1.cps.toList.head? ≠ some 113 := fun x hx => by
      have : x.1 ∈ ss := by rw [← enm]; exact List.mem_map_of_mem hx
      exact ⟨(hss _ this).2.ok, hq _ this⟩
    have nmK : NmOk (m + gs.length) nm := ⟨by omega, fun x hx => ⟨by have := (hnm x hx).1; omega, (hnm x hx).2⟩⟩
    clear NM NM2 kM kQ sLL N2L NL DL RL BL
    dsimp only
    refine ⟨_, rfl, by decide, by decide, ?_⟩
    refine for_range (n := 2) (fun t σ HT => ∃ (y9 : Option V), σ = [some (.ref a), some (.int (0 + (i : Int))), some (.ref b), some (.int (m : Int)), some (.ref d), some (.ref R), some (.ref p.x), y7', some (.ref p2.x), y9, y10, y11, y12] ∧ Keep b HQ HT ∧ BoxAt (4000 + 20000 * t) HT b) ⟨_, rfl, Keep.refl _ _, BP.mono (by omega)⟩ ?_ ?_
    · rintro t σ HT ht ⟨y9', rfl, kT, BT⟩
      dsimp only [gName]
      try simp only [L2.start, List.map_cons, List.map_nil, List.length_cons, List.length_nil, List.replicate_succ, List.replicate_zero, List.cons_append, List.nil_append, List.set_cons_succ, List.set_cons_zero, Nat.reduceAdd, Nat.reduceSub, Nat.zero_add]
      have Dsub : ∀ {G : Hp}, Keep b HQ G → G b ≠ none → DlAt [b] G d nm := fun kG bG => (DP.keepB kG bG (by simp)).more (S := []) (Y := []) (KeepS.refl _ _) (fun _ z => nomatch z) (fun _ z => nomatch z) (fun z hz => .inl (by rw [List.mem_singleton.mp hz]; simp))
      refine ⟨_, rfl, _, rfl, _, rfl, _, rfl, _, rfl, [b, R, d, p2.lm, p2.ld, p2.dn], p, b, R, d, _, m, gs, nm, rfl, NP.keepB kT BT.some (by simp), by simp, BT, by omega, RP.keepB kT BP, ok, Dsub kT BT.some, nmK, fun x hx => (nmO x hx).1, by omega, by omega, by omega, by omega, fun HU kU BU => ?_⟩
      have kTU := kT.trans kU
      refine ⟨_, rfl, iteF ?_⟩
      refine ⟨_, rfl, _, rfl, _, rfl, _, rfl, _, rfl, [b, R, d, p2.lm, p2.ld, p2.dn], p, b, R, d, _, m, gs, nm, rfl, NP.keepB kTU BU.some (by simp), by simp, BU, by omega, RP.keepB kTU BP, ok, Dsub kTU BU.some, nmK, by omega, by omega, by omega, fun HV kV BV => ?_⟩
      refine ⟨_, rfl, iteF ?_⟩
      dsimp only [tNext]
      exact ⟨_, rfl, kTU.trans kV, BV.mono (by omega)⟩
    rintro σ HT ⟨y9', rfl, kT, BT⟩
    dsimp only
    replace NP := NP.keepB kT BT.some (by simp)
    replace NQ := NQ.keepB kT BT.some (by simp)
    replace RP := RP.keepB kT BP
    replace DP := DP.keepB kT BT.some (by simp)
    replace SP := sExtB SP kT nb5
    replace BT : BoxAt 50000 HT b := BT.mono (by omega)
    clear BP kT kLQ
    obtain ⟨rts, lrt, eRT, hrts⟩ := id RP
    refine ⟨_, rfl, by show 2 ≤ sizeLine; decide, fun u nu => ?_⟩
    have su := same_upd (o := .tup [.str "fixed", .int 1]) nu
    have eu : (upd HT u (.tup [.str "fixed", .int 1])) u = some (.tup (Gt.fi 1).row) := upd_same
    generalize upd HT u (.tup [.str "fixed", .int 1]) = HU at *
    refine ⟨by show 1 ≤ sizeLine; decide, fun Lo nLo => ?_⟩
    have sLo := same_upd (o := .lst [.ref u]) nLo
    have eLo : (upd HU Lo (.lst [.ref u])) Lo = some (.lst [.ref u]) := upd_same
    have eu2 := sLo _ _ eu
    generalize upd HU Lo (.lst [.ref u]) = HV at *
    have sTV := su.trans sLo
    refine ⟨R, Lo, _, _, rfl, rfl, sTV _ _ eRT, eLo, by rw [List.length_map, lrt]; exact Nat.le_of_lt (big_lt (by show gs.length + 1 ≤ 500000; omega)), fun R2 nR2 => ?_⟩
    have RR : RowsAt46 (upd HV R2 (.lst (rts.map V.ref ++ [.ref u]))) R2 (gs ++ [Gt.fi 1]) := RowsAt46.snoc lrt (fun i t g hi hg => sTV _ _ (hrts i t g hi hg)) eu2 nR2
    have sR2 := same_upd (o := .lst (rts.map V.ref ++ [.ref u])) nR2
    generalize upd HV R2 (.lst (rts.map V.ref ++ [.ref u])) = HW at *
    have sTW := sTV.trans sR2
    have ok' : GsOk m (gs ++ [Gt.fi 1]) := fun i g hi => by
      by_cases c : i < gs.length
      · rw [List.getElem?_append_left c] at hi
        exact ok i g hi
      · have i0 : i = gs.length := by
          have := (List.getElem?_eq_some_iff.mp hi).1
          omega
        rw [List.getElem?_append_right (by omega), i0, Nat.sub_self] at hi
        cases hi
        exact Nat.le_refl 1
    dsimp only [gName]
    try simp only [L2.start, List.map_cons, List.map_nil, List.length_cons, List.length_nil, List.replicate_succ, List.replicate_zero, List.cons_append, List.nil_append, List.set_cons_succ, List.set_cons_zero, Nat.reduceAdd, Nat.reduceSub, Nat.zero_add]
    have DW := DP.same sTW
    obtain ⟨kvs, edW⟩ : ∃ kvs, HW d = some (.dK kvs) := by
      obtain ⟨_, kvs, e, _⟩ := id DW
      exact ⟨kvs, e⟩
    refine ⟨_, rfl, d, kvs, rfl, .of edW, fun d2 nd2 => ?_⟩
    have D2 := (DW.more (S := []) (Y := []) (Z' := [b]) (KeepS.refl _ _) (fun _ z => nomatch z) (fun _ z => nomatch z) (fun z hz => .inl (by rw [List.mem_singleton.mp hz]; simp))).copy edW nd2 (fun y hy => by rw [List.mem_singleton.mp hy]; exact (BT.same sTW).some)
    have s2 := same_upd (o := .dK kvs) nd2
    have ed2 : (upd HW d2 (.dK kvs)) d2 = some (.dK kvs) := upd_same
    generalize upd HW d2 (.dK kvs) = HY at *
    dsimp only [gName]
    try simp only [L2.start, List.map_cons, List.map_nil, List.length_cons, List.length_nil, List.replicate_succ, List.replicate_zero, List.cons_append, List.nil_append, List.set_cons_succ, List.set_cons_zero, Nat.reduceAdd, Nat.reduceSub, Nat.zero_add]
    have sTY := sTW.trans s2
    refine ⟨_, rfl, _, rfl, R, _, rfl, .inl (SqL.of (sTY _ _ eRT)), ?_⟩
    refine ⟨_, _, rfl, rfl, ?_⟩
    have lR : ((List.map V.ref rts).length : Nat) = gs.length := by rw [List.length_map, lrt]
    rw [lR]
    refine ⟨by show 1 ≤ sizeLine; decide, fun lq nlq => ?_⟩
    have slq := same_upd (o := .lst (nts [m + gs.length])) nlq
    have elq : (upd HY lq (.lst (nts [m + gs.length]))) lq = some (.lst (nts [m + gs.length])) := upd_same
    have edq := slq _ _ ed2
    have DQ := D2.same slq
    have nlS : lq ∉ [b] := fun z => by
      rw [List.mem_singleton.mp z] at nlq
      exact (BT.same sTY).some nlq
    have nld : lq ≠ d2 := fun z => by rw [z, ed2] at nlq; cases nlq
    show gSub _ _ _ _ _ (upd HY lq (.lst (nts [m + gs.length]))) _
    generalize upd HY lq (.lst (nts [m + gs.length])) = H10 at *
    have lk : kvs.length = nm.length := by
      obtain ⟨_, kvs', e', l', _⟩ := id DQ
      rw [edq] at e'
      cases e'
      exact l'
    refine ⟨_, rfl, d2, _, rfl, DPut.k (k := .inr "q") edq (by rw [lk]; exact big_lt (by omega)), ?_⟩
    have D3 := DQ.one edq qn nlS nld elq
    have sT10 := sTY.trans slq
    have nd2W : HT d2 = none := by
      cases e : HT d2 with
      | none => rfl
      | some o => rw [sTW _ _ e] at nd2; cases nd2
    have sT11 : Same HT (upd H10 d2 (.dK (putK kvs (.inr "q") (.ref lq)))) := fun y o e => by
      rw [upd_ne (fun z => by rw [z, nd2W] at e; cases e)]
      exact sT10 _ _ e
    have R11 : RowsAt46 (upd H10 d2 (.dK (putK kvs (.inr "q") (.ref lq)))) R2 (gs ++ [Gt.fi 1]) := by
      refine ((RR.same s2).same slq).keep (T := [d2]) (KeepS.upd (by simp)) (fun z => ?_) (fun y hy xs w => ?_)
      · obtain ⟨ts, _, e, _⟩ := (RR.same s2).same slq
        rw [List.mem_singleton.mp z, edq] at e
        cases e
      · rw [List.mem_singleton.mp hy, edq] at w
        cases w
    generalize upd H10 d2 (.dK (putK kvs (.inr "q") (.ref lq))) = H11 at *
    have N2b := NQ.same sT11
    have N1b := NP.same sT11
    have B11 := BT.same sT11
    have R1b := RP.same sT11
    have D1b := DP.same sT11
    have S11 := SP.trans sT11
    have nmz : NmOk (m + (gs ++ [Gt.fi 1]).length) (nm ++ [(("q" : Str), [m + gs.length])]) := ⟨by rw [List.length_append]; show nm.length + 1 ≤ 10; omega, fun x hx => by
      rw [gl]
      rcases List.mem_append.mp hx with z | z
      · exact ⟨by have := (hnm x z).1; omega, fun a ha => by have := (hnm x z).2 a ha; omega⟩
      · rw [List.mem_singleton.mp z]
        exact ⟨by show 1 ≤ 10; decide, fun a ha => by rw [List.mem_singleton.mp ha]; omega⟩⟩
    clear NQ NP RP DP BT SP RR D2 DQ
    dsimp only
    refine ⟨_, rfl, _, rfl, _, rfl, _, rfl, _, rfl, [b, R, d, p.x, p.lm, p.ld, p.dn], p2, b, R2, d2, _, m, _, _, rfl, N2b, by simp, B11, by omega, R11, ok', D3, nmz, by omega, by omega, by rw [gl]; omega, fun HK kK BK => ?_⟩
    replace N2b := N2b.keepB kK BK.some (by simp)
    replace N1b := N1b.keepB kK BK.some (by simp)
    replace R1b := R1b.keepB kK B11
    replace D1b := D1b.keepB kK BK.some (by simp)
    have SK := sExtB S11 kK nb5
    clear R11 D3 B11 kK
    refine ⟨_, rfl, iteF ?_⟩
    obtain ⟨_, _, _, dxa, _, _, ea, _⟩ := id N2b
    obtain ⟨_, _, _, dxb, _, _, eb, _⟩ := id N1b
    refine ⟨_, rfl, p2.x, dxa, _, rfl, ea, _, p2, m, _, _, rfl, N2b, _, rfl, by omega, by omega, ?_⟩
    refine ⟨_, rfl, p.x, dxb, _, rfl, eb, _, p, m, gs, nm, rfl, N1b, _, rfl, by omega, by omega, ?_⟩
    refine ⟨_, _, rfl, rfl, rfl, _, rfl, ite2 (fun z => ?_) (fun _ => ?_)⟩
    · exfalso
      rw [gl] at z
      have : (!decide (V.int ((gs.length + 1 : Nat) : Int) = V.int ((gs.length : Int) + 1))) = true := z
      rw [decide_eq_true (congrArg V.int (by omega))] at this
      cases this
    dsimp only [tNext]
    refine ⟨_, rfl, p.x, dxb, _, rfl, eb, rfl, _, p, m, gs, nm, rfl, N1b, fun G ps nG lps hps => ?_⟩
    have sG := same_upd (o := .lst (ps.map V.ref)) nG
    have eG : (upd HK G (.lst (ps.map V.ref))) G = some (.lst (ps.map V.ref)) := upd_same
    generalize upd HK G (.lst (ps.map V.ref)) = HM2 at *
    obtain ⟨rts2, lrt2, eRK, hrts2⟩ := id R1b
    refine ⟨_, rfl, ?_⟩
    refine ⟨_, _, .lst (SqL.of eG) (dpa_rows ps gs lps fun i t g h1 h2 => sG _ _ (hps i t g h1 h2)), .lst (SqL.of (sG _ _ eRK)) (dpa_rows rts2 gs lrt2 fun i t g h1 h2 => sG _ _ (hrts2 i t g h1 h2)), (sd_rows ok).sh (by decide), (sd_rows ok).sh (by decide), _, rfl, ?_⟩
    rw [(sd_rows ok).self]
    refine ite2 (fun z => absurd z (by decide)) (fun _ => ?_)
    replace N1b := N1b.same sG
    replace R1b := R1b.same sG
    replace D1b := D1b.same sG
    replace BK := BK.same sG
    replace SK := SK.trans sG
    have D1c := D1b.more (S := []) (Y := []) (Z' := [b, p.lm, p.ld, p.dn]) (KeepS.refl _ _) (fun _ z => nomatch z) (fun _ z => nomatch z) (fun z hz => .inl (by
      simp only [List.mem_cons, List.not_mem_nil, or_false] at hz ⊢
      rcases hz with w | w | w | w <;> simp [w]))
    refine ⟨_, rfl, _, rfl, _, rfl, _, rfl, _, rfl, [b, R, d, p2.lm, p2.ld, p2.dn], p, b, R, d, _, m, gs, nm, rfl, N1b, by simp, by simp, BK, by omega, R1b, ok, D1c, nmK, nmO, by omega, by omega, by omega, fun HR kR BR => ?_⟩
    have RRr := R1b.keep kR (fun z => by
      obtain ⟨_, _, ⟨_, c2, c3, c4⟩, _⟩ := id N1b
      simp only [List.mem_cons, List.not_mem_nil, or_false] at z
      rcases z with w | w | w | w
      · exact nRb w
      · exact c2 (by rw [← w]; simp)
      · exact c3 (by rw [← w]; simp)
      · exact c4 (by rw [← w]; simp)) (fun y hy xs w => by
      rcases List.mem_cons.mp hy with z | z
      · obtain ⟨_, _, _, eb, _⟩ := BK
        rw [z, eb] at w
        cases w
      · exact (N1b.four y (List.mem_cons_of_mem _ z)).2 _ w)
    have SR := sExt SK kR (memL nb5 (fun y hy => nn5 y (List.mem_cons_of_mem _ hy)))
    refine ⟨_, rfl, iteF ?_⟩
    dsimp only [tNext]
    refine ⟨_, rfl, _, rfl, [], R, m, gs, rfl, (fun _ z => nomatch z), RRr, ok, by omega, by omega, fun p3 HS sS N3 _ => ?_⟩
    dsimp only [gName]
    try simp only [L2.start, List.map_cons, List.map_nil, List.length_cons, List.length_nil, List.replicate_succ, List.replicate_zero, List.cons_append, List.nil_append, List.set_cons_succ, List.set_cons_zero, Nat.reduceAdd, Nat.reduceSub, Nat.zero_add]
    have S3' := SR.trans sS
    refine ⟨_, rfl, ?_⟩
    refine ⟨by show 1 ≤ sizeLine; decide, fun z1 nz1 => ?_⟩
    have sz1 := same_upd (o := .lst [.int 0]) nz1
    have ez1 : (upd HS z1 (.lst [.int 0])) z1 = some (.lst [.int 0]) := upd_same
    generalize upd HS z1 (.lst [.int 0]) = HS1 at *
    refine ⟨_, rfl, z1, (m : Int), _, rfl, rfl, ez1, by omega, by omega, by
      rw [Int.toNat_natCast]
      exact Nat.le_of_lt (big_lt (by show 1 * m ≤ 500000; omega)), fun z2 nz2 => ?_⟩
    rw [Int.toNat_natCast]
    rw [fz45]
    have sz2 := same_upd (o := .lst ((List.replicate m (0 : Int)).map V.int)) nz2
    have ez2 : (upd HS1 z2 (.lst ((List.replicate m (0 : Int)).map V.int))) z2 = some (.lst ((List.replicate m (0 : Int)).map V.int)) := upd_same
    generalize upd HS1 z2 (.lst ((List.replicate m (0 : Int)).map V.int)) = HS2 at *
    have sSS := sz1.trans sz2
    have N3' := N3.same sSS
    refine ⟨rfl, rfl, [], p3, m, gs, [], z2, List.replicate m 0, 3, rfl, N3', .inl (SqL.of ez2), List.length_replicate, by omega, by omega, by show 0 < 64; decide, ok, (fun _ z => nomatch z), fun yy t1 GA hpy _ sGA hRA => ?_⟩
    obtain rfl : yy = [] := List.perm_nil.mp hpy
    obtain ⟨_, tA, ltA, eTA, _⟩ := hRA
    obtain rfl : tA = [] := List.length_eq_zero_iff.mp ltA
    refine ⟨_, rfl, [], p3, m, gs, [], 1, rfl, N3'.same sGA, by omega, by show 0 < 64; decide, ok, (fun _ z => nomatch z), fun yy t2 GB _ hpy _ sGB hRB => ?_⟩
    obtain rfl : yy = [] := List.perm_nil.mp hpy
    obtain ⟨tB, ltB, eTB, _⟩ := hRB
    obtain rfl : tB = [] := List.length_eq_zero_iff.mp ltB
    have e1' := sGB _ _ eTA
    refine ⟨by show 2 ≤ sizeLine; decide, fun X1 nX1 => ?_⟩
    have sX1 := same_upd (o := .lst [.ref t1, .ref t2]) nX1
    have eX1 : (upd GB X1 (.lst [.ref t1, .ref t2])) X1 = some (.lst [.ref t1, .ref t2]) := upd_same
    generalize upd GB X1 (.lst [.ref t1, .ref t2]) = GC at *
    refine ⟨by show 0 ≤ sizeLine; decide, fun w1 nw1 => ?_⟩
    have sw1 := same_upd (o := .lst []) nw1
    have ew1 : (upd GC w1 (.lst [])) w1 = some (.lst []) := upd_same
    generalize upd GC w1 (.lst []) = GD at *
    refine ⟨by show 0 ≤ sizeLine; decide, fun w2 nw2 => ?_⟩
    have sw2 := same_upd (o := .lst []) nw2
    have ew2 : (upd GD w2 (.lst [])) w2 = some (.lst []) := upd_same
    generalize upd GD w2 (.lst []) = GE at *
    refine ⟨by show 2 ≤ sizeLine; decide, fun X2 nX2 => ?_⟩
    have sX2 := same_upd (o := .lst [.ref w1, .ref w2]) nX2
    have eX2 : (upd GE X2 (.lst [.ref w1, .ref w2])) X2 = some (.lst [.ref w1, .ref w2]) := upd_same
    generalize upd GE X2 (.lst [.ref w1, .ref w2]) = GF at *
    have sCF := (sw1.trans sw2).trans sX2
    have sBF := sX1.trans sCF
    refine ⟨_, _, .list [.list [], .list []], 2, rfl, rfl, ⟨by show 2 ≤ 1000000; decide, fun dd hdd => ?_⟩, .lst (SqL.of (sCF _ _ eX1)) (.cons (.lst (SqL.of (sBF _ _ e1')) .nil) (.cons (.lst (SqL.of (sBF _ _ eTB)) .nil) .nil)), .lst (SqL.of eX2) (.cons (.lst (SqL.of (sX2 _ _ (sw2 _ _ ew1))) .nil) (.cons (.lst (SqL.of (sX2 _ _ ew2)) .nil) .nil)), fun GG sGG => ?_⟩
    · simp only [List.mem_cons, List.not_mem_nil, or_false, or_self] at hdd
      rw [hdd]
      exact ⟨Nat.zero_le _, fun _ z => nomatch z⟩
    refine ⟨_, rfl, iteF ?_⟩
    dsimp only [tNext]
    exact ⟨_, _, _, _, _, _, _, _, _, _, _, _, rfl, s5.trans ((((((S3'.trans sSS).trans sGA).trans sGB).trans sBF)).trans sGG)⟩
  · rintro σ H5 ⟨y1, y2, y3, y4, y5, y6, y7, y8, y9, y10, y11, y12, rfl, s5⟩
    exact q _
end
theorem all_mk {l : PySem.W.OpenLaw} {w : World} {K : PySem.W.Frag} {h : Heap} {mg : Str → Option Value} {fa f1 f2 f3 f4 f5 f6 f7 f8 f9 f10 f11 f12 f13 f14 f15 f16 f17 f18 f19 f20 f21 f22 f23 f24 f25 f26 f27 f28 f29 f30 f31 f32 f33 C : Addr} (X : K.In h) (G : h.Ns mainGlobals mg) (hfa : mg "law" = some (.ref fa))
    {od1 an1 od2 an2 od3 an3 od4 an4 od5 an5 od6 an6 od7 an7 od8 an8 od9 an9 od10 an10 od11 an11 od12 an12 od13 an13 od14 an14 od15 an15 od16 an16 od17 an17 od18 an18 od19 an19 od20 an20 od21 an21 od22 an22 od23 an23 od24 an24 od25 an25 od26 an26 od27 an27 od28 an28 od29 an29 od30 an30 od31 an31 od32 an32 od33 an33 : Option Addr} {sl1 sl2 sl3 sl4 sl5 sl6 sl7 sl8 sl9 sl10 sl11 sl12 sl13 sl14 sl15 sl16 sl17 sl18 sl19 sl20 sl21 sl22 sl23 sl24 sl25 sl26 sl27 sl28 sl29 sl30 sl31 sl32 sl33 : Array (Option Value)} {oc1 kV1 dc1 pm1 cd1 ct1 oc2 dc2 pm2 cd2 ct2 oc3 kV3 dc3 pm3 cd3 ct3 oc4 kV4 dc4 pm4 cd4 ct4 oc5 kV5 dc5 pm5 cd5 ct5 oc6 kV6 dc6 pm6 cd6 ct6 oc7 kV7 dc7 pm7 cd7 ct7 oc8 kV8 dc8 pm8 cd8 ct8 oc9 kV9 dc9 pm9 cd9 ct9 oc10 kV10 dc10 pm10 cd10 ct10 oc11 kV11 dc11 pm11 cd11 ct11 oc12 kV12 dc12 pm12 cd12 ct12 oc13 kV13 dc13 pm13 cd13 ct13 oc14 kV14 dc14 pm14 cd14 ct14 oc15 kV15 dc15 pm15 cd15 ct15 oc16 kV16 dc16 pm16 cd16 ct16 oc17 kV17 dc17 pm17 cd17 ct17 oc18 kV18 dc18 pm18 cd18 ct18 oc19 kV19 dc19 pm19 cd19 ct19 oc20 kV20 dc20 pm20 cd20 ct20 oc21 kV21 dc21 pm21 cd21 ct21 oc22 kV22 dc22 pm22 cd22 ct22 oc23 kV23 dc23 pm23 cd23 ct23 oc24 kV24 dc24 pm24 cd24 ct24 oc25 kV25 dc25 pm25 cd25 ct25 oc26 kV26 dc26 pm26 cd26 ct26 oc27 kV27 dc27 pm27 cd27 ct27 oc28 kV28 dc28 pm28 cd28 ct28 oc29 kV29 dc29 pm29 cd29 ct29 oc30 kV30 dc30 pm30 cd30 ct30 oc31 kV31 dc31 pm31 cd31 ct31 oc32 kV32 dc32 pm32 cd32 ct32 oc33 kV33 dc33 pm33 cd33 ct33 : Value}
    {Dk2 : Addr} {tk2_0 : Tok}
    (a1 : PySem.W.nsIn K mainGlobals "worth_of" = some (some (.ref f1))) (l1 : K.lookup f1 = some ⟨oc1, od1, .func (PySem.W.fnOf "worth_of" "worth_of" (defArgs s_worth_of) (defBody s_worth_of) (defScope s_worth_of) .none kV1 dc1 pm1 an1 cd1 ct1), sl1⟩) (c1 : PySem.W.codeIn K cd1 "worth_of" = true) (k1 : PySem.W.keepIn K (.ref f1) = true)
    (a2 : PySem.W.nsIn K mainGlobals "ran" = some (some (.ref f2))) (l2 : K.lookup f2 = some ⟨oc2, od2, .func (PySem.W.fnOf "ran" "ran" (defArgs s_ran) (defBody s_ran) (defScope s_ran) .none (.ref Dk2) dc2 pm2 an2 cd2 ct2), sl2⟩) (c2 : PySem.W.codeIn K cd2 "ran" = true) (k2 : PySem.W.keepIn K (.ref f2) = true)
    (w2_0 : PySem.W.nsIn K Dk2 "many" = some (some (.int 1 tk2_0)))
    (a3 : PySem.W.nsIn K mainGlobals "gate_bits" = some (some (.ref f3))) (l3 : K.lookup f3 = some ⟨oc3, od3, .func (PySem.W.fnOf "gate_bits" "gate_bits" (defArgs s_gate_bits) (defBody s_gate_bits) (defScope s_gate_bits) .none kV3 dc3 pm3 an3 cd3 ct3), sl3⟩) (c3 : PySem.W.codeIn K cd3 "gate_bits" = true) (k3 : PySem.W.keepIn K (.ref f3) = true)
    (a4 : PySem.W.nsIn K mainGlobals "one_case" = some (some (.ref f4))) (l4 : K.lookup f4 = some ⟨oc4, od4, .func (PySem.W.fnOf "one_case" "one_case" (defArgs s_one_case) (defBody s_one_case) (defScope s_one_case) .none kV4 dc4 pm4 an4 cd4 ct4), sl4⟩) (c4 : PySem.W.codeIn K cd4 "one_case" = true) (k4 : PySem.W.keepIn K (.ref f4) = true)
    (a5 : PySem.W.nsIn K mainGlobals "_law_box" = some (some (.ref f5))) (l5 : K.lookup f5 = some ⟨oc5, od5, .func (PySem.W.fnOf "_law_box" "_law_box" (defArgs sBox) (defBody sBox) (defScope sBox) .none kV5 dc5 pm5 an5 cd5 ct5), sl5⟩) (c5 : PySem.W.codeIn K cd5 "_law_box" = true) (k5 : PySem.W.keepIn K (.ref f5) = true)
    (a6 : PySem.W.nsIn K mainGlobals "_law_take" = some (some (.ref f6))) (l6 : K.lookup f6 = some ⟨oc6, od6, .func (PySem.W.fnOf "_law_take" "_law_take" (defArgs sTake) (defBody sTake) (defScope sTake) .none kV6 dc6 pm6 an6 cd6 ct6), sl6⟩) (c6 : PySem.W.codeIn K cd6 "_law_take" = true) (k6 : PySem.W.keepIn K (.ref f6) = true)
    (a7 : PySem.W.nsIn K mainGlobals "_law_same" = some (some (.ref f7))) (l7 : K.lookup f7 = some ⟨oc7, od7, .func (PySem.W.fnOf "_law_same" "_law_same" (defArgs sSame) (defBody sSame) (defScope sSame) .none kV7 dc7 pm7 an7 cd7 ct7), sl7⟩) (c7 : PySem.W.codeIn K cd7 "_law_same" = true) (k7 : PySem.W.keepIn K (.ref f7) = true)
    (a8 : PySem.W.nsIn K mainGlobals "_law_names" = some (some (.ref f8))) (l8 : K.lookup f8 = some ⟨oc8, od8, .func (PySem.W.fnOf "_law_names" "_law_names" (defArgs s__law_names) (defBody s__law_names) (defScope s__law_names) .none kV8 dc8 pm8 an8 cd8 ct8), sl8⟩) (c8 : PySem.W.codeIn K cd8 "_law_names" = true) (k8 : PySem.W.keepIn K (.ref f8) = true)
    (a9 : PySem.W.nsIn K mainGlobals "_law_gates" = some (some (.ref f9))) (l9 : K.lookup f9 = some ⟨oc9, od9, .func (PySem.W.fnOf "_law_gates" "_law_gates" (defArgs s__law_gates) (defBody s__law_gates) (defScope s__law_gates) .none kV9 dc9 pm9 an9 cd9 ct9), sl9⟩) (c9 : PySem.W.codeIn K cd9 "_law_gates" = true) (k9 : PySem.W.keepIn K (.ref f9) = true)
    (a10 : PySem.W.nsIn K mainGlobals "_law_made" = some (some (.ref f10))) (l10 : K.lookup f10 = some ⟨oc10, od10, .func (PySem.W.fnOf "_law_made" "_law_made" (defArgs s__law_made) (defBody s__law_made) (defScope s__law_made) .none kV10 dc10 pm10 an10 cd10 ct10), sl10⟩) (c10 : PySem.W.codeIn K cd10 "_law_made" = true) (k10 : PySem.W.keepIn K (.ref f10) = true)
    (a11 : PySem.W.nsIn K mainGlobals "_law_bits" = some (some (.ref f11))) (l11 : K.lookup f11 = some ⟨oc11, od11, .func (PySem.W.fnOf "_law_bits" "_law_bits" (defArgs s__law_bits) (defBody s__law_bits) (defScope s__law_bits) .none kV11 dc11 pm11 an11 cd11 ct11), sl11⟩) (c11 : PySem.W.codeIn K cd11 "_law_bits" = true) (k11 : PySem.W.keepIn K (.ref f11) = true)
    (a12 : PySem.W.nsIn K mainGlobals "_law_number" = some (some (.ref f12))) (l12 : K.lookup f12 = some ⟨oc12, od12, .func (PySem.W.fnOf "_law_number" "_law_number" (defArgs s__law_number) (defBody s__law_number) (defScope s__law_number) .none kV12 dc12 pm12 an12 cd12 ct12), sl12⟩) (c12 : PySem.W.codeIn K cd12 "_law_number" = true) (k12 : PySem.W.keepIn K (.ref f12) = true)
    (a13 : PySem.W.nsIn K mainGlobals "_law_values" = some (some (.ref f13))) (l13 : K.lookup f13 = some ⟨oc13, od13, .func (PySem.W.fnOf "_law_values" "_law_values" (defArgs s__law_values) (defBody s__law_values) (defScope s__law_values) .none kV13 dc13 pm13 an13 cd13 ct13), sl13⟩) (c13 : PySem.W.codeIn K cd13 "_law_values" = true) (k13 : PySem.W.keepIn K (.ref f13) = true)
    (a14 : PySem.W.nsIn K mainGlobals "_law_ran_right" = some (some (.ref f14))) (l14 : K.lookup f14 = some ⟨oc14, od14, .func (PySem.W.fnOf "_law_ran_right" "_law_ran_right" (defArgs s__law_ran_right) (defBody s__law_ran_right) (defScope s__law_ran_right) .none kV14 dc14 pm14 an14 cd14 ct14), sl14⟩) (c14 : PySem.W.codeIn K cd14 "_law_ran_right" = true) (k14 : PySem.W.keepIn K (.ref f14) = true)
    (a15 : PySem.W.nsIn K mainGlobals "_law_case_right" = some (some (.ref f15))) (l15 : K.lookup f15 = some ⟨oc15, od15, .func (PySem.W.fnOf "_law_case_right" "_law_case_right" (defArgs s__law_case_right) (defBody s__law_case_right) (defScope s__law_case_right) .none kV15 dc15 pm15 an15 cd15 ct15), sl15⟩) (c15 : PySem.W.codeIn K cd15 "_law_case_right" = true) (k15 : PySem.W.keepIn K (.ref f15) = true)
    (a16 : PySem.W.nsIn K mainGlobals "_law_more_right" = some (some (.ref f16))) (l16 : K.lookup f16 = some ⟨oc16, od16, .func (PySem.W.fnOf "_law_more_right" "_law_more_right" (defArgs s__law_more_right) (defBody s__law_more_right) (defScope s__law_more_right) .none kV16 dc16 pm16 an16 cd16 ct16), sl16⟩) (c16 : PySem.W.codeIn K cd16 "_law_more_right" = true) (k16 : PySem.W.keepIn K (.ref f16) = true)
    (a17 : PySem.W.nsIn K mainGlobals "law" = some (some (.ref f17))) (l17 : K.lookup f17 = some ⟨oc17, od17, .func (PySem.W.fnOf "law" "law" (defArgs s_law) (defBody s_law) (defScope s_law) .none kV17 dc17 pm17 an17 cd17 ct17), sl17⟩) (c17 : PySem.W.codeIn K cd17 "law" = true) (k17 : PySem.W.keepIn K (.ref f17) = true)
    (aC : PySem.W.nsIn K mainGlobals "Net" = some (some (.ref C)))
    (pgC : PySem.W.plainGet K C Str.empty = true) (hdC : PySem.W.hasDictIn K C = true) (poC : PySem.W.plainOver K C = true) (saC : PySem.W.findIn K (.ref C) "__setattr__" = some (some (.builtin "object.__setattr__"))) (mkC : PySem.W.makesIn K C = true) (kcC : PySem.W.keepIn K (.ref C) = true)
    (naC0 : PySem.W.findIn K (.ref C) "input_count" = some none)
    (naC1 : PySem.W.findIn K (.ref C) "made" = some none)
    (naC2 : PySem.W.findIn K (.ref C) "depths" = some none)
    (naC3 : PySem.W.findIn K (.ref C) "by_name" = some none)
    (a18 : PySem.W.findIn K (.ref C) "__init__" = some (some (.ref f18))) (i18 : PySem.W.isFn K (.ref f18) = true) (l18 : K.lookup f18 = some ⟨oc18, od18, .func (PySem.W.fnOf "__init__" "Net.__init__" (defArgs s_Net___init__) (defBody s_Net___init__) (defScope s_Net___init__) .none kV18 dc18 pm18 an18 cd18 ct18), sl18⟩) (c18 : PySem.W.codeIn K cd18 "Net.__init__" = true) (k18 : PySem.W.keepIn K (.ref f18) = true)
    (a19 : PySem.W.findIn K (.ref C) "both" = some (some (.ref f19))) (i19 : PySem.W.isFn K (.ref f19) = true) (l19 : K.lookup f19 = some ⟨oc19, od19, .func (PySem.W.fnOf "both" "Net.both" (defArgs s_Net_both) (defBody s_Net_both) (defScope s_Net_both) .none kV19 dc19 pm19 an19 cd19 ct19), sl19⟩) (c19 : PySem.W.codeIn K cd19 "Net.both" = true) (k19 : PySem.W.keepIn K (.ref f19) = true)
    (a20 : PySem.W.findIn K (.ref C) "either" = some (some (.ref f20))) (i20 : PySem.W.isFn K (.ref f20) = true) (l20 : K.lookup f20 = some ⟨oc20, od20, .func (PySem.W.fnOf "either" "Net.either" (defArgs s_Net_either) (defBody s_Net_either) (defScope s_Net_either) .none kV20 dc20 pm20 an20 cd20 ct20), sl20⟩) (c20 : PySem.W.codeIn K cd20 "Net.either" = true) (k20 : PySem.W.keepIn K (.ref f20) = true)
    (a21 : PySem.W.findIn K (.ref C) "unlike" = some (some (.ref f21))) (i21 : PySem.W.isFn K (.ref f21) = true) (l21 : K.lookup f21 = some ⟨oc21, od21, .func (PySem.W.fnOf "unlike" "Net.unlike" (defArgs s_Net_unlike) (defBody s_Net_unlike) (defScope s_Net_unlike) .none kV21 dc21 pm21 an21 cd21 ct21), sl21⟩) (c21 : PySem.W.codeIn K cd21 "Net.unlike" = true) (k21 : PySem.W.keepIn K (.ref f21) = true)
    (a22 : PySem.W.findIn K (.ref C) "other" = some (some (.ref f22))) (i22 : PySem.W.isFn K (.ref f22) = true) (l22 : K.lookup f22 = some ⟨oc22, od22, .func (PySem.W.fnOf "other" "Net.other" (defArgs s_Net_other) (defBody s_Net_other) (defScope s_Net_other) .none kV22 dc22 pm22 an22 cd22 ct22), sl22⟩) (c22 : PySem.W.codeIn K cd22 "Net.other" = true) (k22 : PySem.W.keepIn K (.ref f22) = true)
    (a23 : PySem.W.findIn K (.ref C) "fixed" = some (some (.ref f23))) (i23 : PySem.W.isFn K (.ref f23) = true) (l23 : K.lookup f23 = some ⟨oc23, od23, .func (PySem.W.fnOf "fixed" "Net.fixed" (defArgs s_Net_fixed) (defBody s_Net_fixed) (defScope s_Net_fixed) .none kV23 dc23 pm23 an23 cd23 ct23), sl23⟩) (c23 : PySem.W.codeIn K cd23 "Net.fixed" = true) (k23 : PySem.W.keepIn K (.ref f23) = true)
    (a24 : PySem.W.findIn K (.ref C) "put" = some (some (.ref f24))) (i24 : PySem.W.isFn K (.ref f24) = true) (l24 : K.lookup f24 = some ⟨oc24, od24, .func (PySem.W.fnOf "put" "Net.put" (defArgs s_Net_put) (defBody s_Net_put) (defScope s_Net_put) .none kV24 dc24 pm24 an24 cd24 ct24), sl24⟩) (c24 : PySem.W.codeIn K cd24 "Net.put" = true) (k24 : PySem.W.keepIn K (.ref f24) = true)
    (a25 : PySem.W.findIn K (.ref C) "put_gate" = some (some (.ref f25))) (i25 : PySem.W.isFn K (.ref f25) = true) (l25 : K.lookup f25 = some ⟨oc25, od25, .func (PySem.W.fnOf "put_gate" "Net.put_gate" (defArgs s_Net_put_gate) (defBody s_Net_put_gate) (defScope s_Net_put_gate) .none kV25 dc25 pm25 an25 cd25 ct25), sl25⟩) (c25 : PySem.W.codeIn K cd25 "Net.put_gate" = true) (k25 : PySem.W.keepIn K (.ref f25) = true)
    (a26 : PySem.W.findIn K (.ref C) "need" = some (some (.ref f26))) (i26 : PySem.W.isFn K (.ref f26) = true) (l26 : K.lookup f26 = some ⟨oc26, od26, .func (PySem.W.fnOf "need" "Net.need" (defArgs s_Net_need) (defBody s_Net_need) (defScope s_Net_need) .none kV26 dc26 pm26 an26 cd26 ct26), sl26⟩) (c26 : PySem.W.codeIn K cd26 "Net.need" = true) (k26 : PySem.W.keepIn K (.ref f26) = true)
    (a27 : PySem.W.findIn K (.ref C) "give" = some (some (.ref f27))) (i27 : PySem.W.isFn K (.ref f27) = true) (l27 : K.lookup f27 = some ⟨oc27, od27, .func (PySem.W.fnOf "give" "Net.give" (defArgs s_Net_give) (defBody s_Net_give) (defScope s_Net_give) .none kV27 dc27 pm27 an27 cd27 ct27), sl27⟩) (c27 : PySem.W.codeIn K cd27 "Net.give" = true) (k27 : PySem.W.keepIn K (.ref f27) = true)
    (a28 : PySem.W.findIn K (.ref C) "given" = some (some (.ref f28))) (i28 : PySem.W.isFn K (.ref f28) = true) (l28 : K.lookup f28 = some ⟨oc28, od28, .func (PySem.W.fnOf "given" "Net.given" (defArgs s_Net_given) (defBody s_Net_given) (defScope s_Net_given) .none kV28 dc28 pm28 an28 cd28 ct28), sl28⟩) (c28 : PySem.W.codeIn K cd28 "Net.given" = true) (k28 : PySem.W.keepIn K (.ref f28) = true)
    (a29 : PySem.W.findIn K (.ref C) "names" = some (some (.ref f29))) (i29 : PySem.W.isFn K (.ref f29) = true) (l29 : K.lookup f29 = some ⟨oc29, od29, .func (PySem.W.fnOf "names" "Net.names" (defArgs s_Net_names) (defBody s_Net_names) (defScope s_Net_names) .none kV29 dc29 pm29 an29 cd29 ct29), sl29⟩) (c29 : PySem.W.codeIn K cd29 "Net.names" = true) (k29 : PySem.W.keepIn K (.ref f29) = true)
    (a30 : PySem.W.findIn K (.ref C) "inputs" = some (some (.ref f30))) (i30 : PySem.W.isFn K (.ref f30) = true) (l30 : K.lookup f30 = some ⟨oc30, od30, .func (PySem.W.fnOf "inputs" "Net.inputs" (defArgs s_Net_inputs) (defBody s_Net_inputs) (defScope s_Net_inputs) .none kV30 dc30 pm30 an30 cd30 ct30), sl30⟩) (c30 : PySem.W.codeIn K cd30 "Net.inputs" = true) (k30 : PySem.W.keepIn K (.ref f30) = true)
    (a31 : PySem.W.findIn K (.ref C) "gates" = some (some (.ref f31))) (i31 : PySem.W.isFn K (.ref f31) = true) (l31 : K.lookup f31 = some ⟨oc31, od31, .func (PySem.W.fnOf "gates" "Net.gates" (defArgs s_Net_gates) (defBody s_Net_gates) (defScope s_Net_gates) .none kV31 dc31 pm31 an31 cd31 ct31), sl31⟩) (c31 : PySem.W.codeIn K cd31 "Net.gates" = true) (k31 : PySem.W.keepIn K (.ref f31) = true)
    (a32 : PySem.W.findIn K (.ref C) "__len__" = some (some (.ref f32))) (i32 : PySem.W.isFn K (.ref f32) = true) (l32 : K.lookup f32 = some ⟨oc32, od32, .func (PySem.W.fnOf "__len__" "Net.__len__" (defArgs s_Net___len__) (defBody s_Net___len__) (defScope s_Net___len__) .none kV32 dc32 pm32 an32 cd32 ct32), sl32⟩) (c32 : PySem.W.codeIn K cd32 "Net.__len__" = true) (k32 : PySem.W.keepIn K (.ref f32) = true)
    (a33 : PySem.W.findIn K (.ref C) "like" = some (some (.ref f33))) (i33 : PySem.W.isFn K (.ref f33) = true) (l33 : K.lookup f33 = some ⟨oc33, od33, .func (PySem.W.fnOf "like" "Net.like" (defArgs s_Net_like) (defBody s_Net_like) (defScope s_Net_like) .none kV33 dc33 pm33 an33 cd33 ct33), sl33⟩) (c33 : PySem.W.codeIn K cd33 "Net.like" = true) (k33 : PySem.W.keepIn K (.ref f33) = true)
    (z1 : PySem.W.nsIn K mainGlobals "len" = some none)
    (z2 : PySem.W.nsIn K mainGlobals "abs" = some none)
    (z3 : PySem.W.nsIn K mainGlobals "int" = some none)
    (z4 : PySem.W.nsIn K mainGlobals "divmod" = some none)
    (z5 : PySem.W.nsIn K mainGlobals "list" = some none)
    (z6 : PySem.W.nsIn K mainGlobals "enumerate" = some none)
    (z7 : PySem.W.nsIn K mainGlobals "isinstance" = some none)
    (z8 : PySem.W.nsIn K mainGlobals "tuple" = some none)
    (z9 : PySem.W.nsIn K mainGlobals "str" = some none)
    (z10 : PySem.W.nsIn K mainGlobals "bool" = some none)
    (z11 : PySem.W.nsIn K mainGlobals "zip" = some none)
    (z12 : PySem.W.nsIn K mainGlobals "all" = some none)
    (z13 : PySem.W.nsIn K mainGlobals "range" = some none)
    (z14 : PySem.W.nsIn K mainGlobals "max" = some none)
    (z15 : PySem.W.nsIn K mainGlobals "any" = some none)
    (z16 : PySem.W.nsIn K mainGlobals "min" = some none)
    (z17 : PySem.W.nsIn K mainGlobals "sum" = some none)
    (zsorted : PySem.W.nsIn K mainGlobals "sorted" = some none)
    (zrepr : PySem.W.nsIn K mainGlobals "repr" = some none)
    (zdict : PySem.W.nsIn K mainGlobals "dict" = some none)
    : ∃ fd : FuncData, (∀ (s : Shared) (v : Value), BindsTo s fd ⟨[v], []⟩ [("_law_script", v)]) ∧ ∀ base : Heap, K.In base → base.Ns mainGlobals mg → base.NoDigits → FnOkG l.prog w K mg base CX0 12 fa fd ["_law_script"] (spLaw K) := by
  have e := hfa.symm.trans (PySem.W.mg_of X G a17)
  cases e
  have F1 := fun_mk (st := s_worth_of) l1 c1 k1
  have b1 := F1.binds (ps := ["digits"]) fun _ _ _ _ _ _ us hl => match us, hl with | [_], _ => rfl
  have m1 := PySem.W.mg_of X G a1
  have F2 := fun_mk (st := s_ran) l2 c2 k2
  have m2 := PySem.W.mg_of X G a2
  have F3 := fun_mk (st := s_gate_bits) l3 c3 k3
  have b3 := F3.binds (ps := ["gate", "wires", "full"]) fun _ _ _ _ _ _ us hl => match us, hl with | [_, _, _], _ => rfl
  have m3 := PySem.W.mg_of X G a3
  have F4 := fun_mk (st := s_one_case) l4 c4 k4
  have b4 := F4.binds (ps := ["net", "word"]) fun _ _ _ _ _ _ us hl => match us, hl with | [_, _], _ => rfl
  have m4 := PySem.W.mg_of X G a4
  have F5 := fun_mk (st := sBox) l5 c5 k5
  have b5 := F5.binds (ps := ["_law_script", "_law_k"]) fun _ _ _ _ _ _ us hl => match us, hl with | [_, _], _ => rfl
  have m5 := PySem.W.mg_of X G a5
  have F6 := fun_mk (st := sTake) l6 c6 k6
  have b6 := F6.binds (ps := ["_law_box_here", "_law_size"]) fun _ _ _ _ _ _ us hl => match us, hl with | [_, _], _ => rfl
  have m6 := PySem.W.mg_of X G a6
  have F7 := fun_mk (st := sSame) l7 c7 k7
  have b7 := F7.binds (ps := ["_law_found", "_law_due"]) fun _ _ _ _ _ _ us hl => match us, hl with | [_, _], _ => rfl
  have m7 := PySem.W.mg_of X G a7
  have F8 := fun_mk (st := s__law_names) l8 c8 k8
  have b8 := F8.binds (ps := ["_law_box_here", "_law_size"]) fun _ _ _ _ _ _ us hl => match us, hl with | [_, _], _ => rfl
  have m8 := PySem.W.mg_of X G a8
  have F9 := fun_mk (st := s__law_gates) l9 c9 k9
  have b9 := F9.binds (ps := ["_law_box_here", "_law_wide", "_law_size"]) fun _ _ _ _ _ _ us hl => match us, hl with | [_, _, _], _ => rfl
  have m9 := PySem.W.mg_of X G a9
  have F10 := fun_mk (st := s__law_made) l10 c10 k10
  have b10 := F10.binds (ps := ["_law_rows", "_law_wide"]) fun _ _ _ _ _ _ us hl => match us, hl with | [_, _], _ => rfl
  have m10 := PySem.W.mg_of X G a10
  have F11 := fun_mk (st := s__law_bits) l11 c11 k11
  have b11 := F11.binds (ps := ["_law_rows", "_law_bits_here"]) fun _ _ _ _ _ _ us hl => match us, hl with | [_, _], _ => rfl
  have m11 := PySem.W.mg_of X G a11
  have F12 := fun_mk (st := s__law_number) l12 c12 k12
  have b12 := F12.binds (ps := ["_law_bits_here"]) fun _ _ _ _ _ _ us hl => match us, hl with | [_], _ => rfl
  have m12 := PySem.W.mg_of X G a12
  have F13 := fun_mk (st := s__law_values) l13 c13 k13
  have b13 := F13.binds (ps := ["_law_box_here", "_law_inputs", "_law_cases"]) fun _ _ _ _ _ _ us hl => match us, hl with | [_, _, _], _ => rfl
  have m13 := PySem.W.mg_of X G a13
  have F14 := fun_mk (st := s__law_ran_right) l14 c14 k14
  have b14 := F14.binds (ps := ["_law_box_here", "_law_net", "_law_rows", "_law_lists", "_law_inputs"]) fun _ _ _ _ _ _ us hl => match us, hl with | [_, _, _, _, _], _ => rfl
  have m14 := PySem.W.mg_of X G a14
  have F15 := fun_mk (st := s__law_case_right) l15 c15 k15
  have b15 := F15.binds (ps := ["_law_box_here", "_law_net", "_law_rows", "_law_lists", "_law_inputs"]) fun _ _ _ _ _ _ us hl => match us, hl with | [_, _, _, _, _], _ => rfl
  have m15 := PySem.W.mg_of X G a15
  have F16 := fun_mk (st := s__law_more_right) l16 c16 k16
  have b16 := F16.binds (ps := ["_law_box_here", "_law_net", "_law_rows", "_law_lists", "_law_inputs"]) fun _ _ _ _ _ _ us hl => match us, hl with | [_, _, _, _, _], _ => rfl
  have m16 := PySem.W.mg_of X G a16
  have F17 := fun_mk (st := s_law) l17 c17 k17
  have F18 := fun_mk (st := s_Net___init__) l18 c18 k18
  have b18 := F18.binds (ps := ["self", "many"]) fun _ _ _ _ _ _ us hl => match us, hl with | [_, _], _ => rfl
  have M18 : Meth K C "__init__" f18 := ⟨a18, i18, k18⟩
  have F19 := fun_mk (st := s_Net_both) l19 c19 k19
  have b19 := F19.binds (ps := ["self", "a", "b"]) fun _ _ _ _ _ _ us hl => match us, hl with | [_, _, _], _ => rfl
  have M19 : Meth K C "both" f19 := ⟨a19, i19, k19⟩
  have F20 := fun_mk (st := s_Net_either) l20 c20 k20
  have b20 := F20.binds (ps := ["self", "a", "b"]) fun _ _ _ _ _ _ us hl => match us, hl with | [_, _, _], _ => rfl
  have M20 : Meth K C "either" f20 := ⟨a20, i20, k20⟩
  have F21 := fun_mk (st := s_Net_unlike) l21 c21 k21
  have b21 := F21.binds (ps := ["self", "a", "b"]) fun _ _ _ _ _ _ us hl => match us, hl with | [_, _, _], _ => rfl
  have M21 : Meth K C "unlike" f21 := ⟨a21, i21, k21⟩
  have F22 := fun_mk (st := s_Net_other) l22 c22 k22
  have b22 := F22.binds (ps := ["self", "a"]) fun _ _ _ _ _ _ us hl => match us, hl with | [_, _], _ => rfl
  have M22 : Meth K C "other" f22 := ⟨a22, i22, k22⟩
  have F23 := fun_mk (st := s_Net_fixed) l23 c23 k23
  have b23 := F23.binds (ps := ["self", "bit"]) fun _ _ _ _ _ _ us hl => match us, hl with | [_, _], _ => rfl
  have M23 : Meth K C "fixed" f23 := ⟨a23, i23, k23⟩
  have F24 := fun_mk (st := s_Net_put) l24 c24 k24
  have b24 := F24.binds (ps := ["self", "kind", "wires"]) fun _ _ _ _ _ _ us hl => match us, hl with | [_, _, _], _ => rfl
  have M24 : Meth K C "put" f24 := ⟨a24, i24, k24⟩
  have F25 := fun_mk (st := s_Net_put_gate) l25 c25 k25
  have b25 := F25.binds (ps := ["self", "gate", "depth"]) fun _ _ _ _ _ _ us hl => match us, hl with | [_, _, _], _ => rfl
  have M25 : Meth K C "put_gate" f25 := ⟨a25, i25, k25⟩
  have F26 := fun_mk (st := s_Net_need) l26 c26 k26
  have b26 := F26.binds (ps := ["self", "wires"]) fun _ _ _ _ _ _ us hl => match us, hl with | [_, _], _ => rfl
  have M26 : Meth K C "need" f26 := ⟨a26, i26, k26⟩
  have F27 := fun_mk (st := s_Net_give) l27 c27 k27
  have b27 := F27.binds (ps := ["self", "name", "wires"]) fun _ _ _ _ _ _ us hl => match us, hl with | [_, _, _], _ => rfl
  have M27 : Meth K C "give" f27 := ⟨a27, i27, k27⟩
  have F28 := fun_mk (st := s_Net_given) l28 c28 k28
  have b28 := F28.binds (ps := ["self", "name"]) fun _ _ _ _ _ _ us hl => match us, hl with | [_, _], _ => rfl
  have M28 : Meth K C "given" f28 := ⟨a28, i28, k28⟩
  have F29 := fun_mk (st := s_Net_names) l29 c29 k29
  have b29 := F29.binds (ps := ["self"]) fun _ _ _ _ _ _ us hl => match us, hl with | [_], _ => rfl
  have M29 : Meth K C "names" f29 := ⟨a29, i29, k29⟩
  have F30 := fun_mk (st := s_Net_inputs) l30 c30 k30
  have b30 := F30.binds (ps := ["self"]) fun _ _ _ _ _ _ us hl => match us, hl with | [_], _ => rfl
  have M30 : Meth K C "inputs" f30 := ⟨a30, i30, k30⟩
  have F31 := fun_mk (st := s_Net_gates) l31 c31 k31
  have b31 := F31.binds (ps := ["self"]) fun _ _ _ _ _ _ us hl => match us, hl with | [_], _ => rfl
  have M31 : Meth K C "gates" f31 := ⟨a31, i31, k31⟩
  have F32 := fun_mk (st := s_Net___len__) l32 c32 k32
  have b32 := F32.binds (ps := ["self"]) fun _ _ _ _ _ _ us hl => match us, hl with | [_], _ => rfl
  have M32 : Meth K C "__len__" f32 := ⟨a32, i32, k32⟩
  have F33 := fun_mk (st := s_Net_like) l33 c33 k33
  have b33 := F33.binds (ps := ["self"]) fun _ _ _ _ _ _ us hl => match us, hl with | [_], _ => rfl
  have M33 : Meth K C "like" f33 := ⟨a33, i33, k33⟩
  have clC : Cls K C := ⟨pgC, hdC, poC, saC⟩
  have mgC := PySem.W.mg_of X G aC
  have B : Bl mg := ⟨PySem.W.mg_none_of X G z1, PySem.W.mg_none_of X G z2, PySem.W.mg_none_of X G z3, PySem.W.mg_none_of X G z4, PySem.W.mg_none_of X G z5, PySem.W.mg_none_of X G z6, PySem.W.mg_none_of X G z7, PySem.W.mg_none_of X G z8, PySem.W.mg_none_of X G z9, PySem.W.mg_none_of X G z10, PySem.W.mg_none_of X G z11, PySem.W.mg_none_of X G z12, PySem.W.mg_none_of X G z13, PySem.W.mg_none_of X G z14, PySem.W.mg_none_of X G z15, PySem.W.mg_none_of X G z16, PySem.W.mg_none_of X G z17⟩
  refine ⟨PySem.W.fnOf "law" "law" (defArgs s_law) (defBody s_law) (defScope s_law) .none kV17 dc17 pm17 an17 cd17 ct17, fun s v => .of_eq rfl, fun base _ _ nd => ?_⟩
  have kb2_ : ∃ ds, Vals [.int 1] ds ∧ Binds K (PySem.W.fnOf "ran" "ran" (defArgs s_ran) (defBody s_ran) (defScope s_ran) .none (.ref Dk2) dc2 pm2 an2 cd2 ct2) ["net", "values", "many"] ds := ⟨_, (.cons ⟨_, rfl⟩ .nil), bnd_of (st := s_ran) (ml := [("many", .int 1 tk2_0)]) (ds := [.int 1 tk2_0]) (fun q hq => by rcases List.mem_cons.mp hq with rfl | hq; exact w2_0; exact nomatch hq) (fun us l1 => match us, l1 with | [_, _], _ => ⟨_, _, _, _, _, _, rfl, rfl, (show _ = pure _ from rfl)⟩)⟩
  have kb2_many : ∃ g, KBn K (PySem.W.fnOf "ran" "ran" (defArgs s_ran) (defBody s_ran) (defScope s_ran) .none (.ref Dk2) dc2 pm2 an2 cd2 ct2) ["net", "values", "many"] 2 ["many"] g (fun vs zs => vs ++ zs) := ⟨fun vs zs => vs ++ zs, ⟨kbn_of (st := s_ran) (ml := []) (gV := fun vs zs => vs ++ zs) (fun q hq => nomatch hq) (fun us ws l1 l2 => match us, ws, l1, l2 with | [_, _], [_], _, _ => (show _ = pure _ from rfl)) (fun _ _ r1 r2 => r1.append r2), fun r1 r2 => r1.append r2⟩⟩
  have L : LL K mg C (pkz f1 [f2, f3, f4, f5, f6, f7, f8, f9, f10, f11, f12, f13, f14, f15, f16, f18, f19, f20, f21, f22, f23, f24, f25, f26, f27, f28, f29, f30, f31, f32, f33]) (pkz _ [_, _, _, _, _, _, _, _, _, _, _, _, _, _, _, _, _, _, _, _, _, _, _, _, _, _, _, _, _, _, _])  base := ⟨F1, m1, b1, F2, m2, kb2_, kb2_many, F3, m3, b3, F4, m4, b4, F5, m5, b5, F6, m6, b6, F7, m7, b7, F8, m8, b8, F9, m9, b9, F10, m10, b10, F11, m11, b11, F12, m12, b12, F13, m13, b13, F14, m14, b14, F15, m15, b15, F16, m16, b16, ⟨clC, naC0, naC1, naC2, naC3, mgC⟩, ⟨mkC, a18, i18, kcC⟩, F18, b18, F19, b19, M19, F20, b20, M20, F21, b21, M21, F22, b22, M22, F23, b23, M23, F24, b24, M24, F25, b25, M25, F26, b26, M26, F27, b27, M27, F28, b28, M28, F29, b29, M29, F30, b30, M30, F31, b31, M31, F32, b32, M32, F33, b33, M33, nd, PySem.W.mg_none_of X G zsorted, PySem.W.mg_none_of X G zrepr, PySem.W.mg_none_of X G zdict⟩
  exact ok_law F17 B L
end GZ
open PySem PySem.W PyProof.Rows
set_option maxRecDepth 100000 in
set_option maxHeartbeats 0 in
theorem PySem.Challenge.cw_guessedzeros_k45_nets_run_case_by_case_holds : PySem.Challenge.rw_guessedzeros_k45_nets_run_case_by_case.Holds := by
  w_on; o_law; k_headLK; (case hw => w_witness2)
  k_fill
  refine L2.walkD (l := PySem.Challenge.rw_guessedzeros_k45_nets_run_case_by_case) (n := 63) (k := 12) (x := "_law_script") (CX := fun _ => L2.CX0) (sp := fun w => GZ.spLaw _) rfl (by decide) rfl ⟨rfl, by decide, by decide⟩ (fun w h Y => PySem.W.kIn_of Y) ?F (fun _ _ a ns hl _ hS => ⟨a, ns, rfl, hS, hl, fun _ => rfl⟩) (fun _ _ _ _ _ h => h)
  case F =>
    intro w mg fa h KX G hmg
    refine' GZ.all_mk KX G hmg ?a1 ?l1 ?c1 ?k1 ?a2 ?l2 ?c2 ?k2 ?w2_0 ?a3 ?l3 ?c3 ?k3 ?a4 ?l4 ?c4 ?k4 ?a5 ?l5 ?c5 ?k5 ?a6 ?l6 ?c6 ?k6 ?a7 ?l7 ?c7 ?k7 ?a8 ?l8 ?c8 ?k8 ?a9 ?l9 ?c9 ?k9 ?a10 ?l10 ?c10 ?k10 ?a11 ?l11 ?c11 ?k11 ?a12 ?l12 ?c12 ?k12 ?a13 ?l13 ?c13 ?k13 ?a14 ?l14 ?c14 ?k14 ?a15 ?l15 ?c15 ?k15 ?a16 ?l16 ?c16 ?k16 ?a17 ?l17 ?c17 ?k17 ?aC ?pgC ?hdC ?poC ?saC ?mkC ?kcC ?naC0 ?naC1 ?naC2 ?naC3 ?a18 ?i18 ?l18 ?c18 ?k18 ?a19 ?i19 ?l19 ?c19 ?k19 ?a20 ?i20 ?l20 ?c20 ?k20 ?a21 ?i21 ?l21 ?c21 ?k21 ?a22 ?i22 ?l22 ?c22 ?k22 ?a23 ?i23 ?l23 ?c23 ?k23 ?a24 ?i24 ?l24 ?c24 ?k24 ?a25 ?i25 ?l25 ?c25 ?k25 ?a26 ?i26 ?l26 ?c26 ?k26 ?a27 ?i27 ?l27 ?c27 ?k27 ?a28 ?i28 ?l28 ?c28 ?k28 ?a29 ?i29 ?l29 ?c29 ?k29 ?a30 ?i30 ?l30 ?c30 ?k30 ?a31 ?i31 ?l31 ?c31 ?k31 ?a32 ?i32 ?l32 ?c32 ?k32 ?a33 ?i33 ?l33 ?c33 ?k33 ?z1 ?z2 ?z3 ?z4 ?z5 ?z6 ?z7 ?z8 ?z9 ?z10 ?z11 ?z12 ?z13 ?z14 ?z15 ?z16 ?z17 ?zsorted ?zrepr ?zdict
    (case a1 => k_is)
    (case l1 => k_is)
    (case c1 => k_is)
    (case k1 => k_is)
    (case a2 => k_is)
    (case l2 => k_is)
    (case c2 => k_is)
    (case k2 => k_is)
    (case w2_0 => k_is)
    (case a3 => k_is)
    (case l3 => k_is)
    (case c3 => k_is)
    (case k3 => k_is)
    (case a4 => k_is)
    (case l4 => k_is)
    (case c4 => k_is)
    (case k4 => k_is)
    (case a5 => k_is)
    (case l5 => k_is)
    (case c5 => k_is)
    (case k5 => k_is)
    (case a6 => k_is)
    (case l6 => k_is)
    (case c6 => k_is)
    (case k6 => k_is)
    (case a7 => k_is)
    (case l7 => k_is)
    (case c7 => k_is)
    (case k7 => k_is)
    (case a8 => k_is)
    (case l8 => k_is)
    (case c8 => k_is)
    (case k8 => k_is)
    (case a9 => k_is)
    (case l9 => k_is)
    (case c9 => k_is)
    (case k9 => k_is)
    (case a10 => k_is)
    (case l10 => k_is)
    (case c10 => k_is)
    (case k10 => k_is)
    (case a11 => k_is)
    (case l11 => k_is)
    (case c11 => k_is)
    (case k11 => k_is)
    (case a12 => k_is)
    (case l12 => k_is)
    (case c12 => k_is)
    (case k12 => k_is)
    (case a13 => k_is)
    (case l13 => k_is)
    (case c13 => k_is)
    (case k13 => k_is)
    (case a14 => k_is)
    (case l14 => k_is)
    (case c14 => k_is)
    (case k14 => k_is)
    (case a15 => k_is)
    (case l15 => k_is)
    (case c15 => k_is)
    (case k15 => k_is)
    (case a16 => k_is)
    (case l16 => k_is)
    (case c16 => k_is)
    (case k16 => k_is)
    (case a17 => k_is)
    (case l17 => k_is)
    (case c17 => k_is)
    (case k17 => k_is)
    (case aC => k_is)
    (case pgC => k_is)
    (case hdC => k_is)
    (case poC => k_is)
    (case saC => k_is)
    (case mkC => k_is)
    (case kcC => k_is)
    (case naC0 => k_is)
    (case naC1 => k_is)
    (case naC2 => k_is)
    (case naC3 => k_is)
    (case a18 => k_is)
    (case i18 => k_is)
    (case l18 => k_is)
    (case c18 => k_is)
    (case k18 => k_is)
    (case a19 => k_is)
    (case i19 => k_is)
    (case l19 => k_is)
    (case c19 => k_is)
    (case k19 => k_is)
    (case a20 => k_is)
    (case i20 => k_is)
    (case l20 => k_is)
    (case c20 => k_is)
    (case k20 => k_is)
    (case a21 => k_is)
    (case i21 => k_is)
    (case l21 => k_is)
    (case c21 => k_is)
    (case k21 => k_is)
    (case a22 => k_is)
    (case i22 => k_is)
    (case l22 => k_is)
    (case c22 => k_is)
    (case k22 => k_is)
    (case a23 => k_is)
    (case i23 => k_is)
    (case l23 => k_is)
    (case c23 => k_is)
    (case k23 => k_is)
    (case a24 => k_is)
    (case i24 => k_is)
    (case l24 => k_is)
    (case c24 => k_is)
    (case k24 => k_is)
    (case a25 => k_is)
    (case i25 => k_is)
    (case l25 => k_is)
    (case c25 => k_is)
    (case k25 => k_is)
    (case a26 => k_is)
    (case i26 => k_is)
    (case l26 => k_is)
    (case c26 => k_is)
    (case k26 => k_is)
    (case a27 => k_is)
    (case i27 => k_is)
    (case l27 => k_is)
    (case c27 => k_is)
    (case k27 => k_is)
    (case a28 => k_is)
    (case i28 => k_is)
    (case l28 => k_is)
    (case c28 => k_is)
    (case k28 => k_is)
    (case a29 => k_is)
    (case i29 => k_is)
    (case l29 => k_is)
    (case c29 => k_is)
    (case k29 => k_is)
    (case a30 => k_is)
    (case i30 => k_is)
    (case l30 => k_is)
    (case c30 => k_is)
    (case k30 => k_is)
    (case a31 => k_is)
    (case i31 => k_is)
    (case l31 => k_is)
    (case c31 => k_is)
    (case k31 => k_is)
    (case a32 => k_is)
    (case i32 => k_is)
    (case l32 => k_is)
    (case c32 => k_is)
    (case k32 => k_is)
    (case a33 => k_is)
    (case i33 => k_is)
    (case l33 => k_is)
    (case c33 => k_is)
    (case k33 => k_is)
    (case z1 => k_is)
    (case z2 => k_is)
    (case z3 => k_is)
    (case z4 => k_is)
    (case z5 => k_is)
    (case z6 => k_is)
    (case z7 => k_is)
    (case z8 => k_is)
    (case z9 => k_is)
    (case z10 => k_is)
    (case z11 => k_is)
    (case z12 => k_is)
    (case z13 => k_is)
    (case z14 => k_is)
    (case z15 => k_is)
    (case z16 => k_is)
    (case z17 => k_is)
    (case zsorted => k_is)
    (case zrepr => k_is)
    (case zdict => k_is)

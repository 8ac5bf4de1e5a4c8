import PyProof.Rows.All
import Wide.All
import OpenK.AllK
import Wide.FinOn
import HandS.ForMost
import HandS.Walk
import HandS.Zip
import HandS.WideBits
import HandS.IsInst
import OpenK.KEqL
import HandS.More
import HandS.Flow
import HandS.NoneIn
import HandS.Defaults
import HandS.Wide
import HandS.Style
import HandS.Dict
import HandS.Star
import HandS.Conv
import HandS.Small
import HandS.Codes
import HandS.Text
import HandS.WordsDict
import KE.OsRunLaw
import KE.GoesZip
import KE.GoesMore
import KE.GoesEnum
import KE.KUnpackStar
import KE.KRevSl
import KE.KDictZip
import HandS.ListItems
import HandS.Deep
import PyProof.ReprBulk
import PyProof.ReprRoads
import PyProof.Rows.FactsT3
import PySem.Challenge.RW_guessedzeros_k47_sums_of_wires
set_option Elab.async false
set_option linter.all false
set_option maxRecDepth 100000
set_option maxHeartbeats 40000000
namespace GZ
open PySem PySem.Spec PyProof.Rows L2
/-! ### the text by places -/
def topS (i : Nat) : Stmt := PySem.Challenge.pw_guessedzeros_k47_sums_of_wires.main.body.getD i (.Pass ⟨0, 0, 0, 0⟩)
abbrev s_sum_wires : Stmt := topS 2
theorem sc_sum_wires : FnScope ["net", "ones", "others", "carry", "total", "one", "other", "half"] ["net", "ones", "others", "carry"] (defScope s_sum_wires) := ⟨rfl, rfl, rfl, by decide +kernel, rfl, by decide +kernel, by decide +kernel⟩
abbrev s_quick_sum_wires : Stmt := topS 3
theorem sc_quick_sum_wires : FnScope ["net", "ones", "others", "carry", "halves", "pairs", "carries", "total", "one", "other", "half", "into"] ["net", "ones", "others", "carry"] (defScope s_quick_sum_wires) := ⟨rfl, rfl, rfl, by decide +kernel, rfl, by decide +kernel, by decide +kernel⟩
abbrev s_carry_wires : Stmt := topS 4
theorem sc_carry_wires : FnScope ["net", "spans", "size", "place", "makes", "passes"] ["net", "spans"] (defScope s_carry_wires) := ⟨rfl, rfl, rfl, by decide +kernel, rfl, by decide +kernel, by decide +kernel⟩
abbrev s_span_doubled : Stmt := topS 5
theorem sc_span_doubled : FnScope ["net", "spans", "place", "size", "makes", "passes", "makes_below", "passes_below"] ["net", "spans", "place", "size"] (defScope s_span_doubled) := ⟨rfl, rfl, rfl, by decide +kernel, rfl, by decide +kernel, by decide +kernel⟩
abbrev s_Net___init__ : Stmt := inClass (topS 11) 0
theorem sc_Net___init__ : FnScope ["self", "many"] ["self", "many"] (defScope s_Net___init__) := ⟨rfl, rfl, rfl, by decide +kernel, rfl, by decide +kernel, by decide +kernel⟩
abbrev s_Net_both : Stmt := inClass (topS 11) 1
theorem sc_Net_both : FnScope ["self", "a", "b"] ["self", "a", "b"] (defScope s_Net_both) := ⟨rfl, rfl, rfl, by decide +kernel, rfl, by decide +kernel, by decide +kernel⟩
abbrev s_Net_either : Stmt := inClass (topS 11) 2
theorem sc_Net_either : FnScope ["self", "a", "b"] ["self", "a", "b"] (defScope s_Net_either) := ⟨rfl, rfl, rfl, by decide +kernel, rfl, by decide +kernel, by decide +kernel⟩
abbrev s_Net_unlike : Stmt := inClass (topS 11) 3
theorem sc_Net_unlike : FnScope ["self", "a", "b"] ["self", "a", "b"] (defScope s_Net_unlike) := ⟨rfl, rfl, rfl, by decide +kernel, rfl, by decide +kernel, by decide +kernel⟩
abbrev s_Net_fixed : Stmt := inClass (topS 11) 5
theorem sc_Net_fixed : FnScope ["self", "bit"] ["self", "bit"] (defScope s_Net_fixed) := ⟨rfl, rfl, rfl, by decide +kernel, rfl, by decide +kernel, by decide +kernel⟩
abbrev s_Net_put : Stmt := inClass (topS 11) 6
theorem sc_Net_put : FnScope ["self", "kind", "wires", "depth", "wire"] ["self", "kind", "wires"] (defScope s_Net_put) := ⟨rfl, rfl, rfl, by decide +kernel, rfl, by decide +kernel, by decide +kernel⟩
abbrev s_Net_put_gate : Stmt := inClass (topS 11) 7
theorem sc_Net_put_gate : FnScope ["self", "gate", "depth"] ["self", "gate", "depth"] (defScope s_Net_put_gate) := ⟨rfl, rfl, rfl, by decide +kernel, rfl, by decide +kernel, by decide +kernel⟩
abbrev s_Net_need : Stmt := inClass (topS 11) 8
theorem sc_Net_need : FnScope ["self", "wires", "wire"] ["self", "wires"] (defScope s_Net_need) := ⟨rfl, rfl, rfl, by decide +kernel, rfl, by decide +kernel, by decide +kernel⟩
abbrev s_Net_give : Stmt := inClass (topS 11) 9
theorem sc_Net_give : FnScope ["self", "name", "wires"] ["self", "name", "wires"] (defScope s_Net_give) := ⟨rfl, rfl, rfl, by decide +kernel, rfl, by decide +kernel, by decide +kernel⟩
abbrev s_Net_given : Stmt := inClass (topS 11) 10
theorem sc_Net_given : FnScope ["self", "name"] ["self", "name"] (defScope s_Net_given) := ⟨rfl, rfl, rfl, by decide +kernel, rfl, by decide +kernel, by decide +kernel⟩
abbrev s_Net_names : Stmt := inClass (topS 11) 11
theorem sc_Net_names : FnScope ["self"] ["self"] (defScope s_Net_names) := ⟨rfl, rfl, rfl, by decide +kernel, rfl, by decide +kernel, by decide +kernel⟩
abbrev s_Net_inputs : Stmt := inClass (topS 11) 12
theorem sc_Net_inputs : FnScope ["self"] ["self"] (defScope s_Net_inputs) := ⟨rfl, rfl, rfl, by decide +kernel, rfl, by decide +kernel, by decide +kernel⟩
abbrev s_Net_gates : Stmt := inClass (topS 11) 13
theorem sc_Net_gates : FnScope ["self"] ["self"] (defScope s_Net_gates) := ⟨rfl, rfl, rfl, by decide +kernel, rfl, by decide +kernel, by decide +kernel⟩
abbrev s_Net_depth : Stmt := inClass (topS 11) 14
theorem sc_Net_depth : FnScope ["self", "wire"] ["self", "wire"] (defScope s_Net_depth) := ⟨rfl, rfl, rfl, by decide +kernel, rfl, by decide +kernel, by decide +kernel⟩
abbrev s_ran : Stmt := topS 13
theorem sc_ran : FnScope ["net", "values", "many", "full", "wires", "gate", "value", "name", "wire"] ["net", "values", "many"] (defScope s_ran) := ⟨rfl, rfl, rfl, by decide +kernel, rfl, by decide +kernel, by decide +kernel⟩
abbrev s_gate_bits : Stmt := topS 14
theorem sc_gate_bits : FnScope ["gate", "wires", "full", "kind", "one", "other"] ["gate", "wires", "full"] (defScope s_gate_bits) := ⟨rfl, rfl, rfl, by decide +kernel, rfl, by decide +kernel, by decide +kernel⟩
abbrev sBox : Stmt := topS 16
abbrev sTake : Stmt := topS 17
abbrev s__law_wires : Stmt := topS 18
theorem sc__law_wires : FnScope ["_law_net", "_law_box_here", "_law_size", "_law_first", "_law_wires_here", "_law_turn"] ["_law_net", "_law_box_here", "_law_size"] (defScope s__law_wires) := ⟨rfl, rfl, rfl, by decide +kernel, rfl, by decide +kernel, by decide +kernel⟩
abbrev s__law_values : Stmt := topS 19
theorem sc__law_values : FnScope ["_law_box_here", "_law_inputs", "_law_cases", "_law_found", "_law_turn", "_law_value", "_law_step"] ["_law_box_here", "_law_inputs", "_law_cases"] (defScope s__law_values) := ⟨rfl, rfl, rfl, by decide +kernel, rfl, by decide +kernel, by decide +kernel⟩
abbrev s__law_number : Stmt := topS 20
theorem sc__law_number : FnScope ["_law_bits", "_law_case", "_law_found", "_law_one"] ["_law_bits", "_law_case"] (defScope s__law_number) := ⟨rfl, rfl, rfl, by decide +kernel, rfl, by decide +kernel, by decide +kernel⟩
abbrev s__law_handed : Stmt := topS 21
theorem sc__law_handed : FnScope ["_law_net", "_law_box_here", "_law_size", "_law_kept", "_law_wires_here"] ["_law_net", "_law_box_here", "_law_size", "_law_kept"] (defScope s__law_handed) := ⟨rfl, rfl, rfl, by decide +kernel, rfl, by decide +kernel, by decide +kernel⟩
abbrev s__law_put : Stmt := topS 22
theorem sc__law_put : FnScope ["_law_net", "_law_box_here", "_law_kept", "_law_size", "_law_ones", "_law_others", "_law_carry", "_law_held", "_law_plain", "_law_quick", "_law_wire"] ["_law_net", "_law_box_here", "_law_kept"] (defScope s__law_put) := ⟨rfl, rfl, rfl, by decide +kernel, rfl, by decide +kernel, by decide +kernel⟩
abbrev s_law : Stmt := topS 23
theorem sc_law : FnScope ["_law_script", "_law_k", "_law_box_here", "_law_net", "_law_rows", "_law_turn", "_law_row", "_law_at", "_law_name", "_law_wires_here", "_law_values_here", "_law_told", "_law_case", "_law_own", "_law_one"] ["_law_script"] (defScope s_law) := ⟨rfl, rfl, rfl, by decide +kernel, rfl, by decide +kernel, by decide +kernel⟩
/-! ### built-in names that the text leaves alone -/
structure Bl (mg : Str → Option Value) : Prop where
  len : mg "len" = none
  abs : mg "abs" = none
  int : mg "int" = none
  divmod : mg "divmod" = none
  list : mg "list" = none
  enumerate : mg "enumerate" = none
  isinstance : mg "isinstance" = none
  tuple : mg "tuple" = none
  str : mg "str" = none
  bool : mg "bool" = none
  zip : mg "zip" = none
  all : mg "all" = none
  range : mg "range" = none
  max : mg "max" = none
  any : mg "any" = none
  min : mg "min" = none
  sum : mg "sum" = none
/-! ### rules with the written part told (for the blocks of comprehensions) -/
section
variable {X : Cx} {K : PySem.W.Frag}
theorem call_len_seqK (h : X.K = K := by rfl) : CallR X (.builtin "len") (fun xs H Q => ∃ p ys, xs = [.ref p] ∧ (SqL K H p ys ∨ SqT K H p ys) ∧ Q (.int ys.length) H) := by subst h; exact call_len_seq
theorem call_list_ofK (h : X.K = K := by rfl) : CallR X (.type "list") (fun xs H Q => ∃ p ys, xs = [.ref p] ∧ (SqL K H p ys ∨ SqT K H p ys) ∧ ∀ l, H l = none → Q (.ref l) (upd H l (.lst ys))) := by subst h; exact call_list_of
theorem call_tuple_ofK (h : X.K = K := by rfl) : CallR X (.type "tuple") (fun xs H Q => ∃ p ys, xs = [.ref p] ∧ ((SqL K H p ys ∧ ∀ l, H l = none → Q (.ref l) (upd H l (.tup ys))) ∨ (SqT K H p ys ∧ Q (.ref p) H))) := by subst h; exact call_tuple_of
theorem ix_listK (h : X.K = K := by rfl) : IxR X (rIxL K) := by subst h; exact ix_list
theorem ix_tupK (h : X.K = K := by rfl) : IxR X (rIxT K) := by subst h; exact ix_tup
theorem ix_seqK (h : X.K = K := by rfl) : IxR X (rIx K) := by subst h; exact ix_seq
theorem op_in_seqK (h : X.K = K := by rfl) : OpR X (compareOp .In) (rIn K false) := by subst h; exact op_in_seq
theorem op_notIn_seqK (h : X.K = K := by rfl) : OpR X (compareOp .NotIn) (rIn K true) := by subst h; exact op_notIn_seq
theorem sl_listK (h : X.K = K := by rfl) : SlR X (rSlL K) := by subst h; exact sl_list
theorem cr_sumK (hc : X.calm = true) (h : X.K = K := by rfl) : CallR X (.builtin "sum") (rSum K) := by subst h; exact cr_sum hc
theorem cr_allK (hc : X.calm = true) (h : X.K = K := by rfl) : CallR X (.builtin "all") (rAll K) := by subst h; exact cr_all hc
theorem cr_anyK (hc : X.calm = true) (h : X.K = K := by rfl) : CallR X (.builtin "any") (rAny K) := by subst h; exact cr_any hc
theorem call_isiK' (h : X.K = K := by rfl) : CallR X (.builtin "isinstance") (rIsi K) := by subst h; exact call_isi
theorem pi_listK {tg l : Expr} {tl : TE} (hl : PE X l tl) (h : X.K = K := by rfl) : PI X tg l (iList K tl) := by subst h; exact pi_list hl
theorem pi_tupK {tg l : Expr} {tl : TE} (hl : PE X l tl) (h : X.K = K := by rfl) : PI X tg l (iTup K tl) := by subst h; exact pi_tup hl
theorem pe_fldK {e : Expr} {ta : TE} {f : Str} {pos : Pos} (he : PE X e ta) (hb : attributeBase e f X.env (eval e X.env) = eval e X.env) (h : X.K = K := by rfl) : PE X (.Attribute e f pos) (tFld K ta f) := by subst h; exact pe_fld he hb
end
/-! ### heaps -/
theorem same_upd {H : Hp} {p : Addr} {o : HO} (h : H p = none) : Same H (upd H p o) := fun b x e => by
  rw [upd_ne (ne_of_none e h)]
  exact e
/-- all but what stands at b is as it was -/
def Keep (b : Addr) (H H' : Hp) : Prop := ∀ p o, H p = some o → p ≠ b → H' p = some o
theorem Keep.refl (b : Addr) (H : Hp) : Keep b H H := fun _ _ h _ => h
theorem Keep.trans {b : Addr} {H H1 H2 : Hp} (x : Keep b H H1) (y : Keep b H1 H2) : Keep b H H2 := fun p o h n => y p o (x p o h n) n
theorem Keep.ofSame {b : Addr} {H H1 : Hp} (x : Same H H1) : Keep b H H1 := fun p o h _ => x p o h
theorem Keep.upd {b : Addr} {H : Hp} {o : HO} : Keep b H (upd H b o) := fun p x h n => by
  rw [upd_ne n]
  exact h
theorem Keep.new {b p : Addr} {H : Hp} {o : HO} (h : H p = none) : Keep b H (L2.upd H p o) := .ofSame (same_upd h)
theorem Keep.seq {K : PySem.W.Frag} {b a : Addr} {H H' : Hp} {xs : List V} (e : Keep b H H') (n : a ≠ b) (h : SqL K H a xs) : SqL K H' a xs := by
  rcases h with (h | ⟨o, h⟩) | h
  · exact .inl (.inl (e _ _ h n))
  · exact .inl (.inr ⟨o, e _ _ h n⟩)
  · exact .inr h
theorem Keep.seqT {K : PySem.W.Frag} {b a : Addr} {H H' : Hp} {xs : List V} (e : Keep b H H') (n : a ≠ b) (h : SqT K H a xs) : SqT K H' a xs := by
  rcases h with (h | ⟨o, h⟩) | h
  · exact .inl (.inl (e _ _ h n))
  · exact .inl (.inr ⟨o, e _ _ h n⟩)
  · exact .inr h
theorem Same.seqT {K : PySem.W.Frag} {a : Addr} {H H' : Hp} {xs : List V} (e : Same H H') (h : SqT K H a xs) : SqT K H' a xs := by
  rcases h with (h | ⟨o, h⟩) | h
  · exact .inl (.inl (e _ _ h))
  · exact .inl (.inr ⟨o, e _ _ h⟩)
  · exact .inr h
/-- a drawing box: three ints, the last at most c -/
def BoxAt (c : Int) (H : Hp) (b : Addr) : Prop := ∃ x0 x1 x2 : Int, H b = some (.lst [.int x0, .int x1, .int x2]) ∧ 0 ≤ x0 ∧ 0 ≤ x1 ∧ x1 < 2147483647 ∧ 0 ≤ x2 ∧ x2 ≤ c
theorem BoxAt.mono {c d : Int} {H : Hp} {b : Addr} (h : BoxAt c H b) (l : c ≤ d) : BoxAt d H b := by
  obtain ⟨x0, x1, x2, e, a1, a2, a3, a4, a5⟩ := h
  exact ⟨x0, x1, x2, e, a1, a2, a3, a4, by omega⟩
theorem BoxAt.same {c : Int} {H H' : Hp} {b : Addr} (h : BoxAt c H b) (s : Same H H') : BoxAt c H' b := by
  obtain ⟨x0, x1, x2, e, r⟩ := h
  exact ⟨x0, x1, x2, s _ _ e, r⟩
theorem BoxAt.at {c : Int} {H H' : Hp} {b : Addr} (h : BoxAt c H b) (s : H' b = H b) : BoxAt c H' b := by
  obtain ⟨x0, x1, x2, e, r⟩ := h
  exact ⟨x0, x1, x2, by rw [s]; exact e, r⟩
theorem BoxAt.ne {c : Int} {H : Hp} {b p : Addr} (h : BoxAt c H b) (n : H p = none) : b ≠ p := by
  obtain ⟨x0, x1, x2, e, r⟩ := h
  exact ne_of_none e n
theorem e7 : (10 : Int) ^ ((7 : Int).toNat) = 10000000 := by decide
theorem e18 : (10 : Int) ^ ((18 : Int).toNat) = 1000000000000000000 := by decide
theorem divp_small {i j : Int} (h0 : 0 < j) (h1 : j < 2 ^ 250) : CDivP i j := by
  refine ⟨h0, ?_⟩
  show (decide ((if j == 0 then 0 else j.natAbs.log2 / 30 + 1) > 300) && _) = false
  rw [if_neg (show ¬ (j == 0) = true by simpa using (show j ≠ 0 by omega))]
  have hl : j.natAbs.log2 < 250 := PySem.Flt.log2_lt_of (by decide) (by omega)
  rw [decide_eq_false (show ¬ (j.natAbs.log2 / 30 + 1 > 300) by omega), Bool.false_and]
section
variable {P : Program} {w : World} {K : PySem.W.Frag} {mg : Str → Option Value} {base : Heap}
/-! ### _law_take -/
theorem scTake : FnScope ["_law_box_here", "_law_size", "_law_found", "_law_step", "_law_once", "_law_twice"] ["_law_box_here", "_law_size"] (defScope sTake) := ⟨rfl, rfl, rfl, by decide +kernel, rfl, by decide +kernel, by decide +kernel⟩
def spTake (k : Nat) : Sp := fun vs H Q _ => ∃ (b : Addr) (n c : Int), vs = [.ref b, .int n] ∧ BoxAt c H b ∧ 1 ≤ n ∧ n ≤ 10000000 ^ k ∧ n < 2 ^ 250 ∧ c + 2 ^ k ≤ 1000000000 ∧ 0 < k ∧
  ∀ (r : Int) (H' : Hp), 0 ≤ r → r < n → BoxAt (c + 2 ^ (k - 1)) H' b → Keep b H H' → Q (.int r) H'
theorem take_none {f : Addr} {fd : FuncData} : FnOk P w K mg base CX0 0 f fd ["_law_box_here", "_law_size"] (spTake 0) := by
  have no : ∀ vs H Q E, ¬ spTake 0 vs H Q E := fun vs H Q E h => by
    obtain ⟨b, n, c, _, _, _, _, _, _, h0, _⟩ := h
    omega
  exact ⟨fun vs H Q E h => absurd h (no vs H Q E), fun A outer s H args us vs Q E _ _ _ _ h => absurd h (no vs H Q E)⟩
theorem ok_take1 {f : Addr} {fd : FuncData} {k : Nat} (F : Fun K "_law_take" "_law_take" sTake f fd) (G : FnOk P w K mg base CX0 k f fd ["_law_box_here", "_law_size"] (spTake k)) (bf : Binds K fd ["_law_box_here", "_law_size"] []) (mf : mg "_law_take" = some (.ref f)) (B : Bl mg) :
    FnOk P w K mg base CX0 (k + 1) f fd ["_law_box_here", "_law_size"] (spTake (k + 1)) := by
  refine F.ok scTake (fun vs H Q E h => ?_) (fun cdv A outer s H vs Q E hr h => ?_)
  · obtain ⟨b, n, c, rfl, _⟩ := h
    rfl
  obtain ⟨b, n, c, rfl, hB, hn1, hnk, hn60, hc, _, q⟩ := h
  obtain ⟨x0, x1, x2, hb, h0, h1, h1', h2, h2'⟩ := hB
  have hp : (0 : Int) < 2 ^ k := Int.pow_pos (by decide)
  have hk2 : (2 : Int) ^ (k + 1) = 2 ^ k * 2 := Int.pow_succ 2 k
  refine ⟨_, pss_cons (ps_if (pt_cmpR op_gt (pe_ix ix_list (pv 0) pe_int (fun _ _ => rfl)) pe_int (nomark _))
      (pss_cons (ps_asg (pe_callB call_divmodW (by rfl) B.divmod boot_divmod (pa_cons (pe_ix ix_list (pv 0) pe_int (fun _ _ => rfl)) (pa_cons (pv 1) pa_nil)))
          (pg_tup (by rfl) (pgs_cons (pg_sub (pv 0) pe_int set_list) (pgs_cons (pg_name (i := 2) scTake.nd rfl (.inl rfl)) pgs_nil))))
        (pss_one (ps_ret (pv 2)))) pss_nil)
    (pss_cons (ps_if (pt_cmpR op_gt (pv 1) (pe_op op_pow pe_int pe_int) (nomark _))
      (pss_one (ps_ret (pe_op op_mod (pe_op op_add (pe_call G hr (by rfl) mf F.kp bf .nil pass0 (pa_cons (pv 0) (pa_cons (pe_op op_pow pe_int pe_int) pa_nil)))
          (pe_op op_mul (pe_op op_pow pe_int pe_int) (pe_call G hr (by rfl) mf F.kp bf .nil pass0 (pa_cons (pv 0) (pa_cons (pe_op op_add (pe_op op_fdiv (pe_op op_sub (pv 1) pe_int) (pe_op op_pow pe_int pe_int)) pe_int) pa_nil))))) (pv 1)))) pss_nil)
    (pss_cons (ps_asg (pe_op op_add (pe_ix ix_list (pv 0) pe_int (fun _ _ => rfl)) pe_int) (pg_sub (pv 0) pe_int set_list))
    (pss_cons (ps_set (i := 3) scTake.nd rfl (.inl rfl) (pe_op op_add pe_int (pe_op op_mul (pe_ix ix_list (pv 0) pe_int (fun _ _ => rfl)) (pe_ix ix_list (pv 0) pe_int (fun _ _ => rfl)))))
    (pss_cons (ps_set (i := 4) scTake.nd rfl (.inl rfl) (pe_op op_mod (pe_op op_mul (pe_op op_add (pe_ix ix_list (pv 0) pe_int (fun _ _ => rfl)) (pe_op op_mul pe_int (pe_ix ix_list (pv 0) pe_int (fun _ _ => rfl)))) (pv 3)) pe_int))
    (pss_cons (ps_set (i := 5) scTake.nd rfl (.inl rfl) (pe_op op_mod (pe_op op_add (pe_op op_mul (pv 4) (pe_op op_add (pe_op op_mod (pv 4) pe_int) pe_int)) (pe_ix ix_list (pv 0) pe_int (fun _ _ => rfl))) pe_int))
    (pss_one (ps_ret (pe_op op_mod (pe_op op_fdiv (pe_op op_mod (pe_op op_mul (pv 5) (pe_op op_add (pe_op op_mod (pv 5) pe_int) pe_int)) pe_int) pe_int) (pv 1))))))))), ?_⟩
  refine ⟨_, rfl, b, _, _, _, rfl, rfl, SqL.of hb, rfl, _, _, rfl, rfl, _, rfl, ite2 (fun cc => ?_) (fun cc => ?_)⟩
  · -- the great number's own digits
    refine ⟨_, rfl, b, _, _, _, rfl, rfl, SqL.of hb, rfl, _, rfl, _, _, rfl, divp_small (by omega) (by omega), fun p np => ?_⟩
    have nbp : b ≠ p := ne_of_none hb np
    refine ⟨p, _, rfl, .inl (.inl upd_same), rfl, _, _, rfl, _, rfl, b, _, _, 0, rfl, rfl, (by rw [upd_ne nbp]; exact hb), rfl, _, _, rfl, rfl, _, rfl, ?_⟩
    refine q _ _ (Int.emod_nonneg _ (by omega)) (Int.emod_lt_of_pos _ (by omega)) ⟨x0 / n, x1, x2, upd_same, Int.ediv_nonneg h0 (by omega), h1, h1', h2, by show x2 ≤ c + 2 ^ k; omega⟩ ?_
    exact Keep.trans (Keep.new np) Keep.upd
  · refine ⟨_, rfl, _, _, rfl, rfl, ⟨by decide, by decide, by decide⟩, _, _, rfl, rfl, _, rfl, ite2 (fun c2 => ?_) (fun c2 => ?_)⟩
    · -- two lesser draws
      have c3 : (10 : Int) ^ ((7 : Int).toNat) < n := of_decide_eq_true c2
      rw [e7] at c3
      have hk : 0 < k := by
        rcases Nat.eq_zero_or_pos k with z | z
        · subst z
          rw [show (10000000 : Int) ^ (0 + 1) = 10000000 by decide] at hnk
          omega
        · exact z
      obtain ⟨j, rfl⟩ : ∃ j, k = j + 1 := ⟨k - 1, by omega⟩
      have hj2 : (2 : Int) ^ (j + 1) = 2 ^ j * 2 := Int.pow_succ 2 j
      have hjp : (0 : Int) < 2 ^ j := Int.pow_pos (by decide)
      have h10 : (10000000 : Int) ≤ 10000000 ^ (j + 1) := by
        rw [Int.pow_succ]
        have : (0 : Int) < 10000000 ^ j := Int.pow_pos (by decide)
        omega
      have hdiv : (n - 1) / 10000000 + 1 ≤ 10000000 ^ (j + 1) := by
        rw [Int.pow_succ] at hnk
        have : n - 1 < 10000000 ^ (j + 1) * 10000000 := by omega
        have := Int.ediv_lt_of_lt_mul (by decide) this
        omega
      refine ⟨_, rfl, _, _, rfl, rfl, ⟨by decide, by decide, by decide⟩, b, _, c, rfl, ⟨x0, x1, x2, hb, h0, h1, h1', h2, h2'⟩, (by rw [e7]; decide), (by rw [e7]; exact h10), (by rw [e7]; decide), by omega, by omega, fun r1 H1 a1 a2 B1 k1 => ?_⟩
      refine ⟨_, _, rfl, rfl, ⟨by decide, by decide, by decide⟩, _, rfl, _, rfl, _, _, rfl, rfl, _, _, rfl, rfl, ⟨by decide, by decide, by decide⟩, _, _, rfl, rfl, (by rw [e7]; exact ⟨by decide, by decide⟩), _, _, rfl, rfl, ?_⟩
      rw [e7]
      refine ⟨b, _, c + 2 ^ j, rfl, B1, by omega, hdiv, by omega, by omega, by omega, fun r2 H2 a3 a4 B2 k2 => ?_⟩
      refine ⟨_, _, rfl, rfl, .inl ⟨by decide, by decide⟩, _, _, rfl, rfl, _, rfl, _, _, rfl, rfl, (by show (0 : Int) < n; omega), ?_⟩
      refine q _ _ (Int.emod_nonneg _ (by omega)) (Int.emod_lt_of_pos _ (by omega)) (B2.mono ?_) (k1.trans k2)
      show c + 2 ^ j + 2 ^ j ≤ c + 2 ^ (j + 1)
      omega
    · -- a turn of the wheel
      refine ⟨_, rfl, b, _, _, _, rfl, rfl, SqL.of hb, rfl, _, _, rfl, rfl, _, rfl, b, _, _, 2, rfl, rfl, hb, rfl, ?_⟩
      have hb2 : (upd H b (.lst [.int x0, .int x1, .int (x2 + 1)])) b = some (.lst [.int x0, .int x1, .int (x2 + 1)]) := upd_same
      refine ⟨_, rfl, b, _, _, _, rfl, rfl, SqL.of hb2, rfl, _, rfl, b, _, _, _, rfl, rfl, SqL.of hb2, rfl, _, _, rfl, rfl, .inl ⟨by omega, by omega⟩, _, _, rfl, rfl, ?_⟩
      refine ⟨_, rfl, b, _, _, _, rfl, rfl, SqL.of hb2, rfl, _, rfl, b, _, _, _, rfl, rfl, SqL.of hb2, rfl, _, _, rfl, rfl, .inl ⟨by omega, by omega⟩, _, _, rfl, rfl, _, rfl, _, _, rfl, rfl, .inl ⟨by omega, by omega⟩, _, _, rfl, rfl, (by show (0 : Int) < 2147483587; decide), ?_⟩
      generalize (x1 + 39373 * (x2 + 1)) * (69621 + (x2 + 1) * (x2 + 1)) = y
      have y1 := Int.emod_nonneg y (show (2147483587 : Int) ≠ 0 by decide)
      have y2 := Int.emod_lt_of_pos y (show (0 : Int) < 2147483587 by decide)
      refine ⟨_, rfl, _, rfl, _, _, rfl, rfl, (by show (0 : Int) < 30011; decide), _, _, rfl, rfl, _, _, rfl, rfl, .inl ⟨by omega, by omega⟩, _, rfl, b, _, _, _, rfl, rfl, SqL.of hb2, rfl, _, _, rfl, rfl, _, _, rfl, rfl, (by show (0 : Int) < 2147483563; decide), ?_⟩
      generalize (y % 2147483587 * (y % 2147483587 % 30011 + 5) + (x2 + 1)) = z
      have z1 := Int.emod_nonneg z (show (2147483563 : Int) ≠ 0 by decide)
      have z2 := Int.emod_lt_of_pos z (show (0 : Int) < 2147483563 by decide)
      refine ⟨_, rfl, _, rfl, _, _, rfl, rfl, (by show (0 : Int) < 1013; decide), _, _, rfl, rfl, _, _, rfl, rfl, .inl ⟨by omega, by omega⟩, _, _, rfl, rfl, (by show (0 : Int) < 998244353; decide), _, _, rfl, rfl, ⟨by decide, by decide⟩, _, rfl, _, _, rfl, rfl, (by show (0 : Int) < n; omega), ?_⟩
      refine q _ _ (Int.emod_nonneg _ (by omega)) (Int.emod_lt_of_pos _ (by omega)) ⟨x0, x1, x2 + 1, hb2, h0, h1, h1', by omega, by show x2 + 1 ≤ c + 2 ^ k; omega⟩ Keep.upd
theorem ok_take {f : Addr} {fd : FuncData} (F : Fun K "_law_take" "_law_take" sTake f fd) (bf : Binds K fd ["_law_box_here", "_law_size"] []) (mf : mg "_law_take" = some (.ref f)) (B : Bl mg) : ∀ k : Nat, FnOk P w K mg base CX0 k f fd ["_law_box_here", "_law_size"] (spTake k)
  | 0 => take_none
  | k + 1 => ok_take1 F (ok_take F bf mf B k) bf mf B
/-! ### _law_box -/
theorem scBox : FnScope ["_law_script", "_law_k", "_law_cell"] ["_law_script", "_law_k"] (defScope sBox) := ⟨rfl, rfl, rfl, by decide +kernel, rfl, by decide +kernel, by decide +kernel⟩
def spBox (K : PySem.W.Frag) : Sp := fun vs H Q _ => ∃ (a : Addr) (zs : List Int) (k : Int), vs = [.ref a, .int k] ∧ SqL K H a (zs.map V.int) ∧ 0 ≤ k ∧ k ≤ 1000 ∧
  ∀ (p : Addr) (H' : Hp), H p = none → Same H H' → BoxAt 0 H' p → Q (.ref p) H'
theorem b01 (b : Bool) : (-(2 ^ 64) < (if b = true then (1 : Int) else 0)) ∧ (if b = true then (1 : Int) else 0) < 2 ^ 64 := by cases b <;> decide
theorem b01n (b : Bool) : 0 ≤ (if b = true then (1 : Int) else 0) := by cases b <;> decide
theorem abs_nn (i : Int) : 0 ≤ (if i < 0 then -i else i) := by
  split <;> omega
theorem at_int {zs : List Int} {k : Int} (h0 : 0 ≤ k) (h : k < (zs.length : Int)) : ∃ v : Int, atI (zs.map V.int) k = some (.int v) ∧ zs[k.toNat]? = some v := by
  have hk : k.toNat < zs.length := by omega
  have ek : k = ((k.toNat : Nat) : Int) := by omega
  have q : atI (zs.map V.int) ((k.toNat : Nat) : Int) = some (.int zs[k.toNat]) := atI_nat (by rw [List.getElem?_map, List.getElem?_eq_getElem hk] <;> rfl)
  rw [← ek] at q
  exact ⟨zs[k.toNat], q, List.getElem?_eq_getElem hk⟩
theorem ok_box {f : Addr} {fd : FuncData} {k : Nat} (F : Fun K "_law_box" "_law_box" sBox f fd) (B : Bl mg) : FnOk P w K mg base CX0 (k + 1) f fd ["_law_script", "_law_k"] (spBox K) := by
  refine F.ok scBox (fun vs H Q E h => ?_) (fun cdv A outer s H vs Q E hr h => ?_)
  · obtain ⟨a, zs, k, rfl, _⟩ := h
    rfl
  obtain ⟨a, zs, k, rfl, hS, h0, h1, q⟩ := h
  refine ⟨_, pss_cons (ps_set (i := 2) scBox.nd rfl (.inl rfl) (pe_ifExp (pt_cmpR op_lt (pv 1) (pe_callB call_len_seq (by rfl) B.len PySem.boot_len (pa_cons (pv 0) pa_nil)) (nomark _)) (pe_ix ix_list (pv 0) (pv 1) (fun _ _ => rfl)) pe_int))
    (pss_one (ps_ret (pe_lst (pa_cons (pe_op op_mul (pe_callB call_abs (by rfl) B.abs boot_abs (pa_cons (pv 2) pa_nil)) (pe_callTy call_int1 (by rfl) B.int PyProof.Rows.boot_int (pa_cons (pe_cmpR op_ge (pe_callB call_abs (by rfl) B.abs boot_abs (pa_cons (pv 2) pa_nil)) (pe_op op_pow pe_int pe_int) (nomark _)) pa_nil)))
      (pa_cons (pe_op op_mod (pe_op op_mul (pe_op op_add (pe_op op_add (pe_op op_mod (pv 2) pe_int) (pe_op op_mul pe_int (pv 1))) pe_int) pe_int) pe_int) (pa_cons pe_int pa_nil)))))), ?_⟩
  refine ⟨_, rfl, _, rfl, a, _, rfl, .inl hS, _, _, rfl, rfl, _, rfl, ite2 (fun cc => ?_) (fun cc => ?_)⟩
  · have c1 : k < (((zs.map V.int).length : Nat) : Int) := of_decide_eq_true cc
    rw [List.length_map] at c1
    obtain ⟨v, hv, _⟩ := at_int h0 c1
    refine ⟨_, rfl, _, rfl, a, _, _, _, rfl, rfl, hS, hv, ?_⟩
    refine ⟨_, rfl, _, rfl, _, rfl, _, rfl, _, _, rfl, rfl, ⟨by decide, by decide, by decide⟩, _, _, rfl, rfl, .inr ⟨_, rfl, ?_⟩⟩
    refine ⟨_, _, rfl, rfl, .inr (b01 _), _, rfl, _, _, rfl, rfl, (by show (0 : Int) < 2147483629; decide), _, rfl, _, _, rfl, rfl, .inl ⟨by decide, by decide⟩, _, _, rfl, rfl, _, _, rfl, rfl, _, _, rfl, rfl, .inr ⟨by decide, by decide⟩, _, _, rfl, rfl, (by show (0 : Int) < 2147483647; decide), (by show 3 ≤ sizeLine; decide), fun p np => ?_⟩
    refine q p _ np (same_upd np) ⟨_, _, _, upd_same, Int.mul_nonneg (abs_nn v) (b01n _), Int.emod_nonneg _ (by decide), Int.emod_lt_of_pos _ (by decide), by decide, by decide⟩
  · refine ⟨_, rfl, _, rfl, _, rfl, _, rfl, _, _, rfl, rfl, ⟨by decide, by decide, by decide⟩, _, _, rfl, rfl, .inr ⟨_, rfl, ?_⟩⟩
    refine ⟨_, _, rfl, rfl, .inr (b01 _), _, rfl, _, _, rfl, rfl, (by show (0 : Int) < 2147483629; decide), _, rfl, _, _, rfl, rfl, .inl ⟨by decide, by decide⟩, _, _, rfl, rfl, _, _, rfl, rfl, _, _, rfl, rfl, .inr ⟨by decide, by decide⟩, _, _, rfl, rfl, (by show (0 : Int) < 2147483647; decide), (by show 3 ≤ sizeLine; decide), fun p np => ?_⟩
    refine q p _ np (same_upd np) ⟨_, _, _, upd_same, Int.mul_nonneg (abs_nn 0) (b01n _), Int.emod_nonneg _ (by decide), Int.emod_lt_of_pos _ (by decide), by decide, by decide⟩
theorem ty_lst {H : Hp} {a : Addr} {xs : List V} (h : SqL K H a xs) : TyX K H (.ref a) (.type "list") := by
  rcases h with (h | ⟨o, h⟩) | ⟨o, its, n, h1, h2, _⟩
  · exact .base (.lst h)
  · exact .base (.frz h)
  · exact .kList h1 h2
theorem ty_tup {H : Hp} {a : Addr} {xs : List V} (h : SqT K H a xs) : TyX K H (.ref a) (.type "tuple") := by
  rcases h with (h | ⟨o, h⟩) | ⟨o, its, n, h1, h2, _⟩
  · exact .base (.tup h)
  · exact .fTuple h
  · exact .kTuple h1 h2
theorem yesT {σ : L2.St} {H : Hp} {R S : Hp → Prop} (h : R H) : tYes σ H fun b H3 => if b = true then R H3 else S H3 := h
theorem repl_snoc {α : Type} (i : Nat) (x : α) : List.replicate i x ++ [x] = List.replicate (i + 1) x := List.replicate_succ'.symm
theorem all_repl (n : Nat) : (List.replicate n true).all id = true := by
  rw [List.all_eq_true]
  intro x hx
  rw [List.eq_of_mem_replicate hx]
  rfl
end
end GZ
namespace GM
theorem pow_pos' (n : Nat) : (0 : Int) < 2 ^ n := Int.pow_pos (by decide)
theorem pow_s (n : Nat) : (2 : Int) ^ (n + 1) = 2 ^ n * 2 := Int.pow_succ 2 n
theorem pow_le' {m n : Nat} (h : m ≤ n) : (2 : Int) ^ m ≤ 2 ^ n := by
  induction n with
  | zero =>
    have : m = 0 := by omega
    rw [this]
    exact Int.le_refl _
  | succ n ih =>
    by_cases e : m = n + 1
    · rw [e]
      exact Int.le_refl _
    · have := ih (by omega)
      have := pow_s n
      have := pow_pos' n
      omega
theorem pow_add' (m n : Nat) : (2 : Int) ^ (m + n) = 2 ^ m * 2 ^ n := Int.pow_add 2 m n
theorem bits_pow {x : Nat} {e : Nat} (h : x < 2 ^ e) : PySem.Builtin.Int.intBits (x : Int) ≤ e := PyProof.Rows.intBits_le (by rw [Int.natAbs_natCast]; exact h)
theorem bits_le_pow {x : Nat} {e : Nat} (h : 2 ^ e ≤ x) : e + 1 ≤ PySem.Builtin.Int.intBits (x : Int) := by
  have hx : x ≠ 0 := by
    have := Nat.two_pow_pos e
    omega
  unfold PySem.Builtin.Int.intBits
  rw [if_neg (by simpa using hx), Int.natAbs_natCast]
  have := (Nat.le_log2 hx).mpr h
  omega
theorem bits_unique {x e : Nat} (h1 : 2 ^ e ≤ x) (h2 : x < 2 ^ (e + 1)) : PySem.Builtin.Int.intBits (x : Int) = e + 1 := by
  have := bits_pow h2
  have := bits_le_pow h1
  omega
theorem bits_ex {x : Nat} (h : 0 < x) : ∃ e, 2 ^ e ≤ x ∧ x < 2 ^ (e + 1) := ⟨x.log2, Nat.log2_self_le (by omega), Nat.lt_log2_self⟩
theorem bits_half {x : Nat} (h : 0 < x) : PySem.Builtin.Int.intBits (x : Int) = PySem.Builtin.Int.intBits ((x / 2 : Nat) : Int) + 1 := by
  obtain ⟨e, h1, h2⟩ := bits_ex h
  rw [bits_unique h1 h2]
  cases e with
  | zero =>
    have : x = 1 := by
      simp at h1 h2
      omega
    rw [this]
    rfl
  | succ e =>
    rw [bits_unique (x := x / 2) (e := e)]
    · rw [Nat.pow_succ] at h1
      omega
    · rw [Nat.pow_succ] at h2
      omega
theorem bits_double {x m : Nat} (h : 0 < x) (hm : m ≤ 1) : PySem.Builtin.Int.intBits ((2 * x + m : Nat) : Int) = PySem.Builtin.Int.intBits (x : Int) + 1 := by
  rw [bits_half (x := 2 * x + m) (by omega), show (2 * x + m) / 2 = x by omega]
theorem shr_lt {x : Int} {a b : Nat} (h0 : 0 ≤ x) (h : x < 2 ^ (a + b)) : 0 ≤ x / 2 ^ b ∧ x / 2 ^ b < 2 ^ a := by
  have hb := pow_pos' b
  refine ⟨Int.ediv_nonneg h0 (by omega), ?_⟩
  rw [pow_add'] at h
  exact Int.ediv_lt_of_lt_mul hb h
end GM
namespace GM
/-! ### words: a sign, a scale of m bits, a tail of t bits -/
def bit (a : Int) (n : Nat) : Int := a / 2 ^ n % 2
def blr (a : Int) : Nat → List Int
  | 0 => []
  | n + 1 => bit a n :: blr a n
def wv : List Int → Int
  | [] => 0
  | d :: r => d * 2 ^ r.length + wv r
theorem blr_len (a : Int) : ∀ n, (blr a n).length = n
  | 0 => rfl
  | n + 1 => by
    show (blr a n).length + 1 = n + 1
    rw [blr_len a n]
theorem div_div (w : Int) (t m : Nat) : w / 2 ^ t / 2 ^ m = w / 2 ^ (t + m) := by
  rw [pow_add', Int.ediv_ediv_of_nonneg (Int.le_of_lt (pow_pos' t))]
theorem bit_div (w : Int) (t m : Nat) : bit (w / 2 ^ t) m = bit w (m + t) := by
  unfold bit
  rw [div_div, Nat.add_comm t m]
theorem blr_take (w : Int) (t : Nat) : ∀ m, (blr w (m + t)).take m = blr (w / 2 ^ t) m
  | 0 => rfl
  | m + 1 => by
    show (blr w ((m + 1) + t)).take (m + 1) = bit (w / 2 ^ t) m :: blr (w / 2 ^ t) m
    rw [show m + 1 + t = (m + t) + 1 by omega]
    show bit w (m + t) :: (blr w (m + t)).take m = _
    rw [blr_take w t m, bit_div]
theorem blr_drop (w : Int) (t : Nat) : ∀ m, (blr w (m + t)).drop m = blr w t
  | 0 => by rw [Nat.zero_add]; rfl
  | m + 1 => by
    rw [show m + 1 + t = (m + t) + 1 by omega]
    show (blr w (m + t)).drop m = _
    exact blr_drop w t m
theorem mod_step (a : Int) (n : Nat) : bit a n * 2 ^ n + a % 2 ^ n = a % 2 ^ (n + 1) := by
  unfold bit
  have hp := pow_pos' n
  have e1 := Int.emod_add_mul_ediv a (2 ^ n)
  have e2 := Int.emod_add_mul_ediv (a / 2 ^ n) 2
  have h1 := Int.emod_nonneg a (show (2 : Int) ^ n ≠ 0 by omega)
  have h2 := Int.emod_lt_of_pos a hp
  have e3 : 2 ^ n * (a / 2 ^ n) = a / 2 ^ n % 2 * 2 ^ n + a / 2 ^ n / 2 * (2 ^ n * 2) := by
    conv => lhs; rw [← e2]
    rw [Int.mul_add, Int.mul_comm (2 ^ n) (a / 2 ^ n % 2), ← Int.mul_assoc, Int.mul_comm (2 ^ n * 2) _]
  have key : (a / 2 ^ n % 2 * 2 ^ n + a % 2 ^ n) + a / 2 ^ n / 2 * 2 ^ (n + 1) = a := by
    rw [pow_s]
    omega
  have hb : 0 ≤ a / 2 ^ n % 2 * 2 ^ n + a % 2 ^ n ∧ a / 2 ^ n % 2 * 2 ^ n + a % 2 ^ n < 2 ^ (n + 1) := by
    rw [pow_s]
    have : a / 2 ^ n % 2 = 0 ∨ a / 2 ^ n % 2 = 1 := by omega
    rcases this with z | z <;> rw [z] <;> omega
  have em := Int.add_mul_emod_self_right (a / 2 ^ n % 2 * 2 ^ n + a % 2 ^ n) (a / 2 ^ n / 2) (2 ^ (n + 1))
  rw [key, Int.emod_eq_of_lt hb.1 hb.2] at em
  exact em.symm
theorem wv_blr (a : Int) : ∀ n, wv (blr a n) = a % 2 ^ n
  | 0 => by
    show (0 : Int) = a % 1
    omega
  | n + 1 => by
    show bit a n * 2 ^ (blr a n).length + wv (blr a n) = _
    rw [blr_len, wv_blr a n, ← mod_step a n]
theorem fold2 : ∀ (ds : List Int) (w : Int), ds.foldl (fun a b => a * 2 + b) w = w * 2 ^ ds.length + wv ds
  | [], w => by
    show w = w * 2 ^ 0 + 0
    rw [Int.pow_zero]
    omega
  | d :: r, w => by
    show r.foldl (fun a b => a * 2 + b) (w * 2 + d) = w * 2 ^ (r.length + 1) + (d * 2 ^ r.length + wv r)
    rw [fold2 r, pow_s, Int.add_mul, Int.mul_assoc, Int.mul_comm 2 (2 ^ r.length)]
    omega
theorem wv_ones : ∀ k, wv (List.replicate k 1) = 2 ^ k - 1
  | 0 => rfl
  | k + 1 => by
    rw [List.replicate_succ]
    show 1 * 2 ^ (List.replicate k (1 : Int)).length + wv (List.replicate k 1) = _
    rw [List.length_replicate, wv_ones k, pow_s]
    omega
/-- sign, scale, tail of a word -/
def sgn (m t : Nat) (w : Int) : Int := w / 2 ^ (m + t) % 2
def scl (m t : Nat) (w : Int) : Int := w / 2 ^ t % 2 ^ m
def tlp (t : Nat) (w : Int) : Int := w % 2 ^ t
theorem scl_tlp (m t : Nat) (w : Int) : scl m t w * 2 ^ t + tlp t w = w % 2 ^ (m + t) := by
  induction m with
  | zero =>
    unfold scl tlp
    rw [Int.pow_zero, Int.emod_one, Int.zero_mul, Int.zero_add, Nat.zero_add]
  | succ m ih =>
    have e := mod_step (w / 2 ^ t) m
    have e2 := mod_step w (m + t)
    rw [bit_div] at e
    unfold scl at ih ⊢
    rw [← e, Int.add_mul, show m + 1 + t = (m + t) + 1 by omega, ← e2, ← ih, Int.mul_assoc, ← pow_add']
    omega
theorem sgn_01 {m t : Nat} {w : Int} : sgn m t w = 0 ∨ sgn m t w = 1 := by
  unfold sgn
  omega
theorem word_eq {m t : Nat} {w : Int} (h0 : 0 ≤ w) (h1 : w < 2 ^ (1 + m + t)) : sgn m t w * 2 ^ (m + t) + w % 2 ^ (m + t) = w := by
  have e := mod_step w (m + t)
  rw [show m + t + 1 = 1 + m + t by omega, Int.emod_eq_of_lt h0 h1] at e
  exact e
theorem scl_nn (m t : Nat) (w : Int) : 0 ≤ scl m t w ∧ scl m t w < 2 ^ m := ⟨Int.emod_nonneg _ (by have := pow_pos' m; omega), Int.emod_lt_of_pos _ (pow_pos' m)⟩
theorem tlp_nn (t : Nat) (w : Int) : 0 ≤ tlp t w ∧ tlp t w < 2 ^ t := ⟨Int.emod_nonneg _ (by have := pow_pos' t; omega), Int.emod_lt_of_pos _ (pow_pos' t)⟩
/-- with the other sign -/
def trn (m t : Nat) (w : Int) : Int := (1 - sgn m t w) * 2 ^ (m + t) + w % 2 ^ (m + t)
theorem mk_parts {m t : Nat} {s r : Int} (hs : s = 0 ∨ s = 1) (h0 : 0 ≤ r) (h1 : r < 2 ^ (m + t)) : 0 ≤ s * 2 ^ (m + t) + r ∧ s * 2 ^ (m + t) + r < 2 ^ (1 + m + t) ∧ sgn m t (s * 2 ^ (m + t) + r) = s ∧ (s * 2 ^ (m + t) + r) % 2 ^ (m + t) = r := by
  have hp := pow_pos' (m + t)
  have e : (2 : Int) ^ (1 + m + t) = 2 ^ (m + t) * 2 := by rw [← pow_s]; congr 1; omega
  have em : (s * 2 ^ (m + t) + r) % 2 ^ (m + t) = r := by
    rw [Int.add_comm, Int.add_mul_emod_self_right, Int.emod_eq_of_lt h0 h1]
  have ed : (s * 2 ^ (m + t) + r) / 2 ^ (m + t) = s := by
    rw [Int.add_comm, Int.add_mul_ediv_right _ _ (by omega), Int.ediv_eq_zero_of_lt h0 h1, Int.zero_add]
  refine ⟨?_, ?_, ?_, em⟩
  · rcases hs with z | z <;> subst z <;> omega
  · rw [e]
    rcases hs with z | z <;> subst z <;> omega
  · unfold sgn
    rw [ed]
    omega
theorem trn_trn {m t : Nat} {w : Int} (h0 : 0 ≤ w) (h1 : w < 2 ^ (1 + m + t)) : trn m t (trn m t w) = w ∧ 0 ≤ trn m t w ∧ trn m t w < 2 ^ (1 + m + t) := by
  have hp := pow_pos' (m + t)
  have hs : 1 - sgn m t w = 0 ∨ 1 - sgn m t w = 1 := by
    have := sgn_01 (m := m) (t := t) (w := w)
    omega
  obtain ⟨a, b, c, d⟩ := mk_parts (m := m) (t := t) hs (Int.emod_nonneg w (show (2 : Int) ^ (m + t) ≠ 0 by omega)) (Int.emod_lt_of_pos w hp)
  refine ⟨?_, a, b⟩
  show (1 - sgn m t (trn m t w)) * 2 ^ (m + t) + trn m t w % 2 ^ (m + t) = w
  rw [show sgn m t (trn m t w) = 1 - sgn m t w from c, show trn m t w % 2 ^ (m + t) = w % 2 ^ (m + t) from d, show 1 - (1 - sgn m t w) = sgn m t w by omega]
  exact word_eq h0 h1
end GM
namespace GZ
open PySem PySem.Spec PyProof.Rows L2
end GZ
namespace L2
open PySem PySem.Spec PyProof.Rows
/-! ### defs that tell lists as texts: around them no text of a list is under way -/
structure FnOkG (P : Program) (w : World) (K : PySem.W.Frag) (mg : Str → Option Value) (base : Heap) (CX : CXT) (k : Nat) (f : Addr) (fd : FuncData) (ps : List Str) (sp : Sp) : Prop where
  lenG : ∀ vs H Q E, sp vs H Q E → vs.length = ps.length
  runG : ∀ (B : Around) (ou : List Env) (u : Shared) (H : Hp) (ar : Args) (us : List Value) (vs : List V) (Q : VK) (E : XK), B.guards = some [] → Room k B → Env0 P w K mg base B ou u H → BindsTo u fd ar (ps.zip us) → Vals vs us → sp vs H Q E → codeAny (model P w) B (.call (.ref f) ar) (CR CX ou P w H u Q E) u
section
variable {P : Program} {w : World} {K : PySem.W.Frag} {mg : Str → Option Value} {base : Heap} {CX : CXT} {f : Addr} {fd : FuncData} {ps : List Str} {sp sq : Sp}
theorem FnOk.toG {k : Nat} (F : FnOk P w K mg base CX k f fd ps sp) : FnOkG P w K mg base CX k f fd ps sp := ⟨F.len, fun B ou u H ar us vs Q E _ r e b v h => F.run B ou u H ar us vs Q E r e b v h⟩
theorem FnOkG.mono {j k : Nat} (F : FnOkG P w K mg base CX j f fd ps sp) (l : j ≤ k) : FnOkG P w K mg base CX k f fd ps sp := ⟨F.lenG, fun B ou u H ar us vs Q E g r => F.runG B ou u H ar us vs Q E g (r.mono l)⟩
theorem FnOkG.imp {k : Nat} (F : FnOkG P w K mg base CX k f fd ps sp) (h : ∀ vs H Q E, sq vs H Q E → sp vs H Q E) : FnOkG P w K mg base CX k f fd ps sq := ⟨fun vs H Q E q => F.lenG vs H Q E (h vs H Q E q), fun B ou u H ar us vs Q E g r e b v z => F.runG B ou u H ar us vs Q E g r e b v (h vs H Q E z)⟩
end
theorem fnG_of {CX : CXT} {P : Program} {w : World} {K : PySem.W.Frag} {mg : Str → Option Value} {base : Heap} {k : Nat} {f : Addr} {nm qu : Str} {pr : Arguments} {bd : List Stmt} {sc : Scope} {dV kV doc pm cdv ct oc : Value} {an od : Option Addr}
    {osl : Array (Option Value)} {N ps : List Str} {sp : Sp} (lk : K.lookup f = some ⟨oc, od, .func (PySem.W.fnOf nm qu pr bd sc dV kV doc pm an cdv ct), osl⟩) (hcd : PySem.W.codeIn K cdv qu = true) (S : FnScope N ps sc)
    (ln : ∀ vs H Q E, sp vs H Q E → vs.length = ps.length)
    (hb : ∀ (B : Around) (ou : List Env) (u : Shared) (H : Hp) (vs : List V) (Q : VK) (E : XK), (B.deeper (envOfC qu sc u.heap.objs.size f cdv)).guards = some [] → Room k (B.deeper (envOfC qu sc u.heap.objs.size f cdv)) → sp vs H Q E →
      ∃ t, PSs (cxOf CX P w K mg base N qu sc f cdv B ou u H E) bd t ∧ t { nx := fun _ G => Q .non G, rt := Q } (start N vs) H) :
    FnOkG P w K mg base CX (k + 1) f (PySem.W.fnOf nm qu pr bd sc dV kV doc pm an cdv ct) ps sp := by
  refine ⟨ln, fun B ou u H ar us vs Q E hg rm e0 bi rv hs => ?_⟩
  have lv := ln _ _ _ _ hs
  have XK : K.In u.heap := e0.mod.kin.keeps fun b o e => (e0.bs b o e).1
  have NL : u.heap.NoLimit := e0.mod.nolimit.keeps fun b o e => (e0.bs b o e).1
  have kd : ∀ y ∈ ps.zip us, sc.names.lookup y.1 = some .local ∨ (sc.names.lookup y.1 = some .cell ∧ ((cellsFrom (u.heap.objs.size + 1) sc.names []).lookup y.1).isSome = true) := fun ⟨n, v⟩ hy => (S.par n (List.of_mem_zip hy).1).elim .inl fun q => .inr ⟨q, PySem.W.cellsFrom_some _ _ _ (.inl q)⟩
  refine codeAny_call_function rm.depth (XK _ _ lk) rfl S.co S.gen rfl (PySem.W.codeRec_of XK hcd) (bi _ _ _ _ ?_)
  refine wpAny_newFunctionEnv_cells S.kind kd fun en he t1 xc => ?_
  subst he
  refine ⟨NL.keeps xc.toInCall.keep, codeAny_func ?_⟩
  obtain ⟨t, ht, hq⟩ := hb B ou u H vs Q E hg (rm.deeper _) hs
  have J0 : Inv (cxOf CX P w K mg base N qu sc f cdv B ou u H E) [] (start N vs) H t1 := inv_start S rm.hd e0 lv rv xc
  refine wpAny_mono (ht.run [] t1 (start N vs) H _ J0 hq) (fun fl t2 z => ?_) fun _ _ z => z
  have done : ∀ {σ2 : St} {H2 : Hp} {v : V} {y : Value}, Inv (cxOf CX P w K mg base N qu sc f cdv B ou u H E) [] σ2 H2 t2 → RelV v y → Q v H2 → CE ou P w H u Q y t2 := fun {σ2 H2 v y} J rl q => ⟨v, H2, J.os, J.bare, J.base, J.hok, rl, q⟩
  match fl, z with
  | .ret y, ⟨v, σ2, H2, J, rl, q⟩ => exact done J rl q
  | .next, ⟨σ2, H2, J, q⟩ => exact done (v := V.non) (y := Value.none) J rfl q
  | .brk, ⟨_, _, _, q⟩ => exact q.elim
  | .cont, ⟨_, _, _, q⟩ => exact q.elim
theorem Fun.okG {P : Program} {w : World} {K : PySem.W.Frag} {mg : Str → Option Value} {base : Heap} {x qu : Str} {st : Stmt} {f : Addr} {fd : FuncData} {N ps : List Str} {k : Nat} {sp : Sp} (F : Fun K x qu st f fd) (S : FnScope N ps (defScope st)) (ln : ∀ vs H Q E, sp vs H Q E → vs.length = ps.length)
    (hb : ∀ (cdv : Value) (B : Around) (ou : List Env) (u : Shared) (H : Hp) (vs : List V) (Q : VK) (E : XK), (B.deeper (envOfC qu (defScope st) u.heap.objs.size f cdv)).guards = some [] → Room k (B.deeper (envOfC qu (defScope st) u.heap.objs.size f cdv)) → sp vs H Q E →
      ∃ t, PSs (cxOf CX0 P w K mg base N qu (defScope st) f cdv B ou u H E).nox (defBody st) t ∧ t { nx := fun _ G => Q .non G, rt := Q } (start N vs) H) : FnOkG P w K mg base CX0 (k + 1) f fd ps sp := by
  obtain ⟨oc, od, kV, doc, pm, an, cdv, ct, osl, rfl, lk, hc⟩ := F.ex
  refine fnG_of lk hc S ln fun B ou u H vs Q E hg rm hs => ?_
  obtain ⟨t, h, q⟩ := hb cdv B ou u H vs Q E hg rm hs
  exact ⟨t, h.nox, q⟩
section
variable {X : Cx} {CX : CXT} {k : Nat} {f : Addr} {fd : FuncData} {ps : List Str} {sp : Sp} {dvs : List V} {ds : List Value} {E : XK} {x : Str} {p pos : Pos} {e : Expr} {es : List Expr} {t : TA}
theorem runG_fn {pz : List (Addr × Obj)} {τ : St} {H : Hp} {u0 : Shared} {Q : VK} {us : List Value} {vs : List V} (F : FnOkG X.prog X.w X.K X.mg X.base CX k f fd ps sp) (gd : X.A.guards = some []) (hr : Room k X.A) (hb : Binds X.K fd ps ds) (hd : Vals dvs ds) (hx : Passes CX X E)
    (I : Inv X pz τ H u0) (r : Vals vs us) (h : sp (vs ++ dvs) H Q E) : wpAny (model X.prog X.w) X.A (call (.ref f) us) (EP X pz τ Q) X.xe u0 := by
  have ra : Vals (vs ++ dvs) (us ++ ds) := r.append hd
  have la : (us ++ ds).length = ps.length := ra.length.symm.trans (F.lenG _ _ _ _ h)
  refine wpAny_call (codeAny_mono (F.runG X.A X.stack u0 H ⟨us, []⟩ (us ++ ds) (vs ++ dvs) Q E gd hr I.env0 (hb u0 us I.kIn la) ra h) fun r1 t1 z => ?_)
  match r1 with
  | .error er => exact hx pz τ H u0 er t1 I z
  | .ok (.ret y) => exact I.after z
  | .ok .next => exact z.elim
  | .ok .brk => exact z.elim
  | .ok .cont => exact z.elim
theorem pe_callG (F : FnOkG X.prog X.w X.K X.mg X.base CX k f fd ps sp) (gd : X.A.guards = some []) (hr : Room k X.A) (hg : Gl X x) (hm : X.mg x = some (.ref f)) (hk : PySem.W.keepIn X.K (.ref f) = true) (hb : Binds X.K fd ps ds) (hd : Vals dvs ds) (hx : Passes CX X E)
    (ha : PA X (e :: es) t) (hdb : (x == ("__debug__" : Str)) = false := by decide) (he : starEach (e :: es) X.env = (false, eval e X.env) :: starEach es X.env := by rfl) (hpl : (backTo pos (starEach es X.env)).any (·.1) = false := by rfl) :
    PE X (.Call (.Name x p) (e :: es) [] pos) (tCall sp dvs E t) := by
  constructor
  intro pz u0 τ H Q I h
  refine wpAny_Call_Name_kw (ld_glob I hg hm (PySem.W.callWith_K (h₀ := X.base) I.ok.mod.kin hk (thn (ha.run pos pz u0 τ H _ I h) fun us t1 z => ?_) he hpl) hdb)
  obtain ⟨vs, H1, I1, r, q⟩ := z
  exact ⟨I1.kIn, runG_fn F gd hr hb hd hx I1 r q⟩
/-- str of a list or tuple -/
theorem call_strD (gd : X.A.guards = some []) (hu : X.A.units + 100 < cLine) : CallR X (.type "str") (fun xs H Q => ∃ (a : Addr) (d : PyData), xs = [.ref a] ∧ Dp X.K H (.ref a) d ∧ d.showable = true ∧ d.hasDict = false ∧ d.shown.length ≤ sizeLine ∧ d.depth ≤ 60 ∧ Q (.str d.shown) H) := by
  intro pz u0 τ H xs us Q I r h
  obtain ⟨a, d, rfl, hd, h1, h2, h3, h4, q⟩ := h
  obtain ⟨u, rfl, rv⟩ := vals1 r
  obtain ⟨as, rd⟩ := Dp.reads I d (.ref a) u hd rv
  cases (show u = Value.ref a from rv)
  exact str_of_reads rd h1 (fun z => by rw [h2] at z; cases z) gd (by omega) (fun b o e => e) (fun h' y tk k => ⟨.str _, H, I.kept k, ⟨_, rfl⟩, q⟩) h3
end
/-! ### the head for such a law -/
theorem law_callG {P : Program} {w : World} {K : PySem.W.Frag} {mg mb : Str → Option Value} {CX : CXT} {k : Nat} {fa sa : Addr} {fd : FuncData} {x : Str} {sp : Sp} {t1 : Shared} {vs : List Value} {ns : List Int}
    (XK : K.In t1.heap) (hn : t1.heap.Ns mainGlobals mg) (hb : t1.heap.Ns builtinsNs mb) (hbb : ∀ y : Str, y ≠ "__name__" → mb y = bootBuiltins y) (nl : t1.heap.NoLimit) (ge : t1.gens = #[])
    (ha : t1.heap.get? sa = some { cls := .type "list", data := .seq vs.toArray }) (hi : IntsAre vs ns) (hl : ns.length ≤ sizeLine) (rm : Room k callerA)
    (F : ∀ base : Heap, K.In base → base.Ns mainGlobals mg → FnOkG P w K mg base CX k fa fd [x] sp) (bi : ∀ (u : Shared) (v : Value), BindsTo u fd ⟨[v], []⟩ [(x, v)])
    (hsp : ∀ H : Hp, Only H → SqL K H sa (ns.map V.int) → sp [.ref sa] H (fun v _ => v = .bl true) fun _ _ _ => False)
    (hX : ∀ H e t2, CX [] H t1 (fun _ _ _ => False) e t2 → False) :
    codeAny (model P w) callerA (.call (.ref fa) ⟨[.ref sa], []⟩) (fun r t2 => r = .ok (.ret (.bool true)) ∧ OldK t1.heap t2.heap ∧ t2.os = t1.os ∧ AllBare t2.gens) t1 := by
  have rv := vals_ints hi
  have lv := hi.length
  have main : ∀ H : Hp, Only H → SqL K H sa (ns.map V.int) → HOk P w H t1.heap → (∀ b, H b ≠ none → b = sa) → (H sa ≠ none → K.lookup sa = none) → codeAny (model P w) callerA (.call (.ref fa) ⟨[.ref sa], []⟩) (fun r t2 => r = .ok (.ret (.bool true)) ∧ OldK t1.heap t2.heap ∧ t2.os = t1.os ∧ AllBare t2.gens) t1 := by
    intro H hO hS ok only notK
    have there : ∀ {b : Addr} {o : Obj}, t1.heap.get? b = some o → H b = none → (hidT t1.heap H).get? b = some o := fun e n => hidT_get e n
    have dicts : ∀ {b : Addr} {o : Obj} {es : Array DictEntry} {ep : Nat}, t1.heap.get? b = some o → o.data = .dict es ep → H b = none := fun {b o es ep} e d => by
      cases z : H b with
      | none => rfl
      | some y =>
        have eb : b = sa := only b (fun q => by rw [z] at q; cases q)
        rw [eb, ha] at e
        cases e
        exact absurd (show Data.seq vs.toArray _ = Data.dict es ep from d) (fun q => by cases q)
    have nsk : ∀ {b : Addr} {m : Str → Option Value}, t1.heap.Ns b m → (hidT t1.heap H).Ns b m := fun {b m} z => by
      obtain ⟨o, es, ep, e, d, r⟩ := z
      exact ⟨o, es, ep, there e (dicts e d), d, r⟩
    have inK : K.In (hidT t1.heap H) := fun b o e => there (XK b o e) (by
      cases z : H b with
      | none => rfl
      | some y =>
        have ny : H b ≠ none := fun q => by rw [z] at q; cases q
        have eb : b = sa := only b ny
        subst eb
        rw [notK ny] at e
        cases e)
    have md : Mod K mg (hidT t1.heap H) := ⟨inK, nsk hn, ⟨mb, nsk hb, hbb⟩, by obtain ⟨mc, z1, z2⟩ := nl; exact ⟨mc, nsk z1, z2⟩⟩
    have en : Env0 P w K mg (hidT t1.heap H) callerA [] t1 H := ⟨rfl, md, fun b o e => of_hidT e, Nat.le_of_eq (hidT_size _ _), trivial, fun b hb => absurd (show b ∈ ([] : List Addr) from hb) (by simp), ok, .of_eq ge⟩
    refine codeAny_mono ((F _ inK (nsk hn)).runG callerA [] t1 H ⟨[.ref sa], []⟩ [.ref sa] [.ref sa] _ _ rfl rm en (bi t1 (.ref sa)) (.cons rfl .nil) (hsp H hO hS)) fun r t2 z => ?_
    match r, z with
    | .error e, z => exact (hX H e t2 z).elim
    | .ok .next, z => exact z.elim
    | .ok .brk, z => exact z.elim
    | .ok .cont, z => exact z.elim
    | .ok (.ret y), z =>
      obtain ⟨v, H2, os, br, un, ok2, rl, q⟩ := z
      cases (show v = .bl true from q)
      cases (show y = Value.bool true from rl)
      refine ⟨rfl, OldK.of_keep fun b o e => ?_, os, br⟩
      cases z : H b with
      | none => exact un.keep b o e z (fun z => absurd (show b ∈ ([] : List Addr) from z) (by simp)) (by simp)
      | some y =>
        rcases hO b with n | ⟨ob, xs, n⟩
        · rw [z] at n
          cases n
        · obtain ⟨e1, _⟩ := ok b _ n
          obtain ⟨e2, _⟩ := ok2 b _ (un.frzs b ob _ n)
          rw [e] at e1
          cases e1
          exact e2
  cases hk : K.lookup sa with
  | some o =>
    have e := XK sa o hk
    rw [ha] at e
    cases e
    exact main (fun _ => none) (fun _ => .inl rfl) (.inr ⟨_, vs.toArray, _, hk, rfl, rfl, rfl, by rw [List.size_toArray, lv]; exact hl, by simpa using rv⟩) (fun b y z => absurd (show (none : Option HO) = some y from z) (fun q => by cases q)) (fun b z => absurd rfl z) fun z => absurd rfl z
  | none =>
    refine main (fun b => if b = sa then some (.frz { cls := .type "list", data := .seq vs.toArray } (.lst (ns.map V.int))) else none) (fun b => ?_) (.inl (.inr ⟨{ cls := .type "list", data := .seq vs.toArray }, if_pos rfl⟩)) (fun b y z => ?_) (fun b z => ?_) fun _ => hk
    · by_cases c : b = sa
      · exact .inr ⟨_, _, if_pos c⟩
      · exact .inl (if_neg c)
    · by_cases c : b = sa
      · cases ((if_pos c).symm.trans z)
        subst c
        exact ⟨ha, by rw [List.length_map]; exact hl, vs, _, rv, ha⟩
      · cases ((if_neg c).symm.trans z)
    · by_cases c : b = sa
      · exact c
      · exact absurd (if_neg c) z
theorem walkG {l : PySem.W.OpenLaw} {n k : Nat} {q : Program} {lo : List Str} {XP : (Str → Option Value) → Heap → Prop} {YP : World → Heap → Prop} {d : DefRec} {K : Params → PySem.W.Frag} {CX : World → CXT} {sp : World → Sp} {x : Str}
    (hn : l.most = some n) (hs : n ≤ sizeLine) (hdf : d.params.defaults = []) (rm : Room k callerA) (hY : ∀ (w : World) (h : Heap), YP w h → (K w.params).In h)
    (F : ∀ (w : World) (mg : Str → Option Value) (fa : Addr) (h : Heap), (K w.params).In h → h.Ns mainGlobals mg → mg d.name = some (.ref fa) → ∃ fd : FuncData, (∀ (u : Shared) (v : Value), BindsTo u fd ⟨[v], []⟩ [(x, v)]) ∧ ∀ base : Heap, (K w.params).In base → base.Ns mainGlobals mg → FnOkG l.prog w (K w.params) mg base (CX w) k fa fd [x] (sp w))
    (hsp : ∀ (w : World) (H : Hp) (a : Addr) (ns : List Int), ns.length ≤ n → Only H → SqL (K w.params) H a (ns.map V.int) → sp w [.ref a] H (fun v _ => v = .bl true) fun _ _ _ => False)
    (hX : ∀ (w : World) (H : Hp) (u : Shared) (e : Value) (u' : Shared), CX w [] H u (fun _ _ _ => False) e u' → False) : PySem.W.WalkO q lo XP YP l.row.toRowW d [] (fun f vs => PySem.call f vs) := by
  refine Att.attach_call hn hdf fun w t0 t1 mg mb fa o pm cd doc a vs ns G Y ho hd hc hm hobj hi hlen hg => ?_
  obtain ⟨fd, hb, hF⟩ := F w mg fa _ (hY w _ Y) G.T.g hm
  exact law_callG (hY w _ Y) G.T.g G.T.b G.T.builtins G.T.nolimit hg hobj hi (Nat.le_trans hlen hs) rm hF hb (fun H hO hS => hsp w H a ns hlen hO hS) fun H e t2 => hX w H t1 e t2
end L2
namespace L2
open PySem PySem.Spec PyProof.Rows
/-! ### data that can be told as a text: n leaves and lists at most, m deep -/
structure Shw (n m : Nat) (d : PyData) : Prop where
  sh : d.showable = true
  nd : d.hasDict = false
  ls : d.leavesShort 110 = true
  bk : d.bulk ≤ n
  dp : d.depth ≤ m
structure ShwA (n m : Nat) (ds : List PyData) : Prop where
  sh : PyData.showableAll ds = true
  nd : PyData.hasDictAll ds = false
  ls : PyData.leavesShortAll 110 ds = true
  bk : PyData.bulkAll ds ≤ n
  dp : PyData.depthAll ds ≤ m
theorem Shw.mono {n m n' m' : Nat} {d : PyData} (h : Shw n m d) (a : n ≤ n') (b : m ≤ m') : Shw n' m' d := ⟨h.sh, h.nd, h.ls, Nat.le_trans h.bk a, Nat.le_trans h.dp b⟩
theorem ShwA.mono {n m n' m' : Nat} {ds : List PyData} (h : ShwA n m ds) (a : n ≤ n') (b : m ≤ m') : ShwA n' m' ds := ⟨h.sh, h.nd, h.ls, Nat.le_trans h.bk a, Nat.le_trans h.dp b⟩
theorem Shw.non : Shw 0 0 .none := ⟨rfl, rfl, rfl, Nat.le_refl _, Nat.le_refl _⟩
theorem Shw.bl (b : Bool) : Shw 0 0 (.bool b) := ⟨rfl, rfl, rfl, Nat.le_refl _, Nat.le_refl _⟩
theorem Shw.int {i : Int} (h0 : -(2 ^ 100) < i) (h1 : i < 2 ^ 100) : Shw 0 0 (.int i) := by
  have hl : i.natAbs.log2 < 100 := by
    by_cases c : i.natAbs = 0
    · rw [c]
      decide
    · refine (Nat.log2_lt c).mpr ?_
      have : ((2 ^ 100 : Nat) : Int) = 2 ^ 100 := by decide
      omega
  refine ⟨decide_eq_true (by omega), rfl, decide_eq_true ?_, Nat.le_refl _, Nat.le_refl _⟩
  show (Str.ofString (toString i)).length ≤ 110
  rw [PySem.ofString_length]
  have := int_text_length_le (k := 100) (by decide) hl
  omega
theorem Shw.str {x : Str} (h : ∀ c ∈ x.cps.toList, c < 16 ^ 8) : Shw x.length 0 (.str x) := ⟨rfl, rfl, by simpa only [PyData.leavesShort, List.all_eq_true, decide_eq_true_eq] using h, Nat.le_refl _, Nat.le_refl _⟩
theorem ShwA.nil : ShwA 0 0 [] := ⟨rfl, rfl, rfl, Nat.le_refl _, Nat.le_refl _⟩
theorem ShwA.cons {n k m : Nat} {d : PyData} {ds : List PyData} (h : Shw n m d) (r : ShwA k m ds) : ShwA (n + 1 + k) m (d :: ds) :=
  ⟨by unfold PyData.showableAll; rw [h.sh, r.sh]; rfl, by unfold PyData.hasDictAll; rw [h.nd, r.nd]; rfl, by unfold PyData.leavesShortAll; rw [h.ls, r.ls]; rfl, by unfold PyData.bulkAll; have := h.bk; have := r.bk; omega, by unfold PyData.depthAll; exact Nat.max_le.mpr ⟨h.dp, r.dp⟩⟩
theorem Shw.lst {n m : Nat} {ds : List PyData} (h : ShwA n m ds) : Shw n (m + 1) (.list ds) := ⟨by unfold PyData.showable; exact h.sh, by unfold PyData.hasDict; exact h.nd, by unfold PyData.leavesShort; exact h.ls, by unfold PyData.bulk; exact h.bk, by unfold PyData.depth; exact Nat.succ_le_succ h.dp⟩
theorem Shw.tup {n m : Nat} {ds : List PyData} (h : ShwA n m ds) : Shw n (m + 1) (.tuple ds) := ⟨by unfold PyData.showable; exact h.sh, by unfold PyData.hasDict; exact h.nd, by unfold PyData.leavesShort; exact h.ls, by unfold PyData.bulk; exact h.bk, by unfold PyData.depth; exact Nat.succ_le_succ h.dp⟩
theorem ShwA.ints : ∀ ds : List Int, (∀ d ∈ ds, -(2 ^ 100) < d ∧ d < 2 ^ 100) → ShwA ds.length 0 (ds.map PyData.int)
  | [], _ => .nil
  | d :: ds, h => by
    have r := ShwA.ints ds fun e he => h e (List.mem_cons_of_mem _ he)
    have a := h d List.mem_cons_self
    exact (ShwA.cons (Shw.int a.1 a.2) r).mono (by rw [List.length_cons]; omega) (Nat.le_refl _)
theorem Shw.fits {n m : Nat} {d : PyData} (h : Shw n m d) (hn : n ≤ 100000) : d.shown.length ≤ sizeLine := by
  have a := PyData.shown_le_bulk 110 (by decide) d h.ls
  have b := h.bk
  rw [sizeLine_eq]
  omega
theorem roomS {k : Nat} {A : Around} (r : Room k A) : A.units + 100 < cLine := by
  have := r.un
  omega
def rStrL (K : PySem.W.Frag) : List V → Hp → VK → Prop := fun xs H Q => ∃ (a : Addr) (d : PyData) (n m : Nat), xs = [.ref a] ∧ Dp K H (.ref a) d ∧ Shw n m d ∧ n ≤ 100000 ∧ m ≤ 60 ∧ Q (.str d.shown) H
theorem call_strL {X : Cx} (gd : X.A.guards = some []) (hu : X.A.units + 100 < cLine) : CallR X (.type "str") (rStrL X.K) := by
  intro pz u0 τ H xs us Q I r h
  obtain ⟨a, d, n, m, rfl, hd, s, hn, hm, q⟩ := h
  exact call_strD gd hu pz u0 τ H [.ref a] us Q I r ⟨a, d, rfl, hd, s.sh, s.nd, s.fits hn, Nat.le_trans s.dp hm, q⟩
end L2
namespace L2
open PySem PySem.Spec PyProof.Rows
/-- repr of a list or tuple -/
theorem call_reprL {X : Cx} (gd : X.A.guards = some []) (hu : X.A.units + 100 < cLine) : CallR X (.builtin "repr") (rStrL X.K) := by
  intro pz u0 τ H xs us Q I r h
  obtain ⟨a, d, n, m, rfl, hd, s, hn, hm, q⟩ := h
  obtain ⟨u, rfl, rv⟩ := vals1 r
  obtain ⟨as, rd⟩ := Dp.reads I d (.ref a) u hd rv
  cases (show u = Value.ref a from rv)
  have := s.dp
  exact repr_of_reads' rd s.sh (fun z => by rw [s.nd] at z; cases z) gd (by omega) (fun b o e => e) (fun h' y tk k => ⟨.str _, H, I.kept k, ⟨_, rfl⟩, q⟩) (s.fits hn)
end L2
namespace GZ
open PySem PySem.Spec PyProof.Rows L2
theorem val0 (t : Tok) : Vals [V.int 0] [Value.int 0 t] := .cons ⟨_, rfl⟩ .nil
/-! ### keyword-only parameters -/
theorem kbn_of {K : PySem.W.Frag} {x qual : Str} {st : Stmt} {D : Addr} {an : Option Addr} {doc pm cdv ct : Value} {ps ks : List Str} {n : Nat} {ml : List (Str × Value)} {g : List Value → List Value → List Value} {gV : List V → List V → List V} (hml : ∀ q ∈ ml, PySem.W.nsIn K D q.1 = some (some q.2))
    (h : ∀ us ws : List Value, us.length = n → ws.length = ks.length → KwChain D ml (bindArgs (PySem.W.fnOf x qual (defArgs st) (defBody st) (defScope st) .none (.ref D) doc pm an cdv ct) ⟨us, ks.zip ws⟩) (ps.zip (g us ws)))
    (rel : ∀ {vs : List V} {us : List Value} {zs : List V} {ws : List Value}, vs.length = n → zs.length = ks.length → Vals vs us → Vals zs ws → Vals (gV vs zs) (g us ws)) :
    ∀ (s : Shared) (us ws : List Value), K.In s.heap → us.length = n → ws.length = ks.length → BindsTo s (PySem.W.fnOf x qual (defArgs st) (defBody st) (defScope st) .none (.ref D) doc pm an cdv ct) ⟨us, ks.zip ws⟩ (ps.zip (g us ws)) :=
  fun s us ws X l1 l2 => BindsTo.of_looks fun M => KwChain.looks X hml (h us ws l1 l2)
theorem bnd_of {K : PySem.W.Frag} {x qual : Str} {st : Stmt} {D : Addr} {an : Option Addr} {doc pm cdv ct : Value} {ps : List Str} {ml : List (Str × Value)} {ds : List Value} (hml : ∀ q ∈ ml, PySem.W.nsIn K D q.1 = some (some q.2))
    (h : ∀ us : List Value, us.length + ds.length = ps.length → KwChain D ml (bindArgs (PySem.W.fnOf x qual (defArgs st) (defBody st) (defScope st) .none (.ref D) doc pm an cdv ct) ⟨us, []⟩) (ps.zip (us ++ ds))) :
    Binds K (PySem.W.fnOf x qual (defArgs st) (defBody st) (defScope st) .none (.ref D) doc pm an cdv ct) ps ds := fun s us X hl => by
  rw [List.length_append] at hl
  exact BindsTo.of_looks fun M => KwChain.looks X hml (h us hl)
/-! ### a def whose defaults aren't asked for -/
structure FunA (K : PySem.W.Frag) (x qual : Str) (st : Stmt) (f : Addr) (fd : FuncData) : Prop where
  ex : ∃ (oc : Value) (od : Option Addr) (dV kV doc pm : Value) (an : Option Addr) (cdv ct : Value) (osl : Array (Option Value)),
    fd = PySem.W.fnOf x qual (defArgs st) (defBody st) (defScope st) dV kV doc pm an cdv ct ∧ K.lookup f = some ⟨oc, od, .func fd, osl⟩ ∧ PySem.W.codeIn K cdv qual = true
  kp : PySem.W.keepIn K (.ref f) = true
theorem FunA.ok {P : Program} {w : World} {K : PySem.W.Frag} {mg : Str → Option Value} {base : Heap} {x qual : Str} {st : Stmt} {f : Addr} {fd : FuncData} {N ps : List Str} {k : Nat} {sp : Sp} (F : FunA K x qual st f fd) (S : FnScope N ps (defScope st)) (len : ∀ vs H Q E, sp vs H Q E → vs.length = ps.length)
    (hbody : ∀ (cdv : Value) (A : Around) (outer : List Env) (s : Shared) (H : Hp) (vs : List V) (Q : VK) (E : XK), Room k (A.deeper (envOfC qual (defScope st) s.heap.objs.size f cdv)) → sp vs H Q E →
      ∃ t, PSs (cxOf CX0 P w K mg base N qual (defScope st) f cdv A outer s H E).nox (defBody st) t ∧ t { nx := fun _ H' => Q .non H', rt := Q } (start N vs) H) : FnOk P w K mg base CX0 (k + 1) f fd ps sp := by
  obtain ⟨oc, od, dV, kV, doc, pm, an, cdv, ct, osl, rfl, lk, hcd⟩ := F.ex
  refine fn_of lk hcd S len fun A outer s H vs Q E hr hsp => ?_
  obtain ⟨t, h, q⟩ := hbody cdv A outer s H vs Q E hr hsp
  exact ⟨t, h.nox, q⟩
theorem bindsA {K : PySem.W.Frag} {x qual : Str} {st : Stmt} {f T : Addr} {oc oT vT : Value} {od an dT : Option Addr} {osl sT : Array (Option Value)} {kV doc pm cdv ct : Value} {nT : Nat} {ps : List Str} (l : K.lookup f = some ⟨oc, od, .func (PySem.W.fnOf x qual (defArgs st) (defBody st) (defScope st) (.ref T) kV doc pm an cdv ct), osl⟩)
    (lT : K.lookup T = some ⟨oT, dT, .seq #[vT] nT, sT⟩)
    (h : ∀ (kV doc pm : Value) (an : Option Addr) (cdv ct : Value) (us : List Value), us.length = ps.length → ∃ k, bindArgs (PySem.W.fnOf x qual (defArgs st) (defBody st) (defScope st) (.ref T) kV doc pm an cdv ct) ⟨us, []⟩ = seqItems? (.ref T) >>= k ∧ k (some #[vT]) = pure (ps.zip us)) : Binds K (PySem.W.fnOf x qual (defArgs st) (defBody st) (defScope st) (.ref T) kV doc pm an cdv ct) ps [] := by
  intro s us X hl
  rw [List.append_nil] at hl ⊢
  obtain ⟨k, e1, e2⟩ := h kV doc pm an cdv ct us hl
  refine BindsTo.of_looks fun M => ?_
  rw [e1]
  exact looks_items X lT rfl (.of_pure e2)
theorem bindsAD {K : PySem.W.Frag} {x qual : Str} {st : Stmt} {f T : Addr} {oc oT vT : Value} {od an dT : Option Addr} {osl sT : Array (Option Value)} {kV doc pm cdv ct : Value} {nT : Nat} {ps : List Str} (l : K.lookup f = some ⟨oc, od, .func (PySem.W.fnOf x qual (defArgs st) (defBody st) (defScope st) (.ref T) kV doc pm an cdv ct), osl⟩)
    (lT : K.lookup T = some ⟨oT, dT, .seq #[vT] nT, sT⟩)
    (h : ∀ (kV doc pm : Value) (an : Option Addr) (cdv ct : Value) (us : List Value), us.length + 1 = ps.length → ∃ k, bindArgs (PySem.W.fnOf x qual (defArgs st) (defBody st) (defScope st) (.ref T) kV doc pm an cdv ct) ⟨us, []⟩ = seqItems? (.ref T) >>= k ∧ k (some #[vT]) = pure (ps.zip (us ++ [vT]))) : Binds K (PySem.W.fnOf x qual (defArgs st) (defBody st) (defScope st) (.ref T) kV doc pm an cdv ct) ps [vT] := by
  intro s us X hl
  rw [List.length_append] at hl
  obtain ⟨k, e1, e2⟩ := h kV doc pm an cdv ct us hl
  refine BindsTo.of_looks fun M => ?_
  rw [e1]
  exact looks_items X lT rfl (.of_pure e2)
theorem kbindsA {x1 : Str} {K : PySem.W.Frag} {x qual : Str} {st : Stmt} {f T : Addr} {oc oT vT : Value} {od an dT : Option Addr} {osl sT : Array (Option Value)} {kV doc pm cdv ct : Value} {nT : Nat} {ps : List Str} (l : K.lookup f = some ⟨oc, od, .func (PySem.W.fnOf x qual (defArgs st) (defBody st) (defScope st) (.ref T) kV doc pm an cdv ct), osl⟩)
    (lT : K.lookup T = some ⟨oT, dT, .seq #[vT] nT, sT⟩)
    (h : ∀ (kV doc pm : Value) (an : Option Addr) (cdv ct u w : Value), ∃ k, bindArgs (PySem.W.fnOf x qual (defArgs st) (defBody st) (defScope st) (.ref T) kV doc pm an cdv ct) ⟨[u], [(x1, w)]⟩ = seqItems? (.ref T) >>= k ∧ k (some #[vT]) = pure (ps.zip [u, w])) : KBn K (PySem.W.fnOf x qual (defArgs st) (defBody st) (defScope st) (.ref T) kV doc pm an cdv ct) ps 1 [x1] (fun us ws => us ++ ws) (fun us ws => us ++ ws) := by
  refine ⟨fun s us ws X l1 l2 => ?_, fun r1 r2 => r1.append r2⟩
  match us, ws, l1, l2 with
  | [u], [w], _, _ =>
    obtain ⟨k, e1, e2⟩ := h kV doc pm an cdv ct u w
    refine BindsTo.of_looks fun M => ?_
    show PySem.W.Looks M s.heap (bindArgs (PySem.W.fnOf x qual (defArgs st) (defBody st) (defScope st) (.ref T) kV doc pm an cdv ct) ⟨[u], [(x1, w)]⟩) (ps.zip [u, w])
    rw [e1]
    exact looks_items X lT rfl (.of_pure e2)
theorem funA_mk {K : PySem.W.Frag} {x qual : Str} {st : Stmt} {f : Addr} {oc : Value} {od an : Option Addr} {osl : Array (Option Value)} {dV kV doc pm cdv ct : Value} (l : K.lookup f = some ⟨oc, od, .func (PySem.W.fnOf x qual (defArgs st) (defBody st) (defScope st) dV kV doc pm an cdv ct), osl⟩)
    (c : PySem.W.codeIn K cdv qual = true) (k : PySem.W.keepIn K (.ref f) = true) : FunA K x qual st f (PySem.W.fnOf x qual (defArgs st) (defBody st) (defScope st) dV kV doc pm an cdv ct) := ⟨⟨oc, od, dV, kV, doc, pm, an, cdv, ct, osl, rfl, l, c⟩, k⟩
section
variable {P : Program} {w : World} {K : PySem.W.Frag} {mg : Str → Option Value} {base : Heap}
theorem cutG {Cd A : Int → Int → Hp → Prop} {B : Prop} (h1 : ∀ n p H, Cd n p H → A n p H) (h2 : (∀ n p H, Cd n p H → A n p H) → B) : B := h2 h1
theorem cutA {Cd A : Addr → Hp → Prop} {B : Prop} (h1 : ∀ a H, Cd a H → A a H) (h2 : (∀ a H, Cd a H → A a H) → B) : B := h2 h1
theorem cutH {H : Hp} {A : Hp → Prop} {B : Prop} (h1 : ∀ H', Same H H' → A H') (h2 : (∀ H', Same H H' → A H') → B) : B := h2 h1
theorem cutP {A B : Prop} (h1 : A) (h2 : A → B) : B := h2 h1
theorem gB {i : Nat} {v u : Bool} {σ : L2.St} {H : Hp} {D : L2.St → Hp → Prop} (e : v = u) (h : gName i (V.bl u) σ H D) : gName i (V.bl v) σ H D := e ▸ h
theorem gI {i : Nat} {v u : Int} {σ : L2.St} {H : Hp} {D : L2.St → Hp → Prop} (e : v = u) (h : gName i (V.int u) σ H D) : gName i (V.int v) σ H D := e ▸ h
theorem dvi (a b : Int) : decide (V.int a = V.int b) = decide (a = b) := by
  by_cases c : a = b
  · rw [decide_eq_true c, decide_eq_true (congrArg V.int c)]
  · rw [decide_eq_false c, decide_eq_false (fun z => c (V.int.inj z))]
theorem dvs (a b : Str) : decide (V.str a = V.str b) = decide (a = b) := by
  by_cases c : a = b
  · rw [decide_eq_true c, decide_eq_true (congrArg V.str c)]
  · rw [decide_eq_false c, decide_eq_false (fun z => c (V.str.inj z))]
theorem bx1 {c : Int} {H : Hp} {b : Addr} (h : BoxAt (c + 2 ^ (1 - 1)) H b) : BoxAt (c + 1) H b := h
theorem Keep.none {b p : Addr} {H H' : Hp} (k : Keep b H H') (n : p ≠ b) (h : H' p = none) : H p = none := by
  cases q : H p with
  | none => rfl
  | some o =>
    rw [k p o q n] at h
    cases h
theorem dp_ints {H : Hp} : ∀ ds : List Int, DpAll K H (ds.map V.int) (ds.map PyData.int)
  | [] => .nil
  | d :: ds => .cons (.int d) (dp_ints ds)
theorem eqv_ints (ds : List Int) : PyData.eqv (.list (ds.map PyData.int)) (.list (ds.map PyData.int)) = true := PySem.SeqAt.eqv_refl _ (PySem.SeqAt.canLay_of_shaped (PySem.W.shaped_ints ds))
/-! ### nets -/
def KeepS (S : List Addr) (H H' : Hp) : Prop := (∀ y o, H y = some o → y ∉ S → H' y = some o) ∧ ∀ y, H y ≠ none → H' y ≠ none
theorem KeepS.refl (S : List Addr) (H : Hp) : KeepS S H H := ⟨fun _ _ e _ => e, fun _ e => e⟩
theorem KeepS.trans {S : List Addr} {H H1 H2 : Hp} (a : KeepS S H H1) (b : KeepS S H1 H2) : KeepS S H H2 := ⟨fun y o e n => b.1 y o (a.1 y o e n) n, fun y e => b.2 y (a.2 y e)⟩
theorem some_ne {H : Hp} {y : Addr} {o : HO} (e : H y = some o) : H y ≠ none := fun z => by rw [z] at e; cases e
theorem KeepS.ofSame {S : List Addr} {H H1 : Hp} (s : Same H H1) : KeepS S H H1 := ⟨fun y o e _ => s y o e, fun y e => by
  cases q : H y with
  | none => exact absurd q e
  | some o => exact some_ne (s y o q)⟩
theorem KeepS.mono {S T : List Addr} {H H1 : Hp} (h : ∀ y ∈ S, y ∈ T) (a : KeepS S H H1) : KeepS T H H1 := ⟨fun y o e n => a.1 y o e (fun m => n (h y m)), a.2⟩
theorem KeepS.ofKeep {b : Addr} {S : List Addr} {H H1 : Hp} (k : Keep b H H1) (m : b ∈ S) (hb : H1 b ≠ none) : KeepS S H H1 := ⟨fun y o e n => k y o e (fun z => n (by rw [z]; exact m)), fun y e => by
  by_cases c : y = b
  · rw [c]
    exact hb
  · cases q : H y with
    | none => exact absurd q e
    | some o => exact some_ne (k y o q c)⟩
theorem KeepS.upd {S : List Addr} {H : Hp} {a : Addr} {o : HO} (m : a ∈ S) : KeepS S H (upd H a o) := ⟨fun y u e n => by rw [upd_ne (fun z => n (by rw [z]; exact m))]; exact e, fun y e => by
  by_cases c : y = a
  · rw [c, upd_same]
    exact fun z => by cases z
  · rw [upd_ne c]
    exact e⟩
theorem KeepS.new {S : List Addr} {H : Hp} {a : Addr} {o : HO} (n : H a = none) : KeepS S H (L2.upd H a o) := .ofSame (same_upd n)
theorem KeepS.keep {b : Addr} {H H1 : Hp} (k : KeepS [b] H H1) : Keep b H H1 := fun y o e n => k.1 y o e (by simp only [List.mem_singleton]; exact n)
theorem KeepS.same {H H1 : Hp} (k : KeepS [] H H1) : Same H H1 := fun y o e => k.1 y o e (fun z => nomatch z)
theorem KeepS.seq {K : PySem.W.Frag} {S : List Addr} {a : Addr} {H H' : Hp} {xs : List V} (e : KeepS S H H') (n : a ∉ S) (h : SqL K H a xs) : SqL K H' a xs := by
  rcases h with (h | ⟨o, h⟩) | h
  · exact .inl (.inl (e.1 _ _ h n))
  · exact .inl (.inr ⟨o, e.1 _ _ h n⟩)
  · exact .inr h
theorem KeepS.seqT {K : PySem.W.Frag} {S : List Addr} {a : Addr} {H H' : Hp} {xs : List V} (e : KeepS S H H') (n : a ∉ S) (h : SqT K H a xs) : SqT K H' a xs := by
  rcases h with (h | ⟨o, h⟩) | h
  · exact .inl (.inl (e.1 _ _ h n))
  · exact .inl (.inr ⟨o, e.1 _ _ h n⟩)
  · exact .inr h
theorem BoxAt.keepS {c : Int} {S : List Addr} {H H' : Hp} {b : Addr} (h : BoxAt c H b) (k : KeepS S H H') (n : b ∉ S) : BoxAt c H' b := by
  obtain ⟨x, y, z, e, r⟩ := h
  exact ⟨x, y, z, k.1 _ _ e n, r⟩
inductive Gt where
  | w (k : Str) (ws : List Nat)
  | fi (b : Nat)
def nts (ws : List Nat) : List V := ws.map fun (a : Nat) => V.int (a : Int)
theorem nts_at {ws : List Nat} {i : Nat} {x : V} (h : (nts ws)[i]? = some x) : ∃ v, ws[i]? = some v ∧ x = .int (v : Int) := by
  unfold nts at h
  rw [List.getElem?_map] at h
  cases q : ws[i]? with
  | none => rw [q] at h; cases h
  | some v => rw [q] at h; exact ⟨v, rfl, (Option.some.inj h).symm⟩
theorem nts_len (ws : List Nat) : (nts ws).length = ws.length := by
  unfold nts
  rw [List.length_map]
def Gt.row : Gt → List V
  | .w k ws => .str k :: nts ws
  | .fi b => [.str "fixed", .int (b : Int)]
def Gt.ok (n : Nat) : Gt → Prop
  | .w k ws => (((k = "both" ∨ k = "either" ∨ k = "unlike") ∧ ws.length = 2) ∨ (k = "other" ∧ ws.length = 1)) ∧ ∀ a ∈ ws, a < n
  | .fi b => b ≤ 1
def mx (l : List Int) : Int := l.foldl (fun m x => if x > m then x else m) 0
theorem mx_fold : ∀ (l : List Int) (a : Int), a ≤ l.foldl (fun m x => if x > m then x else m) a ∧ (∀ y ∈ l, y ≤ l.foldl (fun m x => if x > m then x else m) a) ∧ (l.foldl (fun m x => if x > m then x else m) a = a ∨ l.foldl (fun m x => if x > m then x else m) a ∈ l)
  | [], a => ⟨Int.le_refl _, (fun _ z => nomatch z), .inl rfl⟩
  | x :: l, a => by
    obtain ⟨h1, h2, h3⟩ := mx_fold l (if x > a then x else a)
    have e : a ≤ (if x > a then x else a) ∧ x ≤ (if x > a then x else a) ∧ ((if x > a then x else a) = a ∨ (if x > a then x else a) = x) := by split <;> omega
    rw [List.foldl_cons]
    refine ⟨by omega, fun y hy => ?_, ?_⟩
    · rcases List.mem_cons.mp hy with z | z
      · rw [z]
        omega
      · exact h2 y z
    · rcases h3 with z | z
      · rcases e.2.2 with u | u
        · exact .inl (z.trans u)
        · exact .inr (List.mem_cons.mpr (.inl (z.trans u)))
      · exact .inr (List.mem_cons.mpr (.inr z))
theorem mx_is {l : List Int} {m : Int} (h : m ∈ l) (hm : ∀ y ∈ l, y ≤ m) (h0 : ∀ y ∈ l, 0 ≤ y) : mx l = m := by
  obtain ⟨h1, h2, h3⟩ := mx_fold l 0
  have a := h2 m h
  have b := h0 m h
  unfold mx
  rcases h3 with z | z
  · omega
  · have := hm _ z
    omega
theorem mx_nn (l : List Int) : 0 ≤ mx l := (mx_fold l 0).1
def dep (ds : List Int) : Gt → Int
  | .w _ ws => 1 + mx (ws.map fun a => ds.getD a 0)
  | .fi _ => 0
theorem dep_nn (ds : List Int) (g : Gt) : 0 ≤ dep ds g := by
  cases g with
  | w k ws =>
    have := mx_nn (ws.map fun a => ds.getD a 0)
    show 0 ≤ 1 + mx (ws.map fun a => ds.getD a 0)
    omega
  | fi b => exact Int.le_refl _
def dps (m : Nat) (gs : List Gt) : List Int := gs.foldl (fun ds g => ds ++ [dep ds g]) (List.replicate m 0)
theorem dps_snoc (m : Nat) (gs : List Gt) (g : Gt) : dps m (gs ++ [g]) = dps m gs ++ [dep (dps m gs) g] := by
  unfold dps
  rw [List.foldl_append]
  rfl
theorem dps_fold : ∀ (gs : List Gt) (ds : List Int), (∀ d ∈ ds, 0 ≤ d) → (gs.foldl (fun ds g => ds ++ [dep ds g]) ds).length = ds.length + gs.length ∧ ∀ d ∈ gs.foldl (fun ds g => ds ++ [dep ds g]) ds, 0 ≤ d
  | [], ds, h => ⟨rfl, h⟩
  | g :: gs, ds, h => by
    have a := dps_fold gs (ds ++ [dep ds g]) (fun d hd => by
      rcases List.mem_append.mp hd with z | z
      · exact h d z
      · rw [List.mem_singleton.mp z]
        exact dep_nn ds g)
    rw [List.foldl_cons]
    refine ⟨?_, a.2⟩
    rw [a.1, List.length_append, List.length_cons, List.length_cons, List.length_nil]
    omega
theorem dps_len (m : Nat) (gs : List Gt) : (dps m gs).length = m + gs.length := by
  have a := (dps_fold gs (List.replicate m 0) (fun d hd => by rw [List.eq_of_mem_replicate hd]; exact Int.le_refl _)).1
  rw [List.length_replicate] at a
  exact a
theorem dps_nn (m : Nat) (gs : List Gt) : ∀ d ∈ dps m gs, 0 ≤ d := (dps_fold gs (List.replicate m 0) (fun d hd => by rw [List.eq_of_mem_replicate hd]; exact Int.le_refl _)).2
structure NetP where
  x : Addr
  lm : Addr
  ld : Addr
  dn : Addr
def GsAt (Z : List Addr) (H : Hp) (ps : List Addr) (gs : List Gt) : Prop := ps.length = gs.length ∧ ∀ (i : Nat) (q : Addr) (g : Gt), ps[i]? = some q → gs[i]? = some g → q ∉ Z ∧ H q = some (.tup g.row)
def NmAt (Z : List Addr) (H : Hp) (p : NetP) (kvs : List (Key × V)) (nm : List (Str × List Nat)) : Prop :=
  kvs.length = nm.length ∧ (nm.map (·.1)).Nodup ∧ ∀ (i : Nat) (k : Key) (v : V) (n : Str) (ws : List Nat), kvs[i]? = some (k, v) → nm[i]? = some (n, ws) → k = .inr n ∧ ∃ l, v = .ref l ∧ l ∉ Z ∧ l ≠ p.lm ∧ l ≠ p.ld ∧ H l = some (.lst (nts ws))
def NetAt (C : Addr) (Z : List Addr) (H : Hp) (p : NetP) (m : Nat) (gs : List Gt) (nm : List (Str × List Nat)) : Prop :=
  (∀ z ∈ Z, H z ≠ none) ∧ p.lm ≠ p.ld ∧ (p.x ∉ Z ∧ p.lm ∉ Z ∧ p.ld ∉ Z ∧ p.dn ∉ Z) ∧ ∃ dx ps kvs, H p.x = some (.ins C dx [("input_count", .int (m : Int)), ("made", .ref p.lm), ("depths", .ref p.ld), ("by_name", .ref p.dn)]) ∧
    H p.lm = some (.lst (ps.map V.ref)) ∧ H p.ld = some (.lst ((dps m gs).map V.int)) ∧ H p.dn = some (.dK kvs) ∧ GsAt Z H ps gs ∧ NmAt Z H p kvs nm
theorem NetAt.keep {C : Addr} {S Z : List Addr} {H H' : Hp} {p : NetP} {m : Nat} {gs : List Gt} {nm : List (Str × List Nat)} (h : NetAt C Z H p m gs nm) (k : KeepS S H H') (hs : ∀ y ∈ S, y ∈ Z) : NetAt C Z H' p m gs nm := by
  obtain ⟨a, b, ⟨c1, c2, c3, c4⟩, dx, ps, kvs, e1, e2, e3, e4, ⟨g1, g2⟩, n1, n2, n3⟩ := h
  have f : ∀ {y : Addr} {o : HO}, y ∉ Z → H y = some o → H' y = some o := fun n e => k.1 _ _ e (fun z => n (hs _ z))
  refine ⟨fun z hz => k.2 z (a z hz), b, ⟨c1, c2, c3, c4⟩, dx, ps, kvs, f c1 e1, f c2 e2, f c3 e3, f c4 e4, ⟨g1, fun i q g hi hg => ?_⟩, n1, n2, fun i k v n ws hi hn => ?_⟩
  · have := g2 i q g hi hg
    exact ⟨this.1, f this.1 this.2⟩
  · obtain ⟨ek, l, ev, l1, l2, l3, l4⟩ := n3 i k v n ws hi hn
    exact ⟨ek, l, ev, l1, l2, l3, f l1 l4⟩
theorem NetAt.same {C : Addr} {Z : List Addr} {H H' : Hp} {p : NetP} {m : Nat} {gs : List Gt} {nm : List (Str × List Nat)} (h : NetAt C Z H p m gs nm) (s : Same H H') : NetAt C Z H' p m gs nm := h.keep (S := []) (.ofSame s) (fun _ z => nomatch z)
theorem NetAt.keepB {C b : Addr} {Z : List Addr} {H H' : Hp} {p : NetP} {m : Nat} {gs : List Gt} {nm : List (Str × List Nat)} (h : NetAt C Z H p m gs nm) (k : Keep b H H') (hb : H' b ≠ none) (m' : b ∈ Z) : NetAt C Z H' p m gs nm := h.keep (S := [b]) (.ofKeep k (List.mem_singleton.mpr rfl) hb) (fun y hy => by rw [List.mem_singleton.mp hy]; exact m')
theorem BoxAt.some {c : Int} {H : Hp} {b : Addr} (h : BoxAt c H b) : H b ≠ none := by
  obtain ⟨_, _, _, e, _⟩ := h
  exact some_ne e
theorem made {C : Addr} {H : Hp} {x dx : Addr} (nx : H x = none) (nd : H dx = none) (ne : dx ≠ x) {H' : Hp} (k : ∀ p o, (upd (upd H dx (.own x)) x (.ins C dx [])) p = some o → p ≠ x → H' p = some o) : Same H H' := fun p o e =>
  k p o (by rw [upd_ne (ne_of_none e nx), upd_ne (ne_of_none e nd)]; exact e) (ne_of_none e nx)
theorem units1 {k : Nat} {A : Around} (r : Room k A) : A.units + 1 < cLine := by have := r.un; omega
theorem pi_or {X : Cx} {tg e : Expr} {i j : TI} (h1 : PI X tg e i) (h2 : PI X tg e j) : PI X tg e (fun σ H R => i σ H R ∨ j σ H R) := ⟨fun pins s σ H R I h => h.elim (fun a => h1.run pins s σ H R I a) (fun b => h2.run pins s σ H R I b)⟩
structure FT (K : PySem.W.Frag) (mg : Str → Option Value) (C : Addr) : Prop where
  cl : Cls K C
  n_input_count : NoAttr K C "input_count"
  n_made : NoAttr K C "made"
  n_depths : NoAttr K C "depths"
  n_by_name : NoAttr K C "by_name"
  mgC : mg "Net" = some (.ref C)
structure LL (K : PySem.W.Frag) (mg : Str → Option Value) (C : Addr) (a1 a2 a3 a4 a5 a6 a7 a8 a9 a10 a11 a12 a13 a14 a15 a16 a17 a18 a19 a20 a21 a22 a23 a24 a25 a26 a27 : Addr) (l1 l2 l3 l4 l5 l6 l7 l8 l9 l10 l11 l12 l13 l14 l15 l16 l17 l18 l19 l20 l21 l22 l23 l24 l25 l26 l27 : FuncData) : Prop where
  F_sum_wires : Fun K "sum_wires" "sum_wires" s_sum_wires a1 l1
  m_sum_wires : mg "sum_wires" = some (.ref a1)
  b_sum_wires : Binds K l1 ["net", "ones", "others", "carry"] []
  F_quick_sum_wires : Fun K "quick_sum_wires" "quick_sum_wires" s_quick_sum_wires a2 l2
  m_quick_sum_wires : mg "quick_sum_wires" = some (.ref a2)
  b_quick_sum_wires : Binds K l2 ["net", "ones", "others", "carry"] []
  F_carry_wires : Fun K "carry_wires" "carry_wires" s_carry_wires a3 l3
  m_carry_wires : mg "carry_wires" = some (.ref a3)
  b_carry_wires : Binds K l3 ["net", "spans"] []
  F_span_doubled : Fun K "span_doubled" "span_doubled" s_span_doubled a4 l4
  m_span_doubled : mg "span_doubled" = some (.ref a4)
  b_span_doubled : Binds K l4 ["net", "spans", "place", "size"] []
  F_ran : Fun K "ran" "ran" s_ran a5 l5
  m_ran : mg "ran" = some (.ref a5)
  kb_ran_many : ∃ g, KBn K l5 ["net", "values", "many"] 2 ["many"] g (fun vs zs => vs ++ zs)
  F_gate_bits : Fun K "gate_bits" "gate_bits" s_gate_bits a6 l6
  m_gate_bits : mg "gate_bits" = some (.ref a6)
  b_gate_bits : Binds K l6 ["gate", "wires", "full"] []
  F__law_box : Fun K "_law_box" "_law_box" sBox a7 l7
  m__law_box : mg "_law_box" = some (.ref a7)
  b__law_box : Binds K l7 ["_law_script", "_law_k"] []
  F__law_take : Fun K "_law_take" "_law_take" sTake a8 l8
  m__law_take : mg "_law_take" = some (.ref a8)
  b__law_take : Binds K l8 ["_law_box_here", "_law_size"] []
  F__law_wires : Fun K "_law_wires" "_law_wires" s__law_wires a9 l9
  m__law_wires : mg "_law_wires" = some (.ref a9)
  b__law_wires : Binds K l9 ["_law_net", "_law_box_here", "_law_size"] []
  F__law_values : Fun K "_law_values" "_law_values" s__law_values a10 l10
  m__law_values : mg "_law_values" = some (.ref a10)
  b__law_values : Binds K l10 ["_law_box_here", "_law_inputs", "_law_cases"] []
  F__law_number : Fun K "_law_number" "_law_number" s__law_number a11 l11
  m__law_number : mg "_law_number" = some (.ref a11)
  b__law_number : Binds K l11 ["_law_bits", "_law_case"] []
  F__law_handed : Fun K "_law_handed" "_law_handed" s__law_handed a12 l12
  m__law_handed : mg "_law_handed" = some (.ref a12)
  b__law_handed : Binds K l12 ["_law_net", "_law_box_here", "_law_size", "_law_kept"] []
  F__law_put : Fun K "_law_put" "_law_put" s__law_put a13 l13
  m__law_put : mg "_law_put" = some (.ref a13)
  b__law_put : Binds K l13 ["_law_net", "_law_box_here", "_law_kept"] []
  T : FT K mg C
  M : Mk K C a14
  F_Net___init__ : Fun K "__init__" "Net.__init__" s_Net___init__ a14 l14
  b_Net___init__ : Binds K l14 ["self", "many"] []
  F_Net_both : Fun K "both" "Net.both" s_Net_both a15 l15
  b_Net_both : Binds K l15 ["self", "a", "b"] []
  M_Net_both : Meth K C "both" a15
  F_Net_either : Fun K "either" "Net.either" s_Net_either a16 l16
  b_Net_either : Binds K l16 ["self", "a", "b"] []
  M_Net_either : Meth K C "either" a16
  F_Net_unlike : Fun K "unlike" "Net.unlike" s_Net_unlike a17 l17
  b_Net_unlike : Binds K l17 ["self", "a", "b"] []
  M_Net_unlike : Meth K C "unlike" a17
  F_Net_fixed : Fun K "fixed" "Net.fixed" s_Net_fixed a18 l18
  b_Net_fixed : Binds K l18 ["self", "bit"] []
  M_Net_fixed : Meth K C "fixed" a18
  F_Net_put : Fun K "put" "Net.put" s_Net_put a19 l19
  b_Net_put : Binds K l19 ["self", "kind", "wires"] []
  M_Net_put : Meth K C "put" a19
  F_Net_put_gate : Fun K "put_gate" "Net.put_gate" s_Net_put_gate a20 l20
  b_Net_put_gate : Binds K l20 ["self", "gate", "depth"] []
  M_Net_put_gate : Meth K C "put_gate" a20
  F_Net_need : Fun K "need" "Net.need" s_Net_need a21 l21
  b_Net_need : Binds K l21 ["self", "wires"] []
  M_Net_need : Meth K C "need" a21
  F_Net_give : Fun K "give" "Net.give" s_Net_give a22 l22
  b_Net_give : Binds K l22 ["self", "name", "wires"] []
  M_Net_give : Meth K C "give" a22
  F_Net_given : Fun K "given" "Net.given" s_Net_given a23 l23
  b_Net_given : Binds K l23 ["self", "name"] []
  M_Net_given : Meth K C "given" a23
  F_Net_names : Fun K "names" "Net.names" s_Net_names a24 l24
  b_Net_names : Binds K l24 ["self"] []
  M_Net_names : Meth K C "names" a24
  F_Net_inputs : Fun K "inputs" "Net.inputs" s_Net_inputs a25 l25
  b_Net_inputs : Binds K l25 ["self"] []
  M_Net_inputs : Meth K C "inputs" a25
  F_Net_gates : Fun K "gates" "Net.gates" s_Net_gates a26 l26
  b_Net_gates : Binds K l26 ["self"] []
  M_Net_gates : Meth K C "gates" a26
  F_Net_depth : Fun K "depth" "Net.depth" s_Net_depth a27 l27
  b_Net_depth : Binds K l27 ["self", "wire"] []
  M_Net_depth : Meth K C "depth" a27
  z_sorted : mg "sorted" = none
  z_repr : mg "repr" = none
  z_dict : mg "dict" = none
variable {C : Addr} {a1 a2 a3 a4 a5 a6 a7 a8 a9 a10 a11 a12 a13 a14 a15 a16 a17 a18 a19 a20 a21 a22 a23 a24 a25 a26 a27 : Addr} {l1 l2 l3 l4 l5 l6 l7 l8 l9 l10 l11 l12 l13 l14 l15 l16 l17 l18 l19 l20 l21 l22 l23 l24 l25 l26 l27 : FuncData}

end
theorem gset_if2 {i : Nat} {v : V} {σ : L2.St} {H : Hp} {c : TT} {t u r : TS} {D : Ends} (h : tIfS c t u { D with nx := r D } (σ.set i (some v)) H) : gName i v σ H ({ D with nx := tSeq (tIfS c t u) r D } : Ends).nx := h
theorem gset_if {σ : L2.St} {H : Hp} {c : TT} {t u r : TS} {D : Ends} (h : tIfS c t u { D with nx := r D } σ H) : tSeq (tIfS c t u) r D σ H := h
theorem ifS_cut {c : TT} {t u : TS} {D : Ends} {σ : L2.St} {H : Hp} (R : L2.St → Hp → Prop) (h : ∀ D' : Ends, (∀ σ' H', R σ' H' → D'.nx σ' H') → tIfS c t u D' σ H) (q : ∀ σ' H', R σ' H' → D.nx σ' H') : tIfS c t u D σ H := h D q
theorem ifS_ev {c : TT} {t u : TS} {D : Ends} {σ : L2.St} {H : Hp} (R : Bool → Hp → Prop) (h : ∀ Q : Bool → Hp → Prop, (∀ z H', R z H' → Q z H') → c σ H Q) (q1 : ∀ H', R true H' → t D σ H') (q2 : ∀ H', R false H' → u D σ H') : tIfS c t u D σ H := h _ fun z H' r => by
  cases z with
  | true => exact q1 H' r
  | false => exact q2 H' r
theorem if_ev {t : TT} {ta tb : TE} {σ : L2.St} {H : Hp} {Q : VK} (R : V → Hp → Prop) (h : ∀ Q : VK, (∀ z H', R z H' → Q z H') → tIf t ta tb σ H Q) (q : ∀ z H', R z H' → Q z H') : tIf t ta tb σ H Q := h Q q
theorem and_ev {ta tb : TE} {σ : L2.St} {H : Hp} {Q : VK} (R : V → Hp → Prop) (h : ∀ Q : VK, (∀ z H', R z H' → Q z H') → tAndV ta tb σ H Q) (q : ∀ z H', R z H' → Q z H') : tAndV ta tb σ H Q := h Q q
theorem or_ev {ta tb : TE} {σ : L2.St} {H : Hp} {Q : VK} (R : V → Hp → Prop) (h : ∀ Q : VK, (∀ z H', R z H' → Q z H') → tOrV ta tb σ H Q) (q : ∀ z H', R z H' → Q z H') : tOrV ta tb σ H Q := h Q q
theorem ifset_ev {c : TT} {e : TE} {k : Nat} {D : Ends} {σ : L2.St} {H : Hp} {old : V} (hσ : σ.set k (some old) = σ) (R : V → Hp → Prop) (h : ∀ Q : VK, (∀ z H', R z H' → Q z H') → c σ H (fun b H1 => if b = true then e σ H1 Q else Q old H1)) (q : ∀ z H', R z H' → D.nx (σ.set k (some z)) H') : tIfS c (tAsg e (gName k)) tNext D σ H := by
  have t := h (fun z H' => D.nx (σ.set k (some z)) H') q
  rw [hσ] at t
  exact t
theorem two_cut {t : TE} {g : TG} {c : TT} {a b r : TS} {D : Ends} {σ : L2.St} {H : Hp} (R : L2.St → Hp → Prop) (h : ∀ D' : Ends, (∀ σ' H', R σ' H' → D'.nx σ' H') → tSeq (tAsg t g) (tIfS c a b) D' σ H) (q : ∀ σ' H', R σ' H' → r D σ' H') : tSeq (tAsg t g) (tSeq (tIfS c a b) r) D σ H := h { D with nx := r D } q
theorem org80 {ta tb : TE} {σ : L2.St} {H : Hp} {Q : VK} {c d : Bool} (ha : ∀ Q : VK, Q (.bl c) H → ta σ H Q) (hb : ∀ Q : VK, Q (.bl d) H → tb σ H Q) (h : Q (.bl (c || d)) H) : tOrV ta tb σ H Q := by
  refine ha _ ⟨c, rfl, ?_⟩
  cases c
  · exact hb _ h
  · exact h
theorem gnext_if18 {σ : L2.St} {H : Hp} {c : TT} {t u : TS} {r : TS} {D : Ends} (h : tIfS c t u { D with nx := r D } σ H) : tNext ({ D with nx := tSeq (tIfS c t u) r D } : Ends) σ H := h
theorem ret_if18 {c : TT} {ta tb : TE} {D : Ends} {σ : L2.St} {H : Hp} (R : Bool → Hp → Prop) (h : ∀ Q : Bool → Hp → Prop, (∀ z H', R z H' → Q z H') → c σ H Q) (q1 : ∀ H', R true H' → ta σ H' D.rt) (q2 : ∀ H', R false H' → tb σ H' D.rt) : tRet (tIf c ta tb) D σ H := h _ fun z H' r => by
  cases z with
  | true => exact q1 H' r
  | false => exact q2 H' r
theorem gset_if3 {i : Nat} {v : V} {σ : L2.St} {H : Hp} {c : TT} {t u r : TS} {D : Ends} (h : tIfS c t u { D with nx := r D } (σ.set i (some v)) H) : gName i v σ H (tSeq (tIfS c t u) r D) := h
theorem asg_ev {t : TE} {i : Nat} {r : TS} {D : Ends} {σ : L2.St} {H : Hp} (R : V → Hp → Prop) (h : ∀ Q : VK, (∀ z H', R z H' → Q z H') → t σ H Q) (q : ∀ z H', R z H' → r D (σ.set i (some z)) H') : tSeq (tAsg t (gName i)) r D σ H := h _ q
/-! ### zip of two lists or tuples -/
def SqIt (t : Bool) (h : Heap) (i2 a : Addr) (i : Nat) : Prop := bif t then h.IsTupleIter i2 a i else h.IsListIter i2 a i
def SqIs (t : Bool) (h : Heap) (a : Addr) (its : Array Value) : Prop := bif t then h.IsTuple a its else h.IsList a its
theorem SqIt.ex {t : Bool} {h : Heap} {i2 a : Addr} {i : Nat} (s : SqIt t h i2 a i) : ∃ o, h.get? i2 = some o ∧ ∀ f, o.data ≠ .cell f := by
  cases t <;> obtain ⟨o, e, _, d⟩ := s <;> exact ⟨o, e, fun f q => by rw [d] at q; cases q⟩
theorem draws_sq {prog : Program} {w : World} {A : Around} (t : Bool) (hh : A.handled = none) (it l : Addr) (hne : l ≠ it) (items : Array Value) :
    Draws prog w A it [it, l] items.size (fun i v => items[i]? = some v) (fun i h => SqIt t h it l i ∧ SqIs t h l items) := by
  cases t
  · exact Draws.list hh it l hne items
  · exact Draws.tuple hh it l hne items
theorem sq_val {X : Cx} {t : Bool} {pins : List (Addr × Obj)} {σ : L2.St} {H : Hp} {s : Shared} {a : Addr} {ys : List V} (I : Inv X pins σ H s) (h : bif t then SqT X.K H a ys else SqL X.K H a ys) : ∃ its : List Value, Vals ys its ∧ SqIs t s.heap a its.toArray := by
  cases t
  · obtain ⟨its, rv, p, _⟩ := I.list h
    exact ⟨its, rv, p.isList⟩
  · obtain ⟨its, rv, p, _⟩ := I.tuple h
    exact ⟨its, rv, p⟩
theorem sq_inj {X : Cx} {t : Bool} {pins : List (Addr × Obj)} {σ : L2.St} {H : Hp} {s : Shared} {a : Addr} {ys zs : List V} (I : Inv X pins σ H s) (h : bif t then SqT X.K H a ys else SqL X.K H a ys) (h2 : bif t then SqT X.K H a zs else SqL X.K H a zs) : ys = zs := by
  cases t
  · exact I.list_inj h h2
  · exact I.tuple_inj h h2
theorem begins_sq (t : Bool) (l : Addr) (items : Array Value) : Begins (.ref l) { cls := .type (bif t then "tuple_iterator" else "list_iterator"), data := .fields #[.ref l, .int 0 0] } fun h => SqIs t h l items := by
  cases t
  · exact begins_list l items
  · exact begins_tuple l items
def Sq2 (t : Bool) (K : PySem.W.Frag) (H : Hp) (a : Addr) (xs : List V) : Prop := bif t then SqT K H a xs else SqL K H a xs
theorem Sq2.to {t : Bool} {K : PySem.W.Frag} {H : Hp} {a : Addr} {xs : List V} (h : Sq2 t K H a xs) : SqL K H a xs ∨ SqT K H a xs := by
  cases t
  · exact .inl h
  · exact .inr h
theorem Sq2.of {K : PySem.W.Frag} {H : Hp} {a : Addr} {xs : List V} (h : SqL K H a xs ∨ SqT K H a xs) : ∃ t, Sq2 t K H a xs := h.elim (fun z => ⟨false, z⟩) fun z => ⟨true, z⟩
def Itzb (t1 t2 : Bool) (K : PySem.W.Frag) (a b : Addr) : It :=
  ⟨fun i H => ∃ (xs ys : List V), Sq2 t1 K H a xs ∧ Sq2 t2 K H b ys ∧ i < xs.length ∧ i < ys.length,
   fun i H v H' => ∃ T x y, v = .ref T ∧ H T = none ∧ H' = upd H T (.tup [x, y]) ∧ (∀ xs, Sq2 t1 K H a xs → xs[i]? = some x) ∧ ∀ ys, Sq2 t2 K H b ys → ys[i]? = some y,
   fun i H => ∃ (xs ys : List V), Sq2 t1 K H a xs ∧ Sq2 t2 K H b ys ∧ i = min xs.length ys.length⟩
def StZb (t1 t2 : Bool) (a b z TI TO i1 i2 : Addr) (i : Nat) (h : Heap) : Prop :=
  IsZip h z TI TO .none ∧ IsTupOf2 h TI (.ref i1) (.ref i2) ∧ (∃ u v, IsTupOf2 h TO u v) ∧ SqIt t1 h i1 a i ∧ SqIt t2 h i2 b i
theorem turn_zb {P : Program} {w : World} {K : PySem.W.Frag} {elts : List Expr} {kk : Nat} {tpos : Pos} {t1 t2 : Bool} {a b z TI TO i1 i2 : Addr} (S : ZipSep2 z TI TO i1 i2 [i1, a] [i2, b]) (na : a ≠ i1) (nb : b ≠ i2) :
    Turn P w K (.Tuple elts kk tpos) (Itzb t1 t2 K a b) [z, TI, TO, i1, i2] z (StZb t1 t2 a b z TI TO i1 i2) where
  mem := List.mem_cons_self
  obj := by
    rintro i h ⟨a1, a2, ⟨u, v, a3⟩, s1, s2⟩ c hm
    simp only [List.mem_cons, List.not_mem_nil, or_false] at hm
    rcases hm with e | e | e | e | e <;> subst e
    · exact ⟨_, a1, (fun _ q => nomatch q)⟩
    · exact ⟨_, a2, (fun _ q => nomatch q)⟩
    · exact ⟨_, a3, (fun _ q => nomatch q)⟩
    · obtain ⟨o2, e2, n2⟩ := s1.ex
      exact ⟨o2, e2, n2⟩
    · obtain ⟨o2, e2, n2⟩ := s2.ex
      exact ⟨o2, e2, n2⟩
  keep := by
    rintro i h h' ⟨a1, a2, ⟨u, v, a3⟩, s1, s2⟩ k
    refine ⟨k z (by simp) _ a1, k TI (by simp) _ a2, ⟨u, v, k TO (by simp) _ a3⟩, ?_, ?_⟩
    · cases t1 <;> exact s1.at fun o q => k i1 (by simp) o q
    · cases t2 <;> exact s2.at fun o q => k i2 (by simp) o q
  item := by
    intro X hP hw hK hc i pins s σ H E I hf st hg
    subst hP hw hK
    obtain ⟨xs, ys, hx, hy, l1, l2⟩ := hg
    obtain ⟨its1, rv1, p1⟩ := sq_val I hx
    obtain ⟨its2, rv2, p2⟩ := sq_val I hy
    obtain ⟨u, hu, ru⟩ := rv1.get (List.getElem?_eq_getElem l1)
    obtain ⟨v, hv, rv⟩ := rv2.get (List.getElem?_eq_getElem l2)
    have W := WalksT.zipD2 (prog := X.prog) (w := X.w) (A := X.A) S (draws_sq (A := X.A.in1) t1 (I.ok.hd hc) i1 a na its1.toArray) (draws_sq (A := X.A.in1) t2 (I.ok.hd hc) i2 b nb its2.toArray)
    have hin : ∀ c ∈ [z, TO, i1, i2], c ∈ [z, TI, TO, i1, i2] := fun b hb => by
      simp only [List.mem_cons, List.not_mem_nil, or_false] at hb ⊢
      rcases hb with q | q | q | q <;> simp [q]
    obtain ⟨a1, a2, a3, s1, s2⟩ := id st
    have g1 := rv1.length
    have g2 := rv2.length
    refine W.item i s _ E (by simp only [List.size_toArray]; omega) ⟨a1, a2, a3, ⟨s1, p1⟩, ⟨s2, p2⟩⟩ fun T vals h1 tk pt hT isT mid k1 => ?_
    obtain ⟨u1, u2, e1, e2, rfl⟩ := pt
    rw [List.getElem?_toArray, hu] at e1
    rw [List.getElem?_toArray, hv] at e2
    cases e1
    cases e2
    refine ⟨.ref T, rfl, W.go elts kk tpos i T { s with heap := h1, toks := tk } _ E mid fun h2 st2 k2 => ?_⟩
    have nT : T ∉ [z, TO, i1, i2] := W.apart i T h1 mid
    have isT2 : h2.IsTuple T #[u, v] := isT.at fun o e => k2 T o nT e
    have new : ObjOk X.prog X.w (upd H T (.tup [xs[i], ys[i]])) h2 T (.tup [xs[i], ys[i]]) :=
      ⟨by show 2 ≤ sizeLine; decide, [u, v], .cons ru (.cons rv .nil), isT2⟩
    have I2 : Inv X pins σ (upd H T (.tup [xs[i], ys[i]])) { s with heap := h2, toks := tk } :=
      I.turnedNew (t' := tk) (ch := [z, TI, TO, i1, i2]) (fun b o nb e => k2 b o (fun q => nb (hin b q)) (k1 b o (fun q => nb (hin b q)) e)) hf hT new
    obtain ⟨b1, b2, b3, ⟨b4, _⟩, b5, _⟩ := st2
    refine ⟨.ref T, _, I2, rfl, ⟨T, _, _, rfl, I.hok.fresh hT, rfl, fun zs' hz' => ?_, fun zs' hz' => ?_⟩, ⟨b1, b2, b3, b4, b5⟩, fun b hb => ?_⟩
    · rw [sq_inj I hz' hx]
      exact List.getElem?_eq_getElem l1
    · rw [sq_inj I hz' hy]
      exact List.getElem?_eq_getElem l2
    have nb : b ≠ T := by
      obtain ⟨a1, a2, ⟨u, v, a3⟩, s1, s2⟩ := st
      obtain ⟨o1, e1, _⟩ := s1.ex
      obtain ⟨o2, e2, _⟩ := s2.ex
      have lt : b < s.heap.objs.size := by
        simp only [List.mem_cons, List.not_mem_nil, or_false] at hb
        rcases hb with q | q | q | q | q <;> subst q
        · exact Heap.lt_size a1
        · exact Heap.lt_size a2
        · exact Heap.lt_size a3
        · exact Heap.lt_size e1
        · exact Heap.lt_size e2
      exact Nat.ne_of_lt (Nat.lt_of_lt_of_le lt hT)
    rw [upd_ne nb]
    exact (hf b hb).1
  done := by
    intro X hP hw hK hc i pins s σ H E I hf st hg
    subst hP hw hK
    obtain ⟨xs, ys, hx, hy, hi⟩ := hg
    obtain ⟨its1, rv1, p1⟩ := sq_val I hx
    obtain ⟨its2, rv2, p2⟩ := sq_val I hy
    have W := WalksT.zipD2 (prog := X.prog) (w := X.w) (A := X.A) S (draws_sq (A := X.A.in1) t1 (I.ok.hd hc) i1 a na its1.toArray) (draws_sq (A := X.A.in1) t2 (I.ok.hd hc) i2 b nb its2.toArray)
    have hn : i = min its1.toArray.size its2.toArray.size := by
      have e1 := rv1.length
      have e2 := rv2.length
      simp only [List.size_toArray]
      omega
    subst hn
    obtain ⟨a1, a2, a3, s1, s2⟩ := id st
    refine W.done s _ E ⟨a1, a2, a3, ⟨s1, p1⟩, ⟨s2, p2⟩⟩ fun h1 tk k1 => ⟨rfl, I.turnedL (t' := tk) (ch := [z, TI, TO, i1, i2]) (fun b o nb e => k1 b o (fun q => nb ?_) e) hf⟩
    simp only [List.mem_cons, List.not_mem_nil, or_false] at q ⊢
    rcases q with q | q | q | q <;> simp [q]
  self := fun A i s Q E st h => wpAny_pyIter_zip st.1 h
def iZb (K : PySem.W.Frag) (ta : TA) : TI := fun σ H R => ta σ H fun vs H1 => ∃ (t1 t2 : Bool) (a b : Addr) (xs ys : List V), vs = [.ref a, .ref b] ∧ Sq2 t1 K H1 a xs ∧ Sq2 t2 K H1 b ys ∧ R (Itzb t1 t2 K a b) H1
theorem pi_zb {X : Cx} {e e2 : Expr} {ta : TA} {p pos tpos : Pos} {elts : List Expr} {kk : Nat} (hg : Gl X "zip") (hm : X.mg "zip" = none) (ha : PA X [e, e2] ta)
    (hs : starEach [e, e2] X.env = (false, eval e X.env) :: starEach [e2] X.env := by rfl) (hp : (backTo pos (starEach [e2] X.env)).any (·.1) = false := by rfl) :
    PI X (.Tuple elts kk tpos) (.Call (.Name "zip" p) [e, e2] [] pos) (iZb X.K ta) := by
  constructor
  intro pins s σ H R I h
  refine Call_ (ld_blt I hg hm PyProof.Rows.boot_zip (PyProof.Rows.callWith_type1 (thn (ha.run pos pins s σ H _ I h) fun us s1 hh => ?_) hs hp))
  obtain ⟨vs, H1, I1, r1, t1, t2, a, b, xs, ys, rfl, hx, hy, q⟩ := hh
  match us, r1 with
  | [v1, v2], .cons hv1 (.cons hv2 .nil) =>
    cases hv1
    cases hv2
    obtain ⟨its1, rv1, p1⟩ := sq_val I1 hx
    obtain ⟨its2, rv2, p2⟩ := sq_val I1 hy
    have la : a < s1.heap.objs.size := by
      cases t1 <;> obtain ⟨o, e, _⟩ := p1 <;> exact Heap.lt_size e
    have lb : b < s1.heap.objs.size := by
      cases t2 <;> obtain ⟨o, e, _⟩ := p2 <;> exact Heap.lt_size e
    refine zip_begins2 (begins_sq t1 a its1.toArray) (begins_sq t2 b its2.toArray) p1 p2 fun h' a1 a2 a3 g1 g2 _ k => wpAny_pyIter_zip a1 ?_
    have I2 : Inv X pins σ H1 { s1 with heap := h' } := I1.kept (t' := s1.toks) k
    have S : ZipSep2 (s1.heap.objs.size + 4) (s1.heap.objs.size + 2) (s1.heap.objs.size + 3) s1.heap.objs.size (s1.heap.objs.size + 1) [s1.heap.objs.size, a] [s1.heap.objs.size + 1, b] := zip_sep2 (fp1 := [a]) (fp2 := [b]) (fun c q => by rw [List.mem_singleton.mp q]; exact la) (fun c q => by rw [List.mem_singleton.mp q]; exact lb)
    have fr : ∀ c ∈ [s1.heap.objs.size + 4, s1.heap.objs.size + 2, s1.heap.objs.size + 3, s1.heap.objs.size, s1.heap.objs.size + 1], FpOk X pins H1 c := fun b hb => by
      have le : s1.heap.objs.size ≤ b := by
        simp only [List.mem_cons, List.not_mem_nil, or_false] at hb
        rcases hb with z | z | z | z | z <;> rw [z]
        · exact Nat.le_add_right _ _
        · exact Nat.le_add_right _ _
        · exact Nat.le_add_right _ _
        · exact Nat.le_refl _
        · exact Nat.le_add_right _ _
      exact I1.fpOk le (I1.hok.fresh le)
    refine ⟨s1.heap.objs.size + 4, [s1.heap.objs.size + 4, s1.heap.objs.size + 2, s1.heap.objs.size + 3, s1.heap.objs.size, s1.heap.objs.size + 1], _, _, H1, rfl, I2, turn_zb S (Nat.ne_of_lt la) (Nat.ne_of_lt (Nat.lt_succ_of_lt lb)), ⟨a1, a2, ⟨_, _, a3⟩, ?_, ?_⟩, fr, q⟩
    · cases t1 <;> exact ⟨_, g1, rfl, rfl⟩
    · cases t2 <;> exact ⟨_, g2, rfl, rfl⟩
theorem walk_zb {K : PySem.W.Frag} {t1 t2 : Bool} {a b : Addr} {xs ys : List V} {n : Nat} (hx : xs.length = n) (hy : ys.length = n) : Walk (Itzb t1 t2 K a b) n (fun H => Sq2 t1 K H a xs ∧ Sq2 t2 K H b ys) (YPair (fun i => xs[i]?) (fun i => ys[i]?)) := by
  refine ⟨fun i _ hi q => ⟨xs, ys, q.1, q.2, by omega, by omega⟩, fun _ q => ⟨xs, ys, q.1, q.2, by omega⟩, fun i H v H' hi q z => ?_⟩
  obtain ⟨T, c, y, h1, h2, h3, h4, h5⟩ := z
  exact ⟨T, _, _, h1, h2, h3, h4 xs q.1, h5 ys q.2⟩
/-! ### a list or a tuple walked -/
def Itq (t : Bool) (K : PySem.W.Frag) (a : Addr) : It := bif t then Itt K a else Itl K a
def iSq (K : PySem.W.Frag) (tl : TE) : TI := fun σ H R => tl σ H fun x H1 => ∃ (t : Bool) (a : Addr) (xs : List V), x = .ref a ∧ Sq2 t K H1 a xs ∧ R (Itq t K a) H1
theorem pi_sq {X : Cx} {tg l : Expr} {tl : TE} (hl : PE X l tl) : PI X tg l (iSq X.K tl) := by
  refine ⟨fun pins s σ H R I h => ?_⟩
  refine thn (hl.run pins s σ H _ I h) fun v s1 ⟨x, H1, I1, r1, q1⟩ => ?_
  obtain ⟨t, a, xs, e, hq, q⟩ := q1
  subst e
  cases r1
  cases t
  · obtain ⟨its, rv, p, hz⟩ := I1.list hq
    refine wpAny_pyIter_list p.isList ?_
    refine ⟨s1.heap.objs.size, [s1.heap.objs.size], _, _, H1, rfl, I1.kept (t' := s1.toks) fun b o e => Heap.get?_push_of_some _ e, turn_list a _, ⟨_, Heap.get?_push_size _ rfl, rfl, rfl⟩, fun b hb => ?_, q⟩
    have e : b = s1.heap.objs.size := by simpa using hb
    subst e
    exact I1.fpOk (Nat.le_refl _) (I1.hok.fresh (Nat.le_refl _))
  · obtain ⟨its, rv, p, hz⟩ := I1.tuple hq
    refine wpAny_pyIter_tuple (show s1.heap.IsTuple a its.toArray from p) ?_
    refine ⟨s1.heap.objs.size, [s1.heap.objs.size], _, _, H1, rfl, I1.kept (t' := s1.toks) fun b o e => Heap.get?_push_of_some _ e, turn_tuple a _, ⟨_, Heap.get?_push_size _ rfl, rfl, rfl⟩, fun b hb => ?_, q⟩
    have e : b = s1.heap.objs.size := by simpa using hb
    subst e
    exact I1.fpOk (Nat.le_refl _) (I1.hok.fresh (Nat.le_refl _))
theorem walk_q {t : Bool} {K : PySem.W.Frag} {a : Addr} {xs : List V} : Walk (Itq t K a) xs.length (fun H => Sq2 t K H a xs) (YAt xs) := by
  cases t
  · exact walk_list
  · exact walk_tup
theorem Sq2.len {t : Bool} {K : PySem.W.Frag} {H : Hp} {a : Addr} {xs : List V} (h : Sq2 t K H a xs) : SqL K H a xs ∨ SqT K H a xs := h.to
/-! ### zip of a text and a list or a tuple: new pairs of a sign and an item -/
def Itzl (t : Bool) (K : PySem.W.Frag) (x : Str) (a : Addr) : It :=
  ⟨fun i H => ∃ (ys : List V) (y : V), (bif t then SqT K H a ys else SqL K H a ys) ∧ i < x.cps.size ∧ ys[i]? = some y,
   fun i H v H' => ∃ T c y, v = .ref T ∧ H T = none ∧ H' = upd H T (.tup [.str ⟨#[c]⟩, y]) ∧ x.cps[i]? = some c ∧ ∀ ys, (bif t then SqT K H a ys else SqL K H a ys) → ys[i]? = some y,
   fun i H => ∃ ys : List V, (bif t then SqT K H a ys else SqL K H a ys) ∧ i = min x.cps.size ys.length⟩
def StZl (t : Bool) (x : Str) (tx : Tok) (a z TI TO i1 i2 : Addr) (i : Nat) (h : Heap) : Prop :=
  IsZip h z TI TO .none ∧ IsTupOf2 h TI (.ref i1) (.ref i2) ∧ (∃ u v, IsTupOf2 h TO u v) ∧ h.IsStrIter i1 (strIterType x) x tx i ∧ SqIt t h i2 a i
theorem turn_zl {P : Program} {w : World} {K : PySem.W.Frag} {elts : List Expr} {kk : Nat} {tpos : Pos} {t : Bool} {x : Str} {tx : Tok} {a z TI TO i1 i2 : Addr} (S : ZipSep2 z TI TO i1 i2 [i1] [i2, a]) (na : a ≠ i2) :
    Turn P w K (.Tuple elts kk tpos) (Itzl t K x a) [z, TI, TO, i1, i2] z (StZl t x tx a z TI TO i1 i2) where
  mem := List.mem_cons_self
  obj := by
    rintro i h ⟨a1, a2, ⟨u, v, a3⟩, ⟨o1, e1, _, d1⟩, s2⟩ c hm
    simp only [List.mem_cons, List.not_mem_nil, or_false] at hm
    rcases hm with e | e | e | e | e <;> subst e
    · exact ⟨_, a1, (fun _ q => nomatch q)⟩
    · exact ⟨_, a2, (fun _ q => nomatch q)⟩
    · exact ⟨_, a3, (fun _ q => nomatch q)⟩
    · exact ⟨o1, e1, (fun _ q => by rw [d1] at q; cases q)⟩
    · obtain ⟨o2, e2, n2⟩ := s2.ex
      exact ⟨o2, e2, n2⟩
  keep := by
    rintro i h h' ⟨a1, a2, ⟨u, v, a3⟩, s1, s2⟩ k
    obtain ⟨o1, e1, r1⟩ := s1
    refine ⟨k z (by simp) _ a1, k TI (by simp) _ a2, ⟨u, v, k TO (by simp) _ a3⟩, ⟨o1, k i1 (by simp) _ e1, r1⟩, ?_⟩
    cases t <;> exact s2.at fun o q => k i2 (by simp) o q
  item := by
    intro X hP hw hK hc i pins s σ H E I hf st hg
    subst hP hw hK
    obtain ⟨ys, y, hq, hi, hy⟩ := hg
    obtain ⟨its, rv, p⟩ := sq_val I hq
    obtain ⟨u, hu, ru⟩ := rv.get hy
    have W := WalksT.zipD2 (prog := X.prog) (w := X.w) (A := X.A) S (Draws.text (A := X.A.in1) (I.ok.hd hc) i1 x tx) (draws_sq (A := X.A.in1) t (I.ok.hd hc) i2 a na its.toArray)
    have hin : ∀ b ∈ [z, TO, i1, i2], b ∈ [z, TI, TO, i1, i2] := fun b hb => by
      simp only [List.mem_cons, List.not_mem_nil, or_false] at hb ⊢
      rcases hb with q | q | q | q <;> simp [q]
    obtain ⟨a1, a2, a3, s1, s2⟩ := id st
    have lt : i < its.length := by
      rw [← rv.length]
      obtain ⟨w, _⟩ := List.getElem?_eq_some_iff.mp hy
      exact w
    refine W.item i s _ E (by simp only [List.size_toArray]; omega) ⟨a1, a2, a3, s1, s2, p⟩ fun T vals h1 tk pt hT isT mid k1 => ?_
    obtain ⟨u1, u2, ⟨c, t1, hc1, rfl⟩, h2, rfl⟩ := pt
    rw [List.getElem?_toArray, hu] at h2
    cases h2
    refine ⟨.ref T, rfl, W.go elts kk tpos i T { s with heap := h1, toks := tk } _ E mid fun h2 st2 k2 => ?_⟩
    have nT : T ∉ [z, TO, i1, i2] := W.apart i T h1 mid
    have isT2 : h2.IsTuple T #[.str ⟨#[c]⟩ t1, u] := isT.at fun o e => k2 T o nT e
    have new : ObjOk X.prog X.w (upd H T (.tup [.str ⟨#[c]⟩, y])) h2 T (.tup [.str ⟨#[c]⟩, y]) :=
      ⟨by show 2 ≤ sizeLine; decide, [.str ⟨#[c]⟩ t1, u], .cons ⟨t1, rfl⟩ (.cons ru .nil), isT2⟩
    have I2 : Inv X pins σ (upd H T (.tup [.str ⟨#[c]⟩, y])) { s with heap := h2, toks := tk } :=
      I.turnedNew (t' := tk) (ch := [z, TI, TO, i1, i2]) (fun b o nb e => k2 b o (fun q => nb (hin b q)) (k1 b o (fun q => nb (hin b q)) e)) hf hT new
    obtain ⟨b1, b2, b3, b4, b5, _⟩ := st2
    refine ⟨.ref T, _, I2, rfl, ⟨T, c, y, rfl, I.hok.fresh hT, rfl, hc1, fun zs hz => ?_⟩, ⟨b1, b2, b3, b4, b5⟩, fun b hb => ?_⟩
    · rw [sq_inj I hz hq]
      exact hy
    have nb : b ≠ T := by
      obtain ⟨a1, a2, ⟨u, v, a3⟩, ⟨o1, e1, _⟩, s2⟩ := st
      obtain ⟨o2, e2, _⟩ := s2.ex
      have lt : b < s.heap.objs.size := by
        simp only [List.mem_cons, List.not_mem_nil, or_false] at hb
        rcases hb with q | q | q | q | q <;> subst q
        · exact Heap.lt_size a1
        · exact Heap.lt_size a2
        · exact Heap.lt_size a3
        · exact Heap.lt_size e1
        · exact Heap.lt_size e2
      exact Nat.ne_of_lt (Nat.lt_of_lt_of_le lt hT)
    rw [upd_ne nb]
    exact (hf b hb).1
  done := by
    intro X hP hw hK hc i pins s σ H E I hf st hg
    subst hP hw hK
    obtain ⟨ys, hq, hi⟩ := hg
    obtain ⟨its, rv, p⟩ := sq_val I hq
    have W := WalksT.zipD2 (prog := X.prog) (w := X.w) (A := X.A) S (Draws.text (A := X.A.in1) (I.ok.hd hc) i1 x tx) (draws_sq (A := X.A.in1) t (I.ok.hd hc) i2 a na its.toArray)
    have hn : i = min x.cps.size its.toArray.size := by
      have e1 := rv.length
      have e2 : its.toArray.size = its.length := List.size_toArray
      omega
    subst hn
    obtain ⟨a1, a2, a3, s1, s2⟩ := id st
    refine W.done s _ E ⟨a1, a2, a3, s1, s2, p⟩ fun h1 tk k1 => ⟨rfl, I.turnedL (t' := tk) (ch := [z, TI, TO, i1, i2]) (fun b o nb e => k1 b o (fun q => nb ?_) e) hf⟩
    simp only [List.mem_cons, List.not_mem_nil, or_false] at q ⊢
    rcases q with q | q | q | q <;> simp [q]
  self := fun A i s Q E st h => wpAny_pyIter_zip st.1 h
def iZl (K : PySem.W.Frag) (ta : TA) : TI := fun σ H R => ta σ H fun vs H1 => ∃ (t : Bool) (x : Str) (a : Addr) (ys : List V), vs = [.str x, .ref a] ∧ (bif t then SqT K H1 a ys else SqL K H1 a ys) ∧ R (Itzl t K x a) H1
theorem pi_zl {X : Cx} {e e2 : Expr} {ta : TA} {p pos tpos : Pos} {elts : List Expr} {kk : Nat} (hg : Gl X "zip") (hm : X.mg "zip" = none) (ha : PA X [e, e2] ta)
    (hs : starEach [e, e2] X.env = (false, eval e X.env) :: starEach [e2] X.env := by rfl) (hp : (backTo pos (starEach [e2] X.env)).any (·.1) = false := by rfl) :
    PI X (.Tuple elts kk tpos) (.Call (.Name "zip" p) [e, e2] [] pos) (iZl X.K ta) := by
  constructor
  intro pins s σ H R I h
  refine Call_ (ld_blt I hg hm PyProof.Rows.boot_zip (PyProof.Rows.callWith_type1 (thn (ha.run pos pins s σ H _ I h) fun us s1 hh => ?_) hs hp))
  obtain ⟨vs, H1, I1, r1, t, x, a, ys, rfl, hq, q⟩ := hh
  match us, r1 with
  | [v1, v2], .cons ⟨tx, hx⟩ (.cons hy .nil) =>
    subst hx
    cases hy
    obtain ⟨its, rv, pl⟩ := sq_val I1 hq
    have la : a < s1.heap.objs.size := by
      cases t <;> obtain ⟨o, e, _⟩ := pl <;> exact Heap.lt_size e
    refine zip_begins2 (begins_text x tx) (begins_sq t a its.toArray) trivial pl fun h' a1 a2 a3 g1 g2 _ k => wpAny_pyIter_zip a1 ?_
    have I2 : Inv X pins σ H1 { s1 with heap := h' } := I1.kept (t' := s1.toks) k
    have S : ZipSep2 (s1.heap.objs.size + 4) (s1.heap.objs.size + 2) (s1.heap.objs.size + 3) s1.heap.objs.size (s1.heap.objs.size + 1) [s1.heap.objs.size] [s1.heap.objs.size + 1, a] := zip_sep2 (fp1 := []) (fp2 := [a]) (fun _ q => nomatch q) (fun b q => by rw [List.mem_singleton.mp q]; exact la)
    have fr : ∀ b ∈ [s1.heap.objs.size + 4, s1.heap.objs.size + 2, s1.heap.objs.size + 3, s1.heap.objs.size, s1.heap.objs.size + 1], FpOk X pins H1 b := fun b hb => by
      have le : s1.heap.objs.size ≤ b := by
        simp only [List.mem_cons, List.not_mem_nil, or_false] at hb
        rcases hb with z | z | z | z | z <;> rw [z]
        · exact Nat.le_add_right _ _
        · exact Nat.le_add_right _ _
        · exact Nat.le_add_right _ _
        · exact Nat.le_refl _
        · exact Nat.le_add_right _ _
      exact I1.fpOk le (I1.hok.fresh le)
    refine ⟨s1.heap.objs.size + 4, [s1.heap.objs.size + 4, s1.heap.objs.size + 2, s1.heap.objs.size + 3, s1.heap.objs.size, s1.heap.objs.size + 1], _, _, H1, rfl, I2, turn_zl S (Nat.ne_of_lt (Nat.lt_succ_of_lt la)), ⟨a1, a2, ⟨_, _, a3⟩, ⟨_, g1, rfl, rfl⟩, ?_⟩, fr, q⟩
    cases t <;> exact ⟨_, g2, rfl, rfl⟩
theorem walk_zl {K : PySem.W.Frag} {t : Bool} {x : Str} {a : Addr} {ys : List V} {n : Nat} (hx : x.cps.size = n) (hy : ys.length = n) : Walk (Itzl t K x a) n (fun H => bif t then SqT K H a ys else SqL K H a ys) (YPair (fun i => (x.cps[i]?).map fun c => .str ⟨#[c]⟩) (fun i => ys[i]?)) := by
  refine ⟨fun i _ hi q => ⟨ys, ys[i]'(by omega), q, by omega, List.getElem?_eq_getElem (by omega)⟩, fun _ q => ⟨ys, q, by omega⟩, fun i H v H' hi q z => ?_⟩
  obtain ⟨T, c, y, h1, h2, h3, h4, h5⟩ := z
  exact ⟨T, _, _, h1, h2, h3, by simp only [h4]; rfl, h5 ys q⟩
/-! ### xs[::-1] of a list or a tuple; a starred name ahead of one -/
section
variable {prog : Program} {w : World} {A : Around} {E : Value → Shared → Prop} {s : Shared}
theorem fm_congr {α β : Type} {f g : α → Option β} : ∀ {l : List α}, (∀ x ∈ l, f x = g x) → l.filterMap f = l.filterMap g
  | [], _ => rfl
  | a :: l, h => by
    rw [List.filterMap_cons, List.filterMap_cons, h a (by simp), fm_congr fun x hx => h x (List.mem_cons_of_mem _ hx)]
theorem pick_rev (xs : Array Value) : ((List.range xs.size).filterMap fun (m : Nat) => xs[(((xs.size : Int) - 1) + (m : Int) * (-1)).toNat]?).toArray = xs.toList.reverse.toArray := by
  have e : (List.range xs.size).filterMap (fun (m : Nat) => xs[(((xs.size : Int) - 1) + (m : Int) * (-1)).toNat]?) = ((List.range xs.size).map fun k => xs.size - 1 - k).filterMap (xs[·]?) := by
    rw [List.filterMap_map]
    refine fm_congr fun m hm => ?_
    have := List.mem_range.mp hm
    show xs[(((xs.size : Int) - 1) + (m : Int) * (-1)).toNat]? = xs[xs.size - 1 - m]?
    rw [show (((xs.size : Int) - 1) + (m : Int) * (-1)).toNat = xs.size - 1 - m by omega]
  rw [e, PySem.W.krv_range, List.filterMap_reverse, PySem.W.krv_all]
theorem sliceApplied_rev {sl : Addr} {vs : Value} {n : Nat} {Q : Int × Int × Nat → Shared → Prop} (hs : s.heap.IsSliceOf sl .none .none vs) (ps : IsPart vs (some (-1)))
    (h : Q ((n : Int) - 1, -1, n) s) : wpAny (model prog w) A (Builtin.Slice.sliceApplied (.ref sl) (pure (n : Int))) Q E s := by
  obtain ⟨os, hos, hcs, hds⟩ := id hs
  unfold Builtin.Slice.sliceApplied Builtin.Slice.sliceFields
  refine wpAny_bind (wpAny_bind (wpAny_field hos hds (x := .none) rfl (wpAny_bind (wpAny_field hos hds (x := .none) rfl (wpAny_bind (wpAny_field hos hds (x := vs) rfl (wpAny_pure ?_)))))))
  refine wpAny_bind (HT.slicePart_ ps ?_)
  show wpAny _ _ (if ((-1 : Int) == 0) = true then _ else _) _ _ s
  rw [if_neg (by decide)]
  refine wpAny_bind (slicePart_none (wpAny_bind (slicePart_none (wpAny_bind (wpAny_pure ?_)))))
  have e : Builtin.Slice.slicePlaces ((n : Int) - 1) (-1) (-1) = n := by
    unfold Builtin.Slice.slicePlaces
    have h1 : ¬ ((-1 : Int) > 0) := by omega
    simp only [h1, if_false]
    split
    · rw [show (-(-1) : Int) = 1 by decide, Int.ediv_one]
      omega
    · omega
  show wpAny _ _ (pure (((n : Int) - 1), (-1 : Int), Builtin.Slice.slicePlaces ((n : Int) - 1) (-1) (-1))) _ _ s
  rw [e]
  exact wpAny_pure h
theorem getItem_tuple_rev {t sl : Addr} {items : Array Value} {vs : Value} {Q : Value → Shared → Prop} (ht : IsTup s.heap t items) (hs : s.heap.IsSliceOf sl .none .none vs) (ps : IsPart vs (some (-1)))
    (h : Q (.ref s.heap.objs.size) { s with heap := s.heap.push { cls := .type "tuple", data := .seq items.toList.reverse.toArray } })
    (hsz : items.size ≤ sizeLine) : wpAny (model prog w) A (getItem (.ref t) (.ref sl)) Q E s := by
  have htake : sizeOk (.seq items.toList.reverse.toArray) := by
    show items.toList.reverse.toArray.size ≤ sizeLine
    rw [List.size_toArray, List.length_reverse, Array.length_toList]
    exact hsz
  obtain ⟨os, hos, hcs, hds⟩ := id hs
  have hTs : s.TypeIs (.ref sl) "slice" := ⟨os, hos, hcs⟩
  unfold getItem
  try with_reducible refine wpAny_holding ?_
  first | refine wpAny_bind (wpAny_pure ?_) | skip
  refine wpAny_bind (wpAny_sequenceKey ht.typeIs (by decide) ?_)
  refine wpAny_bind (wpAny_callSpecial?_slot (name := Str.ofString "__getitem__") ht.typeIs PyProof.Rows.slot_tuple_getitem
    (wpAny_call_entry PyProof.Rows.slot_tuple_getitem ht.typeIs entry_tuple_getitem ?_ (args_tuple_getitem _ _)))
  show wpAny _ _ (Builtin.Tuple.tupleItemsOf (.ref t) >>= _) _ _ s
  refine wpAny_bind (tupleItemsOf_ ht ?_)
  refine wpAny_bind (wpAny_typeOf hTs ?_)
  rw [if_pos (by decide)]
  refine wpAny_bind (sliceApplied_rev hs ps ?_)
  have hno : ¬ ((((items.size : Int) - 1) == 0 && (-1 : Int) == 1 && items.size == items.size) = true) := by
    intro q
    rw [Bool.and_eq_true, Bool.and_eq_true] at q
    exact absurd q.1.2 (by decide)
  show wpAny _ _ (if (((items.size : Int) - 1) == 0 && (-1 : Int) == 1 && items.size == items.size) = true then _ else _) _ _ s
  rw [if_neg hno, pick_rev]
  first
    | exact wpAny_bind (m := Builtin.Tuple.tupleExact _) (wpAny_newObj_type (wpAny_pure ⟨_, rfl, wpAny_pure h⟩) htake)
    | exact wpAny_bind (m := Builtin.Tuple.tupleExact _) (wpAny_newObj_type (wpAny_bind (wpAny_pure (wpAny_pure ⟨_, rfl, wpAny_pure h⟩))) htake)
    | exact wpAny_bind (wpAny_bind (m := Builtin.Tuple.tupleExact _) (wpAny_newObj_type (wpAny_pure (wpAny_pure ⟨_, rfl, wpAny_pure h⟩)) htake))
    | exact wpAny_bind (wpAny_bind (m := Builtin.Tuple.tupleExact _) (wpAny_newObj_type (wpAny_pure ⟨_, rfl, wpAny_pure h⟩) htake))
end
section
variable {X : Cx}
def sqO (t : Bool) (xs : List V) : HO := bif t then .tup xs else .lst xs
def tRevS (K : PySem.W.Frag) (te : TE) : TE := fun σ H Q => te σ H fun x H1 => ∃ (t : Bool) (a : Addr) (xs : List V), x = .ref a ∧ Sq2 t K H1 a xs ∧ ∀ p, H1 p = none → Q (.ref p) (upd H1 p (sqO t xs.reverse))
theorem pe_revS {e : Expr} {te : TE} {k : Nat} {p1 p2 p3 pos : Pos} (he : PE X e te) : PE X (.Subscript e (.Slice none none (some (.UnaryOp .USub (.Constant (.int 1) k p1) p2)) p3) pos) (tRevS X.K te) := by
  refine ⟨fun pins s σ H Q I h => ?_⟩
  refine Subscript_ (thn (he.run pins s σ H _ I h) fun v s1 ⟨x, H1, I1, r1, q1⟩ => ?_)
  obtain ⟨t, a, xs, ex, hx, q⟩ := q1
  subst ex
  cases r1
  have hst : PO X (some (.UnaryOp .USub (.Constant (.int 1) k p1) p2)) (tPart (tUn (rU fun i => .int (-i)) (tC (.int 1)))) := po_some (pe_un un_neg pe_int)
  refine wpAny_Slice (thn (po_none.run pins s1 σ H1 (fun o H2 => o = none ∧ H2 = H1) I1 ⟨rfl, rfl⟩) fun vl s2 ⟨l, H2, I2, pl, el, e2⟩ => ?_)
  subst el e2
  refine thn (po_none.run pins s2 σ H2 (fun o H3 => o = none ∧ H3 = H2) I2 ⟨rfl, rfl⟩) fun vu s3 ⟨u, H3, I3, pu, eu, e3⟩ => ?_
  subst eu e3
  refine thn (hst.run pins s3 σ H3 (fun o H4 => o = some (-1) ∧ H4 = H3) I3 ⟨1, rfl, -1, rfl, rfl, rfl⟩) fun vs s4 ⟨o, H4, I4, ps, eo, e4⟩ => ?_
  subst eo e4
  have I5 : Inv X pins σ H4 { s4 with heap := s4.heap.push { cls := .type "slice", data := .fields #[vl, vu, vs] } } := I4.kept (t' := s4.toks) fun b ob q => Heap.get?_push_of_some _ q
  show wpAny (model X.prog X.w) X.A (subscriptTail e (.Slice none none (some (.UnaryOp .USub (.Constant (.int 1) k p1) p2)) p3) (.ref a) (.ref s4.heap.objs.size)) (EP X pins σ Q) X.xe { s4 with heap := s4.heap.push { cls := .type "slice", data := .fields #[vl, vu, vs] } }
  cases t
  · obtain ⟨its, r, ht, hz⟩ := I5.list hx
    have hlen := r.length
    refine tail_any (ops := [.ref a, .ref s4.heap.objs.size]) ht.isList.typeIs (PySem.slot_list_getitem.lookup) ?_ (by with_unfolding_all rfl)
    refine wpAny_getItem_list_slice ht.isList (Heap.IsSliceOf.new _ vl vu vs) pl pu ps (by decide) ?_ (by rw [List.size_toArray]; omega)
    rw [PySem.W.krv_pick]
    refine ⟨.ref _, _, I5.laid (t' := s4.toks) (o := .lst xs.reverse) (fun b ob q => Heap.get?_push_of_some _ q) (Nat.le_refl _) ?_, rfl, q _ (I5.hok.fresh (Nat.le_refl _))⟩
    exact ⟨by rw [List.length_reverse]; exact hz, _, 0, r.reverse, Heap.get?_push_size _ rfl⟩
  · obtain ⟨its, r, ht, hz⟩ := I5.tuple hx
    have hlen := r.length
    cases pl
    cases pu
    refine tail_any (ops := [.ref a, .ref s4.heap.objs.size]) ht.typeIs (PyProof.Rows.slot_tuple_getitem.lookup) ?_ (by with_unfolding_all rfl)
    refine getItem_tuple_rev ht (Heap.IsSliceOf.new _ _ _ vs) ps ?_ (by rw [List.size_toArray]; omega)
    refine ⟨.ref _, _, I5.laid (t' := s4.toks) (o := .tup xs.reverse) (fun b ob q => Heap.get?_push_of_some _ q) (Nat.le_refl _) ?_, rfl, q _ (I5.hok.fresh (Nat.le_refl _))⟩
    exact ⟨by rw [List.length_reverse]; exact hz, _, r.reverse, IsTup.new _ _⟩
theorem Sq2.new {t : Bool} {K : PySem.W.Frag} {H : Hp} {a : Addr} {xs : List V} : Sq2 t K (upd H a (sqO t xs)) a xs := by
  cases t
  · exact SqL.of upd_same
  · exact .inl (.inl upd_same)
/-- *xs, y = a list -/
def gStar1 (K : PySem.W.Frag) (t : TGs) : TG := fun v σ H Q => ∃ (a : Addr) (xs : List V) (y : V), v = .ref a ∧ SqL K H a (xs ++ [y]) ∧ xs.length ≤ 16000 ∧ ∀ D, H D = none → t [.ref D, y] σ (upd H D (.lst xs)) Q
theorem unpack_star1 {prog : Program} {w : World} {A : Around} {E : Value → Shared → Prop} {s : Shared} {l : Addr} {items : Array Value} {Q : List Value → Shared → Prop} (hl : s.heap.IsList l items) (hh : A.handled = none) (h0 : 1 ≤ items.size) (hz : items.size ≤ 16384)
    (h : ∀ (h₂ : Heap) (tk : Nat), (∀ b o, s.heap.get? b = some o → h₂.get? b = some o) → Q ([.ref h₂.objs.size] ++ items.toList.drop (items.size - 1)) { s with heap := h₂.push { cls := .type "list", data := .seq (items.toList.take (items.size - 1)).toArray 0 }, toks := tk }) : wpAny (model prog w) A (unpackItems (.ref l) 2 (some 0)) Q E s := by
  have hlt : l ≠ s.heap.objs.size := by obtain ⟨o, ho, _⟩ := hl; exact Nat.ne_of_lt (Heap.lt_size ho)
  unfold unpackItems
  refine wpAny_bind ?_
  unfold notIterableAtAll
  refine wpAny_bind (wpAny_specialOf hl.typeIs slot_list_iter.lookup ?_)
  refine wpAny_pure ?_
  simp only [Bool.false_eq_true, if_false]
  refine wpAny_bind (wpAny_holding (wpAny_pyIter_list hl ?_))
  refine wpAny_bind (wpAny_holding (PySem.W.kun_draw hlt 0 0 _ _ ⟨_, Heap.get?_push_size _ rfl, rfl, rfl⟩ (hl.push _) (by omega) fun h₁ hit₁ hs₁ => ?_))
  have hl₁ : h₁.IsList l items := (hl.push _).extBut hs₁.extBut hlt
  have hit₁' := hit₁
  obtain ⟨oi, hoi, _⟩ := hit₁'
  have hl₁' := hl₁
  obtain ⟨ol, hol, _⟩ := hl₁'
  rw [List.drop_zero, List.take_zero]
  rw [if_neg (show ¬ (([] : List Value).length < 0) by simp)]
  refine wpAny_bind (wpAny_holding (PySem.W.kun_collect (s := { s with heap := h₁ }) (T := "list_iterator") (.inr (.inr (.inl rfl))) (Walks.list (A := A.in1) hh s.heap.objs.size l hlt items) (fun j u st => st.1.typeIs) (k := 0) (by omega) ⟨hit₁, hl₁⟩ (Heap.lt_size hoi) (Heap.lt_size hol) (fun h₂ tk hk => ?_) (by rw [sizeLine_eq]; omega)))
  have hrl : (items.toList.drop 0).length = items.size := by rw [List.drop_zero, Array.length_toList]
  show wpAny _ _ (if (items.toList.drop 0).length < 2 - 1 - 0 then _ else _) _ _ _
  rw [if_neg (by rw [hrl]; omega)]
  show wpAny _ _ (newList ((items.toList.drop 0).take ((items.toList.drop 0).length - (2 - 1 - 0))) >>= fun d => pure ([] ++ [d] ++ (items.toList.drop 0).drop ((items.toList.drop 0).length - (2 - 1 - 0)))) _ _ _
  rw [hrl, List.drop_zero]
  have he : ∀ b o, s.heap.get? b = some o → h₂.get? b = some o := fun b o e => hk b o (Nat.ne_of_lt (Heap.lt_size e)) (hs₁.extBut b o (Nat.ne_of_lt (Heap.lt_size e)) (Heap.get?_push_of_some _ e))
  refine wpAny_bind ?_
  unfold newList
  refine wpAny_newObj_type (wpAny_pure ?_) (by show (items.toList.take (items.size - 1)).toArray.size ≤ sizeLine; rw [List.size_toArray, List.length_take, sizeLine_eq, Array.length_toList]; omega)
  exact h h₂ tk he
theorem pg_star1 {es : List Expr} {k : Nat} {pos : Pos} {t : TGs} (hc : X.calm = true) (h : PGs X es t)
    (hn : (assignEach es X.env).length = 2 := by rfl) (hst : (assignEach es X.env).findIdx? (·.1) = some 0 := by rfl) : PG X (.Tuple es k pos) (gStar1 X.K t) := by
  refine ⟨fun pins s σ H v u Q I r hw => ?_⟩
  obtain ⟨a, xs, y, e1, hq, hz, hw⟩ := hw
  subst e1
  cases r
  obtain ⟨its, rv, pl, hzz⟩ := I.list hq
  have hlen := rv.length
  rw [List.length_append, List.length_singleton] at hlen
  rw [PyProof.Rows.assign_Tuple]
  refine wpAny_bind (wpAny_standAt ?_)
  unfold unpack
  rw [hn, hst]
  refine wpAny_bind (wpAny_holding (unpack_star1 pl.isList (I.ok.hd hc) (by rw [List.size_toArray]; omega) (by rw [List.size_toArray]; omega) fun h' tk hx => ?_))
  have e3 : its.toArray.size - 1 = xs.length := by rw [List.size_toArray]; omega
  rw [e3]
  have rt := rv.take xs.length
  have rd := rv.drop xs.length
  rw [List.take_left' rfl] at rt
  rw [List.drop_left' rfl] at rd
  have I0 : Inv X pins σ H { s with heap := h', toks := tk } := I.kept (t' := tk) hx
  have I1 : Inv X pins σ (upd H h'.objs.size (.lst xs)) { s with heap := h'.push { cls := .type "list", data := .seq (its.take xs.length).toArray 0 }, toks := tk } := I0.laid (t' := tk) (o := .lst xs) (fun b u e => Heap.get?_push_of_some _ e) (Nat.le_refl _) ⟨by show xs.length ≤ sizeLine; rw [sizeLine_eq]; omega, _, 0, rt, Heap.get?_push_size _ rfl⟩
  exact h.run pins _ σ _ _ _ Q I1 (.cons (show RelV (.ref h'.objs.size) (.ref h'.objs.size) from rfl) rd) (hw _ (I0.hok.fresh (Nat.le_refl _)))
theorem pgs_star {e : Expr} {sp : Pos} {es : List Expr} {t : TG} {u : TGs} (h1 : PG X e t) (h2 : PGs X es u) : PGs X (.Starred e sp :: es) (gCons t u) := by
  refine ⟨fun pins s σ H vs us Q I r h => ?_⟩
  obtain ⟨v, vr, e1, h⟩ := h
  subst e1
  cases r with
  | cons r rr =>
    show wpAny _ _ (assignInOrder (assign e X.env :: (assignEach es X.env).map (·.2)) _) _ _ _
    refine assignInOrder_cons (thn (h1.run pins s σ H _ _ _ I r h) fun _ s1 ⟨σ1, H1, I1, q1⟩ => ?_)
    exact h2.run pins s1 σ1 H1 _ _ Q I1 rr q1
end
/-! ### list(zip(xs, ys)) of two lists -/
structure ZG (xs ys : List Value) (lo : Addr) (h : Heap) (as : List Addr) : Prop where
  rise : as.Pairwise (· < ·)
  above : ∀ a ∈ as, lo < a
  pairs : ∀ (j : Nat) (a : Addr), as[j]? = some a → ∃ x y, xs[j]? = some x ∧ ys[j]? = some y ∧ h.get? a = some { cls := .type "tuple", data := .seq #[x, y] }
theorem ZG.there {xs ys : List Value} {lo : Addr} {h : Heap} {as : List Addr} (g : ZG xs ys lo h as) {a : Addr} (ha : a ∈ as) : a < h.objs.size := by
  obtain ⟨j, hj⟩ := List.mem_iff_getElem?.mp ha
  obtain ⟨_, _, _, _, e⟩ := g.pairs j a hj
  exact Heap.lt_size e
structure ZAp (z TI TO i1 i2 l1 l2 S : Addr) : Prop where
  D : ZipApart z TI TO i1 i2 l1 l2
  Sz : z < S
  STI : TI < S
  STO : TO < S
  Si1 : i1 < S
  Si2 : i2 < S
  Sl1 : l1 < S
  Sl2 : l2 < S
def ZSt (z TI TO i1 i2 l1 l2 S : Addr) (xs ys : List Value) (i : Nat) (h : Heap) : Prop :=
  IsPair h TI (.ref i1) (.ref i2) ∧ h.IsListIter i1 l1 i ∧ h.IsListIter i2 l2 i ∧ h.IsList l1 xs.toArray ∧ h.IsList l2 ys.toArray ∧
   ((IsZip h z TI TO .none ∧ ∃ a b, IsPair h TO a b) ∨ ∃ T f oT, IsZipHeld h z TI TO T f ∧ h.get? T = some oT ∧ T ≠ z ∧ T ≠ i1 ∧ T ≠ i2 ∧ T ≠ S)
section
variable {prog : Program} {w : World} {A : Around} {s : Shared} {z TI TO i1 i2 l1 l2 S : Addr} {xs ys : List Value}
theorem ZSt.keep (G : ZAp z TI TO i1 i2 l1 l2 S) {i : Nat} {h h' : Heap} (st : ZSt z TI TO i1 i2 l1 l2 S xs ys i h) (hk : ∀ b o, b ≠ S → h.get? b = some o → h'.get? b = some o) : ZSt z TI TO i1 i2 l1 l2 S xs ys i h' := by
  obtain ⟨hTI, h1, h2, hl1, hl2, hz⟩ := st
  refine ⟨hk _ _ (Nat.ne_of_lt G.STI) hTI, h1.at fun o e => hk _ o (Nat.ne_of_lt G.Si1) e, h2.at fun o e => hk _ o (Nat.ne_of_lt G.Si2) e, hl1.at fun o e => hk _ o (Nat.ne_of_lt G.Sl1) e, hl2.at fun o e => hk _ o (Nat.ne_of_lt G.Sl2) e, ?_⟩
  rcases hz with ⟨hz, a, b, hTO⟩ | ⟨T, f, oT, hz, hT, r1, r2, r3, r4⟩
  · exact .inl ⟨hk _ _ (Nat.ne_of_lt G.Sz) hz, a, b, hk _ _ (Nat.ne_of_lt G.STO) hTO⟩
  · exact .inr ⟨T, f, oT, hk _ _ (Nat.ne_of_lt G.Sz) hz, hk _ _ r4 hT, r1, r2, r3, r4⟩
theorem zst_item (G : ZAp z TI TO i1 i2 l1 l2 S) {i : Nat} {x y : Value} {Q : Option Value → Shared → Prop} {E : Value → Shared → Prop} (st : ZSt z TI TO i1 i2 l1 l2 S xs ys i s.heap) (hS : S < s.heap.objs.size) (ex : xs[i]? = some x) (ey : ys[i]? = some y)
    (hQ : ∀ h', ZSt z TI TO i1 i2 l1 l2 S xs ys (i + 1) h' → IsPair h' s.heap.objs.size x y → (∀ c o, c ≠ z → c ≠ TO → c ≠ i1 → c ≠ i2 → s.heap.get? c = some o → h'.get? c = some o) → Q (some (.ref s.heap.objs.size)) { s with heap := h' }) :
    wpAny (model prog w) A (pyNext (.ref z)) Q E s := by
  obtain ⟨hTI, h1, h2, hl1, hl2, hz⟩ := st
  have D := G.D
  have ex' : xs.toArray[i]? = some x := by rw [List.getElem?_toArray]; exact ex
  have ey' : ys.toArray[i]? = some y := by rw [List.getElem?_toArray]; exact ey
  have lt : ∀ {c o}, s.heap.get? c = some o → s.heap.objs.size ≠ c := fun e => Nat.ne_of_gt (Heap.lt_size e)
  have n1 : s.heap.objs.size ≠ i1 := let ⟨_, e, _⟩ := h1; lt e
  have n2 : s.heap.objs.size ≠ i2 := let ⟨_, e, _⟩ := h2; lt e
  rcases hz with ⟨hz, a, b, hTO⟩ | ⟨T, f, oT, hz, hT, r1, r2, r3, r4⟩
  · refine wpAny_pyNext_zip_item D hz hTI hTO h1 h2 hl1 hl2 ex' ey' fun h' a1 a2 a3 a4 a5 a6 hk => ?_
    exact hQ h' ⟨hk _ _ D.TIz D.TITO D.TIi1 D.TIi2 hTI, a3, a4, hl1.at fun o e => hk _ o D.l1z D.l1TO D.l1i1 D.l1i2 e, hl2.at fun o e => hk _ o D.l2z D.l2TO D.l2i1 D.l2i2 e,
      .inr ⟨s.heap.objs.size, false, _, a1, a5, lt hz, n1, n2, Nat.ne_of_gt hS⟩⟩ a5 hk
  · refine wpAny_pyNext_zip_item_held D hz hT hTI h1 h2 hl1 hl2 ex' ey' fun h' a1 a3 a4 a5 a6 hk => ?_
    exact hQ h' ⟨hk _ _ D.TIz D.TIi1 D.TIi2 hTI, a3, a4, hl1.at fun o e => hk _ o D.l1z D.l1i1 D.l1i2 e, hl2.at fun o e => hk _ o D.l2z D.l2i1 D.l2i2 e,
      .inr ⟨T, true, oT, a1, hk _ _ r1 r2 r3 hT, r1, r2, r3, r4⟩⟩ a5 fun c o c1 _ c3 c4 e => hk c o c1 c3 c4 e
theorem zst_done (hh : A.handled = none) (G : ZAp z TI TO i1 i2 l1 l2 S) {i : Nat} {Q : Option Value → Shared → Prop} {E : Value → Shared → Prop} (st : ZSt z TI TO i1 i2 l1 l2 S xs ys i s.heap) (he : xs[i]? = none ∨ ys[i]? = none)
    (hQ : ∀ h', (∀ c o, c ≠ z → c ≠ TO → c ≠ i1 → c ≠ i2 → s.heap.get? c = some o → h'.get? c = some o) → Q none { s with heap := h' }) :
    wpAny (model prog w) A (pyNext (.ref z)) Q E s := by
  obtain ⟨hTI, h1, h2, hl1, hl2, hz⟩ := st
  have hend : xs.toArray[i]? = none ∨ ys.toArray[i]? = none := by rw [List.getElem?_toArray, List.getElem?_toArray]; exact he
  rcases hz with ⟨hz, a, b, hTO⟩ | ⟨T, f, oT, hz, hT, r1, r2, r3, r4⟩
  · exact wpAny_pyNext_zip_end hh G.D hz hTI hTO h1 h2 hl1 hl2 hend fun h' hk => hQ h' hk
  · exact wpAny_pyNext_zip_end_held hh G.D hz hT hTI h1 h2 hl1 hl2 hend fun h' hk => hQ h' fun c o c1 _ c3 c4 e => hk c o c1 c3 c4 e
theorem zl_loop (hh : A.handled = none) (G : ZAp z TI TO i1 i2 l1 l2 S) {n : Nat} (hx : xs.length = n) (hy : ys.length = n) (hn : n ≤ sizeLine) {h₁ : Heap} {R : Result → Shared → Prop} (res : Value)
    (hR : ∀ h' acc c as, (∀ b o, b ≠ S → b ≠ z → b ≠ TO → b ≠ i1 → b ≠ i2 → h₁.get? b = some o → h'.get? b = some o) → h'.get? S = some { cls := .type "list", dict := none, data := .seq acc c, slots := #[] } → as.length = n → ZG xs ys S h' as →
      acc.toList = as.map Value.ref → R (.ok (.ret res)) { s with heap := h' }) :
    ∀ (k i : Nat) (h : Heap) (c : Nat) (acc : Array Value) (as : List Addr), n - i = k → i ≤ n → ZSt z TI TO i1 i2 l1 l2 S xs ys i h → (∀ b o, b ≠ S → b ≠ z → b ≠ TO → b ≠ i1 → b ≠ i2 → h₁.get? b = some o → h.get? b = some o) →
      h.get? S = some { cls := .type "list", dict := none, data := .seq acc c, slots := #[] } → acc.toList = as.map Value.ref → as.length = i → ZG xs ys S h as →
      codeAny (model prog w) A (.builtin "list.extend.loop" ⟨[.ref S, .ref z, res], []⟩) R { s with heap := h } := by
  have nS : ∀ {b : Addr}, S < b → b ≠ z ∧ b ≠ TO ∧ b ≠ i1 ∧ b ≠ i2 := fun {b} hb => ⟨Nat.ne_of_gt (Nat.lt_trans G.Sz hb), Nat.ne_of_gt (Nat.lt_trans G.STO hb), Nat.ne_of_gt (Nat.lt_trans G.Si1 hb), Nat.ne_of_gt (Nat.lt_trans G.Si2 hb)⟩
  have nS0 : S ≠ z ∧ S ≠ TO ∧ S ≠ i1 ∧ S ≠ i2 := ⟨Nat.ne_of_gt G.Sz, Nat.ne_of_gt G.STO, Nat.ne_of_gt G.Si1, Nat.ne_of_gt G.Si2⟩
  intro k
  induction k with
  | zero =>
    intro i h c acc as hk hi hst hkeep hS hacc hal hG
    refine codeAny_builtin PySem.F.entry_extend_loop ?_
    rw [Around.under_plainId PySem.F.plain_extend_loop _]
    show wpAny _ A.in1 (pyNext (.ref z) >>= _) _ _ _
    refine wpAny_bind (zst_done (s := { s with heap := h }) (A := A.in1) hh G hst (.inl (List.getElem?_eq_none (by omega))) fun h' he => ?_)
    refine wpAny_pure (hR h' acc c as (fun b o h1 h2 h3 h4 h5 e => he b o h2 h3 h4 h5 (hkeep b o h1 h2 h3 h4 h5 e)) (he S _ nS0.1 nS0.2.1 nS0.2.2.1 nS0.2.2.2 hS) (by omega) ⟨hG.rise, hG.above, fun j a hj => ?_⟩ hacc)
    obtain ⟨x, y, e1, e2, e3⟩ := hG.pairs j a hj
    obtain ⟨q1, q2, q3, q4⟩ := nS (hG.above a (List.mem_of_getElem? hj))
    exact ⟨x, y, e1, e2, he a _ q1 q2 q3 q4 e3⟩
  | succ k ih =>
    intro i h c acc as hk hi hst hkeep hS hacc hal hG
    have hlt : i < n := by omega
    have ex : xs[i]? = some (xs[i]'(by omega)) := List.getElem?_eq_getElem (by omega)
    have ey : ys[i]? = some (ys[i]'(by omega)) := List.getElem?_eq_getElem (by omega)
    have hsz : acc.size = i := by rw [← Array.length_toList, hacc, List.length_map, hal]
    refine codeAny_builtin PySem.F.entry_extend_loop ?_
    rw [Around.under_plainId PySem.F.plain_extend_loop _]
    show wpAny _ A.in1 (pyNext (.ref z) >>= _) _ _ _
    refine wpAny_bind (zst_item (s := { s with heap := h }) G hst (Heap.lt_size hS) ex ey fun h' hst' ht hkp => ?_)
    dsimp only at ht hkp ⊢
    have hS' := hkp S _ nS0.1 nS0.2.1 nS0.2.2.1 nS0.2.2.2 hS
    have up : ∀ b o, b ≠ S → h'.get? b = some o → (h'.update S (Obj.mapSeq (·.push (Value.ref h.objs.size)))).get? b = some o := fun b o hb e => (Heap.get?_update_other _ _ (Ne.symm hb)).trans e
    have hSl : S < h.objs.size := Heap.lt_size hS
    show wpAny _ A.in1 (updateSeq S (·.push (Value.ref h.objs.size)) >>= _) _ _ _
    refine wpAny_bind ?_
    refine wpAny_updateSeq hS' rfl (wpAny_pure ⟨plainId_quiet PySem.F.plain_extend_loop _, ih (i + 1) _ _ (acc.push (Value.ref h.objs.size)) (as ++ [h.objs.size]) (by omega) hlt (hst'.keep G up)
      (fun b o h1 h2 h3 h4 h5 e => up b o h1 (hkp b o h2 h3 h4 h5 (hkeep b o h1 h2 h3 h4 h5 e))) (Heap.get?_update_self _ hS' rfl) (by rw [Array.toList_push, hacc, List.map_append]; rfl) (by rw [List.length_append, hal]; rfl) ⟨?_, ?_, ?_⟩⟩) (by rw [hsz]; omega) (by show (acc.push (Value.ref h.objs.size)).size ≤ sizeLine + 1; rw [Array.size_push, hsz]; omega)
    · refine List.pairwise_append.mpr ⟨hG.rise, List.pairwise_singleton _ _, fun a ha b hb => ?_⟩
      rw [List.mem_singleton.mp hb]
      exact hG.there ha
    · intro a ha
      rcases List.mem_append.mp ha with ha | ha
      · exact hG.above a ha
      · rw [List.mem_singleton.mp ha]; exact hSl
    · intro j b hj
      rcases Nat.lt_trichotomy j as.length with h1 | h1 | h1
      · rw [List.getElem?_append_left h1] at hj
        obtain ⟨x', y', e1, e2, e3⟩ := hG.pairs j b hj
        have hb := hG.above b (List.mem_of_getElem? hj)
        obtain ⟨q1, q2, q3, q4⟩ := nS hb
        exact ⟨x', y', e1, e2, up b _ (Nat.ne_of_gt hb) (hkp b _ q1 q2 q3 q4 e3)⟩
      · subst h1
        have hb : h.objs.size = b := by simpa using hj
        subst hb
        exact ⟨_, _, by rw [hal]; exact ex, by rw [hal]; exact ey, up _ _ (Nat.ne_of_gt hSl) ht⟩
      · have hnone : (as ++ [h.objs.size])[j]? = none := List.getElem?_eq_none (by rw [List.length_append, List.length_singleton]; omega)
        rw [hnone] at hj; cases hj
theorem zip_no_len : typeLookup (.type "zip") "__len__" = pure none := by rw [typeLookup_type, builtinLookup_eq_fast]; kernel_rfl
theorem zip_no_hint : typeLookup (.type "zip") "__length_hint__" = pure none := by rw [typeLookup_type, builtinLookup_eq_fast]; kernel_rfl
theorem zl_extend {R : Result → Shared → Prop} (hh : A.handled = none) (G : ZAp z TI TO i1 i2 l1 l2 S) {n : Nat} (hx : xs.length = n) (hy : ys.length = n) (hn : n ≤ sizeLine) (hz : IsZip s.heap z TI TO .none) (st : ZSt z TI TO i1 i2 l1 l2 S xs ys 0 s.heap) (res : Value) (c₀ : Nat) (hS : s.heap.get? S = some { cls := .type "list", data := .seq #[] c₀ })
    (hR : ∀ h' acc c as, (∀ b o, b ≠ S → b ≠ z → b ≠ TO → b ≠ i1 → b ≠ i2 → s.heap.get? b = some o → h'.get? b = some o) → h'.get? S = some { cls := .type "list", dict := none, data := .seq acc c, slots := #[] } → as.length = n → ZG xs ys S h' as →
      acc.toList = as.map Value.ref → R (.ok (.ret res)) { s with heap := h' }) :
    wpAny (model prog w) A.in1 (Builtin.List.listExtendWith (.ref S) (.ref z) res)
      (fun fin s' => match fin with | .done f => R (.ok f) s' | .again c' => c'.quiet = true ∧ codeAny (model prog w) A c' R s') (fun e s' => R (.error e) s') s := by
  have hT : s.TypeIs (.ref z) "zip" := ⟨_, hz, rfl⟩
  unfold Builtin.List.listExtendWith
  refine wpAny_bind (wpAny_typeOf hT ?_)
  have h1 : Builtin.List.listSameRef (.ref S) (.ref z) = false := by simp [Builtin.List.listSameRef, Nat.ne_of_gt G.Sz]
  have h2 : (Value.type "zip" == Value.type "list") = false := by decide
  have h3 : (Value.type "zip" == Value.type "tuple") = false := by decide
  simp only [h1, h2, h3, Bool.or_false, Bool.false_eq_true, if_false]
  refine wpAny_bind (wpAny_pyIter_zip hz ?_)
  refine wpAny_bind (wpAny_holding ?_)
  unfold Builtin.List.listLengthHint
  refine wpAny_bind (wpAny_specialOf hT zip_no_len ?_)
  show wpAny _ A.in1 (specialOf (Value.ref z) (Str.ofString "__length_hint__") >>= _) _ _ _
  refine wpAny_bind (wpAny_specialOf hT zip_no_hint ?_)
  refine wpAny_pure ?_
  show wpAny _ A.in1 (rule "list.extend.makes-room" >>= fun _ => Builtin.List.listTouch (.ref S) >>= fun _ =>
    again (.builtin "list.extend.loop" ⟨[.ref S, .ref z, res], []⟩)) _ _ _
  refine wpAny_bind (wpAny_rule ?_)
  refine wpAny_bind ?_
  show wpAny _ A.in1 (updateSeq S (·.push .none) >>= fun _ => updateSeq S (·.pop)) _ _ _
  refine wpAny_bind (wpAny_updateSeq hS rfl ?_)
  have hS₂ := Heap.get?_update_self (Obj.mapSeq (·.push Value.none)) hS rfl
  refine wpAny_updateSeq (hz := by seq_fits) hS₂ rfl ?_
  have hS₃ := Heap.get?_update_self (Obj.mapSeq (·.pop)) hS₂ rfl
  have oth : ∀ b o, b ≠ S → s.heap.get? b = some o → ((s.heap.update S (Obj.mapSeq (·.push Value.none))).update S (Obj.mapSeq (·.pop))).get? b = some o :=
    fun b o hb e => (Heap.get?_update_other _ _ (Ne.symm hb)).trans ((Heap.get?_update_other _ _ (Ne.symm hb)).trans e)
  exact wpAny_pure ⟨plainId_quiet F.plain_extend_loop _, zl_loop (s := s) hh G hx hy hn res hR n 0 _ _ #[] [] (Nat.sub_zero _) (Nat.zero_le _) (st.keep G oth) (fun b o h1 _ _ _ _ e => oth b o h1 e) hS₃ rfl rfl
    ⟨List.Pairwise.nil, (fun _ ha => nomatch ha), (fun j a hj => by simp at hj)⟩⟩
theorem zl_init {R : Result → Shared → Prop} (hh : A.handled = none) (G : ZAp z TI TO i1 i2 l1 l2 S) {n : Nat} (hx : xs.length = n) (hy : ys.length = n) (hn : n ≤ sizeLine) (hz : IsZip s.heap z TI TO .none) (st : ZSt z TI TO i1 i2 l1 l2 S xs ys 0 s.heap) (hS : s.heap.get? S = some { cls := .type "list", data := .seq #[] })
    (hR : ∀ h' acc c as, (∀ b o, b ≠ S → b ≠ z → b ≠ TO → b ≠ i1 → b ≠ i2 → s.heap.get? b = some o → h'.get? b = some o) → h'.get? S = some { cls := .type "list", dict := none, data := .seq acc c, slots := #[] } → as.length = n → ZG xs ys S h' as →
      acc.toList = as.map Value.ref → R (.ok (.ret .none)) { s with heap := h' }) :
    wpAny (model prog w) A.in1 (Builtin.«list.__init__» ⟨[.ref S, .ref z], []⟩)
      (fun fin s' => match fin with | .done f => R (.ok f) s' | .again c' => c'.quiet = true ∧ codeAny (model prog w) A c' R s') (fun e s' => R (.error e) s') s := by
  show wpAny _ A.in1 (do let old ← Builtin.List.listItems (.ref S); Builtin.List.listUpdate (.ref S) (fun _ => #[]); letGo old.toList.reverse; Builtin.List.listExtendWith (.ref S) (.ref z) .none) _ _ s
  refine wpAny_bind ?_
  unfold Builtin.List.listItems
  refine wpAny_bind (wpAny_seqItems hS rfl (wpAny_pure ?_))
  show wpAny _ A.in1 (updateSeq S (fun _ => #[]) >>= fun _ => letGo (#[] : Array Value).toList.reverse >>= fun _ => Builtin.List.listExtendWith (.ref S) (.ref z) .none) _ _ s
  refine wpAny_bind (wpAny_updateSeq hS rfl ?_)
  have hS₂ := Heap.get?_update_self (Obj.mapSeq (fun _ => (#[] : Array Value))) hS rfl
  have oth : ∀ b o, b ≠ S → s.heap.get? b = some o → (s.heap.update S (Obj.mapSeq (fun _ => (#[] : Array Value)))).get? b = some o :=
    fun b o hb e => (Heap.get?_update_other _ _ (Ne.symm hb)).trans e
  refine wpAny_bind (wpAny_letGo ?_)
  exact zl_extend (s := { s with heap := _ }) hh G hx hy hn (oth _ _ (Nat.ne_of_lt G.Sz) hz) (st.keep G oth) .none _ hS₂ fun h' acc c as hk hS' hl hG hacc => hR h' acc c as (fun b o h1 h2 h3 h4 h5 e => hk b o h1 h2 h3 h4 h5 (oth b o h1 e)) hS' hl hG hacc
theorem zl_call {Q : Value → Shared → Prop} {E : Value → Shared → Prop} (hh : A.handled = none) (G : ZAp z TI TO i1 i2 l1 l2 s.heap.objs.size) {n : Nat} (hx : xs.length = n) (hy : ys.length = n) (hn : n ≤ sizeLine) (hz : IsZip s.heap z TI TO .none) (st : ZSt z TI TO i1 i2 l1 l2 s.heap.objs.size xs ys 0 s.heap)
    (hQ : ∀ h' acc c as, (∀ b o, b ≠ z → b ≠ TO → b ≠ i1 → b ≠ i2 → s.heap.get? b = some o → h'.get? b = some o) → h'.get? s.heap.objs.size = some { cls := .type "list", dict := none, data := .seq acc c, slots := #[] } → as.length = n → ZG xs ys s.heap.objs.size h' as →
      acc.toList = as.map Value.ref → Q (.ref s.heap.objs.size) { s with heap := h' }) :
    wpAny (model prog w) A (call (.type "list") [.ref z]) Q E s := by
  refine callType_codes (Q₁ := fun obj s₁ => obj = .ref s.heap.objs.size ∧ s₁ = { s with heap := s.heap.push { cls := .type "list", data := .seq #[] } }) PySem.F.called_list (PySem.F.typeCall_list_1 _) PySem.F.entry_list_init
    (code_list_new _ ⟨rfl, rfl⟩) fun obj s₁ h₁ => ?_
  obtain ⟨rfl, rfl⟩ := h₁
  have hS : (s.heap.push { cls := .type "list", data := .seq #[] }).get? s.heap.objs.size = some { cls := .type "list", data := .seq #[] } := Heap.get?_push_size _ rfl
  have pk : ∀ b o, s.heap.get? b = some o → (s.heap.push { cls := .type "list", data := .seq #[] }).get? b = some o := fun b o e => Heap.get?_push_of_some _ e
  refine ⟨⟨_, hS, rfl⟩, PySem.F.args_list_init_2 _ _, zl_init (s := { s with heap := _ }) (A := A.in1) hh G hx hy hn (pk _ _ hz) (st.keep G fun b o _ e => pk b o e) hS (fun h' acc c as hk hS' hl hG hacc => ?_)⟩
  exact ⟨rfl, hQ h' acc c as (fun b o h2 h3 h4 h5 e => hk b o (Nat.ne_of_lt (Heap.lt_size e)) h2 h3 h4 h5 (pk b o e)) hS' hl hG hacc⟩
end
/-- the tuples tracked at their addresses -/
def zPut : Hp → List Addr → List (V × V) → Hp
  | H, a :: as, p :: ps => zPut (upd H a (.tup [p.1, p.2])) as ps
  | H, _, _ => H
theorem zPut_off {b : Addr} : ∀ (as : List Addr) (ps : List (V × V)) (H : Hp), b ∉ as → zPut H as ps b = H b
  | [], _, _, _ => rfl
  | _ :: _, [], _, _ => rfl
  | a :: as, p :: ps, H, h => by
    show zPut (upd H a (.tup [p.1, p.2])) as ps b = H b
    rw [zPut_off as ps _ (fun z => h (List.mem_cons_of_mem _ z)), upd_ne (fun z => h (by rw [z]; exact List.mem_cons_self))]
theorem zPut_at : ∀ (as : List Addr) (ps : List (V × V)) (H : Hp), as.length = ps.length → as.Nodup → Paired (fun (t : Addr) (p : V × V) => zPut H as ps t = some (.tup [p.1, p.2])) as ps
  | [], [], _, _, _ => .nil
  | [], _ :: _, _, h, _ => by cases h
  | _ :: _, [], _, h, _ => by cases h
  | a :: as, p :: ps, H, h, hn => by
    have hn' := List.nodup_cons.mp hn
    have ih := zPut_at as ps (upd H a (.tup [p.1, p.2])) (Nat.succ.inj h) hn'.2
    refine .cons ?_ ih
    show zPut (upd H a (.tup [p.1, p.2])) as ps a = some (.tup [p.1, p.2])
    rw [zPut_off as ps _ hn'.1, upd_same]
def tListZip (K : PySem.W.Frag) (ta : TA) : TE := fun σ H Q => ta σ H fun vs H1 => ∃ (a b : Addr) (xs ys : List V), vs = [.ref a, .ref b] ∧ SqL K H1 a xs ∧ SqL K H1 b ys ∧ xs.length = ys.length ∧
  ∀ (H' : Hp) (p : Addr) (ts : List Addr), (∀ b o, H1 b = some o → H' b = some o) → H1 p = none → (∀ t ∈ ts, H1 t = none) → p ∉ ts → ts.length = xs.length → H' p = some (.lst (ts.map V.ref)) → Paired (fun (t : Addr) (q : V × V) => H' t = some (.tup [q.1, q.2])) ts (xs.zip ys) → Q (.ref p) H'
section
variable {X : Cx} {ta : TA} {e1 e2 : Expr} {p p2 pos pos2 : Pos}
theorem zl_laid {pins : List (Addr × Obj)} {σ : L2.St} {H : Hp} {s : Shared} {h' : Heap} {xs ys : List V} {us vs : List Value} {acc : Array Value} {c : Nat} {as : List Addr} {S : Addr} (I : Inv X pins σ H s) (hS0 : s.heap.objs.size ≤ S) (hz : xs.length ≤ sizeLine) (hxy : xs.length = ys.length) (rx : Vals xs us) (ry : Vals ys vs)
    (hk : ∀ b o, s.heap.get? b = some o → h'.get? b = some o) (hS : h'.get? S = some { cls := .type "list", dict := none, data := .seq acc c, slots := #[] }) (hl : as.length = xs.length) (hG : ZG us vs S h' as) (hacc : acc.toList = as.map Value.ref) :
    ∃ H' : Hp, (∀ b o, H b = some o → H' b = some o) ∧ H S = none ∧ (∀ t ∈ as, H t = none) ∧ S ∉ as ∧ H' S = some (.lst (as.map V.ref)) ∧ Paired (fun (t : Addr) (q : V × V) => H' t = some (.tup [q.1, q.2])) as (xs.zip ys) ∧ Inv X pins σ H' { s with heap := h' } := by
  have lz : as.length = (xs.zip ys).length := by rw [List.length_zip]; omega
  have hSn : S ∉ as := fun z => Nat.lt_irrefl _ (hG.above _ z)
  have nd : as.Nodup := List.Pairwise.imp (fun {a b} (h : a < b) => Nat.ne_of_lt h) hG.rise
  have new : ∀ t ∈ as, H t = none := fun t ht => I.hok.fresh (Nat.le_trans hS0 (Nat.le_of_lt (hG.above t ht)))
  have newS : H S = none := I.hok.fresh hS0
  have atP := zPut_at as (xs.zip ys) (upd H S (.lst (as.map V.ref))) lz nd
  have off : ∀ b, b ∉ as → b ≠ S → zPut (upd H S (.lst (as.map V.ref))) as (xs.zip ys) b = H b := fun b h1 h2 => by rw [zPut_off as _ _ h1, upd_ne h2]
  have low : ∀ b o, s.heap.get? b = some o → b ∉ as ∧ b ≠ S := fun b o e => ⟨fun z => absurd (Heap.lt_size e) (Nat.not_lt.mpr (Nat.le_trans hS0 (Nat.le_of_lt (hG.above b z)))), Nat.ne_of_lt (Nat.lt_of_lt_of_le (Heap.lt_size e) hS0)⟩
  have kp : ∀ b u, H b = some u → (zPut (upd H S (.lst (as.map V.ref))) as (xs.zip ys)) b = some u := fun b u e => by
    rw [off b (fun z => by rw [new b z] at e; cases e) (fun z => by rw [z, newS] at e; cases e)]
    exact e
  have eS : zPut (upd H S (.lst (as.map V.ref))) as (xs.zip ys) S = some (.lst (as.map V.ref)) := by rw [zPut_off as _ _ hSn, upd_same]
  refine ⟨zPut (upd H S (.lst (as.map V.ref))) as (xs.zip ys), kp, newS, new, hSn, eS, atP, ?_⟩
  refine I.call' (ch := []) rfl ⟨fun b o q _ _ _ => hk b o q, fun b o q _ _ _ => ⟨o.slots, hk b o q⟩, fun b o q n _ => ?_, fun b o q _ => ⟨o, hk b o q⟩, fun b xs q => kp b _ q, fun b o u q => kp b _ q, fun b ps q => ⟨#[], by rw [kp b _ q]; simp⟩⟩ (fun b u q => ?_) I.bare fun b z => by simp at z
  · obtain ⟨z1, z2⟩ := low b o q
    rw [off b z1 z2]
    exact n
  · by_cases hb : b ∈ as
    · obtain ⟨j, pk, e1, e2, e3⟩ := LiI.paired_ix atP hb
      rw [e3] at q
      cases q
      obtain ⟨x, y, f1, f2, f3⟩ := hG.pairs j b e1
      rw [List.getElem?_zip_eq_some] at e2
      obtain ⟨g1, g2⟩ := e2
      obtain ⟨x', k1, k2⟩ := rx.get g1
      obtain ⟨y', k3, k4⟩ := ry.get g2
      rw [f1] at k1
      rw [f2] at k3
      cases k1
      cases k3
      exact ⟨by show 2 ≤ sizeLine; decide, [x, y], .cons k2 (.cons k4 .nil), ⟨_, f3, rfl, _, rfl⟩⟩
    · by_cases hb2 : b = S
      · rw [hb2] at q ⊢
        rw [eS] at q
        cases q
        refine ⟨by rw [List.length_map]; omega, acc.toList, c, by rw [hacc]; exact LiI.vals_refs as, ?_⟩
        rw [Array.toArray_toList]
        exact hS
      · rw [off b hb hb2] at q
        exact (I.hok b u q).stay (fun d v _ y => hk d v y) (fun d y => kp d _ y) fun d xs y => kp d _ y
theorem zneq_l {a b : Nat} (h : a < b) : a ≠ b := Nat.ne_of_lt h
/-- list(zip(e1, e2)) of two lists -/
theorem pe_listZip (hc : X.calm = true) (hg : Gl X "list") (hm : X.mg "list" = none) (hv : bootBuiltins "list" = some (.type "list")) (hgz : Gl X "zip") (hmz : X.mg "zip" = none) (ha : PA X [e1, e2] ta)
    (hs : starEach [.Call (.Name "zip" p2) [e1, e2] [] pos2] X.env = (false, eval (.Call (.Name "zip" p2) [e1, e2] [] pos2) X.env) :: starEach [] X.env := by rfl)
    (hs2 : starEach [e1, e2] X.env = (false, eval e1 X.env) :: starEach [e2] X.env := by rfl) (hp2 : (backTo pos2 (starEach [e2] X.env)).any (·.1) = false := by rfl) :
    PE X (.Call (.Name "list" p) [.Call (.Name "zip" p2) [e1, e2] [] pos2] [] pos) (tListZip X.K ta) := by
  refine ⟨fun pins s σ H Q I hq => ?_⟩
  refine wpAny_Call_Name_kw (ld_blt I hg hm hv ?_)
  refine PyProof.Rows.callWith_type1 ?_ hs rfl
  rw [hs]
  show wpAny _ _ (spliced ((false, eval (.Call (.Name "zip" p2) [e1, e2] [] pos2) X.env) :: backTo pos (starEach [] X.env))) _ _ s
  refine Calls.spliced_cons ?_
  refine Call_ (ld_blt I hgz hmz PyProof.Rows.boot_zip (PyProof.Rows.callWith_type1 (thn (ha.run pos2 pins s σ H _ I hq) fun us s1 hh => ?_) hs2 hp2))
  obtain ⟨vs, H1, I1, r1, a, b, xs, ys, rfl, hx, hy, hxy, q⟩ := hh
  match us, r1 with
  | [v1, v2], .cons hv1 (.cons hv2 .nil) =>
    cases hv1
    cases hv2
    obtain ⟨its1, rv1, p1, z1⟩ := I1.list hx
    obtain ⟨its2, rv2, p2, z2⟩ := I1.list hy
    have la : a < s1.heap.objs.size := by
      obtain ⟨o, e, _⟩ := p1.isList
      exact Heap.lt_size e
    have lb : b < s1.heap.objs.size := by
      obtain ⟨o, e, _⟩ := p2.isList
      exact Heap.lt_size e
    refine call_zip_2 p1.isList p2.isList fun h' a1 a2 a3 g1 g2 gs k => ?_
    refine Calls.spliced_nil ?_
    have e1 := rv1.length
    have e2 := rv2.length
    have G : ZAp (s1.heap.objs.size + 4) (s1.heap.objs.size + 2) (s1.heap.objs.size + 3) s1.heap.objs.size (s1.heap.objs.size + 1) a b h'.objs.size := by
      have gs' : (h'.objs.size : Nat) = s1.heap.objs.size + 5 := gs
      refine ⟨⟨?_, ?_, ?_, ?_, ?_, ?_, ?_, ?_, ?_, ?_, ?_, ?_, ?_, ?_, ?_, ?_, ?_, ?_⟩, ?_, ?_, ?_, ?_, ?_, ?_, ?_⟩
      all_goals first
        | (with_reducible show (_ : Nat) < (_ : Nat); omega)
        | (show (_ : Nat) ≠ (_ : Nat); omega)
        | exact (by rw [gs]; exact Nat.lt_add_right _ la)
        | exact (by rw [gs]; exact Nat.lt_add_right _ lb)
        | exact zneq_l la
        | exact zneq_l lb
        | exact zneq_l (Nat.lt_add_right _ la)
        | exact zneq_l (Nat.lt_add_right _ lb)
    refine zl_call (s := { s1 with heap := h' }) (xs := its1) (ys := its2) (n := xs.length) (I1.ok.hd hc) G (by omega) (by omega) (by omega) a1 ⟨a2, g1, g2, p1.isList.at fun o e => k _ o e, p2.isList.at fun o e => k _ o e, .inl ⟨a1, _, _, a3⟩⟩ fun h2 acc c as hk hS' hl hG hacc => ?_
    have hkk : ∀ b o, s1.heap.get? b = some o → h2.get? b = some o := fun b o e => by
      have l := Heap.lt_size e
      exact hk b o (zneq_l (Nat.lt_add_right _ l)) (zneq_l (Nat.lt_add_right _ l)) (zneq_l l) (zneq_l (Nat.lt_add_right _ l)) (k b o e)
    obtain ⟨H', k1, k2, k3, k4, k5, k6, J⟩ := zl_laid (S := h'.objs.size) I1 (by omega) (by omega) hxy rv1 rv2 hkk hS' hl hG hacc
    exact ⟨.ref _, H', J, rfl, q H' _ as k1 k2 k3 k4 hl k5 k6⟩
end
section
variable {P : Program} {w : World} {K : PySem.W.Frag} {mg : Str → Option Value} {base : Heap}
variable {C : Addr} {a1 a2 a3 a4 a5 a6 a7 a8 a9 a10 a11 a12 a13 a14 a15 a16 a17 a18 a19 a20 a21 a22 a23 a24 a25 a26 a27 : Addr} {l1 l2 l3 l4 l5 l6 l7 l8 l9 l10 l11 l12 l13 l14 l15 l16 l17 l18 l19 l20 l21 l22 l23 l24 l25 l26 l27 : FuncData}
/-! ### a net's gates -/
theorem flat_rep (m : Nat) (v : V) : (List.replicate m [v]).flatten = List.replicate m v := by
  induction m with
  | zero => rfl
  | succ k ih =>
    rw [List.replicate_succ, List.flatten_cons, ih, List.replicate_succ]
    rfl
def spNetI (C : Addr) : Sp := fun vs H Q _ => ∃ (x dx : Addr) (m : Nat), vs = [.ref x, .int (m : Int)] ∧ H x = some (.ins C dx []) ∧ m ≤ 100000 ∧
  ∀ (p : NetP) (H' : Hp), p.x = x → (∀ y o, H y = some o → y ≠ x → H' y = some o) → (H p.lm = none ∧ H p.ld = none ∧ H p.dn = none) → (∀ Z : List Addr, (∀ z ∈ Z, z ≠ x ∧ H z ≠ none) → NetAt C Z H' p m [] []) → Q .non H'
theorem ok_Net___init__ (B : Bl mg) (L : LL K mg C a1 a2 a3 a4 a5 a6 a7 a8 a9 a10 a11 a12 a13 a14 a15 a16 a17 a18 a19 a20 a21 a22 a23 a24 a25 a26 a27 l1 l2 l3 l4 l5 l6 l7 l8 l9 l10 l11 l12 l13 l14 l15 l16 l17 l18 l19 l20 l21 l22 l23 l24 l25 l26 l27) : FnOk P w K mg base CX0 1 a14 l14 ["self", "many"] (spNetI C) := by
  refine L.F_Net___init__.ok sc_Net___init__ (fun vs H Q E h => ?_) (fun cdv A outer s H vs Q E hr h => ?_)
  · obtain ⟨x, dx, m, rfl, _⟩ := h
    rfl
  obtain ⟨x, dx, m, rfl, hx, hm, q⟩ := h
  refine ⟨_, (pss_cons (ps_fld (pv 0) (pv 1) rfl)
    (pss_cons (ps_fld (pv 0) (pe_lst pa_nil) rfl)
    (pss_cons (ps_fld (pv 0) (pe_op op_rep (pe_lst (pa_cons pe_int pa_nil)) (pv 1)) rfl)
    (pss_one (ps_fld (pv 0) pe_dnewK rfl))))), ?_⟩
  refine ⟨_, rfl, _, rfl, x, C, dx, _, rfl, hx, L.T.cl, L.T.n_input_count, (by show 0 < 1000; decide), ?_⟩
  have a1 : (upd H x (.ins C dx (putF "input_count" (.int (m : Int)) []))) x = some (.ins C dx [("input_count", .int (m : Int))]) := upd_same
  have f1 : ∀ y o, H y = some o → y ≠ x → (upd H x (.ins C dx (putF "input_count" (.int (m : Int)) []))) y = some o := fun y o e n => by rw [upd_ne n]; exact e
  generalize upd H x (.ins C dx (putF "input_count" (.int (m : Int)) [])) = H1 at *
  refine ⟨Nat.zero_le _, fun lm nlm => ?_⟩
  have n1 : x ≠ lm := ne_of_none a1 nlm
  refine ⟨_, rfl, x, C, dx, _, rfl, by rw [upd_ne n1]; exact a1, L.T.cl, L.T.n_made, (by show 1 < 1000; decide), ?_⟩
  have a2 : (upd (upd H1 lm (.lst [])) x (.ins C dx (putF "made" (.ref lm) [("input_count", .int (m : Int))]))) x = some (.ins C dx [("input_count", .int (m : Int)), ("made", .ref lm)]) := upd_same
  have b2 : (upd (upd H1 lm (.lst [])) x (.ins C dx (putF "made" (.ref lm) [("input_count", .int (m : Int))]))) lm = some (.lst []) := by rw [upd_ne n1.symm, upd_same]
  have f2 : ∀ y o, H1 y = some o → y ≠ x → (upd (upd H1 lm (.lst [])) x (.ins C dx (putF "made" (.ref lm) [("input_count", .int (m : Int))]))) y = some o := fun y o e n => by rw [upd_ne n, upd_ne (ne_of_none e nlm)]; exact e
  generalize upd (upd H1 lm (.lst [])) x (.ins C dx (putF "made" (.ref lm) [("input_count", .int (m : Int))])) = H2 at *
  refine ⟨(by show 1 ≤ sizeLine; decide), fun z nz => ?_⟩
  refine ⟨_, rfl, z, (m : Int), _, rfl, rfl, upd_same, by omega, by omega, (by show 1 * ((m : Int)).toNat ≤ _; rw [Int.toNat_natCast, Nat.one_mul]; exact Nat.le_trans hm (by decide)), fun ld nld => ?_⟩
  have e0 : (List.replicate ((m : Int)).toNat [V.int 0]).flatten = (dps m []).map V.int := by
    rw [Int.toNat_natCast]
    show _ = (List.replicate m 0).map V.int
    rw [List.map_replicate]
    exact flat_rep m _
  rw [e0]
  have z1 := ne_of_none a2 nz
  have z2 := ne_of_none b2 nz
  have sz := same_upd (o := .lst [V.int 0]) nz
  have sd := same_upd (o := .lst ((dps m []).map V.int)) nld
  have l1 := ne_of_none (sz _ _ a2) nld
  have l2 := ne_of_none (sz _ _ b2) nld
  refine ⟨_, rfl, x, C, dx, _, rfl, sd _ _ (sz _ _ a2), L.T.cl, L.T.n_depths, (by show 2 < 1000; decide), ?_⟩
  have sA := sz.trans sd
  have b3 := sd _ _ (sz _ _ b2)
  have d3 : (upd (upd H2 z (.lst [V.int 0])) ld (.lst ((dps m []).map V.int))) ld = some (.lst ((dps m []).map V.int)) := upd_same
  generalize upd (upd H2 z (.lst [V.int 0])) ld (.lst ((dps m []).map V.int)) = H3 at *
  have a4 : (upd H3 x (.ins C dx (putF "depths" (.ref ld) [("input_count", .int (m : Int)), ("made", .ref lm)]))) x = some (.ins C dx [("input_count", .int (m : Int)), ("made", .ref lm), ("depths", .ref ld)]) := upd_same
  have f4 : ∀ y o, H3 y = some o → y ≠ x → (upd H3 x (.ins C dx (putF "depths" (.ref ld) [("input_count", .int (m : Int)), ("made", .ref lm)]))) y = some o := fun y o e n => by rw [upd_ne n]; exact e
  have b4 := f4 _ _ b3 n1.symm
  have d4 := f4 _ _ d3 l1.symm
  generalize upd H3 x (.ins C dx (putF "depths" (.ref ld) [("input_count", .int (m : Int)), ("made", .ref lm)])) = H4 at *
  refine fun dn ndn => ?_
  have a5 := ne_of_none a4 ndn
  have b5 := ne_of_none b4 ndn
  have d5 := ne_of_none d4 ndn
  have s5 := same_upd (o := .dK []) ndn
  refine ⟨_, rfl, x, C, dx, _, rfl, s5 _ _ a4, L.T.cl, L.T.n_by_name, (by show 3 < 1000; decide), ?_⟩
  have nn : ∀ (y : Addr), (∀ o, H y = some o → y ≠ x → False) → y ≠ x → H y = none := fun y h n => by
    cases e : H y with
    | none => rfl
    | some o => exact (h o e n).elim
  refine q ⟨x, lm, ld, dn⟩ _ rfl (fun y o e n => ?_) ⟨nn lm (fun o e n => by have := f1 _ _ e n; rw [nlm] at this; cases this) n1.symm, nn ld (fun o e n => by have := sz _ _ (f2 _ _ (f1 _ _ e n) n); rw [nld] at this; cases this) l1.symm, nn dn (fun o e n => by have := f4 _ _ (sA _ _ (f2 _ _ (f1 _ _ e n) n)) n; rw [ndn] at this; cases this) a5.symm⟩ (fun Z hZ => ?_)
  · rw [upd_ne n]
    exact s5 _ _ (f4 _ _ (sA _ _ (f2 _ _ (f1 _ _ e n) n)) n)
  have zz : ∀ a ∈ Z, a ≠ x ∧ a ≠ lm ∧ a ≠ ld ∧ a ≠ dn ∧ H4 a ≠ none := fun a ha => by
    obtain ⟨nx, h0⟩ := hZ a ha
    cases e : H a with
    | none => exact absurd e h0
    | some o =>
      have e1 := f1 _ _ e nx
      have e2 := f2 _ _ e1 nx
      have e4 := f4 _ _ (sA _ _ e2) nx
      exact ⟨nx, ne_of_none e1 nlm, ne_of_none (sz _ _ e2) nld, ne_of_none e4 ndn, some_ne e4⟩
  refine ⟨fun a ha => ?_, l2, ⟨fun h => (zz _ h).1 rfl, fun h => (zz _ h).2.1 rfl, fun h => (zz _ h).2.2.1 rfl, fun h => (zz _ h).2.2.2.1 rfl⟩, dx, [], [], upd_same, ?_, ?_, ?_, ⟨rfl, fun i q g h => by simp at h⟩, rfl, List.nodup_nil, fun i k v n ws h => by simp at h⟩
  · rw [upd_ne (zz a ha).1, upd_ne (zz a ha).2.2.2.1]
    exact (zz a ha).2.2.2.2
  · show (upd (upd H4 dn (.dK [])) x _) lm = _
    rw [upd_ne n1.symm]
    exact s5 _ _ b4
  · show (upd (upd H4 dn (.dK [])) x _) ld = _
    rw [upd_ne l1.symm]
    exact s5 _ _ d4
  · show (upd (upd H4 dn (.dK [])) x _) dn = _
    rw [upd_ne a5.symm, upd_same]
/-! ### gates laid -/
def spNeed (K : PySem.W.Frag) (C : Addr) : Sp := fun vs H Q _ => ∃ (Z : List Addr) (p : NetP) (m : Nat) (gs : List Gt) (nm : List (Str × List Nat)) (t : Addr) (ws : List Nat), vs = [.ref p.x, .ref t] ∧ NetAt C Z H p m gs nm ∧ (SqL K H t (nts ws) ∨ SqT K H t (nts ws)) ∧ (∀ a ∈ ws, a < m + gs.length) ∧
  ∀ H', Same H H' → Q .non H'
theorem ok_Net_need (B : Bl mg) (L : LL K mg C a1 a2 a3 a4 a5 a6 a7 a8 a9 a10 a11 a12 a13 a14 a15 a16 a17 a18 a19 a20 a21 a22 a23 a24 a25 a26 a27 l1 l2 l3 l4 l5 l6 l7 l8 l9 l10 l11 l12 l13 l14 l15 l16 l17 l18 l19 l20 l21 l22 l23 l24 l25 l26 l27) : FnOk P w K mg base CX0 1 a21 l21 ["self", "wires"] (spNeed K C) := by
  refine L.F_Net_need.ok sc_Net_need (fun vs H Q E h => ?_) (fun cdv A outer s H vs Q E hr h => ?_)
  · obtain ⟨Z, p, m, gs, nm, t, ws, rfl, _⟩ := h
    rfl
  obtain ⟨Z, p, m, gs, nm, t, ws, rfl, hN, hT, hw, q⟩ := h
  refine ⟨_, (pss_one (ps_for PassesOwn.never rfl (pi_or (pi_list (pv 1)) (pi_tup (pv 1))) (pg_name (i := 2) sc_Net_need.nd rfl (.inl rfl)) (pss_one (ps_if (pt_not (pt_chain op_le op_lt pe_int (pv 2) (pe_callB call_len_seq (by rfl) B.len PySem.boot_len (pa_cons (pe_fld (pv 0) rfl) pa_nil)))) (pss_one ps_never) pss_nil)))), ?_⟩
  have turn : ∀ (a : Nat), a ∈ ws → ∀ (H9 : Hp) (y : Option V) (T : TS) (D : Ends), Same H H9 → D.nx [some (.ref p.x), some (.ref t), some (.int (a : Int))] H9 → True := fun _ _ _ _ _ _ _ _ => trivial
  rcases hT with hT | hT
  · refine .inl ⟨_, rfl, t, rfl, ⟨_, hT⟩, ?_⟩
    refine for_it (walk_list (K := K) (a := t) (xs := nts ws)) (fun j σ H9 => ∃ y : Option V, σ = [some (.ref p.x), some (.ref t), y] ∧ Same H H9) ⟨_, rfl, Same.refl _⟩ (fun j σ H9 _ ⟨_, _, s9⟩ => s9.seq hT) ?_ ?_
    · rintro j v σ H9 H10 hj ⟨y, rfl, s9⟩ ⟨rfl, hz⟩
      obtain ⟨a, ha, rfl⟩ := nts_at hz
      have la := hw a (List.mem_of_getElem? ha)
      obtain ⟨_, _, _, dx, ps, kvs, e1, e2, e3, _⟩ := hN.same s9
      dsimp only [gName]
      try simp only [L2.start, List.map_cons, List.map_nil, List.length_cons, List.length_nil, List.replicate_succ, List.replicate_zero, List.cons_append, List.nil_append, List.set_cons_succ, List.set_cons_zero, Nat.reduceAdd, Nat.reduceSub, Nat.zero_add]
      refine ⟨_, rfl, _, _, rfl, rfl, _, rfl, ?_⟩
      rw [if_pos (decide_eq_true (by omega))]
      refine ⟨_, rfl, p.x, C, dx, _, _, rfl, e1, L.T.cl, L.T.n_depths, rfl, ?_⟩
      refine ⟨p.ld, _, rfl, .inl (SqL.of e3), _, _, rfl, rfl, _, rfl, ?_⟩
      have lt : decide ((a : Int) < ((((dps m gs).map V.int).length : Nat) : Int)) = true := decide_eq_true (by rw [List.length_map, dps_len]; omega)
      rw [lt]
      refine iteF ?_
      exact ⟨_, rfl, s9⟩
    · rintro σ H9 ⟨y, rfl, s9⟩
      exact q _ s9
  · refine .inr ⟨_, rfl, t, rfl, ⟨_, hT⟩, ?_⟩
    refine for_it (walk_tup (K := K) (a := t) (xs := nts ws)) (fun j σ H9 => ∃ y : Option V, σ = [some (.ref p.x), some (.ref t), y] ∧ Same H H9) ⟨_, rfl, Same.refl _⟩ (fun j σ H9 _ ⟨_, _, s9⟩ => Same.seqT s9 hT) ?_ ?_
    · rintro j v σ H9 H10 hj ⟨y, rfl, s9⟩ ⟨rfl, hz⟩
      obtain ⟨a, ha, rfl⟩ := nts_at hz
      have la := hw a (List.mem_of_getElem? ha)
      obtain ⟨_, _, _, dx, ps, kvs, e1, e2, e3, _⟩ := hN.same s9
      dsimp only [gName]
      try simp only [L2.start, List.map_cons, List.map_nil, List.length_cons, List.length_nil, List.replicate_succ, List.replicate_zero, List.cons_append, List.nil_append, List.set_cons_succ, List.set_cons_zero, Nat.reduceAdd, Nat.reduceSub, Nat.zero_add]
      refine ⟨_, rfl, _, _, rfl, rfl, _, rfl, ?_⟩
      rw [if_pos (decide_eq_true (by omega))]
      refine ⟨_, rfl, p.x, C, dx, _, _, rfl, e1, L.T.cl, L.T.n_depths, rfl, ?_⟩
      refine ⟨p.ld, _, rfl, .inl (SqL.of e3), _, _, rfl, rfl, _, rfl, ?_⟩
      have lt : decide ((a : Int) < ((((dps m gs).map V.int).length : Nat) : Int)) = true := decide_eq_true (by rw [List.length_map, dps_len]; omega)
      rw [lt]
      refine iteF ?_
      exact ⟨_, rfl, s9⟩
    · rintro σ H9 ⟨y, rfl, s9⟩
      exact q _ s9
theorem refs_inj : ∀ {as bs : List Addr}, as.map V.ref = bs.map V.ref → as = bs
  | [], [], _ => rfl
  | [], b :: bs, h => by simp at h
  | a :: as, [], h => by simp at h
  | a :: as, b :: bs, h => by
    rw [List.map_cons, List.map_cons] at h
    injection h with h1 h2
    rw [V.ref.inj h1, refs_inj h2]
theorem NetAt.laid {C : Addr} {Z : List Addr} {H : Hp} {p : NetP} {m : Nat} {gs : List Gt} {nm : List (Str × List Nat)} {q : Addr} {g : Gt} {ps : List Addr}
    (h : NetAt C Z H p m gs nm) (eq : H q = some (.tup g.row)) (nq : q ∉ Z) (em : H p.lm = some (.lst (ps.map V.ref))) :
    NetAt C Z (upd (upd H p.lm (.lst (ps.map V.ref ++ [.ref q]))) p.ld (.lst ((dps m gs).map V.int ++ [.int (dep (dps m gs) g)]))) p m (gs ++ [g]) nm := by
  obtain ⟨a, b, ⟨c1, c2, c3, c4⟩, dx, ps', kvs, e1, e2, e3, e4, ⟨g1, g2⟩, n1, n2, n3⟩ := h
  have hps : ps' = ps := by
    rw [e2] at em
    have := HO.lst.inj (Option.some.inj em)
    exact refs_inj this
  subst hps
  have f : ∀ {y : Addr} {o : HO}, H y = some o → y ≠ p.lm → y ≠ p.ld → (upd (upd H p.lm (.lst (ps'.map V.ref ++ [.ref q]))) p.ld (.lst ((dps m gs).map V.int ++ [.int (dep (dps m gs) g)]))) y = some o := fun e x1 x2 => by
    rw [upd_ne x2, upd_ne x1]
    exact e
  have tn : ∀ {y : Addr} {xs : List V}, H y = some (.tup xs) → y ≠ p.lm ∧ y ≠ p.ld := fun e => ⟨(fun z => by rw [z, e2] at e; cases e), (fun z => by rw [z, e3] at e; cases e)⟩
  refine ⟨fun z hz => ?_, b, ⟨c1, c2, c3, c4⟩, dx, ps' ++ [q], kvs, f e1 (fun z => by rw [z, e2] at e1; cases e1) (fun z => by rw [z, e3] at e1; cases e1), ?_, ?_, f e4 (fun z => by rw [z, e2] at e4; cases e4) (fun z => by rw [z, e3] at e4; cases e4), ⟨?_, fun i r g' hi hg => ?_⟩, n1, n2, fun i k v n ws hi hn => ?_⟩
  · have z1 : z ≠ p.lm := fun y => c2 (y ▸ hz)
    have z2 : z ≠ p.ld := fun y => c3 (y ▸ hz)
    rw [upd_ne z2, upd_ne z1]
    exact a z hz
  · rw [upd_ne b, upd_same, List.map_append]
    rfl
  · rw [upd_same, dps_snoc, List.map_append]
    rfl
  · rw [List.length_append, List.length_append, g1]
    rfl
  · by_cases c : i < ps'.length
    · rw [List.getElem?_append_left c] at hi
      rw [List.getElem?_append_left (by omega)] at hg
      have := g2 i r g' hi hg
      exact ⟨this.1, f this.2 (tn this.2).1 (tn this.2).2⟩
    · have i0 : i = ps'.length := by
        have := (List.getElem?_eq_some_iff.mp hi).1
        rw [List.length_append, List.length_cons, List.length_nil] at this
        omega
      rw [List.getElem?_append_right (by omega), i0, Nat.sub_self] at hi
      rw [List.getElem?_append_right (by omega), i0, g1, Nat.sub_self] at hg
      cases hi
      cases hg
      exact ⟨nq, f eq (tn eq).1 (tn eq).2⟩
  · obtain ⟨ek, l, ev, l1, l2, l3, l4⟩ := n3 i k v n ws hi hn
    exact ⟨ek, l, ev, l1, l2, l3, f l4 l2 l3⟩
def spPutG (C : Addr) : Sp := fun vs H Q _ => ∃ (Z : List Addr) (p : NetP) (m : Nat) (gs : List Gt) (nm : List (Str × List Nat)) (q : Addr) (g : Gt), vs = [.ref p.x, .ref q, .int (dep (dps m gs) g)] ∧ NetAt C Z H p m gs nm ∧ H q = some (.tup g.row) ∧ q ∉ Z ∧ m + gs.length ≤ 500000 ∧
  ∀ H', KeepS [p.lm, p.ld] H H' → NetAt C Z H' p m (gs ++ [g]) nm → Q (.int ((m + gs.length : Nat) : Int)) H'
theorem ok_Net_put_gate (B : Bl mg) (L : LL K mg C a1 a2 a3 a4 a5 a6 a7 a8 a9 a10 a11 a12 a13 a14 a15 a16 a17 a18 a19 a20 a21 a22 a23 a24 a25 a26 a27 l1 l2 l3 l4 l5 l6 l7 l8 l9 l10 l11 l12 l13 l14 l15 l16 l17 l18 l19 l20 l21 l22 l23 l24 l25 l26 l27) : FnOk P w K mg base CX0 1 a20 l20 ["self", "gate", "depth"] (spPutG C) := by
  refine L.F_Net_put_gate.ok sc_Net_put_gate (fun vs H Q E h => ?_) (fun cdv A outer s H vs Q E hr h => ?_)
  · obtain ⟨Z, p, m, gs, nm, q, g, rfl, _⟩ := h
    rfl
  obtain ⟨Z, p, m, gs, nm, a, g, rfl, hN, ea, na, hl, q⟩ := h
  refine ⟨_, (pss_cons (ps_expr (pe_bm PySem.F.plainAttrs_list PySem.F.slot_list_append PySem.F.type_list_append mt_append (pe_fld (pv 0) rfl) (pa_cons (pv 1) pa_nil)))
    (pss_cons (ps_expr (pe_bm PySem.F.plainAttrs_list PySem.F.slot_list_append PySem.F.type_list_append mt_append (pe_fld (pv 0) rfl) (pa_cons (pv 2) pa_nil)))
    (pss_one (ps_ret (pe_op op_sub (pe_callB call_len_seq (by rfl) B.len PySem.boot_len (pa_cons (pe_fld (pv 0) rfl) pa_nil)) pe_int))))), ?_⟩
  obtain ⟨hz, b, _, dx, ps, kvs, e1, e2, e3, e4, g0⟩ := id hN
  have lps : ps.length = gs.length := g0.1.1
  have nx : p.x ≠ p.lm := fun z => by rw [z, e2] at e1; cases e1
  have nx' : p.x ≠ p.ld := fun z => by rw [z, e3] at e1; cases e1
  refine ⟨_, rfl, p.x, C, dx, _, _, rfl, e1, L.T.cl, L.T.n_made, rfl, .inl ⟨rfl, _, SqL.of e2⟩, _, rfl, p.lm, _, _, rfl, rfl, e2, by rw [List.length_map]; exact Nat.lt_of_le_of_lt (by omega) (show 500000 < sizeLine by decide), ?_⟩
  have f1 : (upd H p.lm (.lst (ps.map V.ref ++ [.ref a]))) p.x = _ := (upd_ne nx).trans e1
  have f3 : (upd H p.lm (.lst (ps.map V.ref ++ [.ref a]))) p.ld = _ := (upd_ne b.symm).trans e3
  refine ⟨_, rfl, p.x, C, dx, _, _, rfl, f1, L.T.cl, L.T.n_depths, rfl, .inl ⟨rfl, _, SqL.of f3⟩, _, rfl, p.ld, _, _, rfl, rfl, f3, by rw [List.length_map, dps_len]; exact Nat.lt_of_le_of_lt (by omega) (show 500000 < sizeLine by decide), ?_⟩
  have f1' : (upd (upd H p.lm (.lst (ps.map V.ref ++ [.ref a]))) p.ld (.lst ((dps m gs).map V.int ++ [.int (dep (dps m gs) g)]))) p.x = _ := (upd_ne nx').trans f1
  refine ⟨_, rfl, p.x, C, dx, _, _, rfl, f1', L.T.cl, L.T.n_depths, rfl, ?_⟩
  refine ⟨p.ld, _, rfl, .inl (SqL.of upd_same), _, _, rfl, rfl, ?_⟩
  have w := q _ ⟨fun y o e n => ?_, fun y e => ?_⟩ (hN.laid ea na e2)
  · have ev : (((((dps m gs).map V.int ++ [V.int (dep (dps m gs) g)]).length : Nat) : Int) - 1) = ((m + gs.length : Nat) : Int) := by
      rw [List.length_append, List.length_map, dps_len, List.length_cons, List.length_nil]
      omega
    rw [← ev] at w
    exact w
  · simp only [List.mem_cons, List.not_mem_nil, or_false, not_or] at n
    rw [upd_ne n.2, upd_ne n.1]
    exact e
  · exact ((KeepS.upd (S := [p.lm]) (by simp)).2 y e) |> fun h => (KeepS.upd (S := [p.ld]) (by simp)).2 y h
def spFixed (C : Addr) : Sp := fun vs H Q _ => ∃ (Z : List Addr) (p : NetP) (m : Nat) (gs : List Gt) (nm : List (Str × List Nat)) (b : Nat), vs = [.ref p.x, .int (b : Int)] ∧ NetAt C Z H p m gs nm ∧ m + gs.length ≤ 500000 ∧
  ∀ H', KeepS [p.lm, p.ld] H H' → NetAt C Z H' p m (gs ++ [.fi b]) nm → Q (.int ((m + gs.length : Nat) : Int)) H'
theorem ok_Net_fixed (B : Bl mg) (L : LL K mg C a1 a2 a3 a4 a5 a6 a7 a8 a9 a10 a11 a12 a13 a14 a15 a16 a17 a18 a19 a20 a21 a22 a23 a24 a25 a26 a27 l1 l2 l3 l4 l5 l6 l7 l8 l9 l10 l11 l12 l13 l14 l15 l16 l17 l18 l19 l20 l21 l22 l23 l24 l25 l26 l27) : FnOk P w K mg base CX0 2 a18 l18 ["self", "bit"] (spFixed C) := by
  have G_Net_put_gate : FnOk P w K mg base CX0 1 a20 l20 ["self", "gate", "depth"] (spPutG C) := (ok_Net_put_gate B L).mono (by decide)
  refine L.F_Net_fixed.ok sc_Net_fixed (fun vs H Q E h => ?_) (fun cdv A outer s H vs Q E hr h => ?_)
  · obtain ⟨Z, p, m, gs, nm, b, rfl, _⟩ := h
    rfl
  obtain ⟨Z, p, m, gs, nm, b, rfl, hN, hl, q⟩ := h
  refine ⟨_, (pss_one (ps_ret (pe_meth (pv 0) L.T.cl L.M_Net_put_gate G_Net_put_gate hr L.b_Net_put_gate .nil pass0 (pa_cons (pe_tup (pa_cons pe_str (pa_cons (pv 1) pa_nil))) (pa_cons pe_int pa_nil))))), ?_⟩
  obtain ⟨hz, _, _, dx, _, _, e1, _⟩ := id hN
  refine ⟨_, rfl, p.x, dx, _, rfl, e1, rfl, _, rfl, (by show 2 ≤ sizeLine; decide), fun a na => ?_⟩
  have sa := same_upd (o := .tup (Gt.fi b).row) na
  refine ⟨Z, p, m, gs, nm, a, .fi b, rfl, hN.same sa, upd_same, fun z => hz a z na, hl, fun H' k N' => q H' (.trans (.ofSame sa) k) N'⟩
def spPut (K : PySem.W.Frag) (C : Addr) : Sp := fun vs H Q _ => ∃ (Z : List Addr) (p : NetP) (m : Nat) (gs : List Gt) (nm : List (Str × List Nat)) (k : Str) (t : Addr) (ws : List Nat), vs = [.ref p.x, .str k, .ref t] ∧ NetAt C Z H p m gs nm ∧ SqT K H t (nts ws) ∧ ws ≠ [] ∧ ws.length ≤ 2 ∧ (∀ a ∈ ws, a < m + gs.length) ∧ m + gs.length ≤ 500000 ∧
  ∀ H', KeepS [p.lm, p.ld] H H' → NetAt C Z H' p m (gs ++ [.w k ws]) nm → Q (.int ((m + gs.length : Nat) : Int)) H'
theorem ok_Net_put (B : Bl mg) (L : LL K mg C a1 a2 a3 a4 a5 a6 a7 a8 a9 a10 a11 a12 a13 a14 a15 a16 a17 a18 a19 a20 a21 a22 a23 a24 a25 a26 a27 l1 l2 l3 l4 l5 l6 l7 l8 l9 l10 l11 l12 l13 l14 l15 l16 l17 l18 l19 l20 l21 l22 l23 l24 l25 l26 l27) : FnOk P w K mg base CX0 3 a19 l19 ["self", "kind", "wires"] (spPut K C) := by
  have G_Net_put_gate : FnOk P w K mg base CX0 2 a20 l20 ["self", "gate", "depth"] (spPutG C) := (ok_Net_put_gate B L).mono (by decide)
  have G_Net_need : FnOk P w K mg base CX0 2 a21 l21 ["self", "wires"] (spNeed K C) := (ok_Net_need B L).mono (by decide)
  refine L.F_Net_put.ok sc_Net_put (fun vs H Q E h => ?_) (fun cdv A outer s H vs Q E hr h => ?_)
  · obtain ⟨Z, p, m, gs, nm, k, t, ws, rfl, _⟩ := h
    rfl
  obtain ⟨Z, p, m, gs, nm, k, t, ws, rfl, hN, hT, w0, w2, hw, hl, q⟩ := h
  refine ⟨_, (pss_cons (ps_expr (pe_meth (pv 0) L.T.cl L.M_Net_need G_Net_need hr L.b_Net_need .nil pass0 (pa_cons (pv 2) pa_nil)))
    (pss_cons (ps_set (i := 3) sc_Net_put.nd rfl (.inl rfl) (pe_op op_add pe_int (pe_callB (cr_max rfl) (by rfl) B.max boot_max (pa_cons (pe_lc (own := [("wire", 4)]) (by rfl) sc_Net_put.nd (pi_tup (pv 2)) (blkOk_by (own := [("wire", 4)]) (N := ["self", "kind", "wires", "depth", "wire"]) (sc := defScope s_Net_put) (by decide +kernel)) (fun _ _ _ _ _ => pg_name (i := 4) sc_Net_put.nd rfl (Or.inl rfl)) (fun _ _ _ _ _ => pts_nil) (fun _ _ _ _ _ => (pe_ix (ix_listK (K := K)) (pe_fldK (K := K) (pv 0) rfl) (pv 4) (fun _ _ => rfl)))) pa_nil))))
    (pss_one (ps_ret (pe_meth (pv 0) L.T.cl L.M_Net_put_gate G_Net_put_gate hr L.b_Net_put_gate .nil pass0 (pa_cons (pe_tup (pa_cons (pv 1) (StX.pa_star (pv 2) pa_nil))) (pa_cons (pv 3) pa_nil))))))), ?_⟩
  obtain ⟨hz, _, _, dx, _, _, e1, _⟩ := id hN
  refine ⟨_, rfl, p.x, dx, _, rfl, e1, rfl, _, rfl, Z, p, m, gs, nm, t, ws, rfl, hN, .inr hT, hw, fun H1 s1 => ?_⟩
  have N1 := hN.same s1
  obtain ⟨_, _, _, _, ps, kvs, f1, f2, f3, _⟩ := id N1
  have hT1 := Same.seqT s1 hT
  refine ⟨_, rfl, t, rfl, ⟨_, hT1⟩, fun D nD => ?_⟩
  refine lc_it (walk_tup (K := K) (a := t) (xs := nts ws)) (fun i H9 => Same H1 H9 ∧ H9 D = some (.lst ((ws.take i).map fun a => V.int ((dps m gs).getD a 0)))) ⟨same_upd nD, upd_same⟩ (fun i H9 _ ⟨s9, _⟩ => Same.seqT s9 hT1) ?_ ?_
  · rintro j z H9 H10 hj ⟨s9, eD⟩ ⟨rfl, hz⟩
    obtain ⟨a, ha, rfl⟩ := nts_at hz
    have la := hw a (List.mem_of_getElem? ha)
    refine ⟨rfl, yesT ?_⟩
    have e1' := s9 _ _ f1
    have e3' := s9 _ _ f3
    have hat : atI ((dps m gs).map V.int) (a : Int) = some (.int ((dps m gs).getD a 0)) := atI_nat (by
      rw [List.getElem?_map, List.getElem?_eq_getElem (by rw [dps_len]; exact la)]
      simp [List.getD, List.getElem?_eq_getElem (show a < (dps m gs).length by rw [dps_len]; exact la)])
    refine ⟨_, rfl, p.x, C, _, _, _, rfl, e1', L.T.cl, L.T.n_depths, rfl, _, rfl, p.ld, _, _, _, rfl, rfl, SqL.of e3', hat, ?_⟩
    refine ⟨_, eD, ?_, fun y u e => ?_, ?_⟩
    · rw [List.length_map, List.length_take]
      exact Nat.lt_of_le_of_lt (Nat.min_le_right _ _) (small1000 (by omega))
    · rw [upd_ne (ne_of_none e nD)]
      exact s9 _ _ e
    · rw [upd_same, List.take_add_one, ha, List.map_append]
      rfl
  rintro H2 ⟨s2, eD⟩
  rw [nts_len, List.take_length] at eD
  have mx1 : ∀ y ∈ ws.map (fun a => (dps m gs).getD a 0), 0 ≤ y := fun y hy => by
    obtain ⟨a, ha, rfl⟩ := List.mem_map.mp hy
    have la := hw a ha
    have := dps_nn m gs ((dps m gs)[a]'(by rw [dps_len]; exact la)) (List.getElem_mem _)
    simp only [List.getD, List.getElem?_eq_getElem (show a < (dps m gs).length by rw [dps_len]; exact la), Option.getD_some]
    exact this
  refine ⟨D, ws.map (fun a => (dps m gs).getD a 0), rfl, SqL.of (by rw [List.map_map]; exact eD), by rw [List.length_map]; exact List.length_pos_iff.mpr w0, fun M hM hL => ?_⟩
  have eM := mx_is hM hL mx1
  refine ⟨_, _, rfl, rfl, ?_⟩
  try simp only [L2.start, List.map_cons, List.map_nil, List.length_cons, List.length_nil, List.replicate_succ, List.replicate_zero, List.cons_append, List.nil_append, List.set_cons_succ, List.set_cons_zero, Nat.reduceAdd, Nat.reduceSub, Nat.zero_add]
  have e1' := s2 _ _ f1
  have hT2 := Same.seqT s2 hT1
  refine ⟨_, rfl, p.x, _, _, rfl, e1', rfl, ?_⟩
  try simp only [L2.start, List.map_cons, List.map_nil, List.length_cons, List.length_nil, List.replicate_succ, List.replicate_zero, List.cons_append, List.nil_append, List.set_cons_succ, List.set_cons_zero, Nat.reduceAdd, Nat.reduceSub, Nat.zero_add]
  refine ⟨_, rfl, _, rfl, t, _, rfl, .inl hT2, ?_⟩
  dsimp only [tNil]
  rw [List.append_nil]
  refine ⟨by rw [List.length_cons, nts_len]; exact Nat.le_trans (show ws.length + 1 ≤ 3 by omega) (by decide), fun g ng => ?_⟩
  have sg := same_upd (o := .tup (Gt.w k ws).row) ng
  have ed : (1 + M : Int) = dep (dps m gs) (.w k ws) := by
    show _ = 1 + mx _
    rw [eM]
  have N2 := (N1.same s2).same sg
  refine ⟨_, rfl, Z, p, m, gs, nm, g, .w k ws, by rw [ed]; rfl, N2, upd_same, fun z => N1.1 g z (by
    cases e : H1 g with
    | none => rfl
    | some o =>
      rw [s2 _ _ e] at ng
      cases ng), hl, fun H' k' N' => q H' (.trans (.ofSame ((s1.trans s2).trans sg)) k') N'⟩
def spG2 (C : Addr) (k : Str) : Sp := fun vs H Q _ => ∃ (Z : List Addr) (p : NetP) (m : Nat) (gs : List Gt) (nm : List (Str × List Nat)) (a b : Nat), vs = [.ref p.x, .int (a : Int), .int (b : Int)] ∧ NetAt C Z H p m gs nm ∧ a < m + gs.length ∧ b < m + gs.length ∧ m + gs.length ≤ 500000 ∧
  ∀ H', KeepS [p.lm, p.ld] H H' → NetAt C Z H' p m (gs ++ [.w k [a, b]]) nm → Q (.int ((m + gs.length : Nat) : Int)) H'
theorem ok_Net_both (B : Bl mg) (L : LL K mg C a1 a2 a3 a4 a5 a6 a7 a8 a9 a10 a11 a12 a13 a14 a15 a16 a17 a18 a19 a20 a21 a22 a23 a24 a25 a26 a27 l1 l2 l3 l4 l5 l6 l7 l8 l9 l10 l11 l12 l13 l14 l15 l16 l17 l18 l19 l20 l21 l22 l23 l24 l25 l26 l27) : FnOk P w K mg base CX0 4 a15 l15 ["self", "a", "b"] (spG2 C "both") := by
  have G_Net_put : FnOk P w K mg base CX0 3 a19 l19 ["self", "kind", "wires"] (spPut K C) := (ok_Net_put B L).mono (by decide)
  refine L.F_Net_both.ok sc_Net_both (fun vs H Q E h => ?_) (fun cdv A outer s H vs Q E hr h => ?_)
  · obtain ⟨Z, p, m, gs, nm, a, b, rfl, _⟩ := h
    rfl
  obtain ⟨Z, p, m, gs, nm, a, b, rfl, hN, ha, hb, hl, q⟩ := h
  refine ⟨_, (pss_one (ps_ret (pe_meth (pv 0) L.T.cl L.M_Net_put G_Net_put hr L.b_Net_put .nil pass0 (pa_cons pe_str (pa_cons (pe_tup (pa_cons (pv 1) (pa_cons (pv 2) pa_nil))) pa_nil))))), ?_⟩
  obtain ⟨hz, _, _, dx, _, _, e1, _⟩ := id hN
  refine ⟨_, rfl, p.x, dx, _, rfl, e1, rfl, _, rfl, _, rfl, (by show 2 ≤ sizeLine; decide), fun t nt => ?_⟩
  have st := same_upd (o := .tup [.int (a : Int), .int (b : Int)]) nt
  refine ⟨Z, p, m, gs, nm, "both", t, [a, b], rfl, hN.same st, .inl (.inl upd_same), (fun z => nomatch z), (Nat.le_of_ble_eq_true rfl), fun x hx => ?_, hl, fun H' k N' => q H' (.trans (.ofSame st) k) N'⟩
  simp only [List.mem_cons, List.not_mem_nil, or_false] at hx
  rcases hx with z | z <;> rw [z] <;> assumption
theorem ok_Net_either (B : Bl mg) (L : LL K mg C a1 a2 a3 a4 a5 a6 a7 a8 a9 a10 a11 a12 a13 a14 a15 a16 a17 a18 a19 a20 a21 a22 a23 a24 a25 a26 a27 l1 l2 l3 l4 l5 l6 l7 l8 l9 l10 l11 l12 l13 l14 l15 l16 l17 l18 l19 l20 l21 l22 l23 l24 l25 l26 l27) : FnOk P w K mg base CX0 4 a16 l16 ["self", "a", "b"] (spG2 C "either") := by
  have G_Net_put : FnOk P w K mg base CX0 3 a19 l19 ["self", "kind", "wires"] (spPut K C) := (ok_Net_put B L).mono (by decide)
  refine L.F_Net_either.ok sc_Net_either (fun vs H Q E h => ?_) (fun cdv A outer s H vs Q E hr h => ?_)
  · obtain ⟨Z, p, m, gs, nm, a, b, rfl, _⟩ := h
    rfl
  obtain ⟨Z, p, m, gs, nm, a, b, rfl, hN, ha, hb, hl, q⟩ := h
  refine ⟨_, (pss_one (ps_ret (pe_meth (pv 0) L.T.cl L.M_Net_put G_Net_put hr L.b_Net_put .nil pass0 (pa_cons pe_str (pa_cons (pe_tup (pa_cons (pv 1) (pa_cons (pv 2) pa_nil))) pa_nil))))), ?_⟩
  obtain ⟨hz, _, _, dx, _, _, e1, _⟩ := id hN
  refine ⟨_, rfl, p.x, dx, _, rfl, e1, rfl, _, rfl, _, rfl, (by show 2 ≤ sizeLine; decide), fun t nt => ?_⟩
  have st := same_upd (o := .tup [.int (a : Int), .int (b : Int)]) nt
  refine ⟨Z, p, m, gs, nm, "either", t, [a, b], rfl, hN.same st, .inl (.inl upd_same), (fun z => nomatch z), (Nat.le_of_ble_eq_true rfl), fun x hx => ?_, hl, fun H' k N' => q H' (.trans (.ofSame st) k) N'⟩
  simp only [List.mem_cons, List.not_mem_nil, or_false] at hx
  rcases hx with z | z <;> rw [z] <;> assumption
theorem ok_Net_unlike (B : Bl mg) (L : LL K mg C a1 a2 a3 a4 a5 a6 a7 a8 a9 a10 a11 a12 a13 a14 a15 a16 a17 a18 a19 a20 a21 a22 a23 a24 a25 a26 a27 l1 l2 l3 l4 l5 l6 l7 l8 l9 l10 l11 l12 l13 l14 l15 l16 l17 l18 l19 l20 l21 l22 l23 l24 l25 l26 l27) : FnOk P w K mg base CX0 4 a17 l17 ["self", "a", "b"] (spG2 C "unlike") := by
  have G_Net_put : FnOk P w K mg base CX0 3 a19 l19 ["self", "kind", "wires"] (spPut K C) := (ok_Net_put B L).mono (by decide)
  refine L.F_Net_unlike.ok sc_Net_unlike (fun vs H Q E h => ?_) (fun cdv A outer s H vs Q E hr h => ?_)
  · obtain ⟨Z, p, m, gs, nm, a, b, rfl, _⟩ := h
    rfl
  obtain ⟨Z, p, m, gs, nm, a, b, rfl, hN, ha, hb, hl, q⟩ := h
  refine ⟨_, (pss_one (ps_ret (pe_meth (pv 0) L.T.cl L.M_Net_put G_Net_put hr L.b_Net_put .nil pass0 (pa_cons pe_str (pa_cons (pe_tup (pa_cons (pv 1) (pa_cons (pv 2) pa_nil))) pa_nil))))), ?_⟩
  obtain ⟨hz, _, _, dx, _, _, e1, _⟩ := id hN
  refine ⟨_, rfl, p.x, dx, _, rfl, e1, rfl, _, rfl, _, rfl, (by show 2 ≤ sizeLine; decide), fun t nt => ?_⟩
  have st := same_upd (o := .tup [.int (a : Int), .int (b : Int)]) nt
  refine ⟨Z, p, m, gs, nm, "unlike", t, [a, b], rfl, hN.same st, .inl (.inl upd_same), (fun z => nomatch z), (Nat.le_of_ble_eq_true rfl), fun x hx => ?_, hl, fun H' k N' => q H' (.trans (.ofSame st) k) N'⟩
  simp only [List.mem_cons, List.not_mem_nil, or_false] at hx
  rcases hx with z | z <;> rw [z] <;> assumption
end
section
variable {P : Program} {w : World} {K : PySem.W.Frag} {mg : Str → Option Value} {base : Heap}
variable {C : Addr} {a1 a2 a3 a4 a5 a6 a7 a8 a9 a10 a11 a12 a13 a14 a15 a16 a17 a18 a19 a20 a21 a22 a23 a24 a25 a26 a27 : Addr} {l1 l2 l3 l4 l5 l6 l7 l8 l9 l10 l11 l12 l13 l14 l15 l16 l17 l18 l19 l20 l21 l22 l23 l24 l25 l26 l27 : FuncData}
/-! ### names of a net -/
theorem NmAt.keys {Z : List Addr} {H : Hp} {p : NetP} {kvs : List (Key × V)} {nm : List (Str × List Nat)} (h : NmAt Z H p kvs nm) : kvs.map (·.1) = nm.map fun x => (Sum.inr x.1 : Key) := by
  obtain ⟨h1, h2, h3⟩ := h
  refine List.ext_getElem? fun i => ?_
  rw [List.getElem?_map, List.getElem?_map]
  by_cases c : i < kvs.length
  · have c' : i < nm.length := by omega
    rw [List.getElem?_eq_getElem c, List.getElem?_eq_getElem c']
    have := (h3 i kvs[i].1 kvs[i].2 nm[i].1 nm[i].2 (List.getElem?_eq_getElem c) (List.getElem?_eq_getElem c')).1
    show some kvs[i].1 = some _
    rw [this]
  · rw [List.getElem?_eq_none (by omega), List.getElem?_eq_none (by omega)]
    rfl
theorem valV_out {kvs : List (Key × V)} {k : Key} (h : k ∉ kvs.map (·.1)) : valV kvs k = none := by
  have e := valV_any k kvs
  cases q : valV kvs k with
  | none => rfl
  | some v =>
    rw [q] at e
    obtain ⟨x, hx, hd⟩ := List.any_eq_true.mp e
    exact absurd (List.mem_map.mpr ⟨x, hx, of_decide_eq_true hd⟩) h
theorem valV_at : ∀ {kvs : List (Key × V)} {i : Nat} {k : Key} {v : V}, (kvs.map (·.1)).Nodup → kvs[i]? = some (k, v) → valV kvs k = some v
  | [], i, k, v, _, h => by simp at h
  | q :: kvs, 0, k, v, _, h => by
    cases Option.some.inj h
    exact valV_pos rfl
  | q :: kvs, i + 1, k, v, hn, h => by
    rw [List.map_cons, List.nodup_cons] at hn
    have h' : kvs[i]? = some (k, v) := h
    have : k ∈ kvs.map (·.1) := List.mem_map.mpr ⟨_, List.mem_of_getElem? h', rfl⟩
    rw [valV_neg (fun z => hn.1 (z ▸ this))]
    exact valV_at hn.2 h'
theorem NmAt.nodup {Z : List Addr} {H : Hp} {p : NetP} {kvs : List (Key × V)} {nm : List (Str × List Nat)} (h : NmAt Z H p kvs nm) : (kvs.map (·.1)).Nodup := by
  rw [h.keys]
  have := h.2.1
  rw [show (nm.map fun x => (Sum.inr x.1 : Key)) = (nm.map (·.1)).map Sum.inr from by rw [List.map_map]; rfl]
  exact List.Pairwise.map _ (fun a b n z => n (Sum.inr.inj z)) this
theorem NmAt.out {Z : List Addr} {H : Hp} {p : NetP} {kvs : List (Key × V)} {nm : List (Str × List Nat)} {n : Str} (h : NmAt Z H p kvs nm) (hn : n ∉ nm.map (·.1)) : valV kvs (.inr n) = none := by
  refine valV_out ?_
  rw [h.keys]
  intro z
  obtain ⟨x, hx, e⟩ := List.mem_map.mp z
  exact hn (List.mem_map.mpr ⟨x, hx, Sum.inr.inj e⟩)
theorem NmAt.in_ {Z : List Addr} {H : Hp} {p : NetP} {kvs : List (Key × V)} {nm : List (Str × List Nat)} {i : Nat} {n : Str} {ws : List Nat} (h : NmAt Z H p kvs nm) (hn : nm[i]? = some (n, ws)) : ∃ l, valV kvs (.inr n) = some (.ref l) ∧ H l = some (.lst (nts ws)) := by
  have c : i < kvs.length := by
    have := (List.getElem?_eq_some_iff.mp hn).1
    rw [h.1]
    exact this
  obtain ⟨ek, l, ev, _, _, _, el⟩ := h.2.2 i kvs[i].1 kvs[i].2 n ws (List.getElem?_eq_getElem c) hn
  refine ⟨l, ?_, el⟩
  rw [← ev, ← ek]
  exact valV_at h.nodup (List.getElem?_eq_getElem c)
def spGive (K : PySem.W.Frag) (C : Addr) : Sp := fun vs H Q _ => ∃ (Z : List Addr) (p : NetP) (m : Nat) (gs : List Gt) (nm : List (Str × List Nat)) (n : Str) (t : Addr) (ws : List Nat), vs = [.ref p.x, .str n, .ref t] ∧ NetAt C Z H p m gs nm ∧ n ∉ nm.map (·.1) ∧ (SqL K H t (nts ws) ∨ SqT K H t (nts ws)) ∧ (∀ a ∈ ws, a < m + gs.length) ∧ nm.length ≤ 900 ∧
  ∀ H', KeepS [p.dn] H H' → NetAt C Z H' p m gs (nm ++ [(n, ws)]) → Q .non H'
theorem ok_Net_give (B : Bl mg) (L : LL K mg C a1 a2 a3 a4 a5 a6 a7 a8 a9 a10 a11 a12 a13 a14 a15 a16 a17 a18 a19 a20 a21 a22 a23 a24 a25 a26 a27 l1 l2 l3 l4 l5 l6 l7 l8 l9 l10 l11 l12 l13 l14 l15 l16 l17 l18 l19 l20 l21 l22 l23 l24 l25 l26 l27) : FnOk P w K mg base CX0 2 a22 l22 ["self", "name", "wires"] (spGive K C) := by
  have G_Net_need : FnOk P w K mg base CX0 1 a21 l21 ["self", "wires"] (spNeed K C) := (ok_Net_need B L).mono (by decide)
  refine L.F_Net_give.ok sc_Net_give (fun vs H Q E h => ?_) (fun cdv A outer s H vs Q E hr h => ?_)
  · obtain ⟨Z, p, m, gs, nm, n, t, ws, rfl, _⟩ := h
    rfl
  obtain ⟨Z, p, m, gs, nm, n, t, ws, rfl, hN, hn, hT, hw, hl, q⟩ := h
  refine ⟨_, (pss_cons (ps_if (pt_cmp (pc_din (units1 hr) (pv 1) (pe_fld (pv 0) rfl)) (by rfl)) (pss_one ps_never) pss_nil)
    (pss_cons (ps_expr (pe_meth (pv 0) L.T.cl L.M_Net_need G_Net_need hr L.b_Net_need .nil pass0 (pa_cons (pv 2) pa_nil)))
    (pss_one (ps_dput (units1 hr) (pe_fld (pv 0) rfl) (pv 1) (pe_callTy call_list_of (by rfl) B.list PyProof.Rows.boot_list (pa_cons (pv 2) pa_nil)) rfl)))), ?_⟩
  obtain ⟨hz, hb, _, dx, ps, kvs, e1, e2, e3, e4, g0, n0⟩ := id hN
  refine ⟨_, rfl, _, rfl, p.x, C, dx, _, _, rfl, e1, L.T.cl, L.T.n_by_name, rfl, p.dn, _, rfl, DGet.k (k := .inr n) e4, ?_⟩
  rw [n0.out hn]
  refine ⟨_, rfl, iteF ?_⟩
  dsimp only [tNext]
  refine ⟨_, rfl, p.x, dx, _, rfl, e1, rfl, _, rfl, Z, p, m, gs, nm, t, ws, rfl, hN, hT, hw, fun H1 s1 => ?_⟩
  have N1 := hN.same s1
  obtain ⟨_, _, ⟨c1, c2, c3, c4⟩, dx1, ps1, kvs1, f1, f2, f3, f4, g1, n1⟩ := id N1
  have hT1 : SqL K H1 t (nts ws) ∨ SqT K H1 t (nts ws) := hT.elim (fun y => .inl (s1.seq y)) (fun y => .inr (Same.seqT s1 y))
  refine ⟨_, rfl, t, _, rfl, hT1, fun l nl => ?_⟩
  have sl := same_upd (o := .lst (nts ws)) nl
  refine ⟨_, rfl, p.x, C, dx1, _, _, rfl, sl _ _ f1, L.T.cl, L.T.n_by_name, rfl, _, rfl, p.dn, _, rfl, DPut.k (k := .inr n) (sl _ _ f4) (by rw [n1.1]; exact Nat.lt_of_le_of_lt hl (by decide)), ?_⟩
  rw [putK_new _ (n1.out hn)]
  have nlZ : l ∉ Z := fun z => N1.1 l z nl
  have nlm : l ≠ p.lm := (ne_of_none f2 nl).symm
  have nld : l ≠ p.ld := (ne_of_none f3 nl).symm
  have nln : l ≠ p.dn := (ne_of_none f4 nl).symm
  have N2 := N1.same sl
  have k2 : KeepS [p.dn] (upd H1 l (.lst (nts ws))) (upd (upd H1 l (.lst (nts ws))) p.dn (.dK (kvs1 ++ [(.inr n, .ref l)]))) := .upd (by simp)
  refine q _ ((KeepS.ofSame (s1.trans sl)).trans k2) ?_
  have fr : ∀ {y : Addr} {o : HO}, (upd H1 l (.lst (nts ws))) y = some o → y ≠ p.dn → (upd (upd H1 l (.lst (nts ws))) p.dn (.dK (kvs1 ++ [(.inr n, .ref l)]))) y = some o := fun e z => by
    rw [upd_ne z]
    exact e
  have g4 := sl _ _ f4
  refine ⟨fun z hz' => k2.2 z (N2.1 z hz'), hb, ⟨c1, c2, c3, c4⟩, dx1, ps1, kvs1 ++ [(.inr n, .ref l)], fr (sl _ _ f1) (fun z => by rw [z, f4] at f1; cases f1), fr (sl _ _ f2) (fun z => by rw [z, f4] at f2; cases f2), fr (sl _ _ f3) (fun z => by rw [z, f4] at f3; cases f3), upd_same, ⟨g1.1, fun i r g' hi hg => ?_⟩, ?_⟩
  · have := g1.2 i r g' hi hg
    exact ⟨this.1, fr (sl _ _ this.2) (fun z => by
      have := this.2
      rw [z, f4] at this
      cases this)⟩
  · refine ⟨by rw [List.length_append, List.length_append, n1.1]; rfl, ?_, fun i k v n' ws' hi hn' => ?_⟩
    · rw [List.map_append, List.nodup_append]
      refine ⟨n1.2.1, by simp, fun a ha b hb' => ?_⟩
      have hb' : b = n := by simpa using hb'
      rw [hb']
      exact fun z => hn (z ▸ ha)
    · by_cases c : i < kvs1.length
      · rw [List.getElem?_append_left c] at hi
        rw [List.getElem?_append_left (by rw [← n1.1]; exact c)] at hn'
        obtain ⟨ek, l', ev, l1, l2, l3, l4⟩ := n1.2.2 i k v n' ws' hi hn'
        exact ⟨ek, l', ev, l1, l2, l3, fr (sl _ _ l4) (fun z => by rw [z, f4] at l4; cases l4)⟩
      · have i0 : i = kvs1.length := by
          have := (List.getElem?_eq_some_iff.mp hi).1
          rw [List.length_append, List.length_cons, List.length_nil] at this
          omega
        rw [List.getElem?_append_right (by omega), i0, Nat.sub_self] at hi
        rw [List.getElem?_append_right (by rw [i0, n1.1]; exact Nat.le_refl _), i0, n1.1, Nat.sub_self] at hn'
        cases hi
        cases hn'
        exact ⟨rfl, l, rfl, nlZ, nlm, nld, fr upd_same nln⟩
def spGiven (C : Addr) : Sp := fun vs H Q _ => ∃ (Z : List Addr) (p : NetP) (m : Nat) (gs : List Gt) (nm : List (Str × List Nat)) (i : Nat) (n : Str) (ws : List Nat), vs = [.ref p.x, .str n] ∧ NetAt C Z H p m gs nm ∧ nm[i]? = some (n, ws) ∧
  ∀ t, H t = none → Q (.ref t) (upd H t (.lst (nts ws)))
theorem ok_Net_given (B : Bl mg) (L : LL K mg C a1 a2 a3 a4 a5 a6 a7 a8 a9 a10 a11 a12 a13 a14 a15 a16 a17 a18 a19 a20 a21 a22 a23 a24 a25 a26 a27 l1 l2 l3 l4 l5 l6 l7 l8 l9 l10 l11 l12 l13 l14 l15 l16 l17 l18 l19 l20 l21 l22 l23 l24 l25 l26 l27) : FnOk P w K mg base CX0 1 a23 l23 ["self", "name"] (spGiven C) := by
  refine L.F_Net_given.ok sc_Net_given (fun vs H Q E h => ?_) (fun cdv A outer s H vs Q E hr h => ?_)
  · obtain ⟨Z, p, m, gs, nm, i, n, ws, rfl, _⟩ := h
    rfl
  obtain ⟨Z, p, m, gs, nm, i, n, ws, rfl, hN, hn, q⟩ := h
  refine ⟨_, (pss_cons (ps_if (pt_cmp (pc_dnotin (units1 hr) (pv 1) (pe_fld (pv 0) rfl)) (by rfl)) (pss_one ps_never) pss_nil)
    (pss_one (ps_ret (pe_callTy call_list_of (by rfl) B.list PyProof.Rows.boot_list (pa_cons (pe_dget (units1 hr) (pe_fld (pv 0) rfl) (pv 1) (fun _ _ => rfl)) pa_nil))))), ?_⟩
  obtain ⟨hz, hb, _, dx, ps, kvs, e1, e2, e3, e4, g0, n0⟩ := id hN
  obtain ⟨l, ev, el⟩ := n0.in_ hn
  refine ⟨_, rfl, _, rfl, p.x, C, dx, _, _, rfl, e1, L.T.cl, L.T.n_by_name, rfl, p.dn, _, rfl, DGet.k (k := .inr n) e4, ?_⟩
  rw [ev]
  refine ⟨_, rfl, iteF ?_⟩
  dsimp only [tNext]
  refine ⟨_, rfl, p.x, C, dx, _, _, rfl, e1, L.T.cl, L.T.n_by_name, rfl, _, rfl, p.dn, .ref l, rfl, ?_, ?_⟩
  · rw [← ev]
    exact DGet.k (k := .inr n) e4
  exact ⟨l, _, rfl, .inl (SqL.of el), fun t nt => q t nt⟩
def spNames (C : Addr) : Sp := fun vs H Q _ => ∃ (Z : List Addr) (p : NetP) (m : Nat) (gs : List Gt) (nm : List (Str × List Nat)), vs = [.ref p.x] ∧ NetAt C Z H p m gs nm ∧ nm.length < 64 ∧
  ∀ (ys : List Str) (t : Addr) (H' : Hp), ys.Perm (nm.map (·.1)) → sortedS ys = true → Same H H' → H t = none → H' t = some (.lst (ys.map V.str)) → Q (.ref t) H'
theorem ok_Net_names (B : Bl mg) (L : LL K mg C a1 a2 a3 a4 a5 a6 a7 a8 a9 a10 a11 a12 a13 a14 a15 a16 a17 a18 a19 a20 a21 a22 a23 a24 a25 a26 a27 l1 l2 l3 l4 l5 l6 l7 l8 l9 l10 l11 l12 l13 l14 l15 l16 l17 l18 l19 l20 l21 l22 l23 l24 l25 l26 l27) : FnOk P w K mg base CX0 1 a24 l24 ["self"] (spNames C) := by
  refine L.F_Net_names.ok sc_Net_names (fun vs H Q E h => ?_) (fun cdv A outer s H vs Q E hr h => ?_)
  · obtain ⟨Z, p, m, gs, nm, rfl, _⟩ := h
    rfl
  obtain ⟨Z, p, m, gs, nm, rfl, hN, hl, q⟩ := h
  refine ⟨_, (pss_one (ps_ret (pe_callB cr_sortedS (by rfl) L.z_sorted boot_sorted (pa_cons (pe_callTy (call_listD rfl) (by rfl) B.list PyProof.Rows.boot_list (pa_cons (pe_fld (pv 0) rfl) pa_nil)) pa_nil)))), ?_⟩
  obtain ⟨hz, hb, _, dx, ps, kvs, e1, e2, e3, e4, g0, n0⟩ := id hN
  refine ⟨_, rfl, p.x, C, dx, _, _, rfl, e1, L.T.cl, L.T.n_by_name, rfl, p.dn, kvs, rfl, .inl e4, fun l nl => ?_⟩
  have ek : (kvs.map fun kv => kV kv.1) = (nm.map (·.1)).map V.str := by
    rw [show (kvs.map fun kv => kV kv.1) = (kvs.map (·.1)).map kV from by rw [List.map_map]; rfl, n0.keys, List.map_map, List.map_map]
    rfl
  rw [ek]
  have sl := same_upd (o := .lst ((nm.map (·.1)).map V.str)) nl
  refine ⟨l, _, rfl, SqL.of upd_same, by rw [List.length_map]; exact hl, fun ys t hp hs nt => ?_⟩
  refine q ys t _ hp hs (sl.trans (same_upd nt)) ?_ upd_same
  cases e : H t with
  | none => rfl
  | some o =>
    rw [sl _ _ e] at nt
    cases nt
def spInputs (C : Addr) : Sp := fun vs H Q _ => ∃ (Z : List Addr) (p : NetP) (m : Nat) (gs : List Gt) (nm : List (Str × List Nat)), vs = [.ref p.x] ∧ NetAt C Z H p m gs nm ∧ Q (.int (m : Int)) H
theorem ok_Net_inputs (B : Bl mg) (L : LL K mg C a1 a2 a3 a4 a5 a6 a7 a8 a9 a10 a11 a12 a13 a14 a15 a16 a17 a18 a19 a20 a21 a22 a23 a24 a25 a26 a27 l1 l2 l3 l4 l5 l6 l7 l8 l9 l10 l11 l12 l13 l14 l15 l16 l17 l18 l19 l20 l21 l22 l23 l24 l25 l26 l27) : FnOk P w K mg base CX0 1 a25 l25 ["self"] (spInputs C) := by
  refine L.F_Net_inputs.ok sc_Net_inputs (fun vs H Q E h => ?_) (fun cdv A outer s H vs Q E hr h => ?_)
  · obtain ⟨Z, p, m, gs, nm, rfl, _⟩ := h
    rfl
  obtain ⟨Z, p, m, gs, nm, rfl, hN, q⟩ := h
  refine ⟨_, (pss_one (ps_ret (pe_fld (pv 0) rfl))), ?_⟩
  obtain ⟨hz, hb, _, dx, ps, kvs, e1, _⟩ := id hN
  exact ⟨_, rfl, p.x, C, dx, _, _, rfl, e1, L.T.cl, L.T.n_input_count, rfl, q⟩
def spGates (C : Addr) : Sp := fun vs H Q _ => ∃ (Z : List Addr) (p : NetP) (m : Nat) (gs : List Gt) (nm : List (Str × List Nat)), vs = [.ref p.x] ∧ NetAt C Z H p m gs nm ∧
  ∀ (t : Addr) (ps : List Addr) , H t = none → ps.length = gs.length → (∀ (i : Nat) (r : Addr) (g : Gt), ps[i]? = some r → gs[i]? = some g → H r = some (.tup g.row)) → Q (.ref t) (upd H t (.lst (ps.map V.ref)))
theorem ok_Net_gates (B : Bl mg) (L : LL K mg C a1 a2 a3 a4 a5 a6 a7 a8 a9 a10 a11 a12 a13 a14 a15 a16 a17 a18 a19 a20 a21 a22 a23 a24 a25 a26 a27 l1 l2 l3 l4 l5 l6 l7 l8 l9 l10 l11 l12 l13 l14 l15 l16 l17 l18 l19 l20 l21 l22 l23 l24 l25 l26 l27) : FnOk P w K mg base CX0 1 a26 l26 ["self"] (spGates C) := by
  refine L.F_Net_gates.ok sc_Net_gates (fun vs H Q E h => ?_) (fun cdv A outer s H vs Q E hr h => ?_)
  · obtain ⟨Z, p, m, gs, nm, rfl, _⟩ := h
    rfl
  obtain ⟨Z, p, m, gs, nm, rfl, hN, q⟩ := h
  refine ⟨_, (pss_one (ps_ret (pe_callTy call_list_of (by rfl) B.list PyProof.Rows.boot_list (pa_cons (pe_fld (pv 0) rfl) pa_nil)))), ?_⟩
  obtain ⟨hz, hb, _, dx, ps, kvs, e1, e2, e3, e4, g0, n0⟩ := id hN
  exact ⟨_, rfl, p.x, C, dx, _, _, rfl, e1, L.T.cl, L.T.n_made, rfl, p.lm, _, rfl, .inl (SqL.of e2), fun t nt => q t ps nt g0.1 (fun i r g hi hg => (g0.2 i r g hi hg).2)⟩
end
section
variable {P : Program} {w : World} {K : PySem.W.Frag} {mg : Str → Option Value} {base : Heap}
variable {C : Addr} {a1 a2 a3 a4 a5 a6 a7 a8 a9 a10 a11 a12 a13 a14 a15 a16 a17 a18 a19 a20 a21 a22 a23 a24 a25 a26 a27 : Addr} {l1 l2 l3 l4 l5 l6 l7 l8 l9 l10 l11 l12 l13 l14 l15 l16 l17 l18 l19 l20 l21 l22 l23 l24 l25 l26 l27 : FuncData}
theorem big_lt0 {n : Nat} (h : n ≤ 500000) : n < sizeLine := Nat.lt_of_le_of_lt h (by decide)
/-! ### bits -/
def tb (x : Int) (k : Nat) : Int := x / 2 ^ k % 2
theorem tb_01 (x : Int) (k : Nat) : tb x k = 0 ∨ tb x k = 1 := by
  unfold tb
  omega
theorem tb_succ (x : Int) (k : Nat) : tb x (k + 1) = tb (x / 2) k := by
  unfold tb
  rw [Int.ediv_ediv_of_nonneg (by decide)]
  rw [show (2 : Int) * 2 ^ k = 2 ^ (k + 1) from by rw [GM.pow_s, Int.mul_comm]]
theorem tb_zero (x : Int) : tb x 0 = x % 2 := by
  unfold tb
  rw [Int.pow_zero, Int.ediv_one]
theorem and_bit {a b : Int} (ha : a = 0 ∨ a = 1) (hb : b = 0 ∨ b = 1) : Builtin.bitAnd a b = if a = 1 ∧ b = 1 then 1 else 0 := by
  rcases ha with rfl | rfl <;> rcases hb with rfl | rfl <;> decide
theorem tb_and : ∀ (k : Nat) (x y : Int), tb (Builtin.bitAnd x y) k = Builtin.bitAnd (tb x k) (tb y k)
  | 0, x, y => by
    rw [tb_zero, tb_zero, tb_zero, PySem.W.kbt_halves, and_bit (a := x % 2) (b := y % 2) (by omega) (by omega)]
    split <;> omega
  | k + 1, x, y => by
    rw [tb_succ, tb_succ, tb_succ, ← tb_and k]
    congr 1
    rw [PySem.W.kbt_halves]
    split <;> omega
theorem or_halves (x y : Int) : Builtin.bitOr x y = 2 * Builtin.bitOr (x / 2) (y / 2) + (if x % 2 = 1 ∨ y % 2 = 1 then 1 else 0) := by
  rw [PyProof.Rows.bitOr_and, PyProof.Rows.bitOr_and, PySem.W.kbt_halves]
  split <;> split <;> omega
theorem or_bit {a b : Int} (ha : a = 0 ∨ a = 1) (hb : b = 0 ∨ b = 1) : Builtin.bitOr a b = if a = 1 ∨ b = 1 then 1 else 0 := by
  rcases ha with rfl | rfl <;> rcases hb with rfl | rfl <;> decide
theorem tb_or : ∀ (k : Nat) (x y : Int), tb (Builtin.bitOr x y) k = Builtin.bitOr (tb x k) (tb y k)
  | 0, x, y => by
    rw [tb_zero, tb_zero, tb_zero, or_halves, or_bit (a := x % 2) (b := y % 2) (by omega) (by omega)]
    split <;> omega
  | k + 1, x, y => by
    rw [tb_succ, tb_succ, tb_succ, ← tb_or k]
    congr 1
    rw [or_halves]
    split <;> omega
theorem xor_halves (x y : Int) : Builtin.bitXor x y = 2 * Builtin.bitXor (x / 2) (y / 2) + (if x % 2 = y % 2 then 0 else 1) := by
  rw [bitXor_and, bitXor_and, PySem.W.kbt_halves]
  split <;> split <;> omega
theorem xor_bit {a b : Int} (ha : a = 0 ∨ a = 1) (hb : b = 0 ∨ b = 1) : Builtin.bitXor a b = if a = b then 0 else 1 := by
  rcases ha with rfl | rfl <;> rcases hb with rfl | rfl <;> decide
theorem tb_xor : ∀ (k : Nat) (x y : Int), tb (Builtin.bitXor x y) k = Builtin.bitXor (tb x k) (tb y k)
  | 0, x, y => by
    rw [tb_zero, tb_zero, tb_zero, xor_halves, xor_bit (a := x % 2) (b := y % 2) (by omega) (by omega)]
    split <;> omega
  | k + 1, x, y => by
    rw [tb_succ, tb_succ, tb_succ, ← tb_xor k]
    congr 1
    rw [xor_halves]
    split <;> omega
theorem tb_full : ∀ {n k : Nat}, k < n → tb (2 ^ n - 1) k = 1
  | n + 1, 0, _ => by
    rw [tb_zero, GM.pow_s]
    omega
  | n + 1, k + 1, h => by
    rw [tb_succ, show ((2 : Int) ^ (n + 1) - 1) / 2 = 2 ^ n - 1 from by rw [GM.pow_s]; omega]
    exact tb_full (by omega)
theorem tb_nul (k : Nat) : tb 0 k = 0 := by
  unfold tb
  rw [Int.zero_ediv]
  rfl
theorem tb_mod {n k : Nat} (x : Int) (h : k < n) : tb (x % 2 ^ n) k = tb x k := by
  rw [← PySem.W.kbt_mask, tb_and, tb_full h]
  rcases tb_01 x k with z | z <;> rw [z] <;> decide
/-! ### wires run -/
def gvw (full x y : Int) (k : Str) : Int := if k = "other" then Builtin.bitXor x full else if k = "both" then Builtin.bitAnd x y else if k = "either" then Builtin.bitOr x y else Builtin.bitXor x y
def gv (full : Int) (ws : List Int) : Gt → Int
  | .fi b => if b = 1 then full else 0
  | .w k l => gvw full (ws.getD (l.getD 0 0) 0) (ws.getD (l.getD 1 0) 0) k
def rv (full : Int) (vals : List Int) (gs : List Gt) : List Int := gs.foldl (fun ws g => ws ++ [gv full ws g]) vals
theorem rv_snoc (full : Int) (vals : List Int) (gs : List Gt) (g : Gt) : rv full vals (gs ++ [g]) = rv full vals gs ++ [gv full (rv full vals gs) g] := by
  unfold rv
  rw [List.foldl_append]
  rfl
theorem rv_len : ∀ (gs : List Gt) (full : Int) (vals : List Int), (rv full vals gs).length = vals.length + gs.length
  | [], _, _ => rfl
  | g :: gs, full, vals => by
    have := rv_len gs full (vals ++ [gv full vals g])
    unfold rv at this ⊢
    rw [List.foldl_cons, this, List.length_append, List.length_cons, List.length_cons, List.length_nil]
    omega
theorem getD_map (ws : List Int) (i k : Nat) : (ws.map (tb · k)).getD i 0 = tb (ws.getD i 0) k := by
  simp only [List.getD, List.getElem?_map]
  cases ws[i]? with
  | none => exact (tb_nul k).symm
  | some v => rfl
theorem gv_bit {n k : Nat} (h : k < n) (ws : List Int) (g : Gt) : tb (gv (2 ^ n - 1) ws g) k = gv 1 (ws.map (tb · k)) g := by
  cases g with
  | fi b =>
    show tb (if b = 1 then _ else _) k = if b = 1 then 1 else 0
    split
    · exact tb_full h
    · exact tb_nul k
  | w nm l =>
    show tb (gvw (2 ^ n - 1) _ _ nm) k = gvw 1 _ _ nm
    rw [getD_map, getD_map]
    unfold gvw
    split
    · rw [tb_xor, tb_full h]
    split
    · rw [tb_and]
    split
    · rw [tb_or]
    · rw [tb_xor]
theorem rv_bit {n k : Nat} (h : k < n) : ∀ (gs : List Gt) (vals : List Int), (rv (2 ^ n - 1) vals gs).map (tb · k) = rv 1 (vals.map (tb · k)) gs
  | [], _ => rfl
  | g :: gs, vals => by
    have := rv_bit h gs (vals ++ [gv (2 ^ n - 1) vals g])
    unfold rv at this ⊢
    rw [List.foldl_cons, List.foldl_cons, this, List.map_append, List.map_cons, List.map_nil, gv_bit h]
/-! ### nets run -/
def wf (ds : List Int) : Int := ds.foldl (fun w d => 2 * w + d) 0
theorem wf_snoc (ds : List Int) (d : Int) : wf (ds ++ [d]) = 2 * wf ds + d := by
  unfold wf
  rw [List.foldl_append]
  rfl
theorem at_int46 {xs : List Int} {i : Nat} {x : V} (h : (xs.map V.int)[i]? = some x) : ∃ v, xs[i]? = some v ∧ x = .int v := by
  rw [List.getElem?_map] at h
  cases q : xs[i]? with
  | none => rw [q] at h; cases h
  | some v => rw [q] at h; exact ⟨v, rfl, (Option.some.inj h).symm⟩
def spGateB : Sp := fun vs H Q _ => ∃ (g wl : Addr) (full : Int) (gt : Gt) (ws : List Int), vs = [.ref g, .ref wl, .int full] ∧ H g = some (.tup gt.row) ∧ H wl = some (.lst (ws.map V.int)) ∧ gt.ok ws.length ∧ Q (.int (gv full ws gt)) H
theorem at_getD {ws : List Int} {a : Nat} (h : a < ws.length) : atI (ws.map V.int) (a : Int) = some (.int (ws.getD a 0)) := atI_nat (by
  rw [List.getElem?_map, List.getElem?_eq_getElem h]
  simp [List.getD, List.getElem?_eq_getElem h])
theorem ok_gate_bits (B : Bl mg) (L : LL K mg C a1 a2 a3 a4 a5 a6 a7 a8 a9 a10 a11 a12 a13 a14 a15 a16 a17 a18 a19 a20 a21 a22 a23 a24 a25 a26 a27 l1 l2 l3 l4 l5 l6 l7 l8 l9 l10 l11 l12 l13 l14 l15 l16 l17 l18 l19 l20 l21 l22 l23 l24 l25 l26 l27) : FnOk P w K mg base CX0 1 a6 l6 ["gate", "wires", "full"] spGateB := by
  refine L.F_gate_bits.ok sc_gate_bits (fun vs H Q E h => ?_) (fun cdv A outer s H vs Q E hr h => ?_)
  · obtain ⟨g, wl, full, gt, ws, rfl, _⟩ := h
    rfl
  obtain ⟨g, wl, full, gt, ws, rfl, eg, ew, ok, q⟩ := h
  refine ⟨_, (pss_cons (ps_set (i := 3) sc_gate_bits.nd rfl (.inl rfl) (pe_ix ix_tup (pv 0) pe_int (fun _ _ => rfl)))
    (pss_cons (ps_if (pt_cmpR op_eq (pv 3) pe_str (nomark _)) (pss_one (ps_ret (pe_ifExp (pt_cmpR op_eq (pe_ix ix_tup (pv 0) pe_int (fun _ _ => rfl)) pe_int (nomark _)) (pv 2) pe_int))) pss_nil)
    (pss_cons (ps_set (i := 4) sc_gate_bits.nd rfl (.inl rfl) (pe_ix ix_list (pv 1) (pe_ix ix_tup (pv 0) pe_int (fun _ _ => rfl)) (fun _ _ => rfl)))
    (pss_cons (ps_if (pt_cmpR op_eq (pv 3) pe_str (nomark _)) (pss_one (ps_ret (pe_op op_xor (pv 4) (pv 2)))) pss_nil)
    (pss_cons (ps_set (i := 5) sc_gate_bits.nd rfl (.inl rfl) (pe_ix ix_list (pv 1) (pe_ix ix_tup (pv 0) pe_int (fun _ _ => rfl)) (fun _ _ => rfl)))
    (pss_cons (ps_if (pt_cmpR op_eq (pv 3) pe_str (nomark _)) (pss_one (ps_ret (pe_op op_and (pv 4) (pv 5)))) pss_nil)
    (pss_cons (ps_if (pt_cmpR op_eq (pv 3) pe_str (nomark _)) (pss_one (ps_ret (pe_op op_or (pv 4) (pv 5)))) pss_nil)
    (pss_one (ps_ret (pe_op op_xor (pv 4) (pv 5))))))))))), ?_⟩
  have nS : ∀ {x y : Str}, ¬ x = y → ¬ decide (V.str x = V.str y) = true := fun h z => h (V.str.inj (of_decide_eq_true z))
  cases gt with
  | fi b =>
    refine ⟨_, rfl, g, _, _, _, rfl, rfl, .inl (.inl eg), rfl, ?_⟩
    try simp only [L2.start, List.map_cons, List.map_nil, List.length_cons, List.length_nil, List.replicate_succ, List.replicate_zero, List.cons_append, List.nil_append, List.set_cons_succ, List.set_cons_zero, Nat.reduceAdd, Nat.reduceSub, Nat.zero_add]
    dsimp only [gName]
    try simp only [L2.start, List.map_cons, List.map_nil, List.length_cons, List.length_nil, List.replicate_succ, List.replicate_zero, List.cons_append, List.nil_append, List.set_cons_succ, List.set_cons_zero, Nat.reduceAdd, Nat.reduceSub, Nat.zero_add]
    refine ⟨_, rfl, rfl, _, rfl, ite2 (fun _ => ?_) (fun z => absurd (decide_eq_true rfl) z)⟩
    refine ⟨_, rfl, g, _, _, _, rfl, rfl, .inl (.inl eg), rfl, rfl, _, rfl, ite2 (fun z => ?_) (fun z => ?_)⟩
    · have e : (b : Int) = 1 := V.int.inj (of_decide_eq_true z)
      have q : Q (.int (if b = 1 then full else 0)) H := q
      rw [if_pos (by omega)] at q
      exact ⟨_, rfl, q⟩
    · have e : ¬ (b : Int) = 1 := fun y => z (decide_eq_true (congrArg V.int y))
      have q : Q (.int (if b = 1 then full else 0)) H := q
      rw [if_neg (by omega)] at q
      exact q
  | w k l =>
    have q : Q (.int (gvw full (ws.getD (l.getD 0 0) 0) (ws.getD (l.getD 1 0) 0) k)) H := q
    have nf : ¬ k = "fixed" := by
      rcases ok.1 with ⟨z | z | z, _⟩ | ⟨z, _⟩ <;> rw [z] <;> decide +kernel
    have l0 : 0 < l.length := by
      rcases ok.1 with ⟨_, z⟩ | ⟨_, z⟩ <;> omega
    have ea : (Gt.w k l).row[1]? = some (.int ((l.getD 0 0 : Nat) : Int)) := by
      match l, l0 with
      | a :: l, _ => rfl
    have la : l.getD 0 0 < ws.length := by
      match l, l0, ok with
      | a :: l, _, ok => exact ok.2 a (by simp)
    refine ⟨_, rfl, g, _, _, _, rfl, rfl, .inl (.inl eg), (show atI (Gt.w k l).row 0 = some (.str k) from atI_nat (j := 0) rfl), ?_⟩
    try simp only [L2.start, List.map_cons, List.map_nil, List.length_cons, List.length_nil, List.replicate_succ, List.replicate_zero, List.cons_append, List.nil_append, List.set_cons_succ, List.set_cons_zero, Nat.reduceAdd, Nat.reduceSub, Nat.zero_add]
    dsimp only [gName]
    try simp only [L2.start, List.map_cons, List.map_nil, List.length_cons, List.length_nil, List.replicate_succ, List.replicate_zero, List.cons_append, List.nil_append, List.set_cons_succ, List.set_cons_zero, Nat.reduceAdd, Nat.reduceSub, Nat.zero_add]
    refine ⟨_, rfl, rfl, _, rfl, ite2 (fun z => absurd z (nS nf)) (fun _ => ?_)⟩
    dsimp only [tNext]
    refine ⟨_, rfl, _, rfl, g, _, _, _, rfl, rfl, .inl (.inl eg), (atI_nat (j := 1) ea), wl, _, _, _, rfl, rfl, SqL.of ew, at_getD la, ?_⟩
    try simp only [L2.start, List.map_cons, List.map_nil, List.length_cons, List.length_nil, List.replicate_succ, List.replicate_zero, List.cons_append, List.nil_append, List.set_cons_succ, List.set_cons_zero, Nat.reduceAdd, Nat.reduceSub, Nat.zero_add]
    dsimp only [gName]
    try simp only [L2.start, List.map_cons, List.map_nil, List.length_cons, List.length_nil, List.replicate_succ, List.replicate_zero, List.cons_append, List.nil_append, List.set_cons_succ, List.set_cons_zero, Nat.reduceAdd, Nat.reduceSub, Nat.zero_add]
    unfold gvw at q
    refine ⟨_, rfl, rfl, _, rfl, ite2 (fun z => ?_) (fun z => ?_)⟩
    · rw [if_pos (V.str.inj (of_decide_eq_true z))] at q
      exact ⟨_, rfl, _, rfl, _, _, rfl, rfl, q⟩
    have no : ¬ k = "other" := fun y => z (decide_eq_true (congrArg V.str y))
    rw [if_neg no] at q
    dsimp only [tNext]
    have l2 : l.length = 2 := by
      rcases ok.1 with ⟨_, z⟩ | ⟨z, _⟩
      · exact z
      · exact absurd z no
    have eb : (Gt.w k l).row[2]? = some (.int ((l.getD 1 0 : Nat) : Int)) := by
      match l, l2 with
      | [a, b], _ => rfl
    have lb : l.getD 1 0 < ws.length := by
      match l, l2, ok with
      | [a, b], _, ok => exact ok.2 b (by simp)
    refine ⟨_, rfl, _, rfl, g, _, _, _, rfl, rfl, .inl (.inl eg), (atI_nat (j := 2) eb), wl, _, _, _, rfl, rfl, SqL.of ew, at_getD lb, ?_⟩
    try simp only [L2.start, List.map_cons, List.map_nil, List.length_cons, List.length_nil, List.replicate_succ, List.replicate_zero, List.cons_append, List.nil_append, List.set_cons_succ, List.set_cons_zero, Nat.reduceAdd, Nat.reduceSub, Nat.zero_add]
    dsimp only [gName]
    try simp only [L2.start, List.map_cons, List.map_nil, List.length_cons, List.length_nil, List.replicate_succ, List.replicate_zero, List.cons_append, List.nil_append, List.set_cons_succ, List.set_cons_zero, Nat.reduceAdd, Nat.reduceSub, Nat.zero_add]
    refine ⟨_, rfl, rfl, _, rfl, ite2 (fun z => ?_) (fun z => ?_)⟩
    · rw [if_pos (V.str.inj (of_decide_eq_true z))] at q
      exact ⟨_, rfl, _, rfl, _, _, rfl, rfl, q⟩
    rw [if_neg (fun y => z (decide_eq_true (congrArg V.str y)))] at q
    dsimp only [tNext]
    refine ⟨_, rfl, rfl, _, rfl, ite2 (fun z => ?_) (fun z => ?_)⟩
    · rw [if_pos (V.str.inj (of_decide_eq_true z))] at q
      exact ⟨_, rfl, _, rfl, _, _, rfl, rfl, q⟩
    rw [if_neg (fun y => z (decide_eq_true (congrArg V.str y)))] at q
    dsimp only [tNext]
    exact ⟨_, rfl, _, rfl, _, _, rfl, rfl, q⟩
/-- the rows that a run tells: by name, the wires' values -/
def RunAt (H0 H : Hp) (t : Addr) (ys : List Str) (nm : List (Str × List Nat)) (rs : List Int) : Prop := ∃ ts : List Addr, ts.length = ys.length ∧ H t = some (.lst (ts.map V.ref)) ∧
  ∀ (i : Nat) (u : Addr) (n : Str), ts[i]? = some u → ys[i]? = some n → ∃ (ws : List Nat) (l : Addr), (n, ws) ∈ nm ∧ H0 l = none ∧ H u = some (.tup [.str n, .ref l]) ∧ H l = some (.lst ((ws.map fun a => rs.getD a 0).map V.int))
def spRan (C : Addr) : Sp := fun vs H Q _ => ∃ (Z : List Addr) (p : NetP) (m : Nat) (gs : List Gt) (nm : List (Str × List Nat)) (vl : Addr) (vals : List Int) (n : Nat), vs = [.ref p.x, .ref vl, .int (n : Int)] ∧ NetAt C Z H p m gs nm ∧ H vl = some (.lst (vals.map V.int)) ∧ vals.length = m ∧ n ≤ 5000 ∧ m + gs.length ≤ 400000 ∧ nm.length < 64 ∧
  (∀ (i : Nat) (g : Gt), gs[i]? = some g → g.ok (m + i)) ∧ (∀ x ∈ nm, x.2.length ≤ 900 ∧ ∀ a ∈ x.2, a < m + gs.length) ∧
  ∀ (ys : List Str) (t : Addr) (H' : Hp), ys.Perm (nm.map (·.1)) → sortedS ys = true → Same H H' → RunAt H H' t ys nm (rv (2 ^ n - 1) (vals.map (· % 2 ^ n)) gs) → Q (.ref t) H'
theorem ok_ran (B : Bl mg) (L : LL K mg C a1 a2 a3 a4 a5 a6 a7 a8 a9 a10 a11 a12 a13 a14 a15 a16 a17 a18 a19 a20 a21 a22 a23 a24 a25 a26 a27 l1 l2 l3 l4 l5 l6 l7 l8 l9 l10 l11 l12 l13 l14 l15 l16 l17 l18 l19 l20 l21 l22 l23 l24 l25 l26 l27) : FnOk P w K mg base CX0 2 a5 l5 ["net", "values", "many"] (spRan C) := by
  have G_gate_bits : FnOk P w K mg base CX0 1 a6 l6 ["gate", "wires", "full"] spGateB := (ok_gate_bits B L).mono (by decide)
  have G_Net_gates : FnOk P w K mg base CX0 1 a26 l26 ["self"] (spGates C) := (ok_Net_gates B L).mono (by decide)
  have G_Net_given : FnOk P w K mg base CX0 1 a23 l23 ["self", "name"] (spGiven C) := (ok_Net_given B L).mono (by decide)
  have G_Net_names : FnOk P w K mg base CX0 1 a24 l24 ["self"] (spNames C) := (ok_Net_names B L).mono (by decide)
  refine L.F_ran.ok sc_ran (fun vs H Q E h => ?_) (fun cdv A outer s H vs Q E hr h => ?_)
  · obtain ⟨Z, p, m, gs, nm, vl, vals, n, rfl, _⟩ := h
    rfl
  obtain ⟨Z, p, m, gs, nm, vl, vals, n, rfl, hN, ev, lv, hn, hl, hm, hok, hnm, q⟩ := h
  refine ⟨_, (pss_cons (ps_set (i := 3) sc_ran.nd rfl (.inr rfl) (pe_op op_sub (pe_op op_oneShl pe_int (pv 2)) pe_int))
    (pss_cons (ps_set (i := 4) sc_ran.nd rfl (.inr rfl) (pe_lc (own := [("value", 6)]) (by rfl) sc_ran.nd (pi_list (pv 1)) (blkOk_by (own := [("value", 6)]) (N := ["net", "values", "many", "full", "wires", "gate", "value", "name", "wire"]) (sc := defScope s_ran) (by decide +kernel)) (fun _ _ _ _ _ => pg_name (i := 6) sc_ran.nd rfl (Or.inl rfl)) (fun _ _ _ _ _ => pts_nil) (fun _ _ _ _ _ => (pe_op op_andM (pv 6) (pv 3)))))
    (pss_cons (ps_for PassesOwn.never rfl (pi_list (pe_meth0 (pv 0) L.T.cl L.M_Net_gates G_Net_gates hr L.b_Net_gates .nil pass0)) (pg_name (i := 5) sc_ran.nd rfl (.inl rfl)) (pss_one (ps_expr (pe_bm PySem.F.plainAttrs_list PySem.F.slot_list_append PySem.F.type_list_append mt_append (pv 4) (pa_cons (pe_call G_gate_bits hr (by rfl) L.m_gate_bits L.F_gate_bits.kp L.b_gate_bits .nil pass0 (pa_cons (pv 5) (pa_cons (pv 4) (pa_cons (pv 3) pa_nil)))) pa_nil)))))
    (pss_one (ps_ret (pe_lc (own := [("name", 7)]) (by rfl) sc_ran.nd (pi_list (pe_meth0 (pv 0) L.T.cl L.M_Net_names G_Net_names hr L.b_Net_names .nil pass0)) (blkOk_by (own := [("name", 7)]) (N := ["net", "values", "many", "full", "wires", "gate", "value", "name", "wire"]) (sc := defScope s_ran) (by decide +kernel)) (fun _ _ _ _ _ => pg_name (i := 7) sc_ran.nd rfl (Or.inl rfl)) (fun _ _ _ _ _ => pts_nil) (fun _ _ _ _ _ => (pe_tup (pa_cons (pv 7) (pa_cons (pe_lc (own := [("wire", 8)]) (by rfl) sc_ran.nd (pi_listK (K := K) (pe_meth (pv 0) L.T.cl L.M_Net_given G_Net_given hr L.b_Net_given .nil pass0 (pa_cons (pv 7) pa_nil))) (blkOk_by (own := [("wire", 8)]) (N := ["net", "values", "many", "full", "wires", "gate", "value", "name", "wire"]) (sc := ({ kind := ScopeKind.function, names := [(".0", NameKind.local), ("name", NameKind.local), ("net", NameKind.cell), ("wires", NameKind.cell)], isGenerator := false, isCoroutine := false } : Scope)) (by decide +kernel)) (fun _ _ _ _ _ => pg_name (i := 8) sc_ran.nd rfl (Or.inl rfl)) (fun _ _ _ _ _ => pts_nil) (fun _ _ _ _ _ => (pe_ix (ix_listK (K := K)) (pv 4) (pv 8) (fun _ _ => rfl)))) pa_nil)))))))))), ?_⟩
  refine ⟨_, rfl, n, rfl, rfl, by omega, _, _, rfl, rfl, ?_⟩
  try simp only [L2.start, List.map_cons, List.map_nil, List.length_cons, List.length_nil, List.replicate_succ, List.replicate_zero, List.cons_append, List.nil_append, List.set_cons_succ, List.set_cons_zero, Nat.reduceAdd, Nat.reduceSub, Nat.zero_add]
  refine ⟨_, rfl, vl, rfl, ⟨_, SqL.of ev⟩, fun W nW => ?_⟩
  refine lc_it (walk_list (K := K) (a := vl) (xs := vals.map V.int)) (fun i H9 => Same H H9 ∧ H9 W = some (.lst (((vals.map (· % 2 ^ n)).take i).map V.int))) ⟨same_upd nW, upd_same⟩ (fun i H9 _ ⟨s9, _⟩ => SqL.of (s9 _ _ ev)) ?_ ?_
  · rintro j z H9 H10 hj ⟨s9, eW⟩ ⟨rfl, hz⟩
    obtain ⟨v, hv, rfl⟩ := at_int46 hz
    refine ⟨rfl, yesT ?_⟩
    refine ⟨_, rfl, _, rfl, _, n, rfl, rfl, ?_⟩
    refine ⟨_, eW, ?_, fun y u e => ?_, ?_⟩
    · rw [List.length_map, List.length_take, List.length_map]
      exact Nat.lt_of_le_of_lt (Nat.min_le_right _ _) (big_lt0 (by omega))
    · rw [upd_ne (ne_of_none e nW)]
      exact s9 _ _ e
    · rw [upd_same, List.take_add_one, List.getElem?_map, hv, List.map_append]
      rfl
  rintro H1 ⟨s1, eW⟩
  rw [List.length_map, List.take_of_length_le (by rw [List.length_map]; exact Nat.le_refl _)] at eW
  try simp only [L2.start, List.map_cons, List.map_nil, List.length_cons, List.length_nil, List.replicate_succ, List.replicate_zero, List.cons_append, List.nil_append, List.set_cons_succ, List.set_cons_zero, Nat.reduceAdd, Nat.reduceSub, Nat.zero_add]
  obtain ⟨_, _, _, dx, _, _, e1, _⟩ := id hN
  have nWx : ∀ y o, H y = some o → y ≠ W := fun y o e => ne_of_none e nW
  refine ⟨_, rfl, p.x, dx, _, rfl, s1 _ _ e1, rfl, Z, p, m, gs, nm, rfl, hN.same s1, fun G ps nG lps hps => ?_⟩
  have sG := same_upd (o := .lst (ps.map V.ref)) nG
  have eWG := sG _ _ eW
  have nGW : G ≠ W := (ne_of_none eW nG).symm
  have eG0 : (upd H1 G (.lst (ps.map V.ref))) G = some (.lst (ps.map V.ref)) := upd_same
  have w1 := s1.trans sG
  have hps1 : ∀ (i : Nat) (r : Addr) (g : Gt), ps[i]? = some r → gs[i]? = some g → (upd H1 G (.lst (ps.map V.ref))) r = some (.tup g.row) := fun i r g hi hg => sG _ _ (hps i r g hi hg)
  generalize upd H1 G (.lst (ps.map V.ref)) = H2 at *
  refine ⟨G, rfl, ⟨_, SqL.of eG0⟩, ?_⟩
  refine for_it (walk_list (K := K) (a := G) (xs := ps.map V.ref)) (fun j σ H9 => ∃ y : Option V, σ = [some (.ref p.x), some (.ref vl), some (.int (n : Int)), some (.int (2 ^ n - 1)), some (.ref W), y, none, none, none] ∧ Keep W H2 H9 ∧ H9 W = some (.lst ((rv (2 ^ n - 1) (vals.map (· % 2 ^ n)) (gs.take j)).map V.int))) ⟨_, rfl, Keep.refl _ _, eWG⟩ (fun j σ H9 _ ⟨_, _, k9, _⟩ => SqL.of (k9 _ _ eG0 nGW)) ?_ ?_
  · rintro j z σ H9 H10 hj ⟨y, rfl, k9, eW9⟩ ⟨rfl, hz⟩
    rw [List.getElem?_map] at hz
    have hj' : j < ps.length := by
      rw [List.length_map] at hj
      exact hj
    rw [List.getElem?_eq_getElem hj'] at hz
    cases hz
    have hg : gs[j]? = some gs[j] := List.getElem?_eq_getElem (by omega)
    have er : H10 ps[j] = some (.tup (gs[j]'(by omega)).row) := k9 _ _ (hps1 j _ _ (List.getElem?_eq_getElem hj') hg) (fun z => by
      have := hps1 j _ _ (List.getElem?_eq_getElem hj') hg
      rw [z, eWG] at this
      cases this)
    try simp only [L2.start, List.map_cons, List.map_nil, List.length_cons, List.length_nil, List.replicate_succ, List.replicate_zero, List.cons_append, List.nil_append, List.set_cons_succ, List.set_cons_zero, Nat.reduceAdd, Nat.reduceSub, Nat.zero_add]
    refine ⟨_, rfl, .inl ⟨rfl, _, SqL.of eW9⟩, _, rfl, _, rfl, _, rfl, ps[j], W, _, _, _, rfl, er, eW9, ?_, ?_⟩
    · rw [rv_len, List.length_map, List.length_take, lv, Nat.min_eq_left (by omega)]
      exact hok j _ hg
    refine ⟨W, _, _, rfl, rfl, eW9, ?_, ?_⟩
    · rw [List.length_map, rv_len, List.length_map, List.length_take]
      exact big_lt0 (by omega)
    refine ⟨_, rfl, fun y' u e ny => ?_, ?_⟩
    · rw [upd_ne ny]
      exact k9 _ _ e ny
    · rw [upd_same, List.take_add_one, hg]
      show _ = some (HO.lst ((rv (2 ^ n - 1) (vals.map (· % 2 ^ n)) (gs.take j ++ [gs[j]])).map V.int))
      rw [rv_snoc, List.map_append]
      rfl
  rintro σ H9 ⟨y, rfl, k9, eW9⟩
  rw [List.length_map, List.take_of_length_le (by omega)] at eW9
  have s9 : Same H H9 := fun y u e => k9 _ _ (w1 _ _ e) (nWx _ _ e)
  have N9 := hN.same s9
  obtain ⟨_, _, _, dx9, _, _, f1, _⟩ := id N9
  refine ⟨_, rfl, p.x, dx9, _, rfl, f1, rfl, Z, p, m, gs, nm, rfl, N9, hm, fun ys Y HY hp hs sY nY eY => ?_⟩
  have eWY := sY _ _ eW9
  have NY := N9.same sY
  have lys : ys.length < 64 := by
    have := hp.length_eq
    rw [List.length_map] at this
    omega
  have lrv : (rv (2 ^ n - 1) (vals.map (· % 2 ^ n)) gs).length = m + gs.length := by rw [rv_len, List.length_map, lv]
  refine ⟨Y, rfl, ⟨_, SqL.of eY⟩, fun T nT => ?_⟩
  refine lc_it (walk_list (K := K) (a := Y) (xs := ys.map V.str)) (fun i H5 => Same HY H5 ∧ ∃ ts : List Addr, ts.length = i ∧ H5 T = some (.lst (ts.map V.ref)) ∧ ∀ (k : Nat) (u : Addr) (x : Str), ts[k]? = some u → ys[k]? = some x → ∃ (ws : List Nat) (l : Addr), (x, ws) ∈ nm ∧ H l = none ∧ l ≠ T ∧ H5 u = some (.tup [.str x, .ref l]) ∧ H5 l = some (.lst ((ws.map fun a => (rv (2 ^ n - 1) (vals.map (· % 2 ^ n)) gs).getD a 0).map V.int))) ⟨same_upd nT, [], rfl, upd_same, fun k u x h => by simp at h⟩ (fun i H5 _ ⟨s5, _⟩ => SqL.of (s5 _ _ eY)) ?_ ?_
  · rintro j z H5 H6 hj ⟨s5, ts, lt, eT, hts⟩ ⟨rfl, hz⟩
    rw [List.getElem?_map] at hz
    have hj' : j < ys.length := by
      rw [List.length_map] at hj
      exact hj
    have hy : ys[j]? = some ys[j] := List.getElem?_eq_getElem hj'
    rw [hy] at hz
    cases hz
    have N5 := NY.same s5
    obtain ⟨_, _, _, dx5, _, _, g1, _⟩ := id N5
    obtain ⟨⟨x, ws⟩, hx, ex⟩ := List.mem_map.mp (hp.mem_iff.mp (List.mem_of_getElem? hy))
    obtain ⟨i0, hi0, ei0⟩ := List.getElem_of_mem hx
    have hn0 : nm[i0]? = some (ys[j], ws) := by
      rw [List.getElem?_eq_getElem hi0, ei0, ← ex]
    have hws := hnm _ hx
    have hw1 : ws.length ≤ 900 := hws.1
    refine ⟨rfl, yesT ?_⟩
    refine ⟨_, rfl, _, rfl, p.x, dx5, _, rfl, g1, rfl, _, rfl, Z, p, m, gs, nm, i0, ys[j], ws, rfl, N5, hn0, fun g ng => ?_⟩
    have sg := same_upd (o := .lst (nts ws)) ng
    have eWg := sg _ _ (s5 _ _ eWY)
    have egg : (upd H6 g (.lst (nts ws))) g = some (.lst (nts ws)) := upd_same
    have eTg := sg _ _ eT
    generalize upd H6 g (.lst (nts ws)) = H7 at *
    refine ⟨g, rfl, ⟨_, SqL.of egg⟩, fun D nD => ?_⟩
    refine lc_it (walk_list (K := K) (a := g) (xs := nts ws)) (fun i H8 => Same H7 H8 ∧ H8 D = some (.lst (((ws.map fun a => (rv (2 ^ n - 1) (vals.map (· % 2 ^ n)) gs).getD a 0).take i).map V.int))) ⟨same_upd nD, upd_same⟩ (fun i H8 _ ⟨s8, _⟩ => SqL.of (s8 _ _ egg)) ?_ ?_
    · rintro k z H8 H8' hk ⟨s8, eD⟩ ⟨rfl, hz⟩
      obtain ⟨a, ha, rfl⟩ := nts_at hz
      have la := hws.2 a (List.mem_of_getElem? ha)
      refine ⟨rfl, yesT ?_⟩
      refine ⟨_, rfl, _, rfl, W, _, _, _, rfl, rfl, SqL.of (s8 _ _ eWg), at_getD (by rw [lrv]; exact la), ?_⟩
      refine ⟨_, eD, ?_, fun y u e => ?_, ?_⟩
      · rw [List.length_map, List.length_take, List.length_map]
        exact Nat.lt_of_le_of_lt (Nat.min_le_right _ _) (big_lt0 (by omega))
      · rw [upd_ne (ne_of_none e nD)]
        exact s8 _ _ e
      · rw [upd_same, List.take_add_one, List.getElem?_map, ha, List.map_append]
        rfl
    rintro H8 ⟨s8, eD⟩
    rw [nts_len, List.take_of_length_le (by rw [List.length_map]; exact Nat.le_refl _)] at eD
    have eT8 := s8 _ _ eTg
    have nD0 : H D = none := by
      cases e : H D with
      | none => rfl
      | some o =>
        have := sg _ _ (s5 _ _ (sY _ _ (s9 _ _ e)))
        rw [nD] at this
        cases this
    have nDT : D ≠ T := fun z => by
      rw [z, eTg] at nD
      cases nD
    refine ⟨(by show 2 ≤ sizeLine; decide), fun u nu => ?_⟩
    have su := same_upd (o := .tup [.str ys[j], .ref D]) nu
    have nuT : u ≠ T := fun z => by
      rw [z, eT8] at nu
      cases nu
    have sA : Same H6 (upd H8 u (.tup [.str ys[j], .ref D])) := fun y o e => su _ _ (s8 _ _ (sg _ _ e))
    refine ⟨_, su _ _ eT8, ?_, fun y o e => ?_, ts ++ [u], by rw [List.length_append, lt]; rfl, ?_, fun k u' x' hu hx' => ?_⟩
    · rw [List.length_map, lt]
      exact big_lt0 (by omega)
    · rw [upd_ne (ne_of_none e nT)]
      exact sA _ _ (s5 _ _ e)
    · rw [upd_same, List.map_append]
      rfl
    · by_cases c : k < ts.length
      · rw [List.getElem?_append_left c] at hu
        obtain ⟨ws', l', q1, q0, q2, q3, q4⟩ := hts k u' x' hu hx'
        refine ⟨ws', l', q1, q0, q2, ?_, ?_⟩
        · rw [upd_ne (fun z => by rw [z, eT] at q3; cases q3)]
          exact sA _ _ q3
        · rw [upd_ne q2]
          exact sA _ _ q4
      · have k0 : k = ts.length := by
          have := (List.getElem?_eq_some_iff.mp hu).1
          rw [List.length_append, List.length_cons, List.length_nil] at this
          omega
        rw [List.getElem?_append_right (by omega), k0, Nat.sub_self] at hu
        rw [k0, lt, hy] at hx'
        cases hu
        cases hx'
        refine ⟨ws, D, ?_, nD0, nDT, ?_, ?_⟩
        · rw [← ex]
          exact hx
        · rw [upd_ne nuT]
          exact upd_same
        · rw [upd_ne nDT]
          exact su _ _ eD
  · rintro H5 ⟨s5, ts, lt, eT, hts⟩
    refine q ys T H5 hp hs ((s9.trans sY).trans s5) ⟨ts, by rw [lt, List.length_map], eT, fun k u x hu hx => ?_⟩
    obtain ⟨ws, l, q1, q0, _, q3, q4⟩ := hts k u x hu hx
    exact ⟨ws, l, q1, q0, q3, q4⟩
end
/-! ### one case of a run, in truths -/
def bi (b : Bool) : Int := if b = true then 1 else 0
theorem bi_01 (b : Bool) : bi b = 0 ∨ bi b = 1 := by cases b <;> simp [bi]
def gbw (x y : Bool) (k : Str) : Bool := if k = "other" then !x else if k = "both" then x && y else if k = "either" then x || y else xor x y
def gb (ws : List Bool) : Gt → Bool
  | .fi b => decide (b = 1)
  | .w k l => gbw (ws.getD (l.getD 0 0) false) (ws.getD (l.getD 1 0) false) k
def rb (vals : List Bool) (gs : List Gt) : List Bool := gs.foldl (fun ws g => ws ++ [gb ws g]) vals
theorem rb_app (vals : List Bool) (gs es : List Gt) : rb vals (gs ++ es) = rb (rb vals gs) es := by
  unfold rb
  rw [List.foldl_append]
theorem rb_pre : ∀ (gs : List Gt) (vals : List Bool), ∃ r, rb vals gs = vals ++ r ∧ r.length = gs.length
  | [], vals => ⟨[], (List.append_nil _).symm, rfl⟩
  | g :: gs, vals => by
    obtain ⟨r, e, l⟩ := rb_pre gs (vals ++ [gb vals g])
    refine ⟨gb vals g :: r, ?_, by rw [List.length_cons, List.length_cons, l]⟩
    unfold rb at e ⊢
    rw [List.foldl_cons, e, List.append_assoc]
    rfl
theorem rb_len (gs : List Gt) (vals : List Bool) : (rb vals gs).length = vals.length + gs.length := by
  obtain ⟨r, e, l⟩ := rb_pre gs vals
  rw [e, List.length_append, l]
def wb (vals : List Bool) (gs : List Gt) (a : Nat) : Bool := (rb vals gs).getD a false
theorem getD_app {α : Type} {xs ys : List α} {a : Nat} {d : α} (h : a < xs.length) : (xs ++ ys).getD a d = xs.getD a d := by
  simp only [List.getD, List.getElem?_append_left h]
theorem wb_app {vals : List Bool} {gs es : List Gt} {a : Nat} (h : a < vals.length + gs.length) : wb vals (gs ++ es) a = wb vals gs a := by
  unfold wb
  rw [rb_app]
  obtain ⟨r, e, _⟩ := rb_pre es (rb vals gs)
  rw [e]
  exact getD_app (by rw [rb_len]; exact h)
theorem wb_new {vals : List Bool} {gs : List Gt} {g : Gt} {n : Nat} (h : n = vals.length + gs.length) : wb vals (gs ++ [g]) n = gb (rb vals gs) g := by
  unfold wb
  rw [rb_app]
  show (rb vals gs ++ [gb (rb vals gs) g]).getD n false = _
  have : n = (rb vals gs).length := by rw [rb_len]; exact h
  subst this
  simp [List.getD]
theorem wb_both {vals : List Bool} {gs : List Gt} {a b n : Nat} (h : n = vals.length + gs.length) : wb vals (gs ++ [.w "both" [a, b]]) n = (wb vals gs a && wb vals gs b) := by
  rw [wb_new h]
  show gbw _ _ "both" = _
  unfold gbw
  rw [if_neg (by decide), if_pos rfl]
  rfl
theorem wb_either {vals : List Bool} {gs : List Gt} {a b n : Nat} (h : n = vals.length + gs.length) : wb vals (gs ++ [.w "either" [a, b]]) n = (wb vals gs a || wb vals gs b) := by
  rw [wb_new h]
  show gbw _ _ "either" = _
  unfold gbw
  rw [if_neg (by decide), if_neg (by decide), if_pos rfl]
  rfl
theorem wb_unlike {vals : List Bool} {gs : List Gt} {a b n : Nat} (h : n = vals.length + gs.length) : wb vals (gs ++ [.w "unlike" [a, b]]) n = (xor (wb vals gs a) (wb vals gs b)) := by
  rw [wb_new h]
  show gbw _ _ "unlike" = _
  unfold gbw
  rw [if_neg (by decide), if_neg (by decide), if_neg (by decide)]
  rfl
theorem wb_other {vals : List Bool} {gs : List Gt} {a n : Nat} (h : n = vals.length + gs.length) : wb vals (gs ++ [.w "other" [a]]) n = !(wb vals gs a) := by
  rw [wb_new h]
  show gbw _ _ "other" = _
  unfold gbw
  rw [if_pos rfl]
  rfl
theorem wb_fixed {vals : List Bool} {gs : List Gt} {b n : Nat} (h : n = vals.length + gs.length) : wb vals (gs ++ [.fi b]) n = decide (b = 1) := wb_new h
/-! ### nets that grow -/
def GsOk (m : Nat) (gs : List Gt) : Prop := ∀ (i : Nat) (g : Gt), gs[i]? = some g → g.ok (m + i)
def Ext (m : Nat) (gs gs' : List Gt) (n : Nat) : Prop := (∃ e, gs' = gs ++ e ∧ e.length ≤ n) ∧ (GsOk m gs → GsOk m gs')
theorem Ext.refl {m : Nat} {gs : List Gt} : Ext m gs gs 0 := ⟨⟨[], (List.append_nil _).symm, Nat.le_refl _⟩, id⟩
theorem Ext.trans {m : Nat} {gs g1 g2 : List Gt} {a b : Nat} (h : Ext m gs g1 a) (k : Ext m g1 g2 b) : Ext m gs g2 (a + b) := by
  obtain ⟨⟨e1, rfl, l1⟩, o1⟩ := h
  obtain ⟨⟨e2, rfl, l2⟩, o2⟩ := k
  exact ⟨⟨e1 ++ e2, List.append_assoc .., by rw [List.length_append]; omega⟩, fun o => o2 (o1 o)⟩
theorem Ext.mono {m : Nat} {gs g1 : List Gt} {a b : Nat} (h : Ext m gs g1 a) (k : a ≤ b) : Ext m gs g1 b := ⟨h.1.imp fun _ x => ⟨x.1, Nat.le_trans x.2 k⟩, h.2⟩
theorem Ext.one {m : Nat} {gs : List Gt} {g : Gt} (h : g.ok (m + gs.length)) : Ext m gs (gs ++ [g]) 1 := by
  refine ⟨⟨[g], rfl, Nat.le_refl _⟩, fun o i g' hi => ?_⟩
  by_cases c : i < gs.length
  · rw [List.getElem?_append_left c] at hi
    exact o i g' hi
  · rw [List.getElem?_append_right (by omega)] at hi
    have : i - gs.length = 0 := by
      have := (List.getElem?_eq_some_iff.mp hi).1
      rw [List.length_singleton] at this
      omega
    rw [this] at hi
    cases hi
    rw [show i = gs.length by omega]
    exact h
theorem Ext.len {m : Nat} {gs g1 : List Gt} {a : Nat} (h : Ext m gs g1 a) : gs.length ≤ g1.length ∧ g1.length ≤ gs.length + a := by
  obtain ⟨⟨e1, rfl, l1⟩, o1⟩ := h
  rw [List.length_append]
  omega
theorem Ext.wb {m : Nat} {gs g1 : List Gt} {a : Nat} (h : Ext m gs g1 a) {vals : List Bool} (hv : vals.length = m) {w : Nat} (hw : w < m + gs.length) : GZ.wb vals g1 w = GZ.wb vals gs w := by
  obtain ⟨⟨e1, rfl, l1⟩, o1⟩ := h
  exact wb_app (by rw [hv]; exact hw)
theorem Ext.wbs {m : Nat} {gs g1 : List Gt} {a : Nat} (h : Ext m gs g1 a) {vals : List Bool} (hv : vals.length = m) {ws : List Nat} (hw : ∀ w ∈ ws, w < m + gs.length) : ws.map (GZ.wb vals g1) = ws.map (GZ.wb vals gs) := List.map_congr_left fun w m' => h.wb hv (hw w m')
theorem Ext.both {m : Nat} {gs : List Gt} {a b : Nat} (ha : a < m + gs.length) (hb : b < m + gs.length) : Ext m gs (gs ++ [.w "both" [a, b]]) 1 := .one ⟨.inl ⟨.inl rfl, rfl⟩, by simp only [List.mem_cons, List.not_mem_nil, or_false]; rintro x (rfl | rfl) <;> assumption⟩
theorem Ext.either {m : Nat} {gs : List Gt} {a b : Nat} (ha : a < m + gs.length) (hb : b < m + gs.length) : Ext m gs (gs ++ [.w "either" [a, b]]) 1 := .one ⟨.inl ⟨.inr (.inl rfl), rfl⟩, by simp only [List.mem_cons, List.not_mem_nil, or_false]; rintro x (rfl | rfl) <;> assumption⟩
theorem Ext.unlike {m : Nat} {gs : List Gt} {a b : Nat} (ha : a < m + gs.length) (hb : b < m + gs.length) : Ext m gs (gs ++ [.w "unlike" [a, b]]) 1 := .one ⟨.inl ⟨.inr (.inr rfl), rfl⟩, by simp only [List.mem_cons, List.not_mem_nil, or_false]; rintro x (rfl | rfl) <;> assumption⟩
theorem Ext.other {m : Nat} {gs : List Gt} {a : Nat} (ha : a < m + gs.length) : Ext m gs (gs ++ [.w "other" [a]]) 1 := .one ⟨.inr ⟨rfl, rfl⟩, by simp only [List.mem_cons, List.not_mem_nil, or_false]; rintro x rfl; assumption⟩
theorem Ext.fixed {m : Nat} {gs : List Gt} {b : Nat} (hb : b ≤ 1) : Ext m gs (gs ++ [.fi b]) 1 := .one hb
theorem fold_inv {α β : Type} (P : Nat → β → Prop) (step : β → α → β) : ∀ (l : List α) (b : β), P 0 b → (∀ (i : Nat) (x : α) (b : β), l[i]? = some x → P i b → P (i + 1) (step b x)) → P l.length (l.foldl step b)
  | [], b, h, _ => h
  | x :: l, b, h, hs => fold_inv (fun i => P (i + 1)) step l (step b x) (hs 0 x b rfl h) fun i y b hi => hs (i + 1) y b hi
theorem fold_take {α β : Type} (step : β → α → β) {l : List α} {i : Nat} {x : α} (h : l[i]? = some x) (b : β) : (l.take (i + 1)).foldl step b = step ((l.take i).foldl step b) x := by
  rw [List.take_add_one, h, List.foldl_append]
  rfl
/-! ### numbers of bits, the greatest ahead -/
def numB (bs : List Bool) : Nat := bs.foldl (fun n b => 2 * n + b.toNat) 0
theorem numB_fold : ∀ (bs : List Bool) (k : Nat), bs.foldl (fun n b => 2 * n + b.toNat) k = k * 2 ^ bs.length + numB bs
  | [], k => by simp [numB]
  | b :: bs, k => by
    unfold numB
    rw [List.foldl_cons, List.foldl_cons, numB_fold bs, numB_fold bs (2 * 0 + b.toNat), List.length_cons, Nat.pow_succ, Nat.mul_comm (2 ^ bs.length) 2, ← Nat.mul_assoc, Nat.add_mul, Nat.add_mul, Nat.mul_comm k 2]
    omega
theorem numB_nil : numB [] = 0 := rfl
theorem numB_app (xs ys : List Bool) : numB (xs ++ ys) = numB xs * 2 ^ ys.length + numB ys := by
  unfold numB
  rw [List.foldl_append, numB_fold]
  rfl
theorem numB_cons (b : Bool) (bs : List Bool) : numB (b :: bs) = b.toNat * 2 ^ bs.length + numB bs := numB_app [b] bs |>.trans (by cases b <;> simp [numB])
theorem numB_snoc (bs : List Bool) (b : Bool) : numB (bs ++ [b]) = 2 * numB bs + b.toNat := by
  rw [numB_app]
  cases b <;> simp [numB] <;> omega
theorem numB_lt : ∀ bs : List Bool, numB bs < 2 ^ bs.length
  | [] => by decide
  | b :: bs => by
    have := numB_lt bs
    rw [numB_cons, List.length_cons, Nat.pow_succ]
    cases b <;> simp <;> omega
theorem numB_rep (n : Nat) : numB (List.replicate n false) = 0 := by
  induction n with
  | zero => rfl
  | succ k ih => rw [List.replicate_succ, numB_cons, ih]; simp
theorem numB_zero : ∀ {bs : List Bool}, numB bs = 0 → ∀ b ∈ bs, b = false
  | [], _, b, h => nomatch h
  | x :: bs, e, b, h => by
    rw [numB_cons] at e
    have hp : 0 < 2 ^ bs.length := Nat.pow_pos (by decide)
    cases x with
    | true => simp at e
    | false =>
      rcases List.mem_cons.mp h with rfl | h
      · rfl
      · exact numB_zero (by simpa using e) b h
theorem wf_num (bs : List Bool) : wf (bs.map bi) = (numB bs : Int) := by
  have key : ∀ (bs : List Bool) (n : Nat), (bs.map bi).foldl (fun w d => 2 * w + d) (n : Int) = ((bs.foldl (fun n b => 2 * n + b.toNat) n : Nat) : Int) := by
    intro bs
    induction bs with
    | nil => intro n; rfl
    | cons b bs ih =>
      intro n
      rw [List.map_cons, List.foldl_cons, List.foldl_cons, ← ih]
      congr 1
      cases b <;> simp [bi]
  exact key bs 0
/-! ### many cases at once -/
theorem tb_bi (x : Int) (k : Nat) : tb x k = bi (decide (tb x k = 1)) := by
  rcases tb_01 x k with h | h <;> rw [h] <;> decide
theorem gv_gb (ws : List Bool) (g : Gt) : gv 1 (ws.map bi) g = bi (gb ws g) := by
  have hg : ∀ i, (ws.map bi).getD i 0 = bi (ws.getD i false) := fun i => by
    simp only [List.getD, List.getElem?_map]
    cases ws[i]? <;> rfl
  cases g with
  | fi b =>
    show (if b = 1 then (1 : Int) else 0) = bi (decide (b = 1))
    by_cases c : b = 1 <;> simp [c, bi]
  | w k l =>
    show gvw 1 _ _ k = bi (gbw _ _ k)
    rw [hg, hg]
    generalize ws.getD (l.getD 0 0) false = x
    generalize ws.getD (l.getD 1 0) false = y
    unfold gvw gbw
    by_cases c1 : k = "other"
    · rw [if_pos c1, if_pos c1]; cases x <;> decide
    rw [if_neg c1, if_neg c1]
    by_cases c2 : k = "both"
    · rw [if_pos c2, if_pos c2]; cases x <;> cases y <;> decide
    rw [if_neg c2, if_neg c2]
    by_cases c3 : k = "either"
    · rw [if_pos c3, if_pos c3]; cases x <;> cases y <;> decide
    rw [if_neg c3, if_neg c3]
    cases x <;> cases y <;> decide
theorem rv_rb : ∀ (gs : List Gt) (vals : List Bool), rv 1 (vals.map bi) gs = (rb vals gs).map bi
  | [], _ => rfl
  | g :: gs, vals => by
    have := rv_rb gs (vals ++ [gb vals g])
    unfold rv rb at this ⊢
    rw [List.foldl_cons, List.foldl_cons, ← this, List.map_append, List.map_cons, List.map_nil, gv_gb]
def bitsOf (vals : List Int) (k : Nat) : List Bool := vals.map fun v => decide (tb v k = 1)
theorem bitsOf_len (vals : List Int) (k : Nat) : (bitsOf vals k).length = vals.length := by
  unfold bitsOf
  rw [List.length_map]
theorem rv_case {n k : Nat} (h : k < n) (gs : List Gt) (vals : List Int) (a : Nat) : tb ((rv (2 ^ n - 1) (vals.map (· % 2 ^ n)) gs).getD a 0) k = bi (wb (bitsOf vals k) gs a) := by
  rw [← getD_map, rv_bit h, List.map_map, show (vals.map ((tb · k) ∘ (· % 2 ^ n))) = (bitsOf vals k).map bi from by
    unfold bitsOf
    rw [List.map_map]
    exact List.map_congr_left fun v _ => (tb_mod v h).trans (tb_bi v k), rv_rb]
  unfold wb
  simp only [List.getD, List.getElem?_map]
  cases (rb (bitsOf vals k) gs)[a]? <;> rfl
/-! ### wires of parts, what they come to -/
structure W1 (m : Nat) (gs : List Gt) (n : Nat) (s : List Gt × Nat) (f : (Nat → Bool) → Bool) : Prop where
  ext : Ext m gs s.1 n
  lt : s.2 < m + s.1.length
  val : ∀ vals : List Bool, vals.length = m → wb vals s.1 s.2 = f (wb vals gs)
structure WL (m : Nat) (gs : List Gt) (n : Nat) (s : List Gt × List Nat) (f : (Nat → Bool) → List Bool) : Prop where
  ext : Ext m gs s.1 n
  lt : ∀ w ∈ s.2, w < m + s.1.length
  val : ∀ vals : List Bool, vals.length = m → s.2.map (wb vals s.1) = f (wb vals gs)
theorem len1 {m : Nat} {gs : List Gt} {g : Gt} : m + gs.length < m + (gs ++ [g]).length := by
  rw [List.length_append, List.length_singleton]
  omega
theorem lt1 {m a : Nat} {gs : List Gt} {g : Gt} (h : a < m + gs.length) : a < m + (gs ++ [g]).length := Nat.lt_trans h len1
/-! ### sums, products, orders of wires -/
theorem mem_zipR {os ts : List Nat} {p : Nat × Nat} (h : p ∈ os.reverse.zip ts.reverse) : p.1 ∈ os ∧ p.2 ∈ ts := ⟨List.mem_reverse.mp (List.of_mem_zip h).1, List.mem_reverse.mp (List.of_mem_zip h).2⟩
theorem zipR_len {os ts : List Nat} (h : os.length = ts.length) : (os.reverse.zip ts.reverse).length = os.length := by
  rw [List.length_zip, List.length_reverse, List.length_reverse]
  omega
theorem zipR_map (e : Nat → Bool) (os ts : List Nat) : (os.reverse.zip ts.reverse).map (fun p => (e p.1, e p.2)) = (os.map e).reverse.zip (ts.map e).reverse := by
  rw [← List.map_reverse, ← List.map_reverse, List.zip_map]
  rfl
theorem numB_rev_snoc (xs : List Bool) (b : Bool) : numB (xs ++ [b]).reverse = b.toNat * 2 ^ xs.length + numB xs.reverse := by
  rw [List.reverse_append, List.reverse_singleton, List.singleton_append, numB_cons, List.length_reverse]
theorem fst_zip' {α β : Type} : ∀ {l : List α} {r : List β}, l.length = r.length → (l.zip r).map (·.1) = l
  | [], [], _ => rfl
  | a :: l, b :: r, h => congrArg (a :: ·) (fst_zip' (Nat.succ.inj h))
theorem snd_zip' {α β : Type} : ∀ {l : List α} {r : List β}, l.length = r.length → (l.zip r).map (·.2) = r
  | [], [], _ => rfl
  | a :: l, b :: r, h => congrArg (b :: ·) (snd_zip' (Nat.succ.inj h))
def adF (s : List Bool × Bool) (p : Bool × Bool) : List Bool × Bool := (s.1 ++ [xor (xor p.1 p.2) s.2], (p.1 && p.2) || (xor p.1 p.2 && s.2))
def sumB (os ts : List Bool) (c : Bool) : List Bool := ((os.reverse.zip ts.reverse).foldl adF ([], c)).2 :: ((os.reverse.zip ts.reverse).foldl adF ([], c)).1.reverse
theorem adF_num (c : Bool) (ps : List (Bool × Bool)) : (ps.foldl adF ([], c)).1.length = ps.length ∧ numB (ps.foldl adF ([], c)).1.reverse + 2 ^ ps.length * (ps.foldl adF ([], c)).2.toNat = numB (ps.map (·.1)).reverse + numB (ps.map (·.2)).reverse + c.toNat := by
  have h := fold_inv (fun i (s : List Bool × Bool) => s.1.length = i ∧ numB s.1.reverse + 2 ^ i * s.2.toNat = numB ((ps.take i).map (·.1)).reverse + numB ((ps.take i).map (·.2)).reverse + c.toNat) adF ps ([], c) ⟨rfl, by simp [numB]⟩ (fun i p s hp ⟨h1, h2⟩ => by
    obtain ⟨hi, e⟩ := List.getElem?_eq_some_iff.mp hp
    have lt : (ps.take i).length = i := by rw [List.length_take]; omega
    refine ⟨by show (s.1 ++ [_]).length = _; rw [List.length_append, h1]; rfl, ?_⟩
    rw [List.take_add_one, hp]
    show numB (s.1 ++ [_]).reverse + 2 ^ (i + 1) * ((p.1 && p.2) || (xor p.1 p.2 && s.2)).toNat = numB ((ps.take i ++ [p]).map (·.1)).reverse + numB ((ps.take i ++ [p]).map (·.2)).reverse + c.toNat
    rw [List.map_append, List.map_append]
    show numB (s.1 ++ [_]).reverse + _ = numB ((ps.take i).map (·.1) ++ [p.1]).reverse + numB ((ps.take i).map (·.2) ++ [p.2]).reverse + _
    rw [numB_rev_snoc, numB_rev_snoc, numB_rev_snoc, h1, List.length_map, List.length_map, lt, Nat.pow_succ]
    generalize numB ((ps.take i).map (·.1)).reverse = A at *
    generalize numB ((ps.take i).map (·.2)).reverse = B at *
    generalize numB s.1.reverse = D at *
    generalize 2 ^ i = K at *
    generalize s.2 = d at *
    generalize p.1 = a
    generalize p.2 = b
    cases a <;> cases b <;> cases d <;> simp at h2 ⊢ <;> omega)
  rw [List.take_of_length_le (Nat.le_refl _)] at h
  exact h
theorem sumB_num {os ts : List Bool} {c : Bool} (h : os.length = ts.length) : numB (sumB os ts c) = numB os + numB ts + c.toNat := by
  have hz : (os.reverse.zip ts.reverse).length = os.length := by rw [List.length_zip, List.length_reverse, List.length_reverse]; omega
  obtain ⟨h1, h2⟩ := adF_num c (os.reverse.zip ts.reverse)
  rw [fst_zip' (by simpa using h), snd_zip' (by simpa using h), List.reverse_reverse, List.reverse_reverse] at h2
  unfold sumB
  rw [numB_cons, List.length_reverse, h1]
  rw [Nat.mul_comm] at h2
  omega
theorem sumB_len {os ts : List Bool} {c : Bool} (h : os.length = ts.length) : (sumB os ts c).length = os.length + 1 := by
  have hz : (os.reverse.zip ts.reverse).length = os.length := by rw [List.length_zip, List.length_reverse, List.length_reverse]; omega
  obtain ⟨h1, _⟩ := adF_num c (os.reverse.zip ts.reverse)
  unfold sumB
  rw [List.length_cons, List.length_reverse, h1, hz]
def suS (m : Nat) (s : List Gt × List Nat × Nat) (p : Nat × Nat) : List Gt × List Nat × Nat :=
  let g1 := s.1 ++ [.w "unlike" [p.1, p.2]]
  let g2 := g1 ++ [.w "unlike" [m + s.1.length, s.2.2]]
  let g3 := g2 ++ [.w "both" [p.1, p.2]]
  let g4 := g3 ++ [.w "both" [m + s.1.length, s.2.2]]
  let g5 := g4 ++ [.w "either" [m + g2.length, m + g3.length]]
  (g5, s.2.1 ++ [m + g1.length], m + g4.length)
def sumF (m : Nat) (gs : List Gt) (ps : List (Nat × Nat)) (c : Nat) : List Gt × List Nat × Nat := ps.foldl (suS m) (gs, [], c)
def sumW (m : Nat) (gs : List Gt) (os ts : List Nat) (c : Nat) : List Gt × List Nat := ((sumF m gs (os.reverse.zip ts.reverse) c).1, (sumF m gs (os.reverse.zip ts.reverse) c).2.2 :: (sumF m gs (os.reverse.zip ts.reverse) c).2.1.reverse)
theorem sumF_ok {m : Nat} {gs : List Gt} {ps : List (Nat × Nat)} {c : Nat} (hw : ∀ p ∈ ps, p.1 < m + gs.length ∧ p.2 < m + gs.length) (hc : c < m + gs.length) : ∀ i, i ≤ ps.length → ∀ s, s = sumF m gs (ps.take i) c → Ext m gs s.1 (5 * i) ∧ s.1.length = gs.length + 5 * i ∧ s.2.1.length = i ∧ (∀ w ∈ s.2.1, w < m + s.1.length) ∧ s.2.2 < m + s.1.length ∧ ∀ vals : List Bool, vals.length = m → (s.2.1.map (wb vals s.1), wb vals s.1 s.2.2) = ((ps.take i).map fun p => (wb vals gs p.1, wb vals gs p.2)).foldl adF ([], wb vals gs c) := by
  intro i
  induction i with
  | zero => exact fun _ s e => by subst e; exact ⟨.refl, rfl, rfl, (fun _ z => nomatch z), hc, fun vals _ => rfl⟩
  | succ i ih =>
    intro hi s e
    obtain ⟨p, hp⟩ : ∃ p, ps[i]? = some p := ⟨ps[i], List.getElem?_eq_getElem (by omega)⟩
    have es : sumF m gs (ps.take (i + 1)) c = suS m (sumF m gs (ps.take i) c) p := fold_take _ hp _
    obtain ⟨h1, hl, ht, h2, h4, h3⟩ := ih (by omega) _ rfl
    rw [e, es]
    clear e es
    generalize sumF m gs (ps.take i) c = s at *
    obtain ⟨q1, q2⟩ := hw p (List.mem_of_getElem? hp)
    have l := h1.len
    obtain ⟨g1, eg1⟩ : ∃ g, g = s.1 ++ [.w "unlike" [p.1, p.2]] := ⟨_, rfl⟩
    obtain ⟨g2, eg2⟩ : ∃ g, g = g1 ++ [.w "unlike" [m + s.1.length, s.2.2]] := ⟨_, rfl⟩
    obtain ⟨g3, eg3⟩ : ∃ g, g = g2 ++ [.w "both" [p.1, p.2]] := ⟨_, rfl⟩
    obtain ⟨g4, eg4⟩ : ∃ g, g = g3 ++ [.w "both" [m + s.1.length, s.2.2]] := ⟨_, rfl⟩
    obtain ⟨g5, eg5⟩ : ∃ g, g = g4 ++ [.w "either" [m + g2.length, m + g3.length]] := ⟨_, rfl⟩
    have hs : suS m s p = (g5, s.2.1 ++ [m + g1.length], m + g4.length) := by rw [eg5, eg4, eg3, eg2, eg1]; rfl
    have l1 : g1.length = s.1.length + 1 := by rw [eg1]; simp
    have l2 : g2.length = s.1.length + 2 := by rw [eg2]; simp [l1]
    have l3 : g3.length = s.1.length + 3 := by rw [eg3]; simp [l2]
    have l4 : g4.length = s.1.length + 4 := by rw [eg4]; simp [l3]
    have l5 : g5.length = s.1.length + 5 := by rw [eg5]; simp [l4]
    have e1 : Ext m s.1 g1 1 := eg1 ▸ .unlike (by omega) (by omega)
    have e2 : Ext m g1 g2 1 := eg2 ▸ .unlike (by omega) (by omega)
    have e3 : Ext m g2 g3 1 := eg3 ▸ .both (by omega) (by omega)
    have e4 : Ext m g3 g4 1 := eg4 ▸ .both (by omega) (by omega)
    have e5 : Ext m g4 g5 1 := eg5 ▸ .either (by omega) (by omega)
    have e35 := (e3.trans e4).trans e5
    have e25 := e2.trans e35
    have e := e1.trans e25
    rw [hs]
    refine ⟨(h1.trans e).mono (by omega), by show g5.length = _; omega, by show (s.2.1 ++ [_]).length = _; rw [List.length_append, ht]; rfl, fun a ha => ?_, by show m + g4.length < m + g5.length; omega, fun vals hv => ?_⟩
    · rcases List.mem_append.mp ha with z | z
      · have := h2 a z
        show a < m + g5.length
        omega
      · rw [List.mem_singleton.mp z]
        show m + g1.length < m + g5.length
        omega
    · have ef : ((ps.take (i + 1)).map (fun p => (wb vals gs p.1, wb vals gs p.2))).foldl adF ([], wb vals gs c) = adF (((ps.take i).map (fun p => (wb vals gs p.1, wb vals gs p.2))).foldl adF ([], wb vals gs c)) (wb vals gs p.1, wb vals gs p.2) := by
        rw [List.take_add_one, hp, List.map_append, List.foldl_append]
        rfl
      rw [ef, ← h3 vals hv]
      have v1 : wb vals g1 (m + s.1.length) = xor (wb vals gs p.1) (wb vals gs p.2) := by
        rw [eg1, wb_unlike (hv ▸ rfl), h1.wb hv q1, h1.wb hv q2]
      have v2 : wb vals g2 (m + g1.length) = xor (xor (wb vals gs p.1) (wb vals gs p.2)) (wb vals s.1 s.2.2) := by
        rw [eg2, wb_unlike (hv ▸ rfl), v1, e1.wb hv h4]
      have v3 : wb vals g3 (m + g2.length) = (wb vals gs p.1 && wb vals gs p.2) := by
        rw [eg3, wb_both (hv ▸ rfl), (e1.trans e2).wb hv (by omega), (e1.trans e2).wb hv (by omega), h1.wb hv q1, h1.wb hv q2]
      have v4 : wb vals g4 (m + g3.length) = (xor (wb vals gs p.1) (wb vals gs p.2) && wb vals s.1 s.2.2) := by
        rw [eg4, wb_both (hv ▸ rfl), (e2.trans e3).wb hv (by omega), ((e1.trans e2).trans e3).wb hv h4, v1]
      have v5 : wb vals g5 (m + g4.length) = ((wb vals gs p.1 && wb vals gs p.2) || (xor (wb vals gs p.1) (wb vals gs p.2) && wb vals s.1 s.2.2)) := by
        rw [eg5, wb_either (hv ▸ rfl), e4.wb hv (by omega), v3, v4]
      show ((s.2.1 ++ [m + g1.length]).map (wb vals g5), wb vals g5 (m + g4.length)) = (s.2.1.map (wb vals s.1) ++ [_], _)
      rw [List.map_append, e.wbs hv h2, v5]
      congr 1
      congr 1
      show [_] = [_]
      congr 1
      rw [e35.wb hv (by omega), v2]
theorem sumW_ok {m : Nat} {gs : List Gt} {os ts : List Nat} {c : Nat} (hl : os.length = ts.length) (ho : ∀ w ∈ os, w < m + gs.length) (ht : ∀ w ∈ ts, w < m + gs.length) (hc : c < m + gs.length) : WL m gs (5 * os.length) (sumW m gs os ts c) (fun e => sumB (os.map e) (ts.map e) (e c)) := by
  obtain ⟨h1, _, _, h2, h4, h3⟩ := sumF_ok (ps := os.reverse.zip ts.reverse) (fun p hp => ⟨ho _ (mem_zipR hp).1, ht _ (mem_zipR hp).2⟩) hc _ (Nat.le_refl _) _ rfl
  rw [List.take_length] at h1 h2 h4 h3
  rw [zipR_len hl] at h1
  unfold sumW
  generalize sumF m gs (os.reverse.zip ts.reverse) c = s at *
  refine ⟨h1, fun w hw => ?_, fun vals hv => ?_⟩
  · rcases List.mem_cons.mp hw with z | z
    · exact z ▸ h4
    · exact h2 w (List.mem_reverse.mp z)
  · show (s.2.2 :: s.2.1.reverse).map (wb vals s.1) = _
    have h := h3 vals hv
    unfold sumB
    rw [← zipR_map, ← h, List.map_cons, List.map_reverse]
theorem sumW_len {m : Nat} {gs : List Gt} {os ts : List Nat} {c : Nat} (hl : os.length = ts.length) (ho : ∀ w ∈ os, w < m + gs.length) (ht : ∀ w ∈ ts, w < m + gs.length) (hc : c < m + gs.length) : (sumW m gs os ts c).2.length = os.length + 1 := by
  have := congrArg List.length ((sumW_ok hl ho ht hc).val (List.replicate m false) (by simp))
  rw [List.length_map, sumB_len (by rw [List.length_map, List.length_map, hl]), List.length_map] at this
  exact this
/-! ### less -/
/-! ### depths -/
def dpW (m : Nat) (gs : List Gt) (w : Nat) : Int := (dps m gs).getD w 0
theorem dpW_app {m w : Nat} : ∀ (es gs : List Gt), w < m + gs.length → dpW m (gs ++ es) w = dpW m gs w
  | [], gs, _ => by rw [List.append_nil]
  | g :: es, gs, h => by
    rw [show gs ++ g :: es = (gs ++ [g]) ++ es by simp, dpW_app es (gs ++ [g]) (lt1 h)]
    unfold dpW
    rw [dps_snoc]
    exact getD_app (by rw [dps_len]; exact h)
theorem Ext.dp {m n w : Nat} {gs g1 : List Gt} (h : Ext m gs g1 n) (hw : w < m + gs.length) : dpW m g1 w = dpW m gs w := by
  obtain ⟨⟨e, rfl, _⟩, _⟩ := h
  exact dpW_app e gs hw
theorem dpW_in {m w : Nat} (gs : List Gt) (h : w < m) : dpW m gs w = 0 := by
  have := dpW_app (m := m) (w := w) gs [] (by simpa using h)
  rw [List.nil_append] at this
  rw [this]
  show (List.replicate m (0 : Int)).getD w 0 = 0
  simp [List.getD, List.getElem?_replicate, h]
theorem dpW_new {m a b n : Nat} {gs : List Gt} {k : Str} {d : Int} (h : n = m + gs.length) (d0 : 0 ≤ d) (ha : dpW m gs a ≤ d) (hb : dpW m gs b ≤ d) : dpW m (gs ++ [.w k [a, b]]) n ≤ d + 1 := by
  subst h
  unfold dpW at *
  rw [dps_snoc]
  have e : (dps m gs ++ [dep (dps m gs) (.w k [a, b])]).getD (m + gs.length) 0 = dep (dps m gs) (.w k [a, b]) := by
    rw [← dps_len m gs]
    simp [List.getD]
  rw [e]
  show 1 + mx [(dps m gs).getD a 0, (dps m gs).getD b 0] ≤ d + 1
  have := (mx_fold [(dps m gs).getD a 0, (dps m gs).getD b 0] 0).2.2
  unfold mx
  rcases this with z | z
  · rw [z]
    omega
  · simp only [List.mem_cons, List.not_mem_nil, or_false] at z
    rcases z with z | z <;> rw [z] <;> omega
/-! ### gates of two wires each -/
def hvS (m : Nat) (k : Str) (s : List Gt × List Nat) (p : Nat × Nat) : List Gt × List Nat := (s.1 ++ [.w k [p.1, p.2]], s.2 ++ [m + s.1.length])
def hvF (m : Nat) (k : Str) (gs : List Gt) (ps : List (Nat × Nat)) : List Gt × List Nat := ps.foldl (hvS m k) (gs, [])
theorem wb_two {vals : List Bool} {gs : List Gt} {a b n : Nat} {k : Str} (h : n = vals.length + gs.length) : wb vals (gs ++ [.w k [a, b]]) n = gbw (wb vals gs a) (wb vals gs b) k := by
  rw [wb_new h]
  rfl
theorem hvF_ok {m : Nat} {k : Str} {gs : List Gt} {ps : List (Nat × Nat)} {D : Prop} {d : Int} (hk : k = "both" ∨ k = "unlike") (d0 : 0 ≤ d) (hw : ∀ p ∈ ps, p.1 < m + gs.length ∧ p.2 < m + gs.length) (hD : D → ∀ p ∈ ps, dpW m gs p.1 ≤ d ∧ dpW m gs p.2 ≤ d) : ∀ i, i ≤ ps.length → ∀ s, s = hvF m k gs (ps.take i) → Ext m gs s.1 i ∧ s.1.length = gs.length + i ∧ s.2.length = i ∧ ∀ (j w : Nat) (p : Nat × Nat), s.2[j]? = some w → ps[j]? = some p → w < m + s.1.length ∧ (D → dpW m s.1 w ≤ d + 1) ∧ ∀ vals : List Bool, vals.length = m → wb vals s.1 w = gbw (wb vals gs p.1) (wb vals gs p.2) k := by
  intro i
  induction i with
  | zero => exact fun _ s e => by subst e; exact ⟨.refl, rfl, rfl, fun j w p h => by simp [hvF] at h⟩
  | succ i ih =>
    intro hi s e
    obtain ⟨p, hp⟩ : ∃ p, ps[i]? = some p := ⟨ps[i], List.getElem?_eq_getElem (by omega)⟩
    have es : hvF m k gs (ps.take (i + 1)) = hvS m k (hvF m k gs (ps.take i)) p := fold_take _ hp _
    obtain ⟨h1, hl, ht, h2⟩ := ih (by omega) _ rfl
    rw [e, es]
    clear e es
    generalize hvF m k gs (ps.take i) = s at *
    have hm := List.mem_of_getElem? hp
    obtain ⟨q1, q2⟩ := hw p hm
    have e1 : Ext m s.1 (s.1 ++ [.w k [p.1, p.2]]) 1 := .one ⟨.inl ⟨by rcases hk with z | z <;> rw [z] <;> simp, rfl⟩, by simp only [List.mem_cons, List.not_mem_nil, or_false]; rintro x (rfl | rfl) <;> omega⟩
    have l1 : (s.1 ++ [Gt.w k [p.1, p.2]]).length = s.1.length + 1 := by simp
    refine ⟨h1.trans e1, by show (s.1 ++ [_]).length = _; omega, by show (s.2 ++ [_]).length = _; rw [List.length_append, ht]; rfl, fun j w p' hj hp' => ?_⟩
    replace hj : (s.2 ++ [m + s.1.length])[j]? = some w := hj
    show w < m + (s.1 ++ [_]).length ∧ (D → dpW m (s.1 ++ [_]) w ≤ d + 1) ∧ ∀ vals : List Bool, vals.length = m → wb vals (s.1 ++ [_]) w = _
    by_cases c : j < s.2.length
    · rw [List.getElem?_append_left c] at hj
      obtain ⟨a1, a2, a3⟩ := h2 j w p' hj hp'
      exact ⟨by omega, fun x => by rw [e1.dp a1]; exact a2 x, fun vals hv => (e1.wb hv a1).trans (a3 vals hv)⟩
    · have j0 : j = s.2.length := by
        have := (List.getElem?_eq_some_iff.mp hj).1
        rw [List.length_append, List.length_cons, List.length_nil] at this
        omega
      rw [List.getElem?_append_right (by omega), j0, Nat.sub_self] at hj
      cases hj
      rw [j0, ht, hp] at hp'
      cases hp'
      exact ⟨by omega, fun x => dpW_new rfl d0 (by rw [h1.dp q1]; exact (hD x _ hm).1) (by rw [h1.dp q2]; exact (hD x _ hm).2), fun vals hv => by
        rw [wb_two (by rw [hv]), h1.wb hv q1, h1.wb hv q2]⟩
/-! ### what is carried out of some places -/
def sgB (g p : Nat → Bool) (lo : Nat) : Nat → Bool
  | 0 => g lo
  | d + 1 => g (lo + (d + 1)) || (p (lo + (d + 1)) && sgB g p lo d)
def spB (p : Nat → Bool) (lo : Nat) : Nat → Bool
  | 0 => p lo
  | d + 1 => p (lo + (d + 1)) && spB p lo d
theorem sg_split (g p : Nat → Bool) (lo d1 : Nat) : ∀ d2, sgB g p lo (d1 + 1 + d2) = (sgB g p (lo + d1 + 1) d2 || (spB p (lo + d1 + 1) d2 && sgB g p lo d1))
  | 0 => rfl
  | d2 + 1 => by
    show (g (lo + (d1 + 1 + d2 + 1)) || (p (lo + (d1 + 1 + d2 + 1)) && sgB g p lo (d1 + 1 + d2))) = ((g (lo + d1 + 1 + (d2 + 1)) || (p (lo + d1 + 1 + (d2 + 1)) && sgB g p (lo + d1 + 1) d2)) || ((p (lo + d1 + 1 + (d2 + 1)) && spB p (lo + d1 + 1) d2) && sgB g p lo d1))
    rw [sg_split g p lo d1 d2, show lo + (d1 + 1 + d2 + 1) = lo + d1 + 1 + (d2 + 1) by omega]
    cases g (lo + d1 + 1 + (d2 + 1)) <;> cases p (lo + d1 + 1 + (d2 + 1)) <;> cases sgB g p (lo + d1 + 1) d2 <;> rfl
theorem sp_split (p : Nat → Bool) (lo d1 : Nat) : ∀ d2, spB p lo (d1 + 1 + d2) = (spB p (lo + d1 + 1) d2 && spB p lo d1)
  | 0 => rfl
  | d2 + 1 => by
    show (p (lo + (d1 + 1 + d2 + 1)) && spB p lo (d1 + 1 + d2)) = ((p (lo + d1 + 1 + (d2 + 1)) && spB p (lo + d1 + 1) d2) && spB p lo d1)
    rw [sp_split p lo d1 d2, show lo + (d1 + 1 + d2 + 1) = lo + d1 + 1 + (d2 + 1) by omega, Bool.and_assoc]
abbrev Spn := Nat × Option Nat
structure Sp1 (m : Nat) (gs : List Gt) (gf pf : List Bool → Nat → Bool) (D : Prop) (d : Int) (z i : Nat) (s : Spn) : Prop where
  lt : s.1 < m + gs.length
  non : s.2 = none ↔ i < z
  ltp : ∀ w, s.2 = some w → w < m + gs.length
  dp : D → dpW m gs s.1 ≤ d ∧ ∀ w, s.2 = some w → dpW m gs w ≤ d
  val : ∀ vals : List Bool, vals.length = m → wb vals gs s.1 = sgB (gf vals) (pf vals) (i / z * z) (i % z)
  valp : ∀ vals : List Bool, vals.length = m → ∀ w, s.2 = some w → wb vals gs w = spB (pf vals) (i / z * z) (i % z)
section
variable {m n z i : Nat} {gs g1 : List Gt} {gf pf : List Bool → Nat → Bool} {D : Prop} {d : Int} {s : Spn}
theorem Sp1.ext (h : Sp1 m gs gf pf D d z i s) (e : Ext m gs g1 n) : Sp1 m g1 gf pf D d z i s :=
  ⟨by have := e.len; have := h.lt; omega, h.non, fun w hw => by have := e.len; have := h.ltp w hw; omega, fun x => ⟨by rw [e.dp h.lt]; exact (h.dp x).1, fun w hw => by rw [e.dp (h.ltp w hw)]; exact (h.dp x).2 w hw⟩, fun vals hv => (e.wb hv h.lt).trans (h.val vals hv), fun vals hv w hw => (e.wb hv (h.ltp w hw)).trans (h.valp vals hv w hw)⟩
theorem Sp1.mono {d' : Int} (h : Sp1 m gs gf pf D d z i s) (l : d ≤ d') : Sp1 m gs gf pf D d' z i s :=
  ⟨h.lt, h.non, h.ltp, fun x => ⟨Int.le_trans (h.dp x).1 l, fun w hw => Int.le_trans ((h.dp x).2 w hw) l⟩, h.val, h.valp⟩
theorem dm {a q z r : Nat} (e : a = q * z + r) (h : r < z) : a / z = q ∧ a % z = r := by
  subst e
  constructor
  · rw [Nat.mul_comm, Nat.mul_add_div (by omega), Nat.div_eq_of_lt h, Nat.add_zero]
  · rw [Nat.mul_comm, Nat.mul_add_mod, Nat.mod_eq_of_lt h]
theorem Sp1.even (h : Sp1 m gs gf pf D d z i s) (hz : 0 < z) (he : i / z % 2 = 0) : Sp1 m gs gf pf D d (2 * z) i s := by
  obtain ⟨k, ek⟩ : ∃ k, i / z = 2 * k := ⟨i / z / 2, by omega⟩
  have ei := Nat.div_add_mod i z
  have hr := Nat.mod_lt i hz
  rw [ek, Nat.mul_comm] at ei
  have e0 : k * (2 * z) = 2 * k * z := by rw [← Nat.mul_assoc, Nat.mul_comm k 2]
  obtain ⟨a1, a2⟩ := dm (a := i) (q := k) (z := 2 * z) (r := i % z) (by rw [e0]; omega) (by omega)
  have e1 : i / (2 * z) * (2 * z) = i / z * z := by rw [a1, ek, e0]
  refine ⟨h.lt, h.non.trans ?_, h.ltp, h.dp, fun vals hv => by rw [e1, a2]; exact h.val vals hv, fun vals hv w hw => by rw [e1, a2]; exact h.valp vals hv w hw⟩
  rcases Nat.eq_zero_or_pos k with q | q
  · rw [q] at ei
    simp at ei
    omega
  · have := Nat.mul_le_mul_right z (show 2 ≤ 2 * k by omega)
    omega
def sdO (m : Nat) (gs : List Gt) (s b : Spn) : List Gt × Spn :=
  let pw := s.2.getD 0
  let g1 := gs ++ [.w "both" [pw, b.1]]
  let g2 := g1 ++ [.w "either" [s.1, m + gs.length]]
  match b.2 with
  | none => (g2, m + g1.length, none)
  | some bw => (g2 ++ [.w "both" [pw, bw]], m + g1.length, some (m + g2.length))
theorem Sp1.odd {b : Spn} (h : Sp1 m gs gf pf D d z i s) (hb : Sp1 m gs gf pf D d z (i / z * z - 1) b) (d0 : 0 ≤ d) (hz : 0 < z) (he : i / z % 2 = 1) : Ext m gs (sdO m gs s b).1 3 ∧ Sp1 m (sdO m gs s b).1 gf pf D (d + 2) (2 * z) i (sdO m gs s b).2 := by
  obtain ⟨k, ek⟩ : ∃ k, i / z = 2 * k + 1 := ⟨i / z / 2, by omega⟩
  have ei := Nat.div_add_mod i z
  have hr := Nat.mod_lt i hz
  rw [ek, Nat.mul_comm] at ei
  rw [ek] at hb
  have e0 : k * (2 * z) = 2 * k * z := by rw [← Nat.mul_assoc, Nat.mul_comm k 2]
  have e1 : (2 * k + 1) * z = 2 * k * z + z := by rw [Nat.add_mul, Nat.one_mul]
  rw [e1] at ei hb
  obtain ⟨a1, a2⟩ := dm (a := i) (q := k) (z := 2 * z) (r := z + i % z) (by rw [e0]; omega) (by omega)
  obtain ⟨b1, b2⟩ := dm (a := 2 * k * z + z - 1) (q := 2 * k) (z := z) (r := z - 1) (by omega) (by omega)
  have v1 := h.val
  have v2 := h.valp
  rw [ek, e1] at v1 v2
  have u1 := hb.val
  have u2 := hb.valp
  have hnb := hb.non
  rw [b1, b2] at u1 u2
  obtain ⟨pw, epw⟩ : ∃ pw, s.2 = some pw := by
    cases e : s.2 with
    | none =>
      have := h.non.mp e
      omega
    | some pw => exact ⟨pw, rfl⟩
  have lp := h.ltp pw epw
  have lb := hb.lt
  have ls := h.lt
  obtain ⟨g1, eg1⟩ : ∃ g, g = gs ++ [.w "both" [pw, b.1]] := ⟨_, rfl⟩
  obtain ⟨g2, eg2⟩ : ∃ g, g = g1 ++ [.w "either" [s.1, m + gs.length]] := ⟨_, rfl⟩
  have l1 : g1.length = gs.length + 1 := by rw [eg1]; simp
  have l2 : g2.length = gs.length + 2 := by rw [eg2]; simp [l1]
  have x1 : Ext m gs g1 1 := eg1 ▸ .both (by omega) (by omega)
  have x2 : Ext m g1 g2 1 := eg2 ▸ .either (by omega) (by omega)
  have x12 := x1.trans x2
  have vm : ∀ vals : List Bool, vals.length = m → wb vals g2 (m + g1.length) = sgB (gf vals) (pf vals) (k * (2 * z)) (z + i % z) := fun vals hv => by
    rw [eg2, wb_either (by rw [hv]), x1.wb hv ls, eg1, wb_both (by rw [hv]), v1 vals hv, v2 vals hv pw epw, u1 vals hv]
    have := sg_split (gf vals) (pf vals) (k * (2 * z)) (z - 1) (i % z)
    rw [show z - 1 + 1 + i % z = z + i % z by omega, show k * (2 * z) + (z - 1) + 1 = 2 * k * z + z by rw [e0]; omega] at this
    rw [this, e0]
  have dm2 : D → dpW m g2 (m + g1.length) ≤ d + 2 := fun x => by
    obtain ⟨y1, y2⟩ := h.dp x
    have y3 := (hb.dp x).1
    have c1 : dpW m g1 (m + gs.length) ≤ d + 1 := eg1 ▸ dpW_new rfl d0 (y2 pw epw) y3
    have c2 : dpW m g1 s.1 ≤ d + 1 := by rw [x1.dp ls]; omega
    have := eg2 ▸ dpW_new (k := "either") (n := m + g1.length) rfl (show 0 ≤ d + 1 by omega) c2 c1
    omega
  have nn : b.2 = none ↔ i < 2 * z := hnb.trans (by
    rcases Nat.eq_zero_or_pos k with q | q
    · rw [q] at ei ⊢
      simp at ei ⊢
      omega
    · have := Nat.mul_le_mul_right z (show 2 ≤ 2 * k by omega)
      omega)
  cases eb : b.2 with
  | none =>
    have hs : sdO m gs s b = (g2, m + g1.length, none) := by
      rw [eg2, eg1]
      unfold sdO
      rw [eb, epw]
      rfl
    rw [hs]
    refine ⟨x12.mono (by omega), ⟨by show m + g1.length < m + g2.length; omega, by rw [← nn, eb], (fun w hw => nomatch hw), fun x => ⟨dm2 x, fun w hw => nomatch hw⟩, fun vals hv => by rw [a1, a2]; exact vm vals hv, fun vals hv w hw => nomatch hw⟩⟩
  | some bw =>
    have lbw := hb.ltp bw eb
    have hs : sdO m gs s b = (g2 ++ [.w "both" [pw, bw]], m + g1.length, some (m + g2.length)) := by
      rw [eg2, eg1]
      unfold sdO
      rw [eb, epw]
      rfl
    have x3 : Ext m g2 (g2 ++ [.w "both" [pw, bw]]) 1 := .both (by omega) (by omega)
    have l3 : (g2 ++ [Gt.w "both" [pw, bw]]).length = gs.length + 3 := by simp [l2]
    rw [hs]
    refine ⟨(x12.trans x3).mono (by omega), ⟨by show m + g1.length < m + (g2 ++ [_]).length; omega, ?_, fun w hw => ?_, fun x => ⟨?_, fun w hw => ?_⟩, fun vals hv => ?_, fun vals hv w hw => ?_⟩⟩
    · rw [← nn, eb]
      exact ⟨(fun z => nomatch z), (fun z => nomatch z)⟩
    · cases hw
      show m + g2.length < m + (g2 ++ [_]).length
      omega
    · show dpW m (g2 ++ [_]) (m + g1.length) ≤ _
      rw [x3.dp (by omega)]
      exact dm2 x
    · cases hw
      have c1 : dpW m g2 pw ≤ d := by rw [x12.dp lp]; exact (h.dp x).2 pw epw
      have c2 : dpW m g2 bw ≤ d := by rw [x12.dp lbw]; exact (hb.dp x).2 bw eb
      have := dpW_new (m := m) (k := "both") (n := m + g2.length) (gs := g2) rfl d0 c1 c2
      exact Int.le_trans this (by omega)
    · rw [a1, a2]
      exact (x3.wb hv (w := m + g1.length) (by omega)).trans (vm vals hv)
    · cases hw
      rw [a1, a2]
      show wb vals (g2 ++ [_]) (m + g2.length) = _
      rw [wb_both (by rw [hv]), x12.wb hv lp, x12.wb hv lbw, v2 vals hv pw epw, u2 vals hv bw eb]
      have := sp_split (pf vals) (k * (2 * z)) (z - 1) (i % z)
      rw [show z - 1 + 1 + i % z = z + i % z by omega, show k * (2 * z) + (z - 1) + 1 = 2 * k * z + z by rw [e0]; omega] at this
      rw [this, e0]
end
def sdW (m : Nat) (gs : List Gt) (S : List Spn) (z pl : Nat) : List Gt × Spn :=
  if pl / z % 2 = 0 then (gs, S.getD pl (0, none)) else sdO m gs (S.getD pl (0, none)) (S.getD (pl / z * z - 1) (0, none))
def SpsOk (m : Nat) (gs : List Gt) (gf pf : List Bool → Nat → Bool) (D : Prop) (d : Int) (z N : Nat) (S : List Spn) : Prop := S.length = N ∧ ∀ (i : Nat) (s : Spn), S[i]? = some s → Sp1 m gs gf pf D d z i s
section
variable {m n z N : Nat} {gs g1 : List Gt} {gf pf : List Bool → Nat → Bool} {D : Prop} {d : Int} {S : List Spn}
theorem SpsOk.ext (h : SpsOk m gs gf pf D d z N S) (e : Ext m gs g1 n) : SpsOk m g1 gf pf D d z N S := ⟨h.1, fun i s hs => (h.2 i s hs).ext e⟩
theorem SpsOk.at (h : SpsOk m gs gf pf D d z N S) {i : Nat} (hi : i < N) : S[i]? = some (S.getD i (0, none)) ∧ Sp1 m gs gf pf D d z i (S.getD i (0, none)) := by
  have e : S[i]? = some (S.getD i (0, none)) := by
    rw [List.getElem?_eq_getElem (by have := h.1; omega)]
    simp [List.getD, List.getElem?_eq_getElem (show i < S.length by have := h.1; omega)]
  exact ⟨e, h.2 i _ e⟩
theorem sdW_ok {pl : Nat} (h : SpsOk m gs gf pf D d z N S) (d0 : 0 ≤ d) (hz : 0 < z) (hp : pl < N) : Ext m gs (sdW m gs S z pl).1 3 ∧ Sp1 m (sdW m gs S z pl).1 gf pf D (d + 2) (2 * z) pl (sdW m gs S z pl).2 := by
  unfold sdW
  split
  · rename_i c
    exact ⟨Ext.refl.mono (by omega), ((h.at hp).2.even hz c).mono (by omega)⟩
  · rename_i c
    have lt : pl / z * z - 1 < N := by
      have := Nat.div_mul_le_self pl z
      omega
    exact (h.at hp).2.odd (h.at lt).2 d0 hz (by omega)
def rdS (m : Nat) (S : List Spn) (z : Nat) (s : List Gt × List Spn) (pl : Nat) : List Gt × List Spn := ((sdW m s.1 S z pl).1, s.2 ++ [(sdW m s.1 S z pl).2])
def rdF (m : Nat) (S : List Spn) (z : Nat) (gs : List Gt) (pls : List Nat) : List Gt × List Spn := pls.foldl (rdS m S z) (gs, [])
theorem rdF_ok (h : SpsOk m gs gf pf D d z N S) (d0 : 0 ≤ d) (hz : 0 < z) : ∀ i, i ≤ N → ∀ s, s = rdF m S z gs ((List.range N).take i) → Ext m gs s.1 (3 * i) ∧ s.2.length = i ∧ ∀ (j : Nat) (t : Spn), s.2[j]? = some t → Sp1 m s.1 gf pf D (d + 2) (2 * z) j t := by
  intro i
  induction i with
  | zero => exact fun _ s e => by subst e; exact ⟨.refl, rfl, fun j t h => by simp [rdF] at h⟩
  | succ i ih =>
    intro hi s e
    have hp : (List.range N)[i]? = some i := List.getElem?_range (by omega)
    have es : rdF m S z gs ((List.range N).take (i + 1)) = rdS m S z (rdF m S z gs ((List.range N).take i)) i := fold_take _ hp _
    obtain ⟨h1, ht, h2⟩ := ih (by omega) _ rfl
    rw [e, es]
    clear e es
    generalize rdF m S z gs ((List.range N).take i) = s at *
    obtain ⟨x1, x2⟩ := sdW_ok (h.ext h1) d0 hz (pl := i) (by omega)
    unfold rdS
    generalize sdW m s.1 S z i = r at *
    refine ⟨(h1.trans x1).mono (by omega), by show (s.2 ++ [_]).length = _; rw [List.length_append, ht]; rfl, fun j t hj => ?_⟩
    replace hj : (s.2 ++ [r.2])[j]? = some t := hj
    by_cases c : j < s.2.length
    · rw [List.getElem?_append_left c] at hj
      exact (h2 j t hj).ext x1
    · have j0 : j = s.2.length := by
        have := (List.getElem?_eq_some_iff.mp hj).1
        rw [List.length_append, List.length_cons, List.length_nil] at this
        omega
      rw [List.getElem?_append_right (by omega), j0, Nat.sub_self] at hj
      cases hj
      rw [j0, ht]
      exact x2
end
/-! ### the sum -/
def cgB (c : Bool) (ps : List (Bool × Bool)) : Nat → Bool
  | 0 => c
  | i + 1 => (ps.getD i (false, false)).1 && (ps.getD i (false, false)).2
def cpB (ps : List (Bool × Bool)) : Nat → Bool
  | 0 => false
  | i + 1 => xor (ps.getD i (false, false)).1 (ps.getD i (false, false)).2
theorem cpB_s (ps : List (Bool × Bool)) (i : Nat) : cpB ps (i + 1) = xor (ps.getD i (false, false)).1 (ps.getD i (false, false)).2 := rfl
theorem cgB_s (c : Bool) (ps : List (Bool × Bool)) (i : Nat) : cgB c ps (i + 1) = ((ps.getD i (false, false)).1 && (ps.getD i (false, false)).2) := rfl
theorem adF_closed (c : Bool) (ps : List (Bool × Bool)) : ∀ i, i ≤ ps.length → (ps.take i).foldl adF ([], c) = ((List.range i).map (fun j => xor (cpB ps (j + 1)) (sgB (cgB c ps) (cpB ps) 0 j)), sgB (cgB c ps) (cpB ps) 0 i)
  | 0, _ => rfl
  | i + 1, hi => by
    have hp : ps[i]? = some ps[i] := List.getElem?_eq_getElem (by omega)
    have e := fold_take adF hp ([], c)
    rw [e, adF_closed c ps i (by omega)]
    have g : ps.getD i (false, false) = ps[i] := by simp [List.getD, hp]
    have q1 : cpB ps (i + 1) = xor ps[i].1 ps[i].2 := by rw [cpB_s, g]
    have q2 : cgB c ps (i + 1) = (ps[i].1 && ps[i].2) := by rw [cgB_s, g]
    rw [List.range_succ, List.map_append, List.map_cons, List.map_nil]
    show ((List.range i).map _ ++ [xor (xor ps[i].1 ps[i].2) (sgB (cgB c ps) (cpB ps) 0 i)], _) = _
    rw [q1]
    show (_, (ps[i].1 && ps[i].2) || (xor ps[i].1 ps[i].2 && sgB (cgB c ps) (cpB ps) 0 i)) = (_, cgB c ps (0 + (i + 1)) || (cpB ps (0 + (i + 1)) && sgB (cgB c ps) (cpB ps) 0 i))
    rw [Nat.zero_add, q1, q2]
def QF (m : Nat) (gs gs' : List Gt) (os ts : List Nat) (c : Nat) (ws : List Nat) : Prop := Ext m gs gs' (24 * os.length + 21) ∧ ws.length = os.length + 1 ∧ (∀ w ∈ ws, w < m + gs'.length) ∧ (∀ vals : List Bool, vals.length = m → ws.map (wb vals gs') = sumB (os.map (wb vals gs)) (ts.map (wb vals gs)) (wb vals gs c)) ∧ ((∀ w ∈ os, w < m) → (∀ w ∈ ts, w < m) → c < m → ∃ K : Nat, (K = 0 ∨ 2 ^ (K - 1) ≤ os.length) ∧ ∀ w ∈ ws, dpW m gs' w ≤ 2 + 2 * (K : Int))
theorem gbw_both (x y : Bool) : gbw x y "both" = (x && y) := by
  unfold gbw
  rw [if_neg (by decide), if_pos rfl]
theorem gbw_unlike (x y : Bool) : gbw x y "unlike" = xor x y := by
  unfold gbw
  rw [if_neg (by decide), if_neg (by decide), if_neg (by decide)]
def qps (vals : List Bool) (gs : List Gt) (ps : List (Nat × Nat)) : List (Bool × Bool) := ps.map fun p => (wb vals gs p.1, wb vals gs p.2)
theorem qps_at {vals : List Bool} {gs : List Gt} {ps : List (Nat × Nat)} {j : Nat} {p : Nat × Nat} (h : ps[j]? = some p) : (qps vals gs ps).getD j (false, false) = (wb vals gs p.1, wb vals gs p.2) := by
  unfold qps
  simp [List.getD, h]
def spans0 (c : Nat) (P H : List Nat) : List Spn := (c, none) :: (P.zip H).map fun q => (q.1, some q.2)
section
variable {m c : Nat} {gs : List Gt} {ps : List (Nat × Nat)} {D : Prop}
theorem hv_two (hw : ∀ p ∈ ps, p.1 < m + gs.length ∧ p.2 < m + gs.length) (hD : D → ∀ p ∈ ps, p.1 < m ∧ p.2 < m) :
    (∀ s, s = hvF m "unlike" gs ps → Ext m gs s.1 ps.length ∧ s.1.length = gs.length + ps.length ∧ s.2.length = ps.length ∧ ∀ (j w : Nat) (p : Nat × Nat), s.2[j]? = some w → ps[j]? = some p → w < m + s.1.length ∧ (D → dpW m s.1 w ≤ 1) ∧ ∀ vals : List Bool, vals.length = m → wb vals s.1 w = xor (wb vals gs p.1) (wb vals gs p.2)) ∧
    ∀ s, s = hvF m "both" (hvF m "unlike" gs ps).1 ps → Ext m (hvF m "unlike" gs ps).1 s.1 ps.length ∧ s.1.length = gs.length + 2 * ps.length ∧ s.2.length = ps.length ∧ ∀ (j w : Nat) (p : Nat × Nat), s.2[j]? = some w → ps[j]? = some p → w < m + s.1.length ∧ (D → dpW m s.1 w ≤ 1) ∧ ∀ vals : List Bool, vals.length = m → wb vals s.1 w = (wb vals gs p.1 && wb vals gs p.2) := by
  have A := hvF_ok (m := m) (k := "unlike") (gs := gs) (ps := ps) (D := D) (d := 0) (.inr rfl) (Int.le_refl _) hw (fun x p hp => ⟨by rw [dpW_in _ (hD x p hp).1]; decide, by rw [dpW_in _ (hD x p hp).2]; decide⟩) ps.length (Nat.le_refl _) _ rfl
  rw [List.take_length] at A
  obtain ⟨a1, a2, a3, a4⟩ := A
  have B := hvF_ok (m := m) (k := "both") (gs := (hvF m "unlike" gs ps).1) (ps := ps) (D := D) (d := 0) (.inl rfl) (Int.le_refl _) (fun p hp => by have := hw p hp; omega) (fun x p hp => ⟨by rw [dpW_in _ (hD x p hp).1]; decide, by rw [dpW_in _ (hD x p hp).2]; decide⟩) ps.length (Nat.le_refl _) _ rfl
  rw [List.take_length] at B
  obtain ⟨b1, b2, b3, b4⟩ := B
  refine ⟨fun s e => ?_, fun s e => ?_⟩
  · subst e
    refine ⟨a1, a2, a3, fun j w p h1 h2 => ?_⟩
    obtain ⟨x, y, v⟩ := a4 j w p h1 h2
    exact ⟨x, y, fun vals hv => (v vals hv).trans (gbw_unlike _ _)⟩
  · subst e
    refine ⟨b1, by omega, b3, fun j w p h1 h2 => ?_⟩
    obtain ⟨x, y, v⟩ := b4 j w p h1 h2
    have hp := hw p (List.mem_of_getElem? h2)
    exact ⟨x, y, fun vals hv => (v vals hv).trans (by rw [gbw_both, a1.wb hv hp.1, a1.wb hv hp.2])⟩
theorem spans0_ok (hw : ∀ p ∈ ps, p.1 < m + gs.length ∧ p.2 < m + gs.length) (hc : c < m + gs.length) (hD : D → ∀ p ∈ ps, p.1 < m ∧ p.2 < m) (hDc : D → c < m) :
    SpsOk m (hvF m "both" (hvF m "unlike" gs ps).1 ps).1 (fun vals => cgB (wb vals gs c) (qps vals gs ps)) (fun vals => cpB (qps vals gs ps)) D 1 1 (ps.length + 1) (spans0 c (hvF m "both" (hvF m "unlike" gs ps).1 ps).2 (hvF m "unlike" gs ps).2) := by
  obtain ⟨A, B⟩ := hv_two (m := m) (D := D) hw hD
  obtain ⟨a1, a2, a3, a4⟩ := A _ rfl
  obtain ⟨b1, b2, b3, b4⟩ := B _ rfl
  clear A B
  generalize hvF m "both" (hvF m "unlike" gs ps).1 ps = P at *
  generalize hvF m "unlike" gs ps = U at *
  unfold spans0
  refine ⟨by rw [List.length_cons, List.length_map, List.length_zip]; omega, fun i s hs => ?_⟩
  cases i with
  | zero =>
    cases hs
    refine ⟨by show c < _; omega, ⟨fun _ => by decide, fun _ => rfl⟩, (fun w h => nomatch h), fun x => ⟨by show dpW m P.1 c ≤ 1; rw [dpW_in _ (hDc x)]; decide, fun w h => nomatch h⟩, fun vals hv => ?_, fun vals hv w h => nomatch h⟩
    show wb vals P.1 c = wb vals gs c
    rw [b1.wb hv (by omega), a1.wb hv hc]
  | succ j =>
    rw [List.getElem?_cons_succ, List.getElem?_map] at hs
    cases hq : (P.2.zip U.2)[j]? with
    | none => rw [hq] at hs; cases hs
    | some q =>
      rw [hq] at hs
      cases hs
      obtain ⟨h1, h2⟩ := List.getElem?_zip_eq_some.mp hq
      have jl : j < ps.length := by
        have := (List.getElem?_eq_some_iff.mp h1).1
        omega
      have hp : ps[j]? = some ps[j] := List.getElem?_eq_getElem jl
      obtain ⟨x1, x2, x3⟩ := b4 j _ _ h1 hp
      obtain ⟨y1, y2, y3⟩ := a4 j _ _ h2 hp
      refine ⟨x1, ⟨(fun h => nomatch h), fun h => by omega⟩, fun w h => ?_, fun x => ⟨x2 x, fun w h => ?_⟩, fun vals hv => ?_, fun vals hv w h => ?_⟩
      · cases h
        omega
      · cases h
        rw [b1.dp y1]
        exact y2 x
      · rw [Nat.div_one, Nat.mul_one, Nat.mod_one]
        show wb vals P.1 q.1 = cgB _ _ (j + 1)
        rw [x3 vals hv]
        rw [cgB_s, qps_at hp]
      · cases h
        rw [Nat.div_one, Nat.mul_one, Nat.mod_one]
        show wb vals P.1 q.2 = cpB _ (j + 1)
        rw [b1.wb hv y1, y3 vals hv]
        rw [cpB_s, qps_at hp]
theorem tot_ok {K x n : Nat} {g3 : List Gt} {S : List Spn} (hn : ps.length = n) (hw : ∀ p ∈ ps, p.1 < m + gs.length ∧ p.2 < m + gs.length) (hD : D → ∀ p ∈ ps, p.1 < m ∧ p.2 < m)
    (e3 : Ext m (hvF m "both" (hvF m "unlike" gs ps).1 ps).1 g3 x) (hN : n + 1 ≤ 2 ^ K) (hS : SpsOk m g3 (fun vals => cgB (wb vals gs c) (qps vals gs ps)) (fun vals => cpB (qps vals gs ps)) D (1 + 2 * (K : Int)) (2 ^ K) (n + 1) S) :
    ∀ i, i ≤ n → ∀ s, s = hvF m "unlike" g3 (((hvF m "unlike" gs ps).2.zip (S.map (·.1))).take i) → Ext m g3 s.1 i ∧ s.1.length = g3.length + i ∧ s.2.length = i ∧ (∀ w ∈ s.2, w < m + s.1.length ∧ (D → dpW m s.1 w ≤ 2 + 2 * (K : Int))) ∧ ∀ vals : List Bool, vals.length = m → s.2.map (wb vals s.1) = (List.range i).map (fun j => xor (cpB (qps vals gs ps) (j + 1)) (sgB (cgB (wb vals gs c) (qps vals gs ps)) (cpB (qps vals gs ps)) 0 j)) := by
  obtain ⟨A, B⟩ := hv_two (m := m) (D := D) hw hD
  obtain ⟨a1, a2, a3, a4⟩ := A _ rfl
  obtain ⟨b1, b2, b3, b4⟩ := B _ rfl
  clear A B
  generalize hvF m "both" (hvF m "unlike" gs ps).1 ps = P at *
  generalize hvF m "unlike" gs ps = U at *
  have le := e3.len
  have lz : (U.2.zip (S.map (·.1))).length = n := by rw [List.length_zip, List.length_map, hS.1]; omega
  have each : ∀ (j : Nat) (q : Nat × Nat), (U.2.zip (S.map (·.1)))[j]? = some q → j < n ∧ q.1 < m + g3.length ∧ q.2 < m + g3.length ∧ (D → dpW m g3 q.1 ≤ 1 + 2 * (K : Int) ∧ dpW m g3 q.2 ≤ 1 + 2 * (K : Int)) ∧ ∀ vals : List Bool, vals.length = m → wb vals g3 q.1 = cpB (qps vals gs ps) (j + 1) ∧ wb vals g3 q.2 = sgB (cgB (wb vals gs c) (qps vals gs ps)) (cpB (qps vals gs ps)) 0 j := fun j q hq => by
    obtain ⟨h1, h2⟩ := List.getElem?_zip_eq_some.mp hq
    rw [List.getElem?_map] at h2
    cases hs : S[j]? with
    | none => rw [hs] at h2; cases h2
    | some s =>
      rw [hs] at h2
      replace h2 : s.1 = q.2 := Option.some.inj h2
      have jl : j < n := by
        have := (List.getElem?_eq_some_iff.mp h1).1
        omega
      have hp : ps[j]? = some ps[j] := List.getElem?_eq_getElem (by omega)
      obtain ⟨y1, y2, y3⟩ := a4 j _ _ h1 hp
      have z := hS.2 j s hs
      have yl : q.1 < m + P.1.length := by have := b1.len; omega
      refine ⟨jl, by omega, by rw [← h2]; exact z.lt, fun x => ⟨?_, by rw [← h2]; exact (z.dp x).1⟩, fun vals hv => ⟨?_, ?_⟩⟩
      · rw [e3.dp yl, b1.dp y1]
        have := y2 x
        omega
      · rw [e3.wb hv yl, b1.wb hv y1, y3 vals hv]
        rw [cpB_s, qps_at hp]
      · rw [← h2, z.val vals hv, Nat.div_eq_of_lt (by omega), Nat.zero_mul, Nat.mod_eq_of_lt (by omega)]
  intro i hi s e
  have T := hvF_ok (m := m) (k := "unlike") (gs := g3) (ps := U.2.zip (S.map (·.1))) (D := D) (d := 1 + 2 * (K : Int)) (.inr rfl) (by omega) (fun q hq => by
    obtain ⟨j, hj⟩ := List.mem_iff_getElem?.mp hq
    exact ⟨(each j q hj).2.1, (each j q hj).2.2.1⟩) (fun x q hq => by
    obtain ⟨j, hj⟩ := List.mem_iff_getElem?.mp hq
    exact (each j q hj).2.2.2.1 x) i (by omega) s e
  clear e
  obtain ⟨t1, t2, t3, t4⟩ := T
  refine ⟨t1, t2, t3, fun w hwm => ?_, fun vals hv => ?_⟩
  · obtain ⟨j, hj⟩ := List.mem_iff_getElem?.mp hwm
    have jl := (List.getElem?_eq_some_iff.mp hj).1
    obtain ⟨y1, y2, _⟩ := t4 j w _ hj (List.getElem?_eq_getElem (by omega))
    exact ⟨y1, fun x => by have := y2 x; omega⟩
  · apply List.ext_getElem?
    intro j
    rw [List.getElem?_map, List.getElem?_map]
    by_cases c' : j < i
    · have hj : s.2[j]? = some (s.2[j]'(by omega)) := List.getElem?_eq_getElem (by omega)
      have hq : (U.2.zip (S.map (·.1)))[j]? = some ((U.2.zip (S.map (·.1)))[j]'(by omega)) := List.getElem?_eq_getElem (by omega)
      obtain ⟨_, _, v⟩ := t4 j _ _ hj hq
      obtain ⟨_, _, _, _, u⟩ := each j _ hq
      obtain ⟨u1, u2⟩ := u vals hv
      rw [hj, List.getElem?_range c']
      show some (wb vals s.1 _) = some _
      rw [v vals hv, gbw_unlike, u1, u2]
    · rw [List.getElem?_eq_none (by omega), List.getElem?_eq_none (by rw [List.length_range]; omega)]
      rfl
end
theorem quick_ok {m c K x n : Nat} {gs g3 : List Gt} {os ts : List Nat} {S : List Spn} (hn : os.length = n) (hl : os.length = ts.length) (ho : ∀ w ∈ os, w < m + gs.length) (ht : ∀ w ∈ ts, w < m + gs.length) (hc : c < m + gs.length)
    (e3 : Ext m (hvF m "both" (hvF m "unlike" gs (os.reverse.zip ts.reverse)).1 (os.reverse.zip ts.reverse)).1 g3 x) (hx : x ≤ 21 * (n + 1)) (hK : K = 0 ∨ 2 ^ (K - 1) ≤ n) (hN : n + 1 ≤ 2 ^ K)
    (hS : SpsOk m g3 (fun vals => cgB (wb vals gs c) (qps vals gs (os.reverse.zip ts.reverse))) (fun vals => cpB (qps vals gs (os.reverse.zip ts.reverse))) ((∀ w ∈ os, w < m) ∧ (∀ w ∈ ts, w < m) ∧ c < m) (1 + 2 * (K : Int)) (2 ^ K) (n + 1) S) :
    ∀ T, T = hvF m "unlike" g3 ((hvF m "unlike" gs (os.reverse.zip ts.reverse)).2.zip (S.map (·.1))) → QF m gs T.1 os ts c ((S.getD n (0, none)).1 :: T.2.reverse) := by
  intro T eT
  have lz := zipR_len hl
  have hw : ∀ p ∈ os.reverse.zip ts.reverse, p.1 < m + gs.length ∧ p.2 < m + gs.length := fun p hp => ⟨ho _ (mem_zipR hp).1, ht _ (mem_zipR hp).2⟩
  have hD : ((∀ w ∈ os, w < m) ∧ (∀ w ∈ ts, w < m) ∧ c < m) → ∀ p ∈ os.reverse.zip ts.reverse, p.1 < m ∧ p.2 < m := fun x p hp => ⟨x.1 _ (mem_zipR hp).1, x.2.1 _ (mem_zipR hp).2⟩
  have lS := hS.1
  obtain ⟨A, B⟩ := hv_two (m := m) hw hD
  obtain ⟨a1, a2, a3, _⟩ := A _ rfl
  obtain ⟨b1, b2, b3, _⟩ := B _ rfl
  have F := tot_ok (c := c) (hn := by omega) hw hD e3 hN hS n (Nat.le_refl _) T (by
    rw [eT, List.take_of_length_le (by rw [List.length_zip, a3]; omega)])
  obtain ⟨f1, f2, f3, f4, f5⟩ := F
  obtain ⟨_, sl⟩ := hS.at (i := n) (by omega)
  have eA := ((a1.trans b1).trans e3).trans f1
  have sT : (S.getD n (0, none)).1 < m + T.1.length := by have := sl.lt; have := f1.len; omega
  refine ⟨eA.mono (by omega), by rw [List.length_cons, List.length_reverse]; omega, fun w hw' => ?_, fun vals hv => ?_, fun h1 h2 h3 => ⟨K, by rw [hn]; exact hK, fun w hw' => ?_⟩⟩
  · rcases List.mem_cons.mp hw' with z | z
    · rw [z]
      exact sT
    · exact (f4 w (List.mem_reverse.mp z)).1
  · rw [List.map_cons, List.map_reverse, f5 vals hv, f1.wb hv sl.lt, sl.val vals hv, Nat.div_eq_of_lt (by omega), Nat.zero_mul, Nat.mod_eq_of_lt (by omega)]
    unfold sumB
    have lq : (qps vals gs (os.reverse.zip ts.reverse)).length = n := by unfold qps; rw [List.length_map]; omega
    have e := adF_closed (wb vals gs c) (qps vals gs (os.reverse.zip ts.reverse)) n (by omega)
    rw [List.take_of_length_le (by omega)] at e
    rw [← zipR_map]
    show _ = (List.foldl adF ([], wb vals gs c) (qps vals gs (os.reverse.zip ts.reverse))).2 :: (List.foldl adF ([], wb vals gs c) (qps vals gs (os.reverse.zip ts.reverse))).1.reverse
    rw [e]
  · rcases List.mem_cons.mp hw' with z | z
    · rw [z, f1.dp sl.lt]
      have := (sl.dp ⟨h1, h2, h3⟩).1
      omega
    · exact (f4 w (List.mem_reverse.mp z)).2 ⟨h1, h2, h3⟩
section
variable {P : Program} {w : World} {K : PySem.W.Frag} {mg : Str → Option Value} {base : Heap}
variable {C : Addr} {a1 a2 a3 a4 a5 a6 a7 a8 a9 a10 a11 a12 a13 a14 a15 a16 a17 a18 a19 a20 a21 a22 a23 a24 a25 a26 a27 : Addr} {l1 l2 l3 l4 l5 l6 l7 l8 l9 l10 l11 l12 l13 l14 l15 l16 l17 l18 l19 l20 l21 l22 l23 l24 l25 l26 l27 : FuncData}
/-! ### wires of parts: the program's own -/
theorem at_nts {ws : List Nat} {a : Nat} (h : a < ws.length) : atI (nts ws) (a : Int) = some (.int ((ws.getD a 0 : Nat) : Int)) := atI_nat (by
  unfold nts
  rw [List.getElem?_map, List.getElem?_eq_getElem h]
  simp [List.getD, List.getElem?_eq_getElem h])
theorem cutN_to (ws : List Nat) (p : Nat) (h : p ≤ ws.length) : cutV (nts ws) none (some (p : Int)) = nts (ws.take p) := by
  unfold cutV nts
  rw [HT.sIx_none, HT.sIx_nat, List.drop_zero, List.length_map, Nat.sub_zero, Nat.min_eq_left h, List.map_take]
theorem cutN_from (ws : List Nat) (p : Nat) (h : p ≤ ws.length) : cutV (nts ws) (some (p : Int)) none = nts (ws.drop p) := by
  unfold cutV nts
  rw [HT.sIx_none, HT.sIx_nat, List.length_map, Nat.min_eq_left h, ← List.map_drop, List.take_of_length_le (by rw [List.length_map, List.length_drop]; exact Nat.le_refl _)]
theorem nts_app (a b : List Nat) : nts (a ++ b) = nts a ++ nts b := List.map_append
theorem big_lt {n : Nat} (h : n ≤ 500000) : n < sizeLine := Nat.lt_of_le_of_lt h (by decide)
theorem ks_none {S : List Addr} {H H' : Hp} (k : KeepS S H H') {a : Addr} (h : H' a = none) : H a = none := by
  cases e : H a with
  | none => rfl
  | some o => exact absurd h (k.2 a (some_ne e))
theorem ks_updN {S : List Addr} {H H' : Hp} (k : KeepS S H H') {D : Addr} {o : HO} (n : H D = none) : KeepS S H (upd H' D o) := ⟨fun y u e z => by
  rw [upd_ne (ne_of_none e n)]
  exact k.1 y u e z, fun y e => by
  rw [upd_ne (show y ≠ D from fun z => e (by rw [z]; exact n))]
  exact k.2 y e⟩
theorem NetAt.nin {C : Addr} {Z : List Addr} {H : Hp} {p : NetP} {m : Nat} {gs : List Gt} {nm : List (Str × List Nat)} (h : NetAt C Z H p m gs nm) {a : Addr} (n : H a = none) : a ∉ [p.lm, p.ld] := by
  obtain ⟨_, _, _, dx, ps, kvs, e1, e2, e3, _⟩ := h
  intro z
  rcases List.mem_cons.mp z with rfl | z
  · rw [e2] at n; cases n
  · rw [List.mem_singleton.mp z, e3] at n; cases n
theorem NetAt.add {C : Addr} {Z : List Addr} {H : Hp} {p : NetP} {m : Nat} {gs : List Gt} {nm : List (Str × List Nat)} {D : Addr} {o : HO} (h : NetAt C Z H p m gs nm) (n : H D = none) : NetAt C (D :: Z) (upd H D o) p m gs nm := by
  have k := same_upd (o := o) n
  obtain ⟨a, b, ⟨c1, c2, c3, c4⟩, dx, ps, kvs, e1, e2, e3, e4, ⟨g1, g2⟩, n1, n2, n3⟩ := h
  have ne : ∀ {y : Addr} {u : HO}, H y = some u → y ≠ D := fun e z => by rw [z, n] at e; cases e
  have ni : ∀ {y : Addr} {u : HO}, H y = some u → y ∉ Z → y ∉ D :: Z := fun e z y => by
    rcases List.mem_cons.mp y with w | w
    · exact ne e w
    · exact z w
  refine ⟨fun z hz => ?_, b, ⟨ni e1 c1, ni e2 c2, ni e3 c3, ni e4 c4⟩, dx, ps, kvs, k _ _ e1, k _ _ e2, k _ _ e3, k _ _ e4, ⟨g1, fun i q g hi hg => ?_⟩, n1, n2, fun i k' v n' ws hi hn => ?_⟩
  · rcases List.mem_cons.mp hz with w | w
    · rw [w, upd_same]
      exact fun z => nomatch z
    · exact (KeepS.ofSame (S := []) k).2 z (a z w)
  · have := g2 i q g hi hg
    exact ⟨ni this.2 this.1, k _ _ this.2⟩
  · obtain ⟨ek, l, ev, l1, l2, l3, l4⟩ := n3 i k' v n' ws hi hn
    exact ⟨ek, l, ev, ni l4 l1, l2, l3, k _ _ l4⟩
theorem NetAt.less {C : Addr} {Z : List Addr} {H : Hp} {p : NetP} {m : Nat} {gs : List Gt} {nm : List (Str × List Nat)} {D : Addr} (h : NetAt C (D :: Z) H p m gs nm) : NetAt C Z H p m gs nm := by
  obtain ⟨a, b, ⟨c1, c2, c3, c4⟩, dx, ps, kvs, e1, e2, e3, e4, ⟨g1, g2⟩, n1, n2, n3⟩ := h
  have ni : ∀ {y : Addr}, y ∉ D :: Z → y ∉ Z := fun z y => z (List.mem_cons_of_mem _ y)
  refine ⟨fun z hz => a z (List.mem_cons_of_mem _ hz), b, ⟨ni c1, ni c2, ni c3, ni c4⟩, dx, ps, kvs, e1, e2, e3, e4, ⟨g1, fun i q g hi hg => ?_⟩, n1, n2, fun i k' v n' ws hi hn => ?_⟩
  · have := g2 i q g hi hg
    exact ⟨ni this.1, this.2⟩
  · obtain ⟨ek, l, ev, l1, l2, l3, l4⟩ := n3 i k' v n' ws hi hn
    exact ⟨ek, l, ev, ni l1, l2, l3, l4⟩
theorem NetAt.put {C : Addr} {Z : List Addr} {H : Hp} {p : NetP} {m : Nat} {gs : List Gt} {nm : List (Str × List Nat)} {D : Addr} {o : HO} (h : NetAt C Z H p m gs nm) (hD : D ∈ Z) : NetAt C Z (upd H D o) p m gs nm := h.keep (S := [D]) (.upd (List.mem_singleton.mpr rfl)) (fun y hy => by rw [List.mem_singleton.mp hy]; exact hD)
theorem Sq2.keepS {t : Bool} {K : PySem.W.Frag} {S : List Addr} {a : Addr} {H H' : Hp} {xs : List V} (h : Sq2 t K H a xs) (e : KeepS S H H') (n : a ∉ S) : Sq2 t K H' a xs := by
  cases t
  · exact e.seq n h
  · exact e.seqT n h
theorem nts_zip {os ts : List Nat} {i : Nat} {x y : V} (hx : (nts os)[i]? = some x) (hy : (nts ts)[i]? = some y) : ∃ a b, (os.zip ts)[i]? = some (a, b) ∧ x = .int ((a : Nat) : Int) ∧ y = .int ((b : Nat) : Int) := by
  obtain ⟨a, ha, rfl⟩ := nts_at hx
  obtain ⟨b, hb, rfl⟩ := nts_at hy
  exact ⟨a, b, List.getElem?_zip_eq_some.mpr ⟨ha, hb⟩, rfl, rfl⟩
theorem Sq2.at {t : Bool} {K : PySem.W.Frag} {H : Hp} {a : Addr} {xs : List V} {i : Int} {v : V} {y : Str → Prop} {Q : VK} (h : Sq2 t K H a xs) (e : atI xs i = some v) (q : Q v H) : rIx K (.ref a) (.int i) H Q := by
  cases t
  · exact .inl ⟨a, xs, i, v, rfl, rfl, h, e, q⟩
  · exact .inr (.inl ⟨a, xs, i, v, rfl, rfl, h, e, q⟩)
/-! ### sums of wires, walked -/
theorem ks_drop {S : List Addr} {H H2 H9 : Hp} {R : Addr} (a : KeepS S H H2) (b : KeepS (R :: S) H2 H9) (n : H R = none) : KeepS S H H9 := ⟨fun y o e ny => b.1 y o (a.1 y o e ny) (fun z => by
  rcases List.mem_cons.mp z with z | z
  · rw [z, n] at e
    cases e
  · exact ny z), fun y e => b.2 y (a.2 y e)⟩
theorem nts_rev (ws : List Nat) : (nts ws).reverse = nts ws.reverse := List.map_reverse.symm
theorem ninR {R a : Addr} {S : List Addr} (h : a ∉ S) (n : a ≠ R) : a ∉ R :: S := fun z => by
  rcases List.mem_cons.mp z with z | z
  · exact n z
  · exact h z
def spSum (K : PySem.W.Frag) (C : Addr) : Sp := fun vs H Q _ => ∃ (Z : List Addr) (p : NetP) (m : Nat) (gs : List Gt) (nm : List (Str × List Nat)) (t u : Addr) (b1 b2 : Bool) (os ts : List Nat) (c : Nat), vs = [.ref p.x, .ref t, .ref u, .int (c : Int)] ∧ NetAt C Z H p m gs nm ∧ Sq2 b1 K H t (nts os) ∧ Sq2 b2 K H u (nts ts) ∧ os.length = ts.length ∧ (∀ w ∈ os, w < m + gs.length) ∧ (∀ w ∈ ts, w < m + gs.length) ∧ c < m + gs.length ∧ os.length ≤ 2000 ∧ m + gs.length ≤ 300000 ∧
  ∀ D H', KeepS [p.lm, p.ld] H H' → NetAt C Z H' p m (sumW m gs os ts c).1 nm → H D = none → H' D = some (.lst (nts (sumW m gs os ts c).2)) → Q (.ref D) H'
theorem ok_sum_wires (B : Bl mg) (L : LL K mg C a1 a2 a3 a4 a5 a6 a7 a8 a9 a10 a11 a12 a13 a14 a15 a16 a17 a18 a19 a20 a21 a22 a23 a24 a25 a26 a27 l1 l2 l3 l4 l5 l6 l7 l8 l9 l10 l11 l12 l13 l14 l15 l16 l17 l18 l19 l20 l21 l22 l23 l24 l25 l26 l27) : FnOk P w K mg base CX0 5 a1 l1 ["net", "ones", "others", "carry"] (spSum K C) := by
  have G_Net_unlike : FnOk P w K mg base CX0 4 a17 l17 ["self", "a", "b"] (spG2 C "unlike") := (ok_Net_unlike B L).mono (by decide)
  have G_Net_both : FnOk P w K mg base CX0 4 a15 l15 ["self", "a", "b"] (spG2 C "both") := (ok_Net_both B L).mono (by decide)
  have G_Net_either : FnOk P w K mg base CX0 4 a16 l16 ["self", "a", "b"] (spG2 C "either") := (ok_Net_either B L).mono (by decide)
  refine L.F_sum_wires.ok sc_sum_wires (fun vs H Q E h => ?_) (fun cdv A outer s H vs Q E hr h => ?_)
  · obtain ⟨Z, p, m, gs, nm, t, u, b1, b2, os, ts, c, rfl, _⟩ := h
    rfl
  obtain ⟨Z, p, m, gs, nm, t, u, b1, b2, os, ts, c, rfl, hN, hT, hU, hlen, ho, hs, hc, hl, hl2, q⟩ := h
  refine ⟨_, (pss_cons (ps_set (i := 4) sc_sum_wires.nd rfl (.inl rfl) (pe_lst pa_nil))
    (pss_cons (ps_for PassesOwn.never rfl (pi_zb (by rfl) B.zip (pa_cons (pe_revS (pv 1)) (pa_cons (pe_revS (pv 2)) pa_nil))) (pg_tup (by rfl) (pgs_cons (pg_name (i := 5) sc_sum_wires.nd rfl (.inl rfl)) (pgs_cons (pg_name (i := 6) sc_sum_wires.nd rfl (.inl rfl)) pgs_nil))) (pss_cons (ps_set (i := 7) sc_sum_wires.nd rfl (.inl rfl) (pe_meth (pv 0) L.T.cl L.M_Net_unlike G_Net_unlike hr L.b_Net_unlike .nil pass0 (pa_cons (pv 5) (pa_cons (pv 6) pa_nil))))
    (pss_cons (ps_expr (pe_bm PySem.F.plainAttrs_list PySem.F.slot_list_append PySem.F.type_list_append mt_append (pv 4) (pa_cons (pe_meth (pv 0) L.T.cl L.M_Net_unlike G_Net_unlike hr L.b_Net_unlike .nil pass0 (pa_cons (pv 7) (pa_cons (pv 3) pa_nil))) pa_nil)))
    (pss_one (ps_set (i := 3) sc_sum_wires.nd rfl (.inl rfl) (pe_meth (pv 0) L.T.cl L.M_Net_either G_Net_either hr L.b_Net_either .nil pass0 (pa_cons (pe_meth (pv 0) L.T.cl L.M_Net_both G_Net_both hr L.b_Net_both .nil pass0 (pa_cons (pv 5) (pa_cons (pv 6) pa_nil))) (pa_cons (pe_meth (pv 0) L.T.cl L.M_Net_both G_Net_both hr L.b_Net_both .nil pass0 (pa_cons (pv 7) (pa_cons (pv 3) pa_nil))) pa_nil))))))))
    (pss_one (ps_ret (pe_lst (pa_cons (pv 3) (StX.pa_star (pe_revL (pv 4)) pa_nil))))))), ?_⟩
  refine ⟨Nat.zero_le _, fun R nR => ?_⟩
  have nR2 := hN.nin nR
  have N0 := hN.add (o := .lst []) nR
  have k0 : KeepS [p.lm, p.ld] H (upd H R (.lst [])) := KeepS.new nR
  have eR0 : (upd H R (.lst [])) R = some (.lst []) := upd_same
  have hT0 := hT.keepS (S := []) (KeepS.new (o := .lst []) nR) (fun z => nomatch z)
  have hU0 := hU.keepS (S := []) (KeepS.new (o := .lst []) nR) (fun z => nomatch z)
  generalize upd H R (.lst []) = H0 at *
  try simp only [L2.start, List.map_cons, List.map_nil, List.length_cons, List.length_nil, List.replicate_succ, List.replicate_zero, List.cons_append, List.nil_append, List.set_cons_succ, List.set_cons_zero, Nat.reduceAdd, Nat.reduceSub, Nat.zero_add]
  dsimp only [gName]
  try simp only [L2.start, List.map_cons, List.map_nil, List.length_cons, List.length_nil, List.replicate_succ, List.replicate_zero, List.cons_append, List.nil_append, List.set_cons_succ, List.set_cons_zero, Nat.reduceAdd, Nat.reduceSub, Nat.zero_add]
  refine ⟨_, rfl, b1, t, _, rfl, hT0, fun A1 nA1 => ?_⟩
  rw [nts_rev]
  have sA1 := same_upd (o := sqO b1 (nts os.reverse)) nA1
  have eA1 : Sq2 b1 K (upd H0 A1 (sqO b1 (nts os.reverse))) A1 (nts os.reverse) := Sq2.new
  have nA12 := N0.nin nA1
  have nA1R : A1 ≠ R := fun z => by rw [z, eR0] at nA1; cases nA1
  have N1 := N0.same sA1
  have hU1 := hU0.keepS (S := []) (.ofSame sA1) (fun z => nomatch z)
  have eR1 := sA1 _ _ eR0
  have k1 := k0.trans (.ofSame sA1)
  generalize upd H0 A1 (sqO b1 (nts os.reverse)) = H1 at *
  refine ⟨_, rfl, b2, u, _, rfl, hU1, fun A2 nA2 => ?_⟩
  rw [nts_rev]
  have sA2 := same_upd (o := sqO b2 (nts ts.reverse)) nA2
  have eA2 : Sq2 b2 K (upd H1 A2 (sqO b2 (nts ts.reverse))) A2 (nts ts.reverse) := Sq2.new
  have nA22 := N1.nin nA2
  have nA2R : A2 ≠ R := fun z => by rw [z, eR1] at nA2; cases nA2
  have N2 := N1.same sA2
  have eA1' := eA1.keepS (S := []) (.ofSame sA2) (fun z => nomatch z)
  have eR2 := sA2 _ _ eR1
  have k2 := k1.trans (.ofSame sA2)
  generalize upd H1 A2 (sqO b2 (nts ts.reverse)) = H2 at *
  refine ⟨b1, b2, A1, A2, _, _, rfl, eA1', eA2, ?_⟩
  have hF := fun i hi => sumF_ok (m := m) (gs := gs) (ps := os.reverse.zip ts.reverse) (c := c) (fun p hp => ⟨ho _ (mem_zipR hp).1, hs _ (mem_zipR hp).2⟩) hc i hi _ rfl
  have lz := zipR_len hlen
  rw [lz] at hF
  refine for_it (walk_zb (K := K) (t1 := b1) (t2 := b2) (a := A1) (b := A2) (xs := nts os.reverse) (ys := nts ts.reverse) (n := os.length) (by rw [nts_len, List.length_reverse]) (by rw [nts_len, List.length_reverse, hlen])) (fun j σ H9 => ∃ y5 y6 y7 : Option V, σ = [some (.ref p.x), some (.ref t), some (.ref u), some (.int ((sumF m gs ((os.reverse.zip ts.reverse).take j) c).2.2 : Nat)), some (.ref R), y5, y6, y7] ∧ KeepS [R, p.lm, p.ld] H2 H9 ∧ NetAt C (R :: Z) H9 p m (sumF m gs ((os.reverse.zip ts.reverse).take j) c).1 nm ∧ H9 R = some (.lst (nts (sumF m gs ((os.reverse.zip ts.reverse).take j) c).2.1))) ⟨_, _, _, rfl, KeepS.refl _ _, N2, eR2⟩ (fun j σ H9 _ ⟨_, _, _, _, k9, _⟩ => ⟨eA1'.keepS k9 (ninR nA12 nA1R), eA2.keepS k9 (ninR nA22 nA2R)⟩) ?_ ?_
  · rintro j v σ H9 H10 hj ⟨y5, y6, y7, rfl, k9, N9, eR⟩ ⟨T, x, y, rfl, nT, rfl, hx, hy⟩
    obtain ⟨a, b, hab, rfl, rfl⟩ := nts_zip hx hy
    have hp := List.mem_of_getElem? hab
    have la := ho _ (mem_zipR hp).1
    have lb := hs _ (mem_zipR hp).2
    have estep : sumF m gs ((os.reverse.zip ts.reverse).take (j + 1)) c = suS m (sumF m gs ((os.reverse.zip ts.reverse).take j) c) (a, b) := fold_take _ hab _
    rw [estep]
    obtain ⟨_, lg, lt', _, l4, _⟩ := hF j (by omega)
    generalize sumF m gs ((os.reverse.zip ts.reverse).take j) c = S at *
    have sT := same_upd (o := .tup [.int (a : Int), .int (b : Int)]) nT
    have N10 := N9.same sT
    have eT : (upd H9 T (.tup [.int (a : Int), .int (b : Int)])) T = some (.tup [.int (a : Int), .int (b : Int)]) := upd_same
    have eR10 := sT _ _ eR
    have k10 := k9.trans (.ofSame sT)
    generalize upd H9 T (.tup [.int (a : Int), .int (b : Int)]) = H10 at *
    refine ⟨T, _, rfl, .inl (.inl eT), rfl, _, _, rfl, _, _, rfl, rfl, ?_⟩
    try simp only [L2.start, List.map_cons, List.map_nil, List.length_cons, List.length_nil, List.replicate_succ, List.replicate_zero, List.cons_append, List.nil_append, List.set_cons_succ, List.set_cons_zero, Nat.reduceAdd, Nat.reduceSub, Nat.zero_add]
    obtain ⟨_, _, _, dx2, _, _, f1, _⟩ := id N10
    refine ⟨_, rfl, p.x, dx2, _, rfl, f1, rfl, _, rfl, _, rfl, R :: Z, p, m, S.1, nm, a, b, rfl, N10, by omega, by omega, by omega, fun H3 k3 N3 => ?_⟩
    have l1 : (S.1 ++ [Gt.w "unlike" [a, b]]).length = S.1.length + 1 := by simp
    have eR3 := k3.1 _ _ eR10 nR2
    dsimp only [gName]
    try simp only [L2.start, List.map_cons, List.map_nil, List.length_cons, List.length_nil, List.replicate_succ, List.replicate_zero, List.cons_append, List.nil_append, List.set_cons_succ, List.set_cons_zero, Nat.reduceAdd, Nat.reduceSub, Nat.zero_add]
    obtain ⟨_, _, _, dx3, _, _, f3, _⟩ := id N3
    refine ⟨_, rfl, .inl ⟨rfl, _, SqL.of eR3⟩, _, rfl, p.x, dx3, _, rfl, f3, rfl, _, rfl, _, rfl, R :: Z, p, m, _, nm, m + S.1.length, S.2.2, rfl, N3, by omega, by omega, by omega, fun H4 k4 N4 => ?_⟩
    have l2 : (S.1 ++ [Gt.w "unlike" [a, b]] ++ [Gt.w "unlike" [m + S.1.length, S.2.2]]).length = S.1.length + 2 := by simp
    have eR4 := k4.1 _ _ eR3 nR2
    have k34 := k3.trans k4
    refine ⟨R, _, _, rfl, rfl, eR4, by rw [nts_len]; exact big_lt (by omega), ?_⟩
    have N5 := N4.put (D := R) (o := .lst (nts S.2.1 ++ [.int ((m + (S.1 ++ [Gt.w "unlike" [a, b]]).length : Nat) : Int)])) (by simp)
    have k5 : KeepS [R, p.lm, p.ld] H2 (upd H4 R (.lst (nts S.2.1 ++ [.int ((m + (S.1 ++ [Gt.w "unlike" [a, b]]).length : Nat) : Int)]))) := (k10.trans (k34.mono fun y hy => List.mem_cons_of_mem _ hy)).trans (KeepS.upd (by simp))
    have eR5 : (upd H4 R (.lst (nts S.2.1 ++ [.int ((m + (S.1 ++ [Gt.w "unlike" [a, b]]).length : Nat) : Int)]))) R = some (.lst (nts (S.2.1 ++ [m + (S.1 ++ [Gt.w "unlike" [a, b]]).length]))) := by
      rw [upd_same, nts_app]
      rfl
    generalize upd H4 R (.lst (nts S.2.1 ++ [.int ((m + (S.1 ++ [Gt.w "unlike" [a, b]]).length : Nat) : Int)])) = H5 at *
    obtain ⟨_, _, _, dx5, _, _, f5, _⟩ := id N5
    refine ⟨_, rfl, p.x, dx5, _, rfl, f5, rfl, ?_⟩
    refine ⟨_, rfl, p.x, dx5, _, rfl, f5, rfl, _, rfl, _, rfl, R :: Z, p, m, _, nm, a, b, rfl, N5, by omega, by omega, by omega, fun H6 k6 N6 => ?_⟩
    have l3 : (S.1 ++ [Gt.w "unlike" [a, b]] ++ [Gt.w "unlike" [m + S.1.length, S.2.2]] ++ [Gt.w "both" [a, b]]).length = S.1.length + 3 := by simp
    obtain ⟨_, _, _, dx6, _, _, f6, _⟩ := id N6
    refine ⟨_, rfl, p.x, dx6, _, rfl, f6, rfl, _, rfl, _, rfl, R :: Z, p, m, _, nm, m + S.1.length, S.2.2, rfl, N6, by omega, by omega, by omega, fun H7 k7 N7 => ?_⟩
    have l4' : (S.1 ++ [Gt.w "unlike" [a, b]] ++ [Gt.w "unlike" [m + S.1.length, S.2.2]] ++ [Gt.w "both" [a, b]] ++ [Gt.w "both" [m + S.1.length, S.2.2]]).length = S.1.length + 4 := by simp
    refine ⟨R :: Z, p, m, _, nm, _, _, rfl, N7, by omega, by omega, by omega, fun H8 k8 N8 => ?_⟩
    have k68 := (k6.trans k7).trans k8
    exact ⟨_, _, _, rfl, k5.trans (k68.mono fun y hy => List.mem_cons_of_mem _ hy), N8, k68.1 _ _ eR5 nR2⟩
  · rintro σ H9 ⟨y5, y6, y7, rfl, k9, N9, eR⟩
    rw [← lz, List.take_length] at N9 eR
    have eW : sumW m gs os ts c = ((sumF m gs (os.reverse.zip ts.reverse) c).1, (sumF m gs (os.reverse.zip ts.reverse) c).2.2 :: (sumF m gs (os.reverse.zip ts.reverse) c).2.1.reverse) := rfl
    have hF' := hF _ (Nat.le_refl _)
    rw [← lz, List.take_length] at hF' ⊢
    rw [eW] at q
    obtain ⟨_, _, lt', _, _, _⟩ := hF'
    generalize sumF m gs (os.reverse.zip ts.reverse) c = S at *
    dsimp only at q
    try simp only [L2.start, List.map_cons, List.map_nil, List.length_cons, List.length_nil, List.replicate_succ, List.replicate_zero, List.cons_append, List.nil_append, List.set_cons_succ, List.set_cons_zero, Nat.reduceAdd, Nat.reduceSub, Nat.zero_add]
    refine ⟨_, rfl, _, rfl, R, _, rfl, SqL.of eR, fun B nB => ?_⟩
    rw [nts_rev]
    have sB := same_upd (o := .lst (nts S.2.1.reverse)) nB
    have eB : (upd H9 B (.lst (nts S.2.1.reverse))) B = some (.lst (nts S.2.1.reverse)) := upd_same
    generalize upd H9 B (.lst (nts S.2.1.reverse)) = H10 at *
    refine ⟨B, _, rfl, .inr (SqL.of eB), ?_⟩
    have k9' := ks_drop k2 k9 nR
    refine ⟨by
      rw [List.append_nil, List.length_cons, nts_len, List.length_reverse]
      exact Nat.le_of_lt (big_lt (by omega)), fun D nD => ?_⟩
    rw [List.append_nil]
    have sD := same_upd (o := .lst (.int (S.2.2 : Int) :: nts S.2.1.reverse)) nD
    exact q D _ (k9'.trans (.ofSame (sB.trans sD))) (N9.less.same (sB.trans sD)) (ks_none (k9'.trans (.ofSame sB)) nD) upd_same
end
section
variable {P : Program} {w : World} {K : PySem.W.Frag} {mg : Str → Option Value} {base : Heap}
variable {C : Addr} {a1 a2 a3 a4 a5 a6 a7 a8 a9 a10 a11 a12 a13 a14 a15 a16 a17 a18 a19 a20 a21 a22 a23 a24 a25 a26 a27 : Addr} {l1 l2 l3 l4 l5 l6 l7 l8 l9 l10 l11 l12 l13 l14 l15 l16 l17 l18 l19 l20 l21 l22 l23 l24 l25 l26 l27 : FuncData}
def spDepth (C : Addr) : Sp := fun vs H Q _ => ∃ (Z : List Addr) (p : NetP) (m : Nat) (gs : List Gt) (nm : List (Str × List Nat)) (a : Nat), vs = [.ref p.x, .int (a : Int)] ∧ NetAt C Z H p m gs nm ∧ a < m + gs.length ∧
  ∀ H', Same H H' → Q (.int (dpW m gs a)) H'
theorem ok_Net_depth (B : Bl mg) (L : LL K mg C a1 a2 a3 a4 a5 a6 a7 a8 a9 a10 a11 a12 a13 a14 a15 a16 a17 a18 a19 a20 a21 a22 a23 a24 a25 a26 a27 l1 l2 l3 l4 l5 l6 l7 l8 l9 l10 l11 l12 l13 l14 l15 l16 l17 l18 l19 l20 l21 l22 l23 l24 l25 l26 l27) : FnOk P w K mg base CX0 2 a27 l27 ["self", "wire"] (spDepth C) := by
  have G_Net_need : FnOk P w K mg base CX0 1 a21 l21 ["self", "wires"] (spNeed K C) := (ok_Net_need B L).mono (by decide)
  refine L.F_Net_depth.ok sc_Net_depth (fun vs H Q E h => ?_) (fun cdv A outer s H vs Q E hr h => ?_)
  · obtain ⟨Z, p, m, gs, nm, a, rfl, _⟩ := h
    rfl
  obtain ⟨Z, p, m, gs, nm, a, rfl, hN, ha, q⟩ := h
  refine ⟨_, (pss_cons (ps_expr (pe_meth (pv 0) L.T.cl L.M_Net_need G_Net_need hr L.b_Net_need .nil pass0 (pa_cons (pe_tup (pa_cons (pv 1) pa_nil)) pa_nil)))
    (pss_one (ps_ret (pe_ix ix_list (pe_fld (pv 0) rfl) (pv 1) (fun _ _ => rfl))))), ?_⟩
  obtain ⟨_, _, _, dx, ps, kvs, e1, e2, e3, _⟩ := id hN
  refine ⟨_, rfl, p.x, dx, _, rfl, e1, rfl, _, rfl, (by show 1 ≤ sizeLine; decide), fun t nt => ?_⟩
  have st := same_upd (o := .tup [.int (a : Int)]) nt
  refine ⟨Z, p, m, gs, nm, t, [a], rfl, hN.same st, .inr (.inl (.inl upd_same)), (fun x hx => by rw [List.mem_singleton.mp hx]; exact ha), fun H' s' => ?_⟩
  have e1' := s' _ _ (st _ _ e1)
  have e3' := s' _ _ (st _ _ e3)
  refine ⟨_, rfl, p.x, C, dx, _, _, rfl, e1', L.T.cl, L.T.n_depths, rfl, ?_⟩
  refine ⟨_, rfl, p.ld, _, _, _, rfl, rfl, SqL.of e3', atI_nat (by
    rw [List.getElem?_map, List.getElem?_eq_getElem (by rw [dps_len]; exact ha)]
    rfl), ?_⟩
  have ed : (dps m gs)[a]'(by rw [dps_len]; exact ha) = dpW m gs a := by
    unfold dpW
    simp [List.getD, List.getElem?_eq_getElem (show a < (dps m gs).length by rw [dps_len]; exact ha)]
  rw [ed]
  exact q _ (st.trans s')
def spV (s : Spn) : List V := [.int (s.1 : Int), match s.2 with | none => .non | some w => .int (w : Int)]
def SpAt (H : Hp) (ts : List Addr) (S : List Spn) : Prop := ts.length = S.length ∧ ∀ (i : Nat) (t : Addr) (s : Spn), ts[i]? = some t → S[i]? = some s → H t = some (.tup (spV s))
theorem SpAt.keepS {H H' : Hp} {ts : List Addr} {S : List Spn} {Z : List Addr} {p : NetP} {C : Addr} {m : Nat} {gs : List Gt} {nm : List (Str × List Nat)} (h : SpAt H ts S) (hN : NetAt C Z H p m gs nm) (k : KeepS [p.lm, p.ld] H H') : SpAt H' ts S := by
  obtain ⟨_, _, _, dx, ps, kvs, e1, e2, e3, _⟩ := hN
  refine ⟨h.1, fun i t s ht hs => k.1 _ _ (h.2 i t s ht hs) (fun z => ?_)⟩
  have e := h.2 i t s ht hs
  simp only [List.mem_cons, List.not_mem_nil, or_false] at z
  rcases z with z | z
  · rw [z, e2] at e; cases e
  · rw [z, e3] at e; cases e
theorem SpAt.same {H H' : Hp} {ts : List Addr} {S : List Spn} (h : SpAt H ts S) (k : Same H H') : SpAt H' ts S := ⟨h.1, fun i t s ht hs => k _ _ (h.2 i t s ht hs)⟩
def spSpd (C : Addr) : Sp := fun vs H Q _ => ∃ (Z : List Addr) (p : NetP) (m : Nat) (gs : List Gt) (nm : List (Str × List Nat)) (LS : Addr) (ts : List Addr) (S : List Spn) (pl z N : Nat) (gf pf : List Bool → Nat → Bool) (D : Prop) (d : Int), vs = [.ref p.x, .ref LS, .int (pl : Int), .int (z : Int)] ∧ NetAt C Z H p m gs nm ∧ H LS = some (.lst (ts.map V.ref)) ∧ SpAt H ts S ∧ SpsOk m gs gf pf D d z N S ∧ 0 < z ∧ z ≤ 1000 ∧ 0 ≤ d ∧ pl < N ∧ N ≤ 1000 ∧ m + gs.length ≤ 400000 ∧
  ∀ T H', KeepS [p.lm, p.ld] H H' → NetAt C Z H' p m (sdW m gs S z pl).1 nm → H' T = some (.tup (spV (sdW m gs S z pl).2)) → Q (.ref T) H'
theorem ok_span_doubled (B : Bl mg) (L : LL K mg C a1 a2 a3 a4 a5 a6 a7 a8 a9 a10 a11 a12 a13 a14 a15 a16 a17 a18 a19 a20 a21 a22 a23 a24 a25 a26 a27 l1 l2 l3 l4 l5 l6 l7 l8 l9 l10 l11 l12 l13 l14 l15 l16 l17 l18 l19 l20 l21 l22 l23 l24 l25 l26 l27) : FnOk P w K mg base CX0 6 a4 l4 ["net", "spans", "place", "size"] (spSpd C) := by
  have G_Net_both : FnOk P w K mg base CX0 5 a15 l15 ["self", "a", "b"] (spG2 C "both") := (ok_Net_both B L).mono (by decide)
  have G_Net_either : FnOk P w K mg base CX0 5 a16 l16 ["self", "a", "b"] (spG2 C "either") := (ok_Net_either B L).mono (by decide)
  refine L.F_span_doubled.ok sc_span_doubled (fun vs H Q E h => ?_) (fun cdv A outer s H vs Q E hr h => ?_)
  · obtain ⟨Z, p, m, gs, nm, LS, ts, S, pl, z, N, gf, pf, D, d, rfl, _⟩ := h
    rfl
  obtain ⟨Z, p, m, gs, nm, LS, ts, S, pl, z, N, gf, pf, D, d, rfl, hN, hL, hA, hS, hz, hz2, d0, hp, hN2, hl, q⟩ := h
  refine ⟨_, (pss_cons (ps_if (pt_cmpR op_eq (pe_op op_mod (pe_op op_fdiv (pv 2) (pv 3)) pe_int) pe_int (nomark _)) (pss_one (ps_ret (pe_ix ix_list (pv 1) (pv 2) (fun _ _ => rfl)))) pss_nil)
    (pss_cons (ps_asg (pe_ix ix_list (pv 1) (pv 2) (fun _ _ => rfl)) (pg_tup (by rfl) (pgs_cons (pg_name (i := 4) sc_span_doubled.nd rfl (.inl rfl)) (pgs_cons (pg_name (i := 5) sc_span_doubled.nd rfl (.inl rfl)) pgs_nil))))
    (pss_cons (ps_asg (pe_ix ix_list (pv 1) (pe_op op_sub (pe_op op_mul (pe_op op_fdiv (pv 2) (pv 3)) (pv 3)) pe_int) (fun _ _ => rfl)) (pg_tup (by rfl) (pgs_cons (pg_name (i := 6) sc_span_doubled.nd rfl (.inl rfl)) (pgs_cons (pg_name (i := 7) sc_span_doubled.nd rfl (.inl rfl)) pgs_nil))))
    (pss_cons (ps_set (i := 4) sc_span_doubled.nd rfl (.inl rfl) (pe_meth (pv 0) L.T.cl L.M_Net_either G_Net_either hr L.b_Net_either .nil pass0 (pa_cons (pv 4) (pa_cons (pe_meth (pv 0) L.T.cl L.M_Net_both G_Net_both hr L.b_Net_both .nil pass0 (pa_cons (pv 5) (pa_cons (pv 6) pa_nil))) pa_nil))))
    (pss_one (ps_ret (pe_tup (pa_cons (pv 4) (pa_cons (pe_ifExp (pt_cmpR op_isN (pv 7) pe_non (nomark _)) pe_non (pe_meth (pv 0) L.T.cl L.M_Net_both G_Net_both hr L.b_Net_both .nil pass0 (pa_cons (pv 5) (pa_cons (pv 7) pa_nil)))) pa_nil))))))))), ?_⟩
  obtain ⟨is1, s1⟩ := hS.at hp
  have lS := hS.1
  obtain ⟨t1, ht1⟩ : ∃ t, ts[pl]? = some t := ⟨ts[pl]'(by have := hA.1; omega), List.getElem?_eq_getElem (by have := hA.1; omega)⟩
  have e1 := hA.2 pl t1 _ ht1 is1
  have eI : ∀ {j : Nat} {t : Addr}, ts[j]? = some t → atI (ts.map V.ref) (j : Int) = some (.ref t) := fun h => atI_nat (by rw [List.getElem?_map, h]; rfl)
  have hdiv : ((pl : Int) / (z : Int)) = ((pl / z : Nat) : Int) := (Int.natCast_ediv _ _).symm
  refine ⟨_, rfl, _, rfl, _, _, rfl, rfl, ⟨by omega, by omega⟩, _, _, rfl, rfl, (by show (0 : Int) < 2; decide), rfl, _, rfl, ?_⟩
  dsimp only
  rw [hdiv]
  have lq : pl / z * z ≤ pl := Nat.div_mul_le_self pl z
  refine ite2 (fun c => ?_) (fun c => ?_)
  · have c' : pl / z % 2 = 0 := by
      have := V.int.inj (of_decide_eq_true c)
      omega
    have hsd : sdW m gs S z pl = (gs, S.getD pl (0, none)) := if_pos c'
    rw [hsd] at q
    exact ⟨_, rfl, _, rfl, LS, _, _, _, rfl, rfl, SqL.of hL, eI ht1, q t1 H (KeepS.refl _ _) hN e1⟩
  · have c' : ¬ pl / z % 2 = 0 := fun y => c (decide_eq_true (congrArg V.int (by omega)))
    have hsd : sdW m gs S z pl = sdO m gs (S.getD pl (0, none)) (S.getD (pl / z * z - 1) (0, none)) := if_neg c'
    rw [hsd] at q
    clear hsd c
    have lb : pl / z * z - 1 < N := Nat.lt_of_le_of_lt (Nat.le_trans (Nat.sub_le _ _) lq) hp
    obtain ⟨is2, s2⟩ := hS.at lb
    have q1 : 1 ≤ pl / z := Nat.pos_of_ne_zero (fun y => c' (by rw [y]))
    have q2 : z ≤ pl / z * z := by
      have := Nat.mul_le_mul_right z q1
      rw [Nat.one_mul] at this
      exact this
    obtain ⟨t2, ht2⟩ : ∃ t, ts[pl / z * z - 1]? = some t := ⟨ts[pl / z * z - 1]'(by have := hA.1; omega), List.getElem?_eq_getElem (by have := hA.1; omega)⟩
    have e2 := hA.2 _ t2 _ ht2 is2
    generalize S.getD pl (0, none) = u at *
    generalize S.getD (pl / z * z - 1) (0, none) = v at *
    obtain ⟨u1, u2⟩ := u
    obtain ⟨v1, v2⟩ := v
    obtain ⟨pw, rfl⟩ : ∃ pw, u2 = some pw := by
      cases u2 with
      | none =>
        have := s1.non.mp rfl
        omega
      | some pw => exact ⟨pw, rfl⟩
    have k1 := s1.lt
    have k2 := s1.ltp pw rfl
    have k3 := s2.lt
    replace e1 : H t1 = some (.tup [.int (u1 : Int), .int (pw : Int)]) := e1
    dsimp only at k1 k2 k3
    dsimp only [tNext]
    refine ⟨_, rfl, _, rfl, LS, _, _, _, rfl, rfl, SqL.of hL, eI ht1, t1, _, rfl, .inl (.inl e1), rfl, _, _, rfl, _, _, rfl, rfl, ?_⟩
    try simp only [L2.start, List.map_cons, List.map_nil, List.length_cons, List.length_nil, List.replicate_succ, List.replicate_zero, List.cons_append, List.nil_append, List.set_cons_succ, List.set_cons_zero, Nat.reduceAdd, Nat.reduceSub, Nat.zero_add]
    have cm : ((pl / z : Nat) : Int) * (z : Int) = ((pl / z * z : Nat) : Int) := (Int.natCast_mul _ _).symm
    refine ⟨_, rfl, _, rfl, _, rfl, _, _, rfl, rfl, ⟨by omega, by omega⟩, _, rfl, _, _, rfl, rfl, .inr ⟨by omega, by omega⟩, _, _, rfl, rfl, ?_⟩
    dsimp only
    rw [hdiv, cm, show ((pl / z * z : Nat) : Int) - 1 = ((pl / z * z - 1 : Nat) : Int) by omega]
    generalize hbi : pl / z * z - 1 = bi at *
    refine ⟨LS, _, _, _, rfl, rfl, SqL.of hL, eI ht2, t2, _, rfl, .inl (.inl e2), rfl, _, _, rfl, _, _, rfl, rfl, ?_⟩
    try simp only [L2.start, List.map_cons, List.map_nil, List.length_cons, List.length_nil, List.replicate_succ, List.replicate_zero, List.cons_append, List.nil_append, List.set_cons_succ, List.set_cons_zero, Nat.reduceAdd, Nat.reduceSub, Nat.zero_add]
    obtain ⟨_, _, _, dx, _, _, f0, _⟩ := id hN
    refine ⟨_, rfl, p.x, dx, _, rfl, f0, rfl, _, rfl, ?_⟩
    refine ⟨_, rfl, p.x, dx, _, rfl, f0, rfl, _, rfl, _, rfl, Z, p, m, gs, nm, pw, v1, rfl, hN, k2, k3, by omega, fun H1 x1 N1 => ?_⟩
    have l1 : (gs ++ [Gt.w "both" [pw, v1]]).length = gs.length + 1 := by simp
    refine ⟨Z, p, m, _, nm, u1, m + gs.length, rfl, N1, by omega, by omega, by omega, fun H2 x2 N2 => ?_⟩
    have l2 : (gs ++ [Gt.w "both" [pw, v1]] ++ [Gt.w "either" [u1, m + gs.length]]).length = gs.length + 2 := by simp
    dsimp only [gName]
    try simp only [L2.start, List.map_cons, List.map_nil, List.length_cons, List.length_nil, List.replicate_succ, List.replicate_zero, List.cons_append, List.nil_append, List.set_cons_succ, List.set_cons_zero, Nat.reduceAdd, Nat.reduceSub, Nat.zero_add]
    cases v2 with
    | none =>
      refine ⟨_, rfl, _, rfl, rfl, _, rfl, iteT ?_⟩
      refine ⟨(by show 2 ≤ sizeLine; decide), fun T nT => ?_⟩
      have sT := same_upd (o := .tup [.int ((m + (gs ++ [Gt.w "both" [pw, v1]]).length : Nat) : Int), .non]) nT
      exact q T _ ((x1.trans x2).trans (.ofSame sT)) (N2.same sT) upd_same
    | some vw =>
      have k4 := s2.ltp vw rfl
      refine ⟨_, rfl, _, rfl, rfl, _, rfl, iteF ?_⟩
      obtain ⟨_, _, _, dx2, _, _, f2, _⟩ := id N2
      refine ⟨_, rfl, p.x, dx2, _, rfl, f2, rfl, _, rfl, _, rfl, Z, p, m, _, nm, pw, vw, rfl, N2, by omega, by omega, by omega, fun H3 x3 N3 => ?_⟩
      refine ⟨(by show 2 ≤ sizeLine; decide), fun T nT => ?_⟩
      have sT := same_upd (o := .tup [.int ((m + (gs ++ [Gt.w "both" [pw, v1]]).length : Nat) : Int), .int ((m + (gs ++ [Gt.w "both" [pw, v1]] ++ [Gt.w "either" [u1, m + gs.length]]).length : Nat) : Int)]) nT
      exact q T _ (((x1.trans x2).trans x3).trans (.ofSame sT)) (N3.same sT) upd_same
def spCar (C : Addr) : Sp := fun vs H Q _ => ∃ (Z : List Addr) (p : NetP) (m : Nat) (gs : List Gt) (nm : List (Str × List Nat)) (LS : Addr) (ts : List Addr) (S : List Spn) (N : Nat) (gf pf : List Bool → Nat → Bool) (D : Prop), vs = [.ref p.x, .ref LS] ∧ NetAt C Z H p m gs nm ∧ H LS = some (.lst (ts.map V.ref)) ∧ LS ∉ [p.lm, p.ld] ∧ SpAt H ts S ∧ SpsOk m gs gf pf D 1 1 N S ∧ 1 ≤ N ∧ N ≤ 101 ∧ m + gs.length ≤ 300000 ∧
  ∀ (R : Addr) (H' : Hp) (gs' : List Gt) (S' : List Spn) (k : Nat), KeepS [p.lm, p.ld] H H' → NetAt C Z H' p m gs' nm → H R = none → H' R = some (.lst (nts (S'.map (·.1)))) → Ext m gs gs' (3 * N * k) → k ≤ 7 → (k = 0 ∨ 2 ^ (k - 1) < N) → N ≤ 2 ^ k → SpsOk m gs' gf pf D (1 + 2 * (k : Int)) (2 ^ k) N S' → Q (.ref R) H'
theorem ok_carry_wires (B : Bl mg) (L : LL K mg C a1 a2 a3 a4 a5 a6 a7 a8 a9 a10 a11 a12 a13 a14 a15 a16 a17 a18 a19 a20 a21 a22 a23 a24 a25 a26 a27 l1 l2 l3 l4 l5 l6 l7 l8 l9 l10 l11 l12 l13 l14 l15 l16 l17 l18 l19 l20 l21 l22 l23 l24 l25 l26 l27) : FnOk P w K mg base CX0 7 a3 l3 ["net", "spans"] (spCar C) := by
  have G_span_doubled : FnOk P w K mg base CX0 6 a4 l4 ["net", "spans", "place", "size"] (spSpd C) := (ok_span_doubled B L).mono (by decide)
  refine L.F_carry_wires.ok sc_carry_wires (fun vs H Q E h => ?_) (fun cdv A outer s H vs Q E hr h => ?_)
  · obtain ⟨Z, p, m, gs, nm, LS, ts, S, N, gf, pf, D, rfl, _⟩ := h
    rfl
  obtain ⟨Z, p, m, gs, nm, LS, ts, S, N, gf, pf, D, rfl, hN, hL, nL, hA, hS, n1, n101, hl, q⟩ := h
  refine ⟨_, (pss_cons (ps_set (i := 2) sc_carry_wires.nd rfl (.inr rfl) pe_int)
    (pss_cons (ps_while PassesOwn.never (pt_cmpR op_lt (pv 2) (pe_callB call_len_seq (by rfl) B.len PySem.boot_len (pa_cons (pv 1) pa_nil)) (nomark _)) (pss_cons (ps_set (i := 1) sc_carry_wires.nd rfl (.inr rfl) (pe_lc (own := [("place", 3)]) (by rfl) sc_carry_wires.nd (pi_range1 (by rfl) B.range (pa_cons (pe_callB call_len_seq (by rfl) B.len PySem.boot_len (pa_cons (pv 1) pa_nil)) pa_nil)) (blkOk_by (own := [("place", 3)]) (N := ["net", "spans", "size", "place", "makes", "passes"]) (sc := defScope s_carry_wires) (by decide +kernel)) (fun _ _ _ _ _ => pg_name (i := 3) sc_carry_wires.nd rfl (Or.inl rfl)) (fun _ _ _ _ _ => pts_nil) (fun _ _ _ _ _ => (pe_call G_span_doubled hr (by rfl) L.m_span_doubled L.F_span_doubled.kp L.b_span_doubled .nil pass0 (pa_cons (pv 0) (pa_cons (pv 1) (pa_cons (pv 3) (pa_cons (pv 2) pa_nil))))))))
    (pss_one (ps_aug (i := 2) sc_carry_wires.nd rfl (.inr rfl) pe_int iop_mul))))
    (pss_one (ps_ret (pe_lc (own := [("makes", 4), ("passes", 5)]) (g := gTup K 2 (gCons (gName 4) (gCons (gName 5) gNil))) (by rfl) sc_carry_wires.nd (pi_sq (pv 1)) (blkOk_by (own := [("makes", 4), ("passes", 5)]) (N := ["net", "spans", "size", "place", "makes", "passes"]) (sc := defScope s_carry_wires) (by decide +kernel)) (fun _ _ _ _ _ => pg_tup rfl (pgs_cons (pg_name (i := 4) sc_carry_wires.nd rfl (Or.inl rfl) (.inr rfl)) (pgs_cons (pg_name (i := 5) sc_carry_wires.nd rfl (Or.inl rfl) (.inr rfl)) pgs_nil))) (fun _ _ _ _ _ => pts_nil) (fun _ _ _ _ _ => (pv 4))))))), ?_⟩
  try simp only [L2.start, List.map_cons, List.map_nil, List.length_cons, List.length_nil, List.replicate_succ, List.replicate_zero, List.cons_append, List.nil_append, List.set_cons_succ, List.set_cons_zero, Nat.reduceAdd, Nat.reduceSub, Nat.zero_add]
  refine ⟨fun μ σ H9 => ∃ (k : Nat) (gs' : List Gt) (S' : List Spn) (LS' : Addr) (ts' : List Addr) (y3 y4 y5 : Option V), μ = 8 - k ∧ k ≤ 7 ∧ (k = 0 ∨ 2 ^ (k - 1) < N) ∧ σ = [some (.ref p.x), some (.ref LS'), some (.int ((2 ^ k : Nat) : Int)), y3, y4, y5] ∧ KeepS [p.lm, p.ld] H H9 ∧ NetAt C Z H9 p m gs' nm ∧ Ext m gs gs' (3 * N * k) ∧ SpsOk m gs' gf pf D (1 + 2 * (k : Int)) (2 ^ k) N S' ∧ H9 LS' = some (.lst (ts'.map V.ref)) ∧ LS' ∉ [p.lm, p.ld] ∧ SpAt H9 ts' S', ⟨_, 0, gs, S, LS, ts, _, _, _, rfl, by decide, .inl rfl, rfl, KeepS.refl _ _, hN, Ext.refl, hS, hL, nL, hA⟩, ?_⟩
  rintro μ σ H9 ⟨k, gs', S', LS', ts', y3, y4, y5, rfl, k7, hk, rfl, x9, N9, E9, S9, L9, nL9, A9⟩
  have lts : ts'.length = N := A9.1.trans S9.1
  have pw : 2 ^ k ≤ 2 ^ 7 := Nat.pow_le_pow_right (by decide) k7
  have pp : 0 < 2 ^ k := Nat.pow_pos (by decide)
  have lE := E9.len
  have mN : 3 * N * k ≤ 3 * 101 * 7 := Nat.mul_le_mul (by omega) k7
  refine ⟨_, rfl, _, rfl, LS', _, rfl, .inl (SqL.of L9), ?_⟩
  rw [List.length_map, lts]
  refine ⟨_, _, rfl, rfl, _, rfl, ?_⟩
  refine ite2 (fun c => ?_) (fun c => ?_)
  · have c' : 2 ^ k < N := by
      have := of_decide_eq_true c
      omega
    have k6 : k ≤ 6 := by
      rcases Nat.lt_or_ge k 7 with y | y
      · omega
      · have e : k = 7 := by omega
        rw [e] at c'
        have : 2 ^ 7 = 128 := rfl
        omega
    refine ⟨fun σ H9 => ∃ (gs' : List Gt) (S' : List Spn) (LS' : Addr) (ts' : List Addr) (y3 y4 y5 : Option V), σ = [some (.ref p.x), some (.ref LS'), some (.int ((2 ^ (k + 1) : Nat) : Int)), y3, y4, y5] ∧ KeepS [p.lm, p.ld] H H9 ∧ NetAt C Z H9 p m gs' nm ∧ Ext m gs gs' (3 * N * (k + 1)) ∧ SpsOk m gs' gf pf D (1 + 2 * ((k + 1 : Nat) : Int)) (2 ^ (k + 1)) N S' ∧ H9 LS' = some (.lst (ts'.map V.ref)) ∧ LS' ∉ [p.lm, p.ld] ∧ SpAt H9 ts' S', fun σ' H' ⟨gs2, S2, LS2, ts2, z3, z4, z5, b1, b2, b3, b4, b5, b6, b7, b8⟩ => ⟨8 - (k + 1), by omega, k + 1, gs2, S2, LS2, ts2, z3, z4, z5, rfl, by omega, .inr c', b1, b2, b3, b4, b5, b6, b7, b8⟩, ?_⟩
    refine ⟨_, rfl, LS', _, rfl, .inl (SqL.of L9), ?_⟩
    rw [List.length_map, lts]
    refine ⟨_, rfl, by omega, by omega, fun D0 nD => ?_⟩
    have nD2 := N9.nin nD
    have R9 := fun i hi => rdF_ok (m := m) (gs := gs') S9 (by omega) pp i hi _ rfl
    rw [Int.toNat_natCast]
    refine lc_range (n := N) (fun j H1 => ∃ ts2 : List Addr, ts2.length = j ∧ KeepS [p.lm, p.ld] H9 H1 ∧ NetAt C (D0 :: Z) H1 p m (rdF m S' (2 ^ k) gs' ((List.range N).take j)).1 nm ∧ H1 D0 = some (.lst (ts2.map V.ref)) ∧ SpAt H1 ts2 (rdF m S' (2 ^ k) gs' ((List.range N).take j)).2) ⟨[], rfl, KeepS.new nD, N9.add nD, upd_same, rfl, fun i t s h => by simp at h⟩ ?_ ?_
    · rintro j H1 hj ⟨ts2, l2, x1, N1, eD, A2⟩
      have estep : rdF m S' (2 ^ k) gs' ((List.range N).take (j + 1)) = rdS m S' (2 ^ k) (rdF m S' (2 ^ k) gs' ((List.range N).take j)) j := fold_take _ (List.getElem?_range hj) _
      rw [estep]
      obtain ⟨r1, r2, r3⟩ := R9 j (by omega)
      generalize rdF m S' (2 ^ k) gs' ((List.range N).take j) = r at *
      have lr := r1.len
      have L1 := x1.1 _ _ L9 nL9
      have A1 := A9.keepS N9 x1
      dsimp only [gName]
      refine ⟨rfl, yesT ?_⟩
      refine ⟨_, rfl, _, rfl, _, rfl, _, rfl, D0 :: Z, p, m, r.1, nm, LS', ts', S', j, 2 ^ k, N, gf, pf, D, _, by rw [Int.zero_add]; rfl, N1, L1, A1, S9.ext r1, pp, by omega, by omega, hj, by omega, by omega, fun T H2 x2 N2 eT => ?_⟩
      have A3 := A2.keepS N1 x2
      have eD2 := x2.1 _ _ eD nD2
      refine ⟨_, eD2, by rw [List.length_map, l2]; exact big_lt (by omega), ts2 ++ [T], by rw [List.length_append, l2]; rfl, ks_updN (x1.trans x2) nD, N2.put (by simp), by rw [upd_same, List.map_append]; rfl, by show (ts2 ++ [T]).length = (r.2 ++ [_]).length; rw [List.length_append, List.length_append, A2.1]; rfl, fun i t s ht hs => ?_⟩
      replace hs : (r.2 ++ [(sdW m r.1 S' (2 ^ k) j).2])[i]? = some s := hs
      have key : H2 t = some (.tup (spV s)) := by
        by_cases c2 : i < ts2.length
        · rw [List.getElem?_append_left c2] at ht
          rw [List.getElem?_append_left (by have := A2.1; omega)] at hs
          exact A3.2 i t s ht hs
        · have i0 : i = ts2.length := by
            have := (List.getElem?_eq_some_iff.mp ht).1
            rw [List.length_append, List.length_cons, List.length_nil] at this
            omega
          rw [List.getElem?_append_right (by omega), i0, Nat.sub_self] at ht
          rw [List.getElem?_append_right (by have := A2.1; omega), i0, A2.1, Nat.sub_self] at hs
          cases ht
          cases hs
          exact eT
      rw [upd_ne (fun z => by rw [z, eD2] at key; cases key)]
      exact key
    · rintro H1 ⟨ts2, l2, x1, N1, eD, A2⟩
      obtain ⟨r1, r2, r3⟩ := R9 N (Nat.le_refl _)
      generalize rdF m S' (2 ^ k) gs' ((List.range N).take N) = r at *
      dsimp only [gName]
      try simp only [L2.start, List.map_cons, List.map_nil, List.length_cons, List.length_nil, List.replicate_succ, List.replicate_zero, List.cons_append, List.nil_append, List.set_cons_succ, List.set_cons_zero, Nat.reduceAdd, Nat.reduceSub, Nat.zero_add]
      have e2 : ((2 ^ k : Nat) : Int) * 2 = ((2 ^ (k + 1) : Nat) : Int) := by rw [Nat.pow_succ, Int.natCast_mul]; rfl
      refine ⟨_, rfl, _, _, rfl, rfl, .inr ⟨by decide, by decide⟩, ?_⟩
      dsimp only
      rw [e2]
      try simp only [L2.start, List.map_cons, List.map_nil, List.length_cons, List.length_nil, List.replicate_succ, List.replicate_zero, List.cons_append, List.nil_append, List.set_cons_succ, List.set_cons_zero, Nat.reduceAdd, Nat.reduceSub, Nat.zero_add]
      refine ⟨r.1, r.2, D0, ts2, y3, y4, y5, rfl, x9.trans x1, N1.less, (E9.trans r1).mono (by rw [Nat.mul_succ]; omega), ⟨r2, fun i s hs => ?_⟩, eD, nD2, A2⟩
      have := r3 i s hs
      rw [show 2 ^ (k + 1) = 2 * 2 ^ k by rw [Nat.pow_succ, Nat.mul_comm]]
      exact this.mono (by omega)
  · have c' : N ≤ 2 ^ k := by
      have := mt (decide_eq_true (p := ((2 ^ k : Nat) : Int) < (N : Int))) c
      omega
    refine ⟨_, rfl, false, LS', _, rfl, SqL.of L9, fun R nR => ?_⟩
    have nR2 := N9.nin nR
    refine lc_it (walk_q (K := K) (t := false) (a := LS') (xs := ts'.map V.ref)) (fun j H1 => KeepS [p.lm, p.ld] H9 H1 ∧ NetAt C (R :: Z) H1 p m gs' nm ∧ H1 R = some (.lst (nts ((S'.take j).map (·.1))))) ⟨KeepS.new nR, N9.add nR, upd_same⟩ (fun j H1 _ ⟨x1, _⟩ => (SqL.of (x1.1 _ _ L9 nL9) : SqL K H1 LS' _)) ?_ ?_
    · rintro j x H2 H1 hj ⟨x1, N1, eR⟩ ⟨rfl, hz⟩
      rw [List.length_map, lts] at hj
      obtain ⟨t0, ht0⟩ : ∃ t0, ts'[j]? = some t0 := ⟨ts'[j]'(by omega), List.getElem?_eq_getElem (by omega)⟩
      obtain ⟨s0, hs0⟩ : ∃ s0, S'[j]? = some s0 := ⟨S'[j]'(by have := S9.1; omega), List.getElem?_eq_getElem (by have := S9.1; omega)⟩
      replace hz : (ts'.map V.ref)[j]? = some x := hz
      rw [List.getElem?_map, ht0] at hz
      cases hz
      have e0 := (A9.keepS N9 x1).2 j t0 s0 ht0 hs0
      refine ⟨t0, _, rfl, .inl (.inl e0), rfl, _, _, rfl, _, _, rfl, rfl, rfl, yesT ?_⟩
      refine ⟨_, rfl, _, eR, by rw [nts_len, List.length_map, List.length_take]; exact big_lt (by omega), ks_updN x1 nR, N1.put (by simp), ?_⟩
      rw [upd_same, List.take_add_one, hs0, List.map_append, nts_app]
      rfl
    · rintro H1 ⟨x1, N1, eR⟩
      rw [List.length_map, lts, List.take_of_length_le (by have := S9.1; omega)] at eR
      exact q R H1 gs' S' k (x9.trans x1) N1.less (ks_none x9 nR) eR E9 k7 hk c' S9
end
section
variable {P : Program} {w : World} {K : PySem.W.Frag} {mg : Str → Option Value} {base : Heap}
variable {C : Addr} {a1 a2 a3 a4 a5 a6 a7 a8 a9 a10 a11 a12 a13 a14 a15 a16 a17 a18 a19 a20 a21 a22 a23 a24 a25 a26 a27 : Addr} {l1 l2 l3 l4 l5 l6 l7 l8 l9 l10 l11 l12 l13 l14 l15 l16 l17 l18 l19 l20 l21 l22 l23 l24 l25 l26 l27 : FuncData}
theorem at_last {us : List V} {v : V} : atI (us ++ [v]) (-1) = some v := by
  unfold atI ixN
  rw [if_neg (by decide), if_pos (by rw [List.length_append]; show -((us.length + 1 : Nat) : Int) ≤ -1; omega)]
  show (us ++ [v])[_]? = _
  have : ((-1 : Int) + ((us ++ [v]).length : Nat)).toNat = us.length := by rw [List.length_append]; simp; omega
  rw [this, List.getElem?_append_right (Nat.le_refl _), Nat.sub_self]
  rfl
theorem at_lastN {ws : List Nat} {n : Nat} (h : ws.length = n + 1) : atI (nts ws) (-1) = some (.int ((ws.getD n 0 : Nat) : Int)) := by
  have e : ws = ws.take n ++ [ws.getD n 0] := by
    have := List.take_append_drop n ws
    rw [List.drop_eq_getElem_cons (by omega), List.drop_of_length_le (by omega)] at this
    rw [show ws.getD n 0 = ws[n] from by simp [List.getD, List.getElem?_eq_getElem (show n < ws.length by omega)]]
    exact this.symm
  have e2 : nts ws = nts (ws.take n) ++ [V.int ((ws.getD n 0 : Nat) : Int)] := by
    rw [← show nts (ws.take n ++ [ws.getD n 0]) = nts (ws.take n) ++ [V.int ((ws.getD n 0 : Nat) : Int)] from by rw [nts_app]; rfl, ← e]
  rw [e2]
  exact at_last
theorem walk_zbm {t1 t2 : Bool} {a b : Addr} {xs ys : List V} {n : Nat} (hn : n = min xs.length ys.length) : Walk (Itzb t1 t2 K a b) n (fun H => Sq2 t1 K H a xs ∧ Sq2 t2 K H b ys) (YPair (fun i => xs[i]?) (fun i => ys[i]?)) := by
  refine ⟨fun i _ hi q => ⟨xs, ys, q.1, q.2, by omega, by omega⟩, fun _ q => ⟨xs, ys, q.1, q.2, hn⟩, fun i H v H' hi q z => ?_⟩
  obtain ⟨T, c, y, h1, h2, h3, h4, h5⟩ := z
  exact ⟨T, _, _, h1, h2, h3, h4 xs q.1, h5 ys q.2⟩
def spQs (K : PySem.W.Frag) (C : Addr) : Sp := fun vs H Q _ => ∃ (Z : List Addr) (p : NetP) (m : Nat) (gs : List Gt) (nm : List (Str × List Nat)) (t u : Addr) (b1 b2 : Bool) (os ts : List Nat) (c : Nat), vs = [.ref p.x, .ref t, .ref u, .int (c : Int)] ∧ NetAt C Z H p m gs nm ∧ Sq2 b1 K H t (nts os) ∧ Sq2 b2 K H u (nts ts) ∧ t ∉ [p.lm, p.ld] ∧ u ∉ [p.lm, p.ld] ∧ os.length = ts.length ∧ (∀ w ∈ os, w < m + gs.length) ∧ (∀ w ∈ ts, w < m + gs.length) ∧ c < m + gs.length ∧ os.length ≤ 100 ∧ m + gs.length ≤ 200000 ∧
  ∀ D H' gs' ws, KeepS [p.lm, p.ld] H H' → NetAt C Z H' p m gs' nm → H D = none → H' D = some (.lst (nts ws)) → QF m gs gs' os ts c ws → Q (.ref D) H'
theorem ok_quick_sum_wires (B : Bl mg) (L : LL K mg C a1 a2 a3 a4 a5 a6 a7 a8 a9 a10 a11 a12 a13 a14 a15 a16 a17 a18 a19 a20 a21 a22 a23 a24 a25 a26 a27 l1 l2 l3 l4 l5 l6 l7 l8 l9 l10 l11 l12 l13 l14 l15 l16 l17 l18 l19 l20 l21 l22 l23 l24 l25 l26 l27) : FnOk P w K mg base CX0 8 a2 l2 ["net", "ones", "others", "carry"] (spQs K C) := by
  have G_Net_both : FnOk P w K mg base CX0 7 a15 l15 ["self", "a", "b"] (spG2 C "both") := (ok_Net_both B L).mono (by decide)
  have G_Net_unlike : FnOk P w K mg base CX0 7 a17 l17 ["self", "a", "b"] (spG2 C "unlike") := (ok_Net_unlike B L).mono (by decide)
  have G_carry_wires : FnOk P w K mg base CX0 7 a3 l3 ["net", "spans"] (spCar C) := (ok_carry_wires B L).mono (by decide)
  refine L.F_quick_sum_wires.ok sc_quick_sum_wires (fun vs H Q E h => ?_) (fun cdv A outer s H vs Q E hr h => ?_)
  · obtain ⟨Z, p, m, gs, nm, t, u, b1, b2, os, ts, c, rfl, _⟩ := h
    rfl
  obtain ⟨Z, p, m, gs, nm, t, u, b1, b2, os, ts, c, rfl, hN, hT, hU, nt, nu, hlen, ho, hs, hc, hl, hl2, q⟩ := h
  refine ⟨_, (pss_cons (ps_setLc (i := 4) (own := [("one", 8), ("other", 9)]) (g := gTup K 2 (gCons (gName 8) (gCons (gName 9) gNil))) (by rfl) sc_quick_sum_wires.nd rfl rfl (sw_true rfl rfl rfl (by decide +kernel)) (pi_zb (by rfl) B.zip (pa_cons (pe_revS (pv 1)) (pa_cons (pe_revS (pv 2)) pa_nil))) (blkOk_by (own := [("one", 8), ("other", 9)]) (N := ["net", "ones", "others", "carry", "halves", "pairs", "carries", "total", "one", "other", "half", "into"]) (sc := defScope s_quick_sum_wires) (by decide +kernel)) (fun _ _ _ _ _ => pg_tup rfl (pgs_cons (pg_name (i := 8) sc_quick_sum_wires.nd rfl (Or.inl rfl) (.inr rfl)) (pgs_cons (pg_name (i := 9) sc_quick_sum_wires.nd rfl (Or.inl rfl) (.inr rfl)) pgs_nil))) (fun _ _ _ _ _ => pts_nil) (fun _ _ _ _ _ => (pe_meth (pv 0) L.T.cl L.M_Net_unlike G_Net_unlike hr L.b_Net_unlike .nil pass0 (pa_cons (pv 8) (pa_cons (pv 9) pa_nil)))))
    (pss_cons (ps_setLc (i := 5) (own := [("one", 8), ("other", 9)]) (g := gTup K 2 (gCons (gName 8) (gCons (gName 9) gNil))) (by rfl) sc_quick_sum_wires.nd rfl rfl (sw_true rfl rfl rfl (by decide +kernel)) (pi_zb (by rfl) B.zip (pa_cons (pe_revS (pv 1)) (pa_cons (pe_revS (pv 2)) pa_nil))) (blkOk_by (own := [("one", 8), ("other", 9)]) (N := ["net", "ones", "others", "carry", "halves", "pairs", "carries", "total", "one", "other", "half", "into"]) (sc := defScope s_quick_sum_wires) (by decide +kernel)) (fun _ _ _ _ _ => pg_tup rfl (pgs_cons (pg_name (i := 8) sc_quick_sum_wires.nd rfl (Or.inl rfl) (.inr rfl)) (pgs_cons (pg_name (i := 9) sc_quick_sum_wires.nd rfl (Or.inl rfl) (.inr rfl)) pgs_nil))) (fun _ _ _ _ _ => pts_nil) (fun _ _ _ _ _ => (pe_meth (pv 0) L.T.cl L.M_Net_both G_Net_both hr L.b_Net_both .nil pass0 (pa_cons (pv 8) (pa_cons (pv 9) pa_nil)))))
    (pss_cons (ps_set (i := 6) sc_quick_sum_wires.nd rfl (.inl rfl) (pe_call G_carry_wires hr (by rfl) L.m_carry_wires L.F_carry_wires.kp L.b_carry_wires .nil pass0 (pa_cons (pv 0) (pa_cons (pe_op op_cat (pe_lst (pa_cons (pe_tup (pa_cons (pv 3) (pa_cons pe_non pa_nil))) pa_nil)) (pe_listZip rfl (by rfl) B.list PyProof.Rows.boot_list (by rfl) B.zip (pa_cons (pv 5) (pa_cons (pv 4) pa_nil)))) pa_nil))))
    (pss_cons (ps_setLc (i := 7) (own := [("half", 10), ("into", 11)]) (g := gTup K 2 (gCons (gName 10) (gCons (gName 11) gNil))) (by rfl) sc_quick_sum_wires.nd rfl rfl (sw_true rfl rfl rfl (by decide +kernel)) (pi_zb (by rfl) B.zip (pa_cons (pv 4) (pa_cons (pv 6) pa_nil))) (blkOk_by (own := [("half", 10), ("into", 11)]) (N := ["net", "ones", "others", "carry", "halves", "pairs", "carries", "total", "one", "other", "half", "into"]) (sc := defScope s_quick_sum_wires) (by decide +kernel)) (fun _ _ _ _ _ => pg_tup rfl (pgs_cons (pg_name (i := 10) sc_quick_sum_wires.nd rfl (Or.inl rfl) (.inr rfl)) (pgs_cons (pg_name (i := 11) sc_quick_sum_wires.nd rfl (Or.inl rfl) (.inr rfl)) pgs_nil))) (fun _ _ _ _ _ => pts_nil) (fun _ _ _ _ _ => (pe_meth (pv 0) L.T.cl L.M_Net_unlike G_Net_unlike hr L.b_Net_unlike .nil pass0 (pa_cons (pv 10) (pa_cons (pv 11) pa_nil)))))
    (pss_one (ps_ret (pe_lst (pa_cons (pe_ix ix_list (pv 6) (pe_un un_neg pe_int) (fun _ _ => rfl)) (StX.pa_star (pe_revL (pv 7)) pa_nil))))))))), ?_⟩
  have lz := zipR_len hlen
  obtain ⟨ps, eps⟩ : ∃ ps, ps = os.reverse.zip ts.reverse := ⟨_, rfl⟩
  rw [← eps] at lz
  have hw : ∀ p ∈ ps, p.1 < m + gs.length ∧ p.2 < m + gs.length := fun p hp => by
    rw [eps] at hp
    exact ⟨ho _ (mem_zipR hp).1, hs _ (mem_zipR hp).2⟩
  have hF := fun i hi => hvF_ok (m := m) (k := "unlike") (gs := gs) (ps := ps) (D := False) (d := 0) (.inr rfl) (Int.le_refl _) hw (fun x => x.elim) i hi _ rfl
  refine ⟨_, rfl, b1, t, _, rfl, hT, fun A1 nA1 => ?_⟩
  rw [nts_rev]
  have sA1 := same_upd (o := sqO b1 (nts os.reverse)) nA1
  have eA1 : Sq2 b1 K (upd H A1 (sqO b1 (nts os.reverse))) A1 (nts os.reverse) := Sq2.new
  have nA12 := hN.nin nA1
  have N1 := hN.same sA1
  have hU1 := hU.keepS (S := []) (.ofSame sA1) (fun z => nomatch z)
  have hT1 := hT.keepS (S := []) (.ofSame sA1) (fun z => nomatch z)
  generalize upd H A1 (sqO b1 (nts os.reverse)) = H1 at *
  refine ⟨_, rfl, b2, u, _, rfl, hU1, fun B1 nB1 => ?_⟩
  rw [nts_rev]
  have sB1 := same_upd (o := sqO b2 (nts ts.reverse)) nB1
  have eB1 : Sq2 b2 K (upd H1 B1 (sqO b2 (nts ts.reverse))) B1 (nts ts.reverse) := Sq2.new
  have nB12 := N1.nin nB1
  have M1 := N1.same sB1
  have gA1 := eA1.keepS (S := []) (.ofSame sB1) (fun z => nomatch z)
  have wU1 := hU1.keepS (S := []) (.ofSame sB1) (fun z => nomatch z)
  have wT1 := hT1.keepS (S := []) (.ofSame sB1) (fun z => nomatch z)
  have sAB1 := sA1.trans sB1
  generalize upd H1 B1 (sqO b2 (nts ts.reverse)) = G1 at *
  refine ⟨b1, b2, A1, B1, _, _, rfl, gA1, eB1, fun Rh nRh => ?_⟩
  have nRh2 := M1.nin nRh
  refine lc_it (walk_zb (K := K) (t1 := b1) (t2 := b2) (a := A1) (b := B1) (xs := nts os.reverse) (ys := nts ts.reverse) (n := os.length) (by rw [nts_len, List.length_reverse]) (by rw [nts_len, List.length_reverse, hlen])) (fun j H9 => KeepS [p.lm, p.ld] G1 H9 ∧ NetAt C (Rh :: Z) H9 p m (hvF m "unlike" gs ((ps).take j)).1 nm ∧ H9 Rh = some (.lst (nts (hvF m "unlike" gs ((ps).take j)).2))) ⟨KeepS.new nRh, M1.add nRh, upd_same⟩ (fun j H9 _ ⟨k9, _⟩ => ⟨gA1.keepS k9 nA12, eB1.keepS k9 nB12⟩) ?_ ?_
  · rintro j v H9 H10 hj ⟨k9, N9, eR⟩ ⟨T, x, y, rfl, nT, rfl, hx, hy⟩
    obtain ⟨a, b, hab, rfl, rfl⟩ := nts_zip hx hy
    have hp := List.mem_of_getElem? hab
    have la := (hw (a, b) (by rw [eps]; exact hp)).1
    have lb := (hw (a, b) (by rw [eps]; exact hp)).2
    have estep : hvF m "unlike" gs ((ps).take (j + 1)) = hvS m "unlike" (hvF m "unlike" gs ((ps).take j)) (a, b) := fold_take _ (eps ▸ hab) _
    rw [estep]
    obtain ⟨f1, f2, f3, _⟩ := hF j (by omega)
    generalize hvF m "unlike" gs ((ps).take j) = S at *
    have sT := same_upd (o := .tup [.int (a : Int), .int (b : Int)]) nT
    have N10 := N9.same sT
    have eT : (upd H9 T (.tup [.int (a : Int), .int (b : Int)])) T = some (.tup [.int (a : Int), .int (b : Int)]) := upd_same
    have eR10 := sT _ _ eR
    have k10 := k9.trans (.ofSame sT)
    generalize upd H9 T (.tup [.int (a : Int), .int (b : Int)]) = H10 at *
    refine ⟨T, _, rfl, .inl (.inl eT), rfl, _, _, rfl, _, _, rfl, rfl, rfl, yesT ?_⟩
    try simp only [L2.start, List.map_cons, List.map_nil, List.length_cons, List.length_nil, List.replicate_succ, List.replicate_zero, List.cons_append, List.nil_append, List.set_cons_succ, List.set_cons_zero, Nat.reduceAdd, Nat.reduceSub, Nat.zero_add]
    obtain ⟨_, _, _, dx2, _, _, f4, _⟩ := id N10
    refine ⟨_, rfl, p.x, dx2, _, rfl, f4, rfl, _, rfl, _, rfl, Rh :: Z, p, m, S.1, nm, a, b, rfl, N10, by omega, by omega, by omega, fun H3 k3 N3 => ?_⟩
    have eR3 := k3.1 _ _ eR10 nRh2
    refine ⟨_, eR3, by rw [nts_len]; exact big_lt (by omega), ks_updN (k10.trans k3) nRh, N3.put (by simp), ?_⟩
    rw [upd_same]
    show _ = some (HO.lst (nts (S.2 ++ [m + S.1.length])))
    rw [nts_app]
    rfl
  rintro H2 ⟨k2, N2, eRh⟩
  rw [← lz, List.take_length] at N2 eRh
  obtain ⟨U, eU⟩ : ∃ U, U = hvF m "unlike" gs ps := ⟨_, rfl⟩
  have hFU := hF ps.length (Nat.le_refl _)
  rw [List.take_length, ← eU] at hFU
  rw [← eU] at N2 eRh
  obtain ⟨u1, u2, u3, u4⟩ := hFU
  dsimp only [gName]
  try simp only [L2.start, List.map_cons, List.map_nil, List.length_cons, List.length_nil, List.replicate_succ, List.replicate_zero, List.cons_append, List.nil_append, List.set_cons_succ, List.set_cons_zero, Nat.reduceAdd, Nat.reduceSub, Nat.zero_add]
  have N3 := N2.less
  have T3 := wT1.keepS k2 nt
  have U3 := wU1.keepS k2 nu
  have k03 : KeepS [p.lm, p.ld] H H2 := (KeepS.ofSame sAB1).trans k2
  have nRhH := ks_none (KeepS.ofSame (S := []) sAB1) nRh
  have nRhn := hN.nin nRhH
  have hG := fun i hi => hvF_ok (m := m) (k := "both") (gs := U.1) (ps := ps) (D := False) (d := 0) (.inl rfl) (Int.le_refl _) (fun p hp => by have := hw p hp; omega) (fun x => x.elim) i hi _ rfl
  refine ⟨_, rfl, b1, t, _, rfl, T3, fun A2 nA2 => ?_⟩
  rw [nts_rev]
  have sA2 := same_upd (o := sqO b1 (nts os.reverse)) nA2
  have eA2 : Sq2 b1 K (upd H2 A2 (sqO b1 (nts os.reverse))) A2 (nts os.reverse) := Sq2.new
  have nA22 := N3.nin nA2
  have N2 := N3.same sA2
  have hU2 := U3.keepS (S := []) (.ofSame sA2) (fun z => nomatch z)
  have hT2 := T3.keepS (S := []) (.ofSame sA2) (fun z => nomatch z)
  generalize upd H2 A2 (sqO b1 (nts os.reverse)) = H5 at *
  refine ⟨_, rfl, b2, u, _, rfl, hU2, fun B2 nB2 => ?_⟩
  rw [nts_rev]
  have sB2 := same_upd (o := sqO b2 (nts ts.reverse)) nB2
  have eB2 : Sq2 b2 K (upd H5 B2 (sqO b2 (nts ts.reverse))) B2 (nts ts.reverse) := Sq2.new
  have nB22 := N2.nin nB2
  have M2 := N2.same sB2
  have gA2 := eA2.keepS (S := []) (.ofSame sB2) (fun z => nomatch z)
  have wU2 := hU2.keepS (S := []) (.ofSame sB2) (fun z => nomatch z)
  have wT2 := hT2.keepS (S := []) (.ofSame sB2) (fun z => nomatch z)
  have sAB2 := sA2.trans sB2
  generalize upd H5 B2 (sqO b2 (nts ts.reverse)) = G2 at *
  have eRh2 := sAB2 _ _ eRh
  refine ⟨b1, b2, A2, B2, _, _, rfl, gA2, eB2, fun Rp nRp => ?_⟩
  have nRp2 := M2.nin nRp
  refine lc_it (walk_zb (K := K) (t1 := b1) (t2 := b2) (a := A2) (b := B2) (xs := nts os.reverse) (ys := nts ts.reverse) (n := os.length) (by rw [nts_len, List.length_reverse]) (by rw [nts_len, List.length_reverse, hlen])) (fun j H9 => KeepS [p.lm, p.ld] G2 H9 ∧ NetAt C (Rp :: Z) H9 p m (hvF m "both" U.1 ((ps).take j)).1 nm ∧ H9 Rp = some (.lst (nts (hvF m "both" U.1 ((ps).take j)).2))) ⟨KeepS.new nRp, M2.add nRp, upd_same⟩ (fun j H9 _ ⟨k9, _⟩ => ⟨gA2.keepS k9 nA22, eB2.keepS k9 nB22⟩) ?_ ?_
  · rintro j v H9 H10 hj ⟨k9, N9, eR⟩ ⟨T, x, y, rfl, nT, rfl, hx, hy⟩
    obtain ⟨a, b, hab, rfl, rfl⟩ := nts_zip hx hy
    have hp := List.mem_of_getElem? hab
    have la := (hw (a, b) (by rw [eps]; exact hp)).1
    have lb := (hw (a, b) (by rw [eps]; exact hp)).2
    have estep : hvF m "both" U.1 ((ps).take (j + 1)) = hvS m "both" (hvF m "both" U.1 ((ps).take j)) (a, b) := fold_take _ (eps ▸ hab) _
    rw [estep]
    obtain ⟨f1, f2, f3, _⟩ := hG j (by omega)
    generalize hvF m "both" U.1 ((ps).take j) = S at *
    have sT := same_upd (o := .tup [.int (a : Int), .int (b : Int)]) nT
    have N10 := N9.same sT
    have eT : (upd H9 T (.tup [.int (a : Int), .int (b : Int)])) T = some (.tup [.int (a : Int), .int (b : Int)]) := upd_same
    have eR10 := sT _ _ eR
    have k10 := k9.trans (.ofSame sT)
    generalize upd H9 T (.tup [.int (a : Int), .int (b : Int)]) = H10 at *
    refine ⟨T, _, rfl, .inl (.inl eT), rfl, _, _, rfl, _, _, rfl, rfl, rfl, yesT ?_⟩
    try simp only [L2.start, List.map_cons, List.map_nil, List.length_cons, List.length_nil, List.replicate_succ, List.replicate_zero, List.cons_append, List.nil_append, List.set_cons_succ, List.set_cons_zero, Nat.reduceAdd, Nat.reduceSub, Nat.zero_add]
    obtain ⟨_, _, _, dx2, _, _, f4, _⟩ := id N10
    refine ⟨_, rfl, p.x, dx2, _, rfl, f4, rfl, _, rfl, _, rfl, Rp :: Z, p, m, S.1, nm, a, b, rfl, N10, by omega, by omega, by omega, fun H3 k3 N3 => ?_⟩
    have eR3 := k3.1 _ _ eR10 nRp2
    refine ⟨_, eR3, by rw [nts_len]; exact big_lt (by omega), ks_updN (k10.trans k3) nRp, N3.put (by simp), ?_⟩
    rw [upd_same]
    show _ = some (HO.lst (nts (S.2 ++ [m + S.1.length])))
    rw [nts_app]
    rfl
  rintro H6 ⟨k6, N6, eRp⟩
  rw [← lz, List.take_length] at N6 eRp
  obtain ⟨PP, eP⟩ : ∃ PP, PP = hvF m "both" U.1 ps := ⟨_, rfl⟩
  have hGU := hG ps.length (Nat.le_refl _)
  rw [List.take_length, ← eP] at hGU
  rw [← eP] at N6 eRp
  obtain ⟨p1, p2, p3, _⟩ := hGU
  dsimp only [gName]
  try simp only [L2.start, List.map_cons, List.map_nil, List.length_cons, List.length_nil, List.replicate_succ, List.replicate_zero, List.cons_append, List.nil_append, List.set_cons_succ, List.set_cons_zero, Nat.reduceAdd, Nat.reduceSub, Nat.zero_add]
  have eRh6 := k6.1 _ _ eRh2 nRhn
  have N7 := N6.less
  have k06 : KeepS [p.lm, p.ld] H H6 := (k03.trans (.ofSame sAB2)).trans k6
  refine ⟨_, rfl, _, rfl, (by show 2 ≤ sizeLine; decide), fun T nT => ?_⟩
  have sT := same_upd (o := .tup [.int (c : Int), .non]) nT
  have eT : (upd H6 T (.tup [.int (c : Int), .non])) T = some (.tup [.int (c : Int), .non]) := upd_same
  generalize upd H6 T (.tup [.int (c : Int), .non]) = H7 at *
  refine ⟨(by show 1 ≤ sizeLine; decide), fun L1 nL1 => ?_⟩
  have sL1 := same_upd (o := .lst [.ref T]) nL1
  have eL1 : (upd H7 L1 (.lst [.ref T])) L1 = some (.lst [.ref T]) := upd_same
  generalize upd H7 L1 (.lst [.ref T]) = H8 at *
  have s68 := sT.trans sL1
  refine ⟨_, rfl, _, rfl, Rp, Rh, nts PP.2, nts U.2, rfl, SqL.of (s68 _ _ eRp), SqL.of (s68 _ _ eRh6), by rw [nts_len, nts_len, p3, u3], fun H9 L2 tt kz n1 n2 n3 n4 eL2 eZ => ?_⟩
  rw [nts_len] at n4
  have eL1' := kz _ _ eL1
  refine ⟨L1, L2, _, _, rfl, rfl, eL1', eL2, by rw [List.length_map, n4]; exact Nat.le_of_lt (big_lt (by show 1 + _ ≤ _; omega)), fun LS nLS => ?_⟩
  have sLS := same_upd (o := .lst ([.ref T] ++ tt.map V.ref)) nLS
  have eLS : (upd H9 LS (.lst ([.ref T] ++ tt.map V.ref))) LS = some (.lst ((T :: tt).map V.ref)) := upd_same
  have s6S : Same H6 (upd H9 LS (.lst ([.ref T] ++ tt.map V.ref))) := fun y o e => sLS _ _ (kz _ _ (s68 _ _ e))
  have nLS2 := (N7.same (fun y o e => kz _ _ (s68 _ _ e) : Same H6 H9)).nin nLS
  have eT2 := sLS _ _ (kz _ _ (sL1 _ _ eT))
  have eZ2 : ∀ (i : Nat) (t : Addr) (a b : Nat), tt[i]? = some t → PP.2[i]? = some a → U.2[i]? = some b → (upd H9 LS (.lst ([.ref T] ++ tt.map V.ref))) t = some (.tup [.int (a : Int), .int (b : Int)]) := fun i t a b h1 h2 h3 => by
    obtain ⟨y, y1, y2⟩ := LiI.paired_get eZ h1
    have e1 : (nts PP.2)[i]? = some (.int (a : Int)) := by
      unfold nts
      rw [List.getElem?_map, h2]
      rfl
    have e2 : (nts U.2)[i]? = some (.int (b : Int)) := by
      unfold nts
      rw [List.getElem?_map, h3]
      rfl
    have e3 : ((nts PP.2).zip (nts U.2))[i]? = some (V.int (a : Int), V.int (b : Int)) := List.getElem?_zip_eq_some.mpr ⟨e1, e2⟩
    rw [y1] at e3
    cases e3
    exact sLS _ _ y2
  have N9 := N7.same s6S
  have eRh9 := s6S _ _ eRh6
  generalize upd H9 LS (.lst ([.ref T] ++ tt.map V.ref)) = HA at *
  have hA : SpAt HA (T :: tt) (spans0 c PP.2 U.2) := by
    refine ⟨by unfold spans0; rw [List.length_cons, List.length_cons, List.length_map, List.length_zip]; omega, fun i t s ht hs => ?_⟩
    cases i with
    | zero =>
      cases ht
      cases hs
      exact eT2
    | succ i =>
      rw [List.getElem?_cons_succ] at ht
      unfold spans0 at hs
      rw [List.getElem?_cons_succ, List.getElem?_map] at hs
      cases hq : (PP.2.zip U.2)[i]? with
      | none => rw [hq] at hs; cases hs
      | some qq =>
        rw [hq] at hs
        cases hs
        obtain ⟨h1, h2⟩ := List.getElem?_zip_eq_some.mp hq
        exact eZ2 i t _ _ ht h1 h2
  have hS0 := spans0_ok (m := m) (c := c) (gs := gs) (ps := ps) (D := (∀ w ∈ os, w < m) ∧ (∀ w ∈ ts, w < m) ∧ c < m) hw hc (fun x p hp => by
    rw [eps] at hp
    exact ⟨x.1 _ (mem_zipR hp).1, x.2.1 _ (mem_zipR hp).2⟩) (fun x => x.2.2)
  rw [← eU, ← eP, lz] at hS0
  have lu := u1.len
  have lp := p1.len
  refine ⟨Z, p, m, PP.1, nm, LS, T :: tt, spans0 c PP.2 U.2, os.length + 1, _, _, _, rfl, N9, eLS, nLS2, hA, hS0, by omega, by omega, by omega, fun Rc HB g3 S k kB NB nRc eRc x3 k7 hk hk2 hS3 => ?_⟩
  dsimp only [gName]
  try simp only [L2.start, List.map_cons, List.map_nil, List.length_cons, List.length_nil, List.replicate_succ, List.replicate_zero, List.cons_append, List.nil_append, List.set_cons_succ, List.set_cons_zero, Nat.reduceAdd, Nat.reduceSub, Nat.zero_add]
  have k0B := (k06.trans (.ofSame s6S)).trans kB
  have eRhB := kB.1 _ _ eRh9 nRhn
  have nRcn := N9.nin nRc
  have lx := x3.len
  have m7 : 3 * (os.length + 1) * k ≤ 21 * (os.length + 1) := by
    have := Nat.mul_le_mul_left (3 * (os.length + 1)) k7
    omega
  have lS := hS3.1
  have hB := fun i hi => tot_ok (m := m) (c := c) (ps := ps) (gs := gs) (n := os.length) lz hw (fun x p hp => by
    rw [eps] at hp
    exact ⟨x.1 _ (mem_zipR hp).1, x.2.1 _ (mem_zipR hp).2⟩) (by rw [← eU, ← eP]; exact x3) hk2 hS3 i hi _ rfl
  rw [← eU] at hB
  have lzz : (U.2.zip (S.map (·.1))).length = os.length := by rw [List.length_zip, List.length_map]; omega
  have hq3 : ∀ {i a b : Nat}, (U.2.zip (S.map (·.1)))[i]? = some (a, b) → a < m + g3.length ∧ b < m + g3.length := fun {i a b} h => by
    obtain ⟨h1, h2⟩ := List.getElem?_zip_eq_some.mp h
    rw [List.getElem?_map] at h2
    cases hs : S[i]? with
    | none => rw [hs] at h2; cases h2
    | some s =>
      rw [hs] at h2
      cases h2
      have il := (List.getElem?_eq_some_iff.mp h1).1
      have := (u4 i _ _ h1 (List.getElem?_eq_getElem (show i < ps.length by omega))).1
      exact ⟨by dsimp only at this ⊢; omega, (hS3.2 i s hs).lt⟩
  have lSm : (S.map (·.1)).length = os.length + 1 := by rw [List.length_map]; exact lS
  have sqh : Sq2 false K HB Rh (nts U.2) := SqL.of eRhB
  have sqc : Sq2 false K HB Rc (nts (S.map (·.1))) := SqL.of eRc
  refine ⟨_, rfl, _, rfl, false, false, Rh, Rc, _, _, rfl, SqL.of eRhB, SqL.of eRc, fun Rt nRt => ?_⟩
  have nRt2 := NB.nin nRt
  refine lc_it (walk_zbm (K := K) (t1 := false) (t2 := false) (a := Rh) (b := Rc) (xs := nts U.2) (ys := nts (S.map (·.1))) (n := os.length) (by rw [nts_len, nts_len, lSm]; omega)) (fun j H9 => KeepS [p.lm, p.ld] HB H9 ∧ NetAt C (Rt :: Z) H9 p m (hvF m "unlike" g3 ((U.2.zip (S.map (·.1))).take j)).1 nm ∧ H9 Rt = some (.lst (nts (hvF m "unlike" g3 ((U.2.zip (S.map (·.1))).take j)).2))) ⟨KeepS.new nRt, NB.add nRt, upd_same⟩ (fun j H9 _ ⟨k9, _⟩ => ⟨sqh.keepS k9 nRhn, sqc.keepS k9 nRcn⟩) ?_ ?_
  · rintro j v H9 H10 hj ⟨k9, N9, eR⟩ ⟨T, x, y, rfl, nT, rfl, hx, hy⟩
    obtain ⟨a, b, hab, rfl, rfl⟩ := nts_zip hx hy
    have hp := List.mem_of_getElem? hab
    have la := (hq3 hab).1
    have lb := (hq3 hab).2
    have estep : hvF m "unlike" g3 ((U.2.zip (S.map (·.1))).take (j + 1)) = hvS m "unlike" (hvF m "unlike" g3 ((U.2.zip (S.map (·.1))).take j)) (a, b) := fold_take _ hab _
    rw [estep]
    obtain ⟨f1, f2, f3, _⟩ := hB j (by omega)
    generalize hvF m "unlike" g3 ((U.2.zip (S.map (·.1))).take j) = S at *
    have sT := same_upd (o := .tup [.int (a : Int), .int (b : Int)]) nT
    have N10 := N9.same sT
    have eT : (upd H9 T (.tup [.int (a : Int), .int (b : Int)])) T = some (.tup [.int (a : Int), .int (b : Int)]) := upd_same
    have eR10 := sT _ _ eR
    have k10 := k9.trans (.ofSame sT)
    generalize upd H9 T (.tup [.int (a : Int), .int (b : Int)]) = H10 at *
    refine ⟨T, _, rfl, .inl (.inl eT), rfl, _, _, rfl, _, _, rfl, rfl, rfl, yesT ?_⟩
    try simp only [L2.start, List.map_cons, List.map_nil, List.length_cons, List.length_nil, List.replicate_succ, List.replicate_zero, List.cons_append, List.nil_append, List.set_cons_succ, List.set_cons_zero, Nat.reduceAdd, Nat.reduceSub, Nat.zero_add]
    obtain ⟨_, _, _, dx2, _, _, f4, _⟩ := id N10
    refine ⟨_, rfl, p.x, dx2, _, rfl, f4, rfl, _, rfl, _, rfl, Rt :: Z, p, m, S.1, nm, a, b, rfl, N10, by omega, by omega, by omega, fun H3 k3 N3 => ?_⟩
    have eR3 := k3.1 _ _ eR10 nRt2
    refine ⟨_, eR3, by rw [nts_len]; exact big_lt (by omega), ks_updN (k10.trans k3) nRt, N3.put (by simp), ?_⟩
    rw [upd_same]
    show _ = some (HO.lst (nts (S.2 ++ [m + S.1.length])))
    rw [nts_app]
    rfl
  rintro HC ⟨kC, NC, eRt⟩
  rw [← lzz, List.take_length] at NC eRt
  have hQ := quick_ok (m := m) (c := c) (K := k) (x := 3 * (os.length + 1) * k) (n := os.length) (gs := gs) (g3 := g3) (os := os) (ts := ts) (S := S) rfl hlen ho hs hc (by rw [← eps, ← eU, ← eP]; exact x3) m7 (by
    rcases hk with y | y
    · exact .inl y
    · exact .inr (by omega)) hk2 (by rw [← eps]; exact hS3) (hvF m "unlike" g3 (U.2.zip (S.map (·.1)))) (by rw [← eps, ← eU])
  obtain ⟨f1, f2, f3, _⟩ := hB os.length (Nat.le_refl _)
  rw [← lzz, List.take_length] at f1 f2 f3
  generalize hvF m "unlike" g3 (U.2.zip (S.map (·.1))) = TT at *
  have eRcC := kC.1 _ _ eRc nRcn
  have eSn : (S.map (·.1)).getD os.length 0 = (S.getD os.length (0, none)).1 := by
    simp only [List.getD, List.getElem?_map, List.getElem?_eq_getElem (show os.length < S.length by omega)]
    rfl
  dsimp only [gName]
  try simp only [L2.start, List.map_cons, List.map_nil, List.length_cons, List.length_nil, List.replicate_succ, List.replicate_zero, List.cons_append, List.nil_append, List.set_cons_succ, List.set_cons_zero, Nat.reduceAdd, Nat.reduceSub, Nat.zero_add]
  refine ⟨_, rfl, _, rfl, Rc, _, _, _, rfl, rfl, SqL.of eRcC, at_lastN lSm, ?_⟩
  rw [eSn]
  refine ⟨_, rfl, Rt, _, rfl, SqL.of eRt, fun B nB => ?_⟩
  rw [nts_rev]
  have sB := same_upd (o := .lst (nts TT.2.reverse)) nB
  have eB : (upd HC B (.lst (nts TT.2.reverse))) B = some (.lst (nts TT.2.reverse)) := upd_same
  generalize upd HC B (.lst (nts TT.2.reverse)) = HD at *
  refine ⟨B, _, rfl, .inr (SqL.of eB), ?_⟩
  refine ⟨by
    rw [List.append_nil, List.length_cons, nts_len, List.length_reverse]
    exact Nat.le_of_lt (big_lt (by omega)), fun DD nDD => ?_⟩
  rw [List.append_nil]
  have sD := same_upd (o := .lst (.int ((S.getD os.length (0, none)).1 : Int) :: nts TT.2.reverse)) nDD
  have kAll := k0B.trans kC
  exact q DD _ TT.1 ((S.getD os.length (0, none)).1 :: TT.2.reverse) (kAll.trans (.ofSame (sB.trans sD))) (NC.less.same (sB.trans sD)) (ks_none (kAll.trans (.ofSame sB)) nDD) upd_same hQ
end
section
variable {P : Program} {w : World} {K : PySem.W.Frag} {mg : Str → Option Value} {base : Heap}
variable {C : Addr} {a1 a2 a3 a4 a5 a6 a7 a8 a9 a10 a11 a12 a13 a14 a15 a16 a17 a18 a19 a20 a21 a22 a23 a24 a25 a26 a27 : Addr} {l1 l2 l3 l4 l5 l6 l7 l8 l9 l10 l11 l12 l13 l14 l15 l16 l17 l18 l19 l20 l21 l22 l23 l24 l25 l26 l27 : FuncData}
/-! ### drawn wires and values -/
def spWires (K : PySem.W.Frag) (C : Addr) : Sp := fun vs H Q _ => ∃ (Z : List Addr) (p : NetP) (gs : List Gt) (nm : List (Str × List Nat)) (b : Addr) (c : Int) (n : Nat), vs = [.ref p.x, .ref b, .int (n : Int)] ∧ NetAt C Z H p 24 gs nm ∧ b ∈ Z ∧ BoxAt c H b ∧ c ≤ 900000000 ∧ 1 ≤ n ∧ n ≤ 24 ∧
  ∀ (t : Bool) (ws : List Nat) (D : Addr) (H' : Hp), ws.length = n → (∀ w ∈ ws, w < 24) → H D = none → Sq2 t K H' D (nts ws) → BoxAt (c + 40) H' b → Keep b H H' → Q (.ref D) H'
theorem rgV_nts {a n : Nat} : rgV (a : Int) ((a : Int) + (n : Int)) = nts ((List.range n).map fun i => a + i) := by
  unfold rgV nts
  rw [show ((a : Int) + (n : Int) - (a : Int)).toNat = n by omega, List.map_map]
  refine List.map_congr_left fun i _ => ?_
  show V.int ((a : Int) + (i : Int)) = V.int ((a + i : Nat) : Int)
  rw [show (a : Int) + (i : Int) = ((a + i : Nat) : Int) by omega]
theorem kp_none {b : Addr} {H H' : Hp} (k : Keep b H H') (hb : H' b ≠ none) {a : Addr} (h : H' a = none) : H a = none := by
  cases e : H a with
  | none => rfl
  | some o =>
    by_cases c : a = b
    · rw [c] at h
      exact absurd h hb
    · rw [k a o e c] at h
      cases h
theorem ok__law_wires (B : Bl mg) (L : LL K mg C a1 a2 a3 a4 a5 a6 a7 a8 a9 a10 a11 a12 a13 a14 a15 a16 a17 a18 a19 a20 a21 a22 a23 a24 a25 a26 a27 l1 l2 l3 l4 l5 l6 l7 l8 l9 l10 l11 l12 l13 l14 l15 l16 l17 l18 l19 l20 l21 l22 l23 l24 l25 l26 l27) : FnOk P w K mg base CX0 3 a9 l9 ["_law_net", "_law_box_here", "_law_size"] (spWires K C) := by
  have G__law_take : FnOk P w K mg base CX0 2 a8 l8 ["_law_box_here", "_law_size"] (spTake 1) := (ok_take L.F__law_take L.b__law_take L.m__law_take B 1).mono (by decide)
  have G_Net_inputs : FnOk P w K mg base CX0 2 a25 l25 ["self"] (spInputs C) := (ok_Net_inputs B L).mono (by decide)
  refine L.F__law_wires.ok sc__law_wires (fun vs H Q E h => ?_) (fun cdv A outer s H vs Q E hr h => ?_)
  · obtain ⟨Z, p, gs, nm, b, c, n, rfl, _⟩ := h
    rfl
  obtain ⟨Z, p, gs, nm, b, c, n, rfl, hN, hbZ, hB, hc, n1, n24, q⟩ := h
  refine ⟨_, (pss_cons (ps_set (i := 3) sc__law_wires.nd rfl (.inl rfl) (pe_call G__law_take hr (by rfl) L.m__law_take L.F__law_take.kp L.b__law_take .nil pass0 (pa_cons (pv 1) (pa_cons (pe_op op_add (pe_op op_sub (pe_meth0 (pv 0) L.T.cl L.M_Net_inputs G_Net_inputs hr L.b_Net_inputs .nil pass0) (pv 2)) pe_int) pa_nil))))
    (pss_cons (ps_set (i := 4) sc__law_wires.nd rfl (.inl rfl) (pe_listRg rfl (by rfl) B.list (prg_2 (by rfl) B.range (pv 3) (pe_op op_add (pv 3) (pv 2)))))
    (pss_cons (ps_if (pt_cmpR op_eq (pe_call G__law_take hr (by rfl) L.m__law_take L.F__law_take.kp L.b__law_take .nil pass0 (pa_cons (pv 1) (pa_cons pe_int pa_nil))) pe_int (nomark _)) (pss_one (ps_setLc (i := 4) (own := [("_law_turn", 5)]) (by rfl) sc__law_wires.nd rfl rfl (sw_true rfl rfl rfl (by decide +kernel)) (pi_range1 (by rfl) B.range (pa_cons (pv 2) pa_nil)) (blkOk_by (own := [("_law_turn", 5)]) (N := ["_law_net", "_law_box_here", "_law_size", "_law_first", "_law_wires_here", "_law_turn"]) (sc := defScope s__law_wires) (by decide +kernel)) (fun _ _ _ _ _ => pg_name (i := 5) sc__law_wires.nd rfl (Or.inl rfl)) (fun _ _ _ _ _ => pts_nil) (fun _ _ _ _ _ => (pe_call G__law_take hr (by rfl) L.m__law_take L.F__law_take.kp L.b__law_take .nil pass0 (pa_cons (pv 1) (pa_cons (pe_meth0 (pv 0) L.T.cl L.M_Net_inputs G_Net_inputs hr L.b_Net_inputs .nil pass0) pa_nil)))))) pss_nil)
    (pss_one (ps_ret (pe_ix ix_list (pe_lst (pa_cons (pv 4) (pa_cons (pe_callTy call_tuple_of (by rfl) B.tuple PyProof.Rows.boot_tuple (pa_cons (pv 4) pa_nil)) pa_nil))) (pe_call G__law_take hr (by rfl) L.m__law_take L.F__law_take.kp L.b__law_take .nil pass0 (pa_cons (pv 1) (pa_cons pe_int pa_nil))) (fun _ _ => rfl))))))), ?_⟩
  obtain ⟨_, _, _, dx, _, _, e1, _⟩ := id hN
  refine ⟨_, rfl, _, rfl, p.x, dx, _, rfl, e1, rfl, Z, p, 24, gs, nm, rfl, hN, _, rfl, _, _, rfl, rfl, _, _, rfl, rfl, b, _, _, rfl, hB, by omega, by omega, by omega, by omega, by decide, fun r1 H1 u1 v1 B1 k1 => ?_⟩
  replace B1 := bx1 B1
  obtain ⟨a, rfl⟩ : ∃ a : Nat, r1 = (a : Int) := ⟨r1.toNat, by omega⟩
  have N1 := hN.keepB k1 B1.some hbZ
  try simp only [L2.start, List.map_cons, List.map_nil, List.length_cons, List.length_nil, List.replicate_succ, List.replicate_zero, List.cons_append, List.nil_append, List.set_cons_succ, List.set_cons_zero, Nat.reduceAdd, Nat.reduceSub, Nat.zero_add]
  dsimp only [gName]
  try simp only [L2.start, List.map_cons, List.map_nil, List.length_cons, List.length_nil, List.replicate_succ, List.replicate_zero, List.cons_append, List.nil_append, List.set_cons_succ, List.set_cons_zero, Nat.reduceAdd, Nat.reduceSub, Nat.zero_add]
  refine ⟨_, rfl, _, rfl, _, rfl, _, _, rfl, rfl, _, _, rfl, rfl, .of_le (by omega) (by omega) (by omega) (by omega), fun L nL => ?_⟩
  rw [rgV_nts]
  have nLb : L ≠ b := (B1.ne nL).symm
  have sL := same_upd (o := .lst (nts ((List.range n).map fun i => a + i))) nL
  have eL : (upd H1 L (.lst (nts ((List.range n).map fun i => a + i)))) L = some (.lst (nts ((List.range n).map fun i => a + i))) := upd_same
  have B2 := B1.same sL
  have k2 : Keep b H _ := k1.trans (Keep.ofSame sL)
  have N2 := N1.same sL
  have nLH := kp_none k1 B1.some nL
  generalize upd H1 L (.lst (nts ((List.range n).map fun i => a + i))) = H2 at *
  have hws : ((List.range n).map fun i => a + i).length = n ∧ ∀ w ∈ (List.range n).map fun i => a + i, w < 24 := ⟨by rw [List.length_map, List.length_range], fun w hw => by
    obtain ⟨i, hi, rfl⟩ := List.mem_map.mp hw
    have := List.mem_range.mp hi
    omega⟩
  generalize (List.range n).map (fun i => a + i) = ws at *
  try simp only [L2.start, List.map_cons, List.map_nil, List.length_cons, List.length_nil, List.replicate_succ, List.replicate_zero, List.cons_append, List.nil_append, List.set_cons_succ, List.set_cons_zero, Nat.reduceAdd, Nat.reduceSub, Nat.zero_add]
  dsimp only [gName]
  try simp only [L2.start, List.map_cons, List.map_nil, List.length_cons, List.length_nil, List.replicate_succ, List.replicate_zero, List.cons_append, List.nil_append, List.set_cons_succ, List.set_cons_zero, Nat.reduceAdd, Nat.reduceSub, Nat.zero_add]
  refine gset_if (ifS_cut (fun σ' H' => ∃ (L : Addr) (ws : List Nat), σ' = [some (.ref p.x), some (.ref b), some (.int (n : Int)), some (.int (a : Int)), some (.ref L), none] ∧ H L = none ∧ L ≠ b ∧ ws.length = n ∧ (∀ w ∈ ws, w < 24) ∧ H' L = some (.lst (nts ws)) ∧ BoxAt (c + 30) H' b ∧ Keep b H H') (fun D' q' => ?_) ?_)
  · refine ⟨_, rfl, b, _, _, rfl, B2, by omega, by omega, by omega, by omega, by decide, fun r2 H3 u3 v3 B3 k3 => ?_⟩
    replace B3 := bx1 B3
    have k03 := k2.trans k3
    refine ⟨rfl, _, rfl, ite2 (fun _ => ?_) (fun _ => ?_)⟩
    · refine ⟨_, rfl, _, rfl, by omega, by omega, fun M nM => ?_⟩
      have nMH := kp_none k03 B3.some nM
      have nMb : M ≠ b := (B3.ne nM).symm
      have N3 := N2.keepB k3 B3.some hbZ
      rw [Int.toNat_natCast]
      refine lc_range (n := n) (fun j H7 => Keep b H H7 ∧ BoxAt (c + 4 + j) H7 b ∧ NetAt C (M :: Z) H7 p 24 gs nm ∧ ∃ ds : List Nat, ds.length = j ∧ (∀ x ∈ ds, x < 24) ∧ H7 M = some (.lst (nts ds))) ⟨k03.trans (Keep.new nM), (B3.same (same_upd nM)).mono (by omega), N3.add nM, [], rfl, (fun _ z => nomatch z), upd_same⟩ ?_ ?_
      · rintro j H7 hj ⟨k7, B7, N7, ds, ld, hd, e7⟩
        obtain ⟨_, _, _, dx7, _, _, f1, _⟩ := id N7
        refine ⟨rfl, yesT ?_⟩
        refine ⟨_, rfl, _, rfl, p.x, dx7, _, rfl, f1, rfl, M :: Z, p, 24, gs, nm, rfl, N7, b, _, _, rfl, B7, by omega, by omega, by omega, by omega, by decide, fun r H8 u v B8 k8 => ?_⟩
        replace B8 := bx1 B8
        obtain ⟨rn, rfl⟩ : ∃ rn : Nat, r = (rn : Int) := ⟨r.toNat, by omega⟩
        refine ⟨_, k8 _ _ e7 nMb, ?_, fun y u' e ny => ?_, BoxAt.mono (B8.at (upd_ne nMb.symm)) (by omega), ?_, ds ++ [rn], by rw [List.length_append, ld]; rfl, fun w' hm => ?_, ?_⟩
        · rw [nts_len, ld]
          exact big_lt (by omega)
        · rw [upd_ne (ne_of_none e nMH)]
          exact k8 _ _ (k7 _ _ e ny) ny
        · exact (N7.keepB k8 B8.some (List.mem_cons_of_mem _ hbZ)).put (by simp)
        · rcases List.mem_append.mp hm with z | z
          · exact hd w' z
          · rw [List.mem_singleton.mp z]
            omega
        · rw [upd_same, nts_app]
          rfl
      rintro H7 ⟨k7, B7, _, ds, ld, hd, e7⟩
      try simp only [L2.start, List.map_cons, List.map_nil, List.length_cons, List.length_nil, List.replicate_succ, List.replicate_zero, List.cons_append, List.nil_append, List.set_cons_succ, List.set_cons_zero, Nat.reduceAdd, Nat.reduceSub, Nat.zero_add]
      exact q' _ _ ⟨M, ds, rfl, nMH, nMb, ld, hd, e7, B7.mono (by omega), k7⟩
    · exact q' _ _ ⟨L, ws, rfl, nLH, nLb, hws.1, hws.2, k3 _ _ eL nLb, B3.mono (by omega), k03⟩
  · rintro σ' H3 ⟨L, ws, rfl, nLH, nLb, lw, hw, eL, B3, k3⟩
    refine ⟨_, rfl, _, rfl, L, _, rfl, .inl ⟨SqL.of eL, fun T nT => ?_⟩⟩
    have sT := same_upd (o := .tup (nts ws)) nT
    have eT : (upd H3 T (.tup (nts ws))) T = some (.tup (nts ws)) := upd_same
    have eLT := sT _ _ eL
    have BT := B3.same sT
    have kT := k3.trans (Keep.ofSame sT)
    have nTH := kp_none k3 B3.some nT
    have nTb : T ≠ b := (B3.ne nT).symm
    generalize upd H3 T (.tup (nts ws)) = H4 at *
    refine ⟨(by show 2 ≤ sizeLine; decide), fun P2 nP => ?_⟩
    have sP := same_upd (o := .lst [.ref L, .ref T]) nP
    have nPb : P2 ≠ b := (BT.ne nP).symm
    have eP : (upd H4 P2 (.lst [.ref L, .ref T])) P2 = some (.lst [.ref L, .ref T]) := upd_same
    have BP := BT.same sP
    have kP := kT.trans (Keep.ofSame sP)
    have eLP := sP _ _ eLT
    have eTP := sP _ _ eT
    generalize upd H4 P2 (.lst [.ref L, .ref T]) = H5 at *
    refine ⟨_, rfl, b, _, _, rfl, BP, by omega, by omega, by omega, by omega, by decide, fun r2 H6 u3 v3 B6 k6 => ?_⟩
    replace B6 := bx1 B6
    have h01 : r2 = 0 ∨ r2 = 1 := by omega
    rcases h01 with z | z <;> subst z
    · exact ⟨P2, _, _, _, rfl, rfl, SqL.of (k6 _ _ eP nPb), rfl, q false ws L H6 lw hw nLH (SqL.of (k6 _ _ eLP nLb)) (B6.mono (by omega)) (kP.trans k6)⟩
    · exact ⟨P2, _, _, _, rfl, rfl, SqL.of (k6 _ _ eP nPb), rfl, q true ws T H6 lw hw nTH (.inl (.inl (k6 _ _ eTP nTb))) (B6.mono (by omega)) (kP.trans k6)⟩
theorem hsn {k : Nat} {us : List Int} (v : Int) (h : ∀ u ∈ us, 0 ≤ u ∧ u < 2 ^ k) : ∀ u ∈ us ++ [v % 2 ^ k], 0 ≤ u ∧ u < 2 ^ k := fun u hu => by
  have pp : (0 : Int) < 2 ^ k := Int.pow_pos (by decide)
  rcases List.mem_append.mp hu with z | z
  · exact h u z
  · rw [List.mem_singleton.mp z]
    exact ⟨Int.emod_nonneg _ (Int.ne_of_gt pp), Int.emod_lt_of_pos _ pp⟩
def spValues : Sp := fun vs H Q _ => ∃ (b : Addr) (c : Int) (n k : Nat), vs = [.ref b, .int (n : Int), .int (k : Int)] ∧ BoxAt c H b ∧ c ≤ 900000000 ∧ n ≤ 100 ∧ k ≤ 64 ∧
  ∀ (us : List Int) (D : Addr) (H' : Hp), us.length = n → (∀ u ∈ us, 0 ≤ u ∧ u < 2 ^ k) → H D = none → H' D = some (.lst (us.map V.int)) → BoxAt (c + 10 * n) H' b → Keep b H H' → Q (.ref D) H'
theorem bx2n {c : Int} {H : Hp} {b : Addr} (h : BoxAt (c + 2 ^ (2 - 1)) H b) : BoxAt (c + 2) H b := h
theorem ok__law_values (B : Bl mg) (L : LL K mg C a1 a2 a3 a4 a5 a6 a7 a8 a9 a10 a11 a12 a13 a14 a15 a16 a17 a18 a19 a20 a21 a22 a23 a24 a25 a26 a27 l1 l2 l3 l4 l5 l6 l7 l8 l9 l10 l11 l12 l13 l14 l15 l16 l17 l18 l19 l20 l21 l22 l23 l24 l25 l26 l27) : FnOk P w K mg base CX0 3 a10 l10 ["_law_box_here", "_law_inputs", "_law_cases"] spValues := by
  have G__law_take : FnOk P w K mg base CX0 2 a8 l8 ["_law_box_here", "_law_size"] (spTake 2) := (ok_take L.F__law_take L.b__law_take L.m__law_take B 2).mono (by decide)
  refine L.F__law_values.ok sc__law_values (fun vs H Q E h => ?_) (fun cdv A outer s H vs Q E hr h => ?_)
  · obtain ⟨b, c, n, k, rfl, _⟩ := h
    rfl
  obtain ⟨b, c, n, k, rfl, hB, hc, hn, hk, q⟩ := h
  refine ⟨_, (pss_cons (ps_set (i := 3) sc__law_values.nd rfl (.inl rfl) (pe_lst pa_nil))
    (pss_cons (ps_for PassesOwn.never rfl (pi_range1 (by rfl) B.range (pa_cons (pv 1) pa_nil)) (pg_name (i := 4) sc__law_values.nd rfl (.inl rfl)) (pss_cons (ps_set (i := 5) sc__law_values.nd rfl (.inl rfl) pe_int)
    (pss_cons (ps_for PassesOwn.never rfl (pi_range1 (by rfl) B.range (pa_cons (pe_op op_add (pe_op op_fdiv (pv 2) pe_int) pe_int) pa_nil)) (pg_name (i := 6) sc__law_values.nd rfl (.inl rfl)) (pss_one (ps_set (i := 5) sc__law_values.nd rfl (.inl rfl) (pe_op op_orL (pe_op op_shlN (pv 5) pe_int) (pe_call G__law_take hr (by rfl) L.m__law_take L.F__law_take.kp L.b__law_take .nil pass0 (pa_cons (pv 0) (pa_cons (pe_op op_oneShl pe_int pe_int) pa_nil)))))))
    (pss_one (ps_expr (pe_bm PySem.F.plainAttrs_list PySem.F.slot_list_append PySem.F.type_list_append mt_append (pv 3) (pa_cons (pe_op op_andM (pv 5) (pe_op op_sub (pe_op op_oneShl pe_int (pv 2)) pe_int)) pa_nil)))))))
    (pss_one (ps_ret (pv 3))))), ?_⟩
  refine ⟨Nat.zero_le _, fun D nD => ?_⟩
  have nDb : D ≠ b := (hB.ne nD).symm
  try simp only [L2.start, List.map_cons, List.map_nil, List.length_cons, List.length_nil, List.replicate_succ, List.replicate_zero, List.cons_append, List.nil_append, List.set_cons_succ, List.set_cons_zero, Nat.reduceAdd, Nat.reduceSub, Nat.zero_add]
  dsimp only [gName]
  try simp only [L2.start, List.map_cons, List.map_nil, List.length_cons, List.length_nil, List.replicate_succ, List.replicate_zero, List.cons_append, List.nil_append, List.set_cons_succ, List.set_cons_zero, Nat.reduceAdd, Nat.reduceSub, Nat.zero_add]
  refine ⟨_, rfl, _, rfl, by omega, by omega, ?_⟩
  rw [Int.toNat_natCast]
  refine for_range (n := n) (fun j σ H5 => ∃ (us : List Int) (y1 y2 y3 : Option V), σ = [some (.ref b), some (.int (n : Int)), some (.int (k : Int)), some (.ref D), y1, y2, y3] ∧ us.length = j ∧ (∀ u ∈ us, 0 ≤ u ∧ u < 2 ^ k) ∧ H5 D = some (.lst (us.map V.int)) ∧ BoxAt (c + 10 * j) H5 b ∧ Keep b H H5) ⟨[], none, none, none, rfl, rfl, (fun _ z => nomatch z), upd_same, (hB.same (same_upd nD)).mono (by omega), Keep.new nD⟩ ?_ ?_
  · rintro j σ H5 hj ⟨us, y1, y2, y3, rfl, lu, hus, eD, B5, k5⟩
    dsimp only [gName]
    try simp only [L2.start, List.map_cons, List.map_nil, List.length_cons, List.length_nil, List.replicate_succ, List.replicate_zero, List.cons_append, List.nil_append, List.set_cons_succ, List.set_cons_zero, Nat.reduceAdd, Nat.reduceSub, Nat.zero_add]
    refine ⟨_, rfl, _, _, rfl, rfl, ⟨by decide, by decide⟩, _, _, rfl, rfl, ?_⟩
    obtain ⟨g, eg, g3⟩ : ∃ g : Nat, (k : Int) / 30 + 1 = (g : Int) ∧ g ≤ 3 := ⟨((k : Int) / 30 + 1).toNat, by omega, by omega⟩
    refine ⟨(k : Int) / 30 + 1, rfl, by omega, by omega, ?_⟩
    rw [eg, Int.toNat_natCast]
    refine for_range (n := g) (fun i σ H6 => ∃ (v : Int) (y3 : Option V), σ = [some (.ref b), some (.int (n : Int)), some (.int (k : Int)), some (.ref D), some (.int (0 + (j : Int))), some (.int v), y3] ∧ 0 ≤ v ∧ v < 2 ^ (30 * i) ∧ H6 D = some (.lst (us.map V.int)) ∧ BoxAt (c + 10 * j + 3 * i) H6 b ∧ Keep b H H6) ⟨0, y3, rfl, by decide, by decide, eD, B5.mono (by omega), k5⟩ ?_ ?_
    · rintro i σ H6 hi ⟨v, z3, rfl, v0, v1, eD6, B6, k6⟩
      have pv : (2 : Int) ^ (30 * i) ≤ 2 ^ 90 := GM.pow_le' (by omega)
      have pv' : ((2 ^ 90 : Nat) : Int) = 2 ^ 90 := PySem.W.kbt_cast 90
      try simp only [L2.start, List.map_cons, List.map_nil, List.length_cons, List.length_nil, List.replicate_succ, List.replicate_zero, List.cons_append, List.nil_append, List.set_cons_succ, List.set_cons_zero, Nat.reduceAdd, Nat.reduceSub, Nat.zero_add]
      refine ⟨_, rfl, _, 30, rfl, rfl, shl_ok (n := 90) (by omega) (by omega), _, rfl, 30, rfl, rfl, by decide, b, _, _, rfl, B6, by decide, by decide, by decide, by omega, by decide, fun r H7 u1 u2 B7 k7 => ?_⟩
      replace B7 := bx2n B7
      refine ⟨v, r, 30, rfl, rfl, ⟨v0, u1, u2⟩, ?_⟩
      try simp only [L2.start, List.map_cons, List.map_nil, List.length_cons, List.length_nil, List.replicate_succ, List.replicate_zero, List.cons_append, List.nil_append, List.set_cons_succ, List.set_cons_zero, Nat.reduceAdd, Nat.reduceSub, Nat.zero_add]
      refine ⟨_, _, rfl, by omega, ?_, k7 _ _ eD6 nDb, B7.mono (by omega), k6.trans k7⟩
      have e1 : (2 : Int) ^ (30 * (i + 1)) = 2 ^ (30 * i) * 2 ^ 30 := by rw [show 30 * (i + 1) = 30 * i + 30 by omega, Int.pow_add]
      rw [e1]
      have e2 : (2 : Int) ^ 30 = 1073741824 := by decide
      rw [e2] at u2 ⊢
      omega
    · rintro σ H6 ⟨v, z3, rfl, v0, v1, eD6, B6, k6⟩
      dsimp only
      refine ⟨_, rfl, .inl ⟨rfl, _, SqL.of eD6⟩, _, rfl, _, rfl, k, rfl, rfl, by omega, _, _, rfl, rfl, _, k, rfl, rfl, D, _, _, rfl, rfl, eD6, by rw [List.length_map]; exact big_lt (by omega), ?_⟩
      refine ⟨us ++ [v % 2 ^ k], _, _, _, rfl, by rw [List.length_append, lu]; rfl, hsn v hus, ?_, BoxAt.mono (B6.at (upd_ne nDb.symm)) (by omega), fun y u e ny => ?_⟩
      · rw [upd_same, List.map_append]
        rfl
      · rw [upd_ne (ne_of_none e nD)]
        exact k6 _ _ e ny
  · rintro σ H5 ⟨us, y1, y2, y3, rfl, lu, hus, eD, B5, k5⟩
    exact ⟨_, rfl, q us D H5 lu hus nD eD B5 k5⟩
def spNumber (K : PySem.W.Frag) : Sp := fun vs H Q _ => ∃ (t : Addr) (ds : List Int) (k : Nat), vs = [.ref t, .int (k : Int)] ∧ SqL K H t (ds.map V.int) ∧ Q (.int (wf (ds.map (tb · k)))) H
theorem ok__law_number (B : Bl mg) (L : LL K mg C a1 a2 a3 a4 a5 a6 a7 a8 a9 a10 a11 a12 a13 a14 a15 a16 a17 a18 a19 a20 a21 a22 a23 a24 a25 a26 a27 l1 l2 l3 l4 l5 l6 l7 l8 l9 l10 l11 l12 l13 l14 l15 l16 l17 l18 l19 l20 l21 l22 l23 l24 l25 l26 l27) : FnOk P w K mg base CX0 1 a11 l11 ["_law_bits", "_law_case"] (spNumber K) := by
  refine L.F__law_number.ok sc__law_number (fun vs H Q E h => ?_) (fun cdv A outer s H vs Q E hr h => ?_)
  · obtain ⟨t, ds, k, rfl, _⟩ := h
    rfl
  obtain ⟨t, ds, k, rfl, hT, q⟩ := h
  refine ⟨_, (pss_cons (ps_set (i := 2) sc__law_number.nd rfl (.inl rfl) pe_int)
    (pss_cons (ps_for PassesOwn.never rfl (pi_list (pv 0)) (pg_name (i := 3) sc__law_number.nd rfl (.inl rfl)) (pss_one (ps_set (i := 2) sc__law_number.nd rfl (.inl rfl) (pe_op op_add (pe_op op_mul pe_int (pv 2)) (pe_op op_andM (pe_op op_shrN (pv 3) (pv 1)) pe_int)))))
    (pss_one (ps_ret (pv 2))))), ?_⟩
  refine ⟨_, rfl, t, rfl, ⟨_, hT⟩, ?_⟩
  refine for_it (walk_list (K := K) (a := t) (xs := ds.map V.int)) (fun j σ H9 => ∃ y : Option V, σ = [some (.ref t), some (.int (k : Int)), some (.int (wf ((ds.map (tb · k)).take j))), y] ∧ H9 = H) ⟨_, rfl, rfl⟩ (fun j σ H9 _ ⟨_, _, e⟩ => by rw [e]; exact hT) ?_ ?_
  · rintro j v σ H9 H10 hj ⟨y, rfl, rfl⟩ ⟨rfl, hz⟩
    obtain ⟨d, hd, rfl⟩ := at_int46 hz
    refine ⟨_, rfl, _, _, rfl, rfl, .inl ⟨by decide, by decide⟩, _, rfl, _, rfl, _, k, rfl, rfl, _, 1, rfl, rfl, _, _, rfl, rfl, ?_⟩
    refine ⟨some (.int d), ?_, rfl⟩
    rw [List.take_add_one, List.getElem?_map, hd]
    show _ = [some (V.ref t), some (.int (k : Int)), some (.int (wf ((ds.map (tb · k)).take j ++ [tb d k]))), _]
    rw [wf_snoc]
    rfl
  · rintro σ H9 ⟨y, rfl, rfl⟩
    rw [List.length_map, List.take_of_length_le (by rw [List.length_map]; exact Nat.le_refl _)]
    exact ⟨_, rfl, q⟩
/-! ### rows of wires handed to the law -/
def dW (t : Bool) (ws : List Nat) : PyData := bif t then .tuple (ws.map fun (a : Nat) => PyData.int (a : Int)) else .list (ws.map fun (a : Nat) => PyData.int (a : Int))
theorem dpa_nts {H : Hp} : ∀ ws : List Nat, DpAll K H (nts ws) (ws.map fun (a : Nat) => PyData.int (a : Int))
  | [] => .nil
  | a :: ws => .cons (.int _) (dpa_nts ws)
theorem dp_W {t : Bool} {H : Hp} {a : Addr} {ws : List Nat} (h : Sq2 t K H a (nts ws)) : Dp K H (.ref a) (dW t ws) := by
  cases t
  · exact .lst h (dpa_nts ws)
  · exact .tup h (dpa_nts ws)
theorem shw_W {t : Bool} {ws : List Nat} (h : ∀ w ∈ ws, w < 2 ^ 60) : Shw ws.length 1 (dW t ws) := by
  have e : (ws.map fun (a : Nat) => PyData.int (a : Int)) = (ws.map fun (a : Nat) => (a : Int)).map PyData.int := by rw [List.map_map]; rfl
  have s := ShwA.ints (ws.map fun (a : Nat) => (a : Int)) (fun d hd => by
    obtain ⟨a, ha, rfl⟩ := List.mem_map.mp hd
    have := h a ha
    omega)
  rw [List.length_map] at s
  unfold dW
  rw [e]
  cases t
  · exact .lst s
  · exact .tup s
def RowL (S : List Addr) (H : Hp) (R : Addr) (rs : List (List Nat)) : Prop := ∃ ls : List Addr, ls.length = rs.length ∧ (R ∉ S ∧ ∀ l ∈ ls, l ∉ S) ∧ H R = some (.tup (ls.map V.ref)) ∧ ∀ (i : Nat) (l : Addr) (ws : List Nat), ls[i]? = some l → rs[i]? = some ws → H l = some (.lst (nts ws))
theorem RowL.keepS {S T : List Addr} {H H' : Hp} {R : Addr} {rs : List (List Nat)} (h : RowL S H R rs) (k : KeepS T H H') (n : ∀ y ∈ T, y ∈ S) : RowL S H' R rs := by
  obtain ⟨ls, l, a, e, f⟩ := h
  exact ⟨ls, l, a, k.1 _ _ e (fun z => a.1 (n _ z)), fun i y ws hi hr => k.1 _ _ (f i y ws hi hr) (fun z => a.2 y (List.mem_of_getElem? hi) (n _ z))⟩
theorem RowL.same {S : List Addr} {H H' : Hp} {R : Addr} {rs : List (List Nat)} (h : RowL S H R rs) (s : Same H H') : RowL S H' R rs := h.keepS (T := []) (.ofSame s) (fun _ z => nomatch z)
theorem RowL.at {S : List Addr} {H : Hp} {R : Addr} {rs : List (List Nat)} (h : RowL S H R rs) {i : Nat} {ws : List Nat} (hi : rs[i]? = some ws) : ∃ l, l ∉ S ∧ (∃ us, H R = some (.tup us) ∧ us[i]? = some (.ref l) ∧ us.length = rs.length) ∧ H l = some (.lst (nts ws)) := by
  obtain ⟨ls, l, a, e, f⟩ := h
  have c : i < ls.length := by
    have := (List.getElem?_eq_some_iff.mp hi).1
    omega
  have e1 : ls[i]? = some ls[i] := List.getElem?_eq_getElem c
  exact ⟨ls[i], a.2 _ (List.getElem_mem c), ⟨_, e, by rw [List.getElem?_map, e1]; rfl, by rw [List.length_map, l]⟩, f i _ ws e1 hi⟩
def netS (b : Addr) (p : NetP) : List Addr := [b, p.lm, p.ld, p.dn]
theorem netS_nin {C b : Addr} {c : Int} {Z : List Addr} {H : Hp} {p : NetP} {m : Nat} {gs : List Gt} {nm : List (Str × List Nat)} (h : NetAt C Z H p m gs nm) (hB : BoxAt c H b) {a : Addr} (n : H a = none) : a ∉ netS b p := by
  obtain ⟨_, _, _, dx, ps, kvs, e1, e2, e3, e4, _⟩ := h
  obtain ⟨_, _, _, eb, _⟩ := hB
  intro z
  simp only [netS, List.mem_cons, List.not_mem_nil, or_false] at z
  rcases z with z | z | z | z <;> subst z
  · rw [eb] at n; cases n
  · rw [e2] at n; cases n
  · rw [e3] at n; cases n
  · rw [e4] at n; cases n
def GoodR (F : List (List Bool) → Prop) (gs : List Gt) (rs : List (List Nat)) : Prop := (∀ ws ∈ rs, ws.length ≤ 100 ∧ ∀ w ∈ ws, w < 24 + gs.length) ∧ ∀ vals : List Bool, vals.length = 24 → F (rs.map fun ws => ws.map (wb vals gs))
theorem GoodR.ext {F : List (List Bool) → Prop} {gs gs' : List Gt} {n : Nat} {rs : List (List Nat)} (h : GoodR F gs rs) (e : Ext 24 gs gs' n) : GoodR F gs' rs := by
  have l := e.len
  refine ⟨fun ws hw => ⟨(h.1 ws hw).1, fun w m => by have := (h.1 ws hw).2 w m; omega⟩, fun vals hv => ?_⟩
  have key : (rs.map fun ws => ws.map (wb vals gs')) = rs.map fun ws => ws.map (wb vals gs) := List.map_congr_left fun ws hw => e.wbs hv (h.1 ws hw).2
  rw [key]
  exact h.2 vals hv
/-! ### names -/
def letS (lt : Str) (j : Nat) : Str := ⟨#[lt.cps.getD j 0]⟩
theorem let_at {lt : Str} {i : Nat} {y : V} (h : ((lt.cps[i]?).map fun c => V.str ⟨#[c]⟩) = some y) : y = .str (letS lt i) ∧ i < lt.cps.size := by
  cases q : lt.cps[i]? with
  | none => rw [q] at h; cases h
  | some c =>
    rw [q] at h
    have lt' := (Array.getElem?_eq_some_iff.mp q).1
    refine ⟨?_, lt'⟩
    have : lt.cps.getD i 0 = c := by
      simp [Array.getD, lt', (Array.getElem?_eq_some_iff.mp q).2]
    unfold letS
    rw [this]
    exact (Option.some.inj h).symm
def nmS (lt : Str) (j a : Nat) : Str := letS lt j ++ (Str.ofString (toString ((a : Nat) : Int)))
def partN (lt : Str) (n a j : Nat) : List Str := ((List.range a).flatMap fun i => (List.range n).map fun q => nmS lt q i) ++ (List.range j).map fun q => nmS lt q a
def rw2 (rss : List (List (List Nat))) (q i : Nat) : List Nat := (rss.getD i []).getD q []
def partM (lt : Str) (rss : List (List (List Nat))) (n a j : Nat) : List (Str × List Nat) := ((List.range a).flatMap fun i => (List.range n).map fun q => (nmS lt q i, rw2 rss q i)) ++ (List.range j).map fun q => (nmS lt q a, rw2 rss q a)
theorem partM_fst (lt : Str) (rss : List (List (List Nat))) (n a j : Nat) : (partM lt rss n a j).map (·.1) = partN lt n a j := by
  unfold partM partN
  rw [List.map_append, List.map_flatMap, List.map_map]
  congr 1
  · congr 1
    funext i
    rw [List.map_map]
    rfl
theorem partM_snoc (lt : Str) (rss : List (List (List Nat))) (n a j : Nat) : partM lt rss n a (j + 1) = partM lt rss n a j ++ [(nmS lt j a, rw2 rss j a)] := by
  unfold partM
  rw [List.range_succ, List.map_append, ← List.append_assoc]
  rfl
theorem partM_next (lt : Str) (rss : List (List (List Nat))) (n a : Nat) : partM lt rss n (a + 1) 0 = partM lt rss n a n := by
  unfold partM
  rw [List.range_succ, List.flatMap_append, List.range_zero, List.map_nil, List.append_nil, List.flatMap_singleton]
theorem partM_len (lt : Str) (rss : List (List (List Nat))) (n a j : Nat) : (partM lt rss n a j).length = a * n + j := by
  unfold partM
  rw [List.length_append, List.length_map, List.length_range]
  congr 1
  induction a with
  | zero => simp
  | succ a ih => rw [List.range_succ, List.flatMap_append, List.length_append, ih, List.flatMap_singleton, List.length_map, List.length_range, Nat.succ_mul]
theorem partM_mem {lt : Str} {rss : List (List (List Nat))} {n a j i q : Nat} (hi : i < a) (hq : q < n) : (nmS lt q i, rw2 rss q i) ∈ partM lt rss n a j := List.mem_append.mpr (.inl (List.mem_flatMap.mpr ⟨i, List.mem_range.mpr hi, List.mem_map.mpr ⟨q, List.mem_range.mpr hq, rfl⟩⟩))
theorem partM_in {lt : Str} {rss : List (List (List Nat))} {n a : Nat} {x : Str × List Nat} (h : x ∈ partM lt rss n a 0) : ∃ i q, i < a ∧ q < n ∧ x = (nmS lt q i, rw2 rss q i) := by
  rcases List.mem_append.mp h with z | z
  · obtain ⟨i, hi, z⟩ := List.mem_flatMap.mp z
    obtain ⟨q, hq, e⟩ := List.mem_map.mp z
    exact ⟨i, q, List.mem_range.mp hi, List.mem_range.mp hq, e.symm⟩
  · simp at z
/-! ### what a run tells, as a dict -/
theorem valV_keys {kvs : List (Key × V)} {k : Key} (h : k ∉ kvs.map (·.1)) : valV kvs k = none := valV_out h
theorem mergeK_nodup : ∀ (kvs acc : List (Key × V)), ((acc ++ kvs).map (·.1)).Nodup → mergeK acc kvs = acc ++ kvs
  | [], acc, _ => (List.append_nil _).symm
  | (k, v) :: kvs, acc, h => by
    have e : putK acc k v = acc ++ [(k, v)] := putK_new _ (valV_out (fun z => by
      rw [List.map_append, List.map_cons, List.nodup_append] at h
      exact h.2.2 k z k (by simp) rfl))
    show mergeK (putK acc k v) kvs = _
    rw [e, mergeK_nodup kvs (acc ++ [(k, v)]) (by rw [List.append_assoc]; exact h), List.append_assoc]
    rfl
def TAt (H : Hp) (d : Addr) (nm : List (Str × List Nat)) (rs : List Int) : Prop := ∃ kvs, H d = some (.dK kvs) ∧ ∀ x ∈ nm, ∃ l, valV kvs (.inr x.1) = some (.ref l) ∧ H l = some (.lst ((x.2.map fun a => rs.getD a 0).map V.int))
theorem TAt.same {H H' : Hp} {d : Addr} {nm : List (Str × List Nat)} {rs : List Int} (h : TAt H d nm rs) (s : Same H H') : TAt H' d nm rs := by
  obtain ⟨kvs, e, f⟩ := h
  exact ⟨kvs, s _ _ e, fun x hx => by
    obtain ⟨l, a, b⟩ := f x hx
    exact ⟨l, a, s _ _ b⟩⟩
theorem run_dict {H0 H : Hp} {t : Addr} {ys : List Str} {nm : List (Str × List Nat)} {rs : List Int} (h : RunAt H0 H t ys nm rs) (hp : ys.Perm (nm.map (·.1))) (hn : (nm.map (·.1)).Nodup) :
    ∃ (ps : List Addr) (kvs : List (Key × V)), SqL K H t (ps.map V.ref) ∧ Paired (fun p kv => SqT K H p [kV kv.1, kv.2]) ps kvs ∧ mergeK [] kvs = kvs ∧ ∀ x ∈ nm, ∃ l, valV kvs (.inr x.1) = some (.ref l) ∧ H l = some (.lst ((x.2.map fun a => rs.getD a 0).map V.int)) := by
  obtain ⟨ts, lt, et, hts⟩ := h
  have key : ∀ (ts : List Addr) (ys : List Str), ts.length = ys.length → (∀ (i : Nat) (u : Addr) (n : Str), ts[i]? = some u → ys[i]? = some n → ∃ (ws : List Nat) (l : Addr), (n, ws) ∈ nm ∧ H0 l = none ∧ H u = some (.tup [.str n, .ref l]) ∧ H l = some (.lst ((ws.map fun a => rs.getD a 0).map V.int))) →
      ∃ kvs : List (Key × V), Paired (fun p kv => SqT K H p [kV kv.1, kv.2]) ts kvs ∧ kvs.map (·.1) = ys.map Sum.inr ∧ ∀ kv ∈ kvs, ∃ (n : Str) (ws : List Nat) (l : Addr), kv = (.inr n, .ref l) ∧ (n, ws) ∈ nm ∧ H l = some (.lst ((ws.map fun a => rs.getD a 0).map V.int)) := by
    intro ts
    induction ts with
    | nil =>
      intro ys hl _
      cases ys with
      | nil => exact ⟨[], .nil, rfl, fun _ z => nomatch z⟩
      | cons y ys => cases hl
    | cons u ts ih =>
      intro ys hl hf
      cases ys with
      | nil => cases hl
      | cons y ys =>
        obtain ⟨kvs, a, b, c⟩ := ih ys (Nat.succ.inj hl) (fun i v n h1 h2 => hf (i + 1) v n h1 h2)
        obtain ⟨ws, l, e1, _, e2, e3⟩ := hf 0 u y rfl rfl
        refine ⟨(.inr y, .ref l) :: kvs, .cons (.inl (.inl e2)) a, by rw [List.map_cons, List.map_cons, b], fun kv hk => ?_⟩
        rcases List.mem_cons.mp hk with z | z
        · exact ⟨y, ws, l, z, e1, e3⟩
        · exact c kv z
  obtain ⟨kvs, a, b, c⟩ := key ts ys lt hts
  have ny : ys.Nodup := hp.nodup_iff.mpr hn
  have nk : (kvs.map (·.1)).Nodup := by
    rw [b]
    exact List.Pairwise.map _ (fun a b n z => n (Sum.inr.inj z)) ny
  refine ⟨ts, kvs, SqL.of et, a, mergeK_nodup kvs [] nk, fun x hx => ?_⟩
  have hy : x.1 ∈ ys := hp.mem_iff.mpr (List.mem_map.mpr ⟨x, hx, rfl⟩)
  have hk : (Sum.inr x.1 : Key) ∈ kvs.map (·.1) := by
    rw [b]
    exact List.mem_map.mpr ⟨_, hy, rfl⟩
  obtain ⟨kv, hkv, ek⟩ := List.mem_map.mp hk
  obtain ⟨i, hi, ei⟩ := List.getElem_of_mem hkv
  obtain ⟨n, ws, l, e1, e2, e3⟩ := c kv hkv
  rw [e1] at ek
  have en : n = x.1 := Sum.inr.inj ek
  have ew : ws = x.2 := by
    have h1 : (x.1, ws) ∈ nm := en ▸ e2
    have key2 : ∀ (l : List (Str × List Nat)), (l.map (·.1)).Nodup → ∀ a b c, (a, b) ∈ l → (a, c) ∈ l → b = c := by
      intro l
      induction l with
      | nil => intro _ a b c z; exact nomatch z
      | cons q l ih =>
        intro hd a b c h1 h2
        rw [List.map_cons, List.nodup_cons] at hd
        rcases List.mem_cons.mp h1 with z1 | z1 <;> rcases List.mem_cons.mp h2 with z2 | z2
        · rw [← z1] at z2
          exact (Prod.mk.inj z2).2.symm
        · exact absurd (List.mem_map.mpr ⟨_, z2, rfl⟩) (by rw [← z1] at hd; exact hd.1)
        · exact absurd (List.mem_map.mpr ⟨_, z1, rfl⟩) (by rw [← z2] at hd; exact hd.1)
        · exact ih hd.2 a b c z1 z2
    exact key2 nm hn x.1 ws x.2 h1 hx
  refine ⟨l, ?_, ew ▸ e3⟩
  exact valV_at nk (by rw [List.getElem?_eq_getElem hi, ei, e1, en])
/-! ### rows as data -/
def dRw (rs : List (List Nat)) : PyData := .tuple (rs.map fun ws => .list (ws.map fun (a : Nat) => PyData.int (a : Int)))
theorem units65 {k : Nat} {A : Around} (r : Room k A) : A.units + 65 < cLine := by have := r.un; omega
theorem lay_ints : ∀ ws : List Nat, PyData.canLayAll0 (ws.map fun (a : Nat) => PyData.int (a : Int)) = true ∧ PyData.depthAll (ws.map fun (a : Nat) => PyData.int (a : Int)) = 0
  | [] => ⟨rfl, rfl⟩
  | a :: ws => by
    obtain ⟨h1, h2⟩ := lay_ints ws
    exact ⟨by simp [PyData.canLayAll0, PyData.canLay0, h1], by simp [PyData.depthAll, PyData.depth, h2]⟩
theorem lay_rw : ∀ rs : List (List Nat), PyData.canLayAll0 (rs.map fun ws => .list (ws.map fun (a : Nat) => PyData.int (a : Int))) = true ∧ PyData.depthAll (rs.map fun ws => .list (ws.map fun (a : Nat) => PyData.int (a : Int))) ≤ 1
  | [] => ⟨rfl, by decide⟩
  | a :: ws => by
    obtain ⟨h1, h2⟩ := lay_rw ws
    obtain ⟨h3, h4⟩ := lay_ints a
    exact ⟨by simp [PyData.canLayAll0, PyData.canLay0, h1, h3], by simp only [List.map_cons, PyData.depthAll, PyData.depth, h4]; omega⟩
theorem lay_rws : ∀ rss : List (List (List Nat)), PyData.canLayAll0 (rss.map dRw) = true ∧ PyData.depthAll (rss.map dRw) ≤ 2
  | [] => ⟨rfl, by decide⟩
  | a :: ws => by
    obtain ⟨h1, h2⟩ := lay_rws ws
    obtain ⟨h3, h4⟩ := lay_rw a
    exact ⟨by simp [dRw, PyData.canLayAll0, PyData.canLay0, h1, h3], by simp only [List.map_cons, PyData.depthAll, PyData.depth, dRw]; omega⟩
theorem shp_rws (rss : List (List (List Nat))) : PySem.SeqAt.shaped (.list (rss.map dRw)) = true := by
  obtain ⟨h1, h2⟩ := lay_rws rss
  unfold PySem.SeqAt.shaped
  refine Bool.and_eq_true_iff.mpr ⟨h1, decide_eq_true ?_⟩
  show PyData.depthAll (rss.map dRw) + 1 ≤ 64
  omega
theorem RowL.dp {S : List Addr} {H : Hp} {R : Addr} {rs : List (List Nat)} (h : RowL S H R rs) : Dp K H (.ref R) (dRw rs) := by
  obtain ⟨ls, l, _, e, f⟩ := h
  have key : ∀ (ls : List Addr) (rs : List (List Nat)), ls.length = rs.length → (∀ (i : Nat) (l : Addr) (ws : List Nat), ls[i]? = some l → rs[i]? = some ws → H l = some (.lst (nts ws))) → DpAll K H (ls.map V.ref) (rs.map fun ws => .list (ws.map fun (a : Nat) => PyData.int (a : Int))) := by
    intro ls
    induction ls with
    | nil =>
      intro rs hl _
      cases rs with
      | nil => exact .nil
      | cons y ys => cases hl
    | cons u ts ih =>
      intro rs hl hf
      cases rs with
      | nil => cases hl
      | cons y ys => exact .cons (.lst (SqL.of (hf 0 u y rfl rfl)) (dpa_nts y)) (ih ys (Nat.succ.inj hl) (fun i a b h1 h2 => hf (i + 1) a b h1 h2))
  exact .tup (.inl (.inl e)) (key ls rs l f)
theorem no_none (rss : List (List (List Nat))) : ((rss.map dRw).any fun z => PyData.eqv z .none) = false := by
  rw [List.any_map]
  refine List.any_eq_false.mpr fun x _ => ?_
  show ¬ PyData.eqv (dRw x) .none = true
  unfold dRw
  simp [PyData.eqv]
/-! ### one case of the run -/
theorem num_case {k : Nat} (h : k < 64) (gs : List Gt) (us : List Int) (ws : List Nat) : wf (((ws.map fun a => (rv (2 ^ 64 - 1) (us.map (· % 2 ^ 64)) gs).getD a 0)).map (tb · k)) = (numB (ws.map (wb (bitsOf us k) gs)) : Int) := by
  rw [← wf_num, List.map_map, List.map_map]
  congr 1
  exact List.map_congr_left fun a _ => rv_case h gs us a
def F47 (bs : List (List Bool)) : Prop := ∃ (os ts : List Bool) (c : Bool) (pl qk : List Bool), bs = [os, ts, [c], pl, qk] ∧ numB pl = numB os + numB ts + c.toNat ∧ numB qk = numB pl
def KpAt (K : PySem.W.Frag) (p : NetP) (b : Addr) (gs : List Gt) (H : Hp) (kp : Addr) : Prop := ∃ (ls : List Addr) (wss : List (List Nat)), H kp = some (.lst (ls.map V.ref)) ∧ kp ≠ b ∧ ls.length = wss.length ∧ ls.length ≤ 4 ∧ (∀ (i : Nat) (l : Addr) (ws : List Nat), ls[i]? = some l → wss[i]? = some ws → H l = some (.lst (nts ws)) ∧ l ∉ [b, p.lm, p.ld] ∧ 1 ≤ ws.length ∧ ws.length ≤ 17 ∧ ∀ w ∈ ws, w < 24 + gs.length)
theorem ninB {C b : Addr} {c : Int} {Z : List Addr} {H : Hp} {p : NetP} {m : Nat} {gs : List Gt} {nm : List (Str × List Nat)} (h : NetAt C Z H p m gs nm) (hB : BoxAt c H b) {a : Addr} (n : H a = none) : a ∉ [b, p.lm, p.ld] := fun z => by
  rcases List.mem_cons.mp z with z | z
  · exact (hB.ne n).symm z
  · exact h.nin n z
theorem cutN_to2 (ws : List Nat) (p : Nat) : cutV (nts ws) none (some (p : Int)) = nts (ws.take p) := by
  by_cases h : p ≤ ws.length
  · exact cutN_to ws p h
  · unfold cutV nts
    rw [HT.sIx_none, HT.sIx_nat, List.drop_zero, List.length_map, Nat.sub_zero, Nat.min_eq_right (by omega), List.take_of_length_le (by rw [List.length_map]; exact Nat.le_refl _), List.take_of_length_le (by omega)]
theorem rgV0 {k : Nat} : rgV 0 (k : Int) = nts (List.range k) := by
  have := rgV_nts (a := 0) (n := k)
  rw [show ((0 : Nat) : Int) = 0 from rfl, Int.zero_add] at this
  rw [this]
  congr 1
  simp
def spHand (K : PySem.W.Frag) (C : Addr) : Sp := fun vs H Q _ => ∃ (Z : List Addr) (p : NetP) (gs : List Gt) (nm : List (Str × List Nat)) (b : Addr) (c : Int) (n : Nat) (kp : Addr), vs = [.ref p.x, .ref b, .int (n : Int), .ref kp] ∧ NetAt C Z H p 24 gs nm ∧ b ∈ Z ∧ BoxAt c H b ∧ c ≤ 800000000 ∧ gs.length ≤ 20000 ∧ 1 ≤ n ∧ n ≤ 16 ∧ KpAt K p b gs H kp ∧
  ∀ (t : Bool) (ws : List Nat) (D : Addr) (H' : Hp), ws.length = n → (∀ w ∈ ws, w < 24 + gs.length) → D ∉ [b, p.lm, p.ld] → Sq2 t K H' D (nts ws) → BoxAt (c + 60) H' b → Keep b H H' → Q (.ref D) H'
theorem ok__law_handed (B : Bl mg) (L : LL K mg C a1 a2 a3 a4 a5 a6 a7 a8 a9 a10 a11 a12 a13 a14 a15 a16 a17 a18 a19 a20 a21 a22 a23 a24 a25 a26 a27 l1 l2 l3 l4 l5 l6 l7 l8 l9 l10 l11 l12 l13 l14 l15 l16 l17 l18 l19 l20 l21 l22 l23 l24 l25 l26 l27) : FnOk P w K mg base CX0 4 a12 l12 ["_law_net", "_law_box_here", "_law_size", "_law_kept"] (spHand K C) := by
  have G__law_take : FnOk P w K mg base CX0 3 a8 l8 ["_law_box_here", "_law_size"] (spTake 1) := (ok_take L.F__law_take L.b__law_take L.m__law_take B 1).mono (by decide)
  have G__law_wires : FnOk P w K mg base CX0 3 a9 l9 ["_law_net", "_law_box_here", "_law_size"] (spWires K C) := (ok__law_wires B L).mono (by decide)
  refine L.F__law_handed.ok sc__law_handed (fun vs H Q E h => ?_) (fun cdv A outer s H vs Q E hr h => ?_)
  · obtain ⟨Z, p, gs, nm, b, c, n, kp, rfl, _⟩ := h
    rfl
  obtain ⟨Z, p, gs, nm, b, c, n, kp, rfl, hN, hbZ, hB, hc, hg, n1, n16, hK, q⟩ := h
  refine ⟨_, (pss_cons (ps_if (PW.pt (pw_and (pt_cmpR (op_neD hr.units) (pv 3) (pe_lst pa_nil) (nomark _)) (pw_and1 (pt_cmpR op_eq (pe_call G__law_take hr (by rfl) L.m__law_take L.F__law_take.kp L.b__law_take .nil pass0 (pa_cons (pv 1) (pa_cons pe_int pa_nil))) pe_int (nomark _))))) (pss_cons (ps_set (i := 4) sc__law_handed.nd rfl (.inl rfl) (pe_ix ix_list (pv 3) (pe_call G__law_take hr (by rfl) L.m__law_take L.F__law_take.kp L.b__law_take .nil pass0 (pa_cons (pv 1) (pa_cons (pe_callB call_len_seq (by rfl) B.len PySem.boot_len (pa_cons (pv 3) pa_nil)) pa_nil))) (fun _ _ => rfl)))
    (pss_one (ps_ret (pe_op op_cat (pe_slice sl_list (pe_op op_cat (pv 4) (pv 4)) po_none (po_some (pv 2))) (pe_listRg rfl (by rfl) B.list (prg_1 (by rfl) B.range (pe_callB (call_max2 rfl) (by rfl) B.max boot_max (pa_cons pe_int (pa_cons (pe_op op_sub (pv 2) (pe_op op_mul pe_int (pe_callB call_len_seq (by rfl) B.len PySem.boot_len (pa_cons (pv 4) pa_nil)))) pa_nil))))))))) pss_nil)
    (pss_one (ps_ret (pe_call G__law_wires hr (by rfl) L.m__law_wires L.F__law_wires.kp L.b__law_wires .nil pass0 (pa_cons (pv 0) (pa_cons (pv 1) (pa_cons (pv 2) pa_nil))))))), ?_⟩
  obtain ⟨ls, wss, eK, nKb, lls, ll4, hls⟩ := hK
  have dpK : ∀ {G : Hp}, (∀ (i : Nat) (l : Addr) (ws : List Nat), ls[i]? = some l → wss[i]? = some ws → G l = some (.lst (nts ws))) → G kp = some (.lst (ls.map V.ref)) → Dp K G (.ref kp) (.list (wss.map fun ws => .list (ws.map fun (a : Nat) => PyData.int (a : Int)))) := fun {G} hf e => by
    have key : ∀ (ls : List Addr) (wss : List (List Nat)), ls.length = wss.length → (∀ (i : Nat) (l : Addr) (ws : List Nat), ls[i]? = some l → wss[i]? = some ws → G l = some (.lst (nts ws))) → DpAll K G (ls.map V.ref) (wss.map fun ws => .list (ws.map fun (a : Nat) => PyData.int (a : Int))) := by
      intro ls
      induction ls with
      | nil =>
        intro rs hl _
        cases rs with
        | nil => exact .nil
        | cons y ys => cases hl
      | cons u ts ih =>
        intro rs hl hf
        cases rs with
        | nil => cases hl
        | cons y ys => exact .cons (.lst (SqL.of (hf 0 u y rfl rfl)) (dpa_nts y)) (ih ys (Nat.succ.inj hl) (fun i a b h1 h2 => hf (i + 1) a b h1 h2))
    exact .lst (SqL.of e) (key ls wss lls hf)
  have shpK : PySem.SeqAt.shaped (.list (wss.map fun ws => .list (ws.map fun (a : Nat) => PyData.int (a : Int)))) = true := by
    obtain ⟨h1, h2⟩ := lay_rw wss
    unfold PySem.SeqAt.shaped
    refine Bool.and_eq_true_iff.mpr ⟨h1, decide_eq_true ?_⟩
    show PyData.depthAll _ + 1 ≤ 64
    omega
  refine ⟨_, rfl, (by show 0 ≤ sizeLine; decide), fun E1 nE1 => ?_⟩
  have sE1 := same_upd (o := .lst []) nE1
  have eE1 : (upd H E1 (.lst [])) E1 = some (.lst []) := upd_same
  have N6 := hN.same sE1
  have B6 := hB.same sE1
  have k06 : Keep b H _ := Keep.ofSame sE1
  have hK6 := sE1 _ _ eK
  have hls6 : ∀ (i : Nat) (l : Addr) (ws : List Nat), ls[i]? = some l → wss[i]? = some ws → (upd H E1 (.lst [])) l = some (.lst (nts ws)) := fun i l ws h1 h2 => sE1 _ _ (hls i l ws h1 h2).1
  generalize upd H E1 (.lst []) = H6 at *
  refine ⟨_, _, dpK hls6 hK6, .lst (SqL.of eE1) .nil, shpK, PySem.W.shaped_ints [], ?_⟩
  cases hw : wss with
  | nil =>
    refine ⟨_, rfl, iteF ?_⟩
    dsimp only [tNext]
    refine ⟨_, rfl, _, rfl, _, rfl, Z, p, gs, nm, b, _, n, rfl, N6, hbZ, B6, by omega, n1, by omega, fun t1 ws O H3 lo ho nO eO B3 k3 => ?_⟩
    exact q t1 ws O H3 lo (fun w hw => by have := ho w hw; omega) (ninB N6 B6 nO) eO (B3.mono (by omega)) (k06.trans k3)
  | cons w0 wr =>
    have en2 : PyData.eqv (.list ((w0 :: wr).map fun ws => .list (ws.map fun (a : Nat) => PyData.int (a : Int)))) (.list []) = false := by simp [PyData.eqv, PyData.eqvAll]
    rw [en2]
    refine ⟨_, rfl, iteT ?_⟩
    refine ⟨_, rfl, b, _, _, rfl, B6, by decide, by decide, by decide, by omega, by decide, fun r7 H7 u7 v7 B7 k7 => ?_⟩
    replace B7 := bx1 B7
    have N7 := N6.keepB k7 B7.some hbZ
    have k07 := k06.trans k7
    refine ⟨rfl, _, rfl, ite2 (fun z => ?_) (fun z => ?_)⟩
    rotate_left
    · skip
      dsimp only [tNext]
      refine ⟨_, rfl, _, rfl, _, rfl, Z, p, gs, nm, b, _, n, rfl, N7, hbZ, B7, by omega, n1, by omega, fun t1 ws O H3 lo ho nO eO B3 k3 => ?_⟩
      exact q t1 ws O H3 lo (fun w hw => by have := ho w hw; omega) (ninB N7 B7 nO) eO (B3.mono (by omega)) (k07.trans k3)
    have lpos : 1 ≤ ls.length := by rw [lls, hw]; simp
    refine ⟨_, rfl, _, rfl, _, rfl, kp, _, rfl, .inl (SqL.of (k7 _ _ hK6 nKb)), b, _, _, rfl, B7, by rw [List.length_map]; omega, by rw [List.length_map]; omega, by rw [List.length_map]; omega, by omega, by decide, fun r8 H8 u8 v8 B8 k8 => ?_⟩
    rw [List.length_map] at v8
    replace B8 := bx1 B8
    have N8 := N7.keepB k8 B8.some hbZ
    have k68 := k7.trans k8
    have k08 := k06.trans k68
    obtain ⟨a, rfl⟩ : ∃ a : Nat, r8 = (a : Int) := ⟨r8.toNat, by omega⟩
    obtain ⟨l, hl⟩ : ∃ l, ls[a]? = some l := ⟨ls[a]'(by omega), List.getElem?_eq_getElem (by omega)⟩
    obtain ⟨ws, hws⟩ : ∃ ws, wss[a]? = some ws := ⟨wss[a]'(by omega), List.getElem?_eq_getElem (by omega)⟩
    obtain ⟨_, a2, a3, a4, a5⟩ := hls a l ws hl hws
    have nlb : l ≠ b := fun z => a2 (by rw [z]; simp)
    have el8 := k68 _ _ (hls6 a l ws hl hws) nlb
    refine ⟨kp, _, _, _, rfl, rfl, SqL.of (k68 _ _ hK6 nKb), atI_nat (by rw [List.getElem?_map, hl]; rfl), ?_⟩
    dsimp only [gName]
    try simp only [L2.start, List.map_cons, List.map_nil, List.length_cons, List.length_nil, List.replicate_succ, List.replicate_zero, List.cons_append, List.nil_append, List.set_cons_succ, List.set_cons_zero, Nat.reduceAdd, Nat.reduceSub, Nat.zero_add]
    refine ⟨_, rfl, _, rfl, l, l, _, _, rfl, rfl, el8, el8, by rw [nts_len]; exact Nat.le_of_lt (big_lt (by omega)), fun L1 nL1 => ?_⟩
    rw [← nts_app]
    have sL1 := same_upd (o := .lst (nts (ws ++ ws))) nL1
    have eL1 : (upd H8 L1 (.lst (nts (ws ++ ws)))) L1 = some (.lst (nts (ws ++ ws))) := upd_same
    have el9 := sL1 _ _ el8
    have B9 := B8.same sL1
    have N9 := N8.same sL1
    have k89 : Keep b H8 _ := Keep.ofSame sL1
    generalize upd H8 L1 (.lst (nts (ws ++ ws))) = H9 at *
    refine ⟨_, rfl, _, rfl, L1, _, rfl, SqL.of eL1, fun L2 nL2 => ?_⟩
    dsimp only
    rw [cutN_to2]
    have sL2 := same_upd (o := .lst (nts ((ws ++ ws).take n))) nL2
    have eL2 : (upd H9 L2 (.lst (nts ((ws ++ ws).take n)))) L2 = some (.lst (nts ((ws ++ ws).take n))) := upd_same
    have el10 := sL2 _ _ el9
    have B10 := B9.same sL2
    have N10 := N9.same sL2
    have k810 := k89.trans (Keep.ofSame sL2)
    generalize upd H9 L2 (.lst (nts ((ws ++ ws).take n))) = H10 at *
    have em : (if ((n : Int) - 2 * (ws.length : Int)) > 0 then ((n : Int) - 2 * (ws.length : Int)) else 0) = ((n - 2 * ws.length : Nat) : Int) := by split <;> omega
    refine ⟨_, rfl, _, rfl, l, _, rfl, .inl (SqL.of el10), ?_⟩
    rw [nts_len]
    refine ⟨_, _, rfl, rfl, .inl ⟨by decide, by decide⟩, _, _, rfl, rfl, _, _, rfl, ?_⟩
    dsimp only
    rw [em]
    refine ⟨_, rfl, .of_le (by omega) (by omega) (by omega) (by omega), fun L3 nL3 => ?_⟩
    rw [rgV0]
    have sL3 := same_upd (o := .lst (nts (List.range (n - 2 * ws.length)))) nL3
    have eL3 : (upd H10 L3 (.lst (nts (List.range (n - 2 * ws.length))))) L3 = some (.lst (nts (List.range (n - 2 * ws.length)))) := upd_same
    have eL2' := sL3 _ _ eL2
    have B11 := B10.same sL3
    have N11 := N10.same sL3
    have k811 := k810.trans (Keep.ofSame sL3)
    generalize upd H10 L3 (.lst (nts (List.range (n - 2 * ws.length)))) = H11 at *
    have lt : ((ws ++ ws).take n).length ≤ n := by rw [List.length_take]; omega
    refine ⟨L2, L3, _, _, rfl, rfl, eL2', eL3, by rw [nts_len, nts_len, List.length_range]; exact Nat.le_of_lt (big_lt (by omega)), fun R nR => ?_⟩
    rw [← nts_app]
    have sR := same_upd (o := .lst (nts ((ws ++ ws).take n ++ List.range (n - 2 * ws.length)))) nR
    refine q false _ R _ (by rw [List.length_append, List.length_take, List.length_range, List.length_append]; omega) (fun x hx => ?_) (ninB N11 B11 nR) (SqL.of upd_same) ((B11.same sR).mono (by omega)) (k08.trans (k811.trans (Keep.ofSame sR)))
    rcases List.mem_append.mp hx with y | y
    · rcases List.mem_append.mp (List.mem_of_mem_take y) with y | y
      · exact a5 x y
      · exact a5 x y
    · have := List.mem_range.mp y
      omega
end
section
variable {P : Program} {w : World} {K : PySem.W.Frag} {mg : Str → Option Value} {base : Heap}
variable {C : Addr} {a1 a2 a3 a4 a5 a6 a7 a8 a9 a10 a11 a12 a13 a14 a15 a16 a17 a18 a19 a20 a21 a22 a23 a24 a25 a26 a27 : Addr} {l1 l2 l3 l4 l5 l6 l7 l8 l9 l10 l11 l12 l13 l14 l15 l16 l17 l18 l19 l20 l21 l22 l23 l24 l25 l26 l27 : FuncData}
theorem row47 {gs gs' : List Gt} {bit : Nat} {os ts qw : List Nat} {c : Nat} (hb : bit ≤ 1) (h16 : os.length ≤ 16) (hl : os.length = ts.length) (ho : ∀ a ∈ os, a < 24 + gs.length) (ht : ∀ a ∈ ts, a < 24 + gs.length) (hc : c < 24 + gs.length + 1)
    (hQ : QF 24 (sumW 24 (gs ++ [.fi bit]) os ts c).1 gs' os ts c qw) :
    Ext 24 gs gs' 510 ∧ GoodR F47 gs' [os, ts, [c], (sumW 24 (gs ++ [.fi bit]) os ts c).2, qw] := by
  have l0 : (gs ++ [Gt.fi bit]).length = gs.length + 1 := by simp
  have E0 : Ext 24 gs (gs ++ [.fi bit]) 1 := .fixed hb
  have A := sumW_ok (m := 24) (gs := gs ++ [.fi bit]) (os := os) (ts := ts) (c := c) hl (fun w h => by have := ho w h; omega) (fun w h => by have := ht w h; omega) (by omega)
  have lA := sumW_len (m := 24) (gs := gs ++ [.fi bit]) (os := os) (ts := ts) (c := c) hl (fun w h => by have := ho w h; omega) (fun w h => by have := ht w h; omega) (by omega)
  generalize sumW 24 (gs ++ [.fi bit]) os ts c = S1 at *
  obtain ⟨A1, A2, A3⟩ := A
  obtain ⟨B1, B2, B3, B4, _⟩ := hQ
  have x1 := A1.len
  have x2 := B1.len
  have eE : Ext 24 gs gs' 510 := ((E0.trans A1).trans B1).mono (by omega)
  have E1 := E0.trans A1
  refine ⟨eE, fun ws hw' => ?_, fun vals hv => ?_⟩
  · simp only [List.mem_cons, List.not_mem_nil, or_false] at hw'
    rcases hw' with rfl | rfl | rfl | rfl | rfl
    · exact ⟨by omega, fun a m => by have := ho a m; omega⟩
    · exact ⟨by omega, fun a m => by have := ht a m; omega⟩
    · exact ⟨by show 1 ≤ 100; decide, fun a m => by rw [List.mem_singleton.mp m]; omega⟩
    · exact ⟨by omega, fun a m => by have := A2 a m; omega⟩
    · exact ⟨by omega, B3⟩
  · refine ⟨os.map (wb vals gs'), ts.map (wb vals gs'), wb vals gs' c, S1.2.map (wb vals gs'), qw.map (wb vals gs'), rfl, ?_, ?_⟩
    · rw [B1.wbs hv A2, A3 vals hv, sumB_num (by rw [List.length_map, List.length_map]; exact hl), (A1.trans B1).wbs hv (fun w h => by have := ho w h; omega), (A1.trans B1).wbs hv (fun w h => by have := ht w h; omega), (A1.trans B1).wb hv (by omega)]
    · rw [B4 vals hv, B1.wbs hv A2, A3 vals hv, A1.wbs hv (fun w h => by have := ho w h; omega), A1.wbs hv (fun w h => by have := ht w h; omega), A1.wb hv (by omega)]
theorem KpAt.keep {p : NetP} {b kp : Addr} {gs : List Gt} {H H' : Hp} (h : KpAt K p b gs H kp) (k : Keep b H H') : KpAt K p b gs H' kp := by
  obtain ⟨ls, wss, e1, e2, e3, e4, e5⟩ := h
  exact ⟨ls, wss, k _ _ e1 e2, e2, e3, e4, fun i l ws h1 h2 => by
    obtain ⟨a1, a2, a3⟩ := e5 i l ws h1 h2
    exact ⟨k _ _ a1 (fun z => a2 (by rw [z]; simp)), a2, a3⟩⟩
theorem bits47 : ∀ n : Nat, n < 17 → ∀ k, k < 6 → (k = 0 ∨ 2 ^ (k - 1) ≤ n) → k ≤ Builtin.Int.intBits (n : Int) := by decide +kernel
theorem bits47k {n k : Nat} (h : n ≤ 16) (hk : k = 0 ∨ 2 ^ (k - 1) ≤ n) : k ≤ Builtin.Int.intBits (n : Int) := by
  rcases Nat.lt_or_ge k 6 with c | c
  · exact bits47 n (by omega) k c hk
  · rcases hk with y | y
    · omega
    · have := Nat.pow_le_pow_right (show 0 < 2 by decide) (show 5 ≤ k - 1 by omega)
      have e : 2 ^ 5 = 32 := rfl
      omega
def spPut47 (K : PySem.W.Frag) (C : Addr) : Sp := fun vs H Q _ => ∃ (Z : List Addr) (p : NetP) (gs : List Gt) (nm : List (Str × List Nat)) (b : Addr) (c : Int) (kp : Addr), vs = [.ref p.x, .ref b, .ref kp] ∧ NetAt C Z H p 24 gs nm ∧ b ∈ Z ∧ BoxAt c H b ∧ c ≤ 700000000 ∧ gs.length ≤ 15000 ∧ KpAt K p b gs H kp ∧
  ∀ (gs' : List Gt) (R : Addr) (rs : List (List Nat)) (H' : Hp), Ext 24 gs gs' 510 → NetAt C Z H' p 24 gs' nm → (∀ S : List Addr, (∀ y ∈ S, H y ≠ none) → RowL S H' R rs) → GoodR F47 gs' rs → (∃ ws, rs[3]? = some ws ∧ 1 ≤ ws.length ∧ ws.length ≤ 17) → BoxAt (c + 300) H' b → KeepS [b, p.lm, p.ld] H H' → Q (.ref R) H'
theorem ok__law_put (B : Bl mg) (L : LL K mg C a1 a2 a3 a4 a5 a6 a7 a8 a9 a10 a11 a12 a13 a14 a15 a16 a17 a18 a19 a20 a21 a22 a23 a24 a25 a26 a27 l1 l2 l3 l4 l5 l6 l7 l8 l9 l10 l11 l12 l13 l14 l15 l16 l17 l18 l19 l20 l21 l22 l23 l24 l25 l26 l27) : FnOkG P w K mg base CX0 9 a13 l13 ["_law_net", "_law_box_here", "_law_kept"] (spPut47 K C) := by
  have G__law_take : FnOk P w K mg base CX0 8 a8 l8 ["_law_box_here", "_law_size"] (spTake 1) := (ok_take L.F__law_take L.b__law_take L.m__law_take B 1).mono (by decide)
  have G__law_handed : FnOk P w K mg base CX0 8 a12 l12 ["_law_net", "_law_box_here", "_law_size", "_law_kept"] (spHand K C) := (ok__law_handed B L).mono (by decide)
  have G_Net_fixed : FnOk P w K mg base CX0 8 a18 l18 ["self", "bit"] (spFixed C) := (ok_Net_fixed B L).mono (by decide)
  have G_sum_wires : FnOk P w K mg base CX0 8 a1 l1 ["net", "ones", "others", "carry"] (spSum K C) := (ok_sum_wires B L).mono (by decide)
  have G_quick_sum_wires : FnOk P w K mg base CX0 8 a2 l2 ["net", "ones", "others", "carry"] (spQs K C) := (ok_quick_sum_wires B L).mono (by decide)
  have G_Net_depth : FnOk P w K mg base CX0 8 a27 l27 ["self", "wire"] (spDepth C) := (ok_Net_depth B L).mono (by decide)
  refine L.F__law_put.okG sc__law_put (fun vs H Q E h => ?_) (fun cdv A outer s H vs Q E gd hr h => ?_)
  · obtain ⟨Z, p, gs, nm, b, c, kp, rfl, _⟩ := h
    rfl
  obtain ⟨Z, p, gs, nm, b, c, kp, rfl, hN, hbZ, hB, hc, hg, hK, q⟩ := h
  refine ⟨_, (pss_cons (ps_set (i := 3) sc__law_put.nd rfl (.inl rfl) (pe_ix ix_list (pe_lst (pa_cons (pe_op op_add pe_int (pe_call G__law_take hr (by rfl) L.m__law_take L.F__law_take.kp L.b__law_take .nil pass0 (pa_cons (pv 1) (pa_cons pe_int pa_nil)))) (pa_cons (pe_op op_add pe_int (pe_call G__law_take hr (by rfl) L.m__law_take L.F__law_take.kp L.b__law_take .nil pass0 (pa_cons (pv 1) (pa_cons pe_int pa_nil)))) pa_nil))) (pe_callTy call_int1 (by rfl) B.int PyProof.Rows.boot_int (pa_cons (pe_cmpR op_eq (pe_call G__law_take hr (by rfl) L.m__law_take L.F__law_take.kp L.b__law_take .nil pass0 (pa_cons (pv 1) (pa_cons pe_int pa_nil))) pe_int (nomark _)) pa_nil)) (fun _ _ => rfl)))
    (pss_cons (ps_par (by rfl) sc__law_put.nd (i := 4) (j := 5) rfl rfl (by decide) rfl rfl (pa_cons (pe_call G__law_handed hr (by rfl) L.m__law_handed L.F__law_handed.kp L.b__law_handed .nil pass0 (pa_cons (pv 0) (pa_cons (pv 1) (pa_cons (pv 3) (pa_cons (pv 2) pa_nil))))) (pa_cons (pe_call G__law_handed hr (by rfl) L.m__law_handed L.F__law_handed.kp L.b__law_handed .nil pass0 (pa_cons (pv 0) (pa_cons (pv 1) (pa_cons (pv 3) (pa_cons (pv 2) pa_nil))))) pa_nil)) (by rfl))
    (pss_cons (ps_par (by rfl) sc__law_put.nd (i := 6) (j := 7) rfl rfl (by decide) rfl rfl (pa_cons (pe_ix ix_list (pe_lst (pa_cons (pe_call G__law_take hr (by rfl) L.m__law_take L.F__law_take.kp L.b__law_take .nil pass0 (pa_cons (pv 1) (pa_cons pe_int pa_nil))) (pa_cons (pe_meth (pv 0) L.T.cl L.M_Net_fixed G_Net_fixed hr L.b_Net_fixed .nil pass0 (pa_cons (pe_call G__law_take hr (by rfl) L.m__law_take L.F__law_take.kp L.b__law_take .nil pass0 (pa_cons (pv 1) (pa_cons pe_int pa_nil))) pa_nil)) pa_nil))) (pe_call G__law_take hr (by rfl) L.m__law_take L.F__law_take.kp L.b__law_take .nil pass0 (pa_cons (pv 1) (pa_cons pe_int pa_nil))) (fun _ _ => rfl)) (pa_cons (pe_callB (call_reprL gd (roomS hr)) (by rfl) L.z_repr PyProof.Rows.boot_repr (pa_cons (pe_lst (pa_cons (pv 4) (pa_cons (pv 5) pa_nil))) pa_nil)) pa_nil)) (by rfl))
    (pss_cons (ps_par (by rfl) sc__law_put.nd (i := 8) (j := 9) rfl rfl (by decide) rfl rfl (pa_cons (pe_call G_sum_wires hr (by rfl) L.m_sum_wires L.F_sum_wires.kp L.b_sum_wires .nil pass0 (pa_cons (pv 0) (pa_cons (pv 4) (pa_cons (pv 5) (pa_cons (pv 6) pa_nil))))) (pa_cons (pe_call G_quick_sum_wires hr (by rfl) L.m_quick_sum_wires L.F_quick_sum_wires.kp L.b_quick_sum_wires .nil pass0 (pa_cons (pv 0) (pa_cons (pv 4) (pa_cons (pv 5) (pa_cons (pv 6) pa_nil))))) pa_nil)) (by rfl))
    (pss_cons (ps_if (PW.pt (pw_or (pt_not (pt_val (pe_callB call_isi (by rfl) B.isinstance boot_isinstance (pa_cons (pv 8) (pa_cons (pe_bltn (v := .ty "list") (by rfl) B.list PyProof.Rows.boot_list rfl) pa_nil))))) (pw_or (pt_not (pt_val (pe_callB call_isi (by rfl) B.isinstance boot_isinstance (pa_cons (pv 9) (pa_cons (pe_bltn (v := .ty "list") (by rfl) B.list PyProof.Rows.boot_list rfl) pa_nil))))) (pw_or1 (pt_cmpR op_ne (pe_callB (call_reprL gd (roomS hr)) (by rfl) L.z_repr PyProof.Rows.boot_repr (pa_cons (pe_lst (pa_cons (pv 4) (pa_cons (pv 5) pa_nil))) pa_nil)) (pv 7) (nomark _)))))) (pss_one (ps_ret pe_non)) pss_nil)
    (pss_cons (ps_if (PW.pt (pw_or (pt_cmpR op_ne (pe_callB call_len_seq (by rfl) B.len PySem.boot_len (pa_cons (pv 8) pa_nil)) (pe_op op_add (pv 3) pe_int) (nomark _)) (pw_or1 (pt_cmpR op_ne (pe_callB call_len_seq (by rfl) B.len PySem.boot_len (pa_cons (pv 9) pa_nil)) (pe_op op_add (pv 3) pe_int) (nomark _))))) (pss_one (ps_ret pe_non)) pss_nil)
    (pss_cons (ps_if (pt_cmpR op_lt (pe_callB (cr_max rfl) (by rfl) B.max boot_max (pa_cons (pe_op op_cat (pe_op op_cat (pe_callTy call_list_of (by rfl) B.list PyProof.Rows.boot_list (pa_cons (pv 4) pa_nil)) (pe_callTy call_list_of (by rfl) B.list PyProof.Rows.boot_list (pa_cons (pv 5) pa_nil))) (pe_lst (pa_cons (pv 6) pa_nil))) pa_nil)) pe_int (nomark _)) (pss_one (ps_if (pt_cmpR op_gt (pe_callB (cr_max rfl) (by rfl) B.max boot_max (pa_cons (pe_lc (own := [("_law_wire", 10)]) (by rfl) sc__law_put.nd (pi_list (pv 9)) (blkOk_by (own := [("_law_wire", 10)]) (N := ["_law_net", "_law_box_here", "_law_kept", "_law_size", "_law_ones", "_law_others", "_law_carry", "_law_held", "_law_plain", "_law_quick", "_law_wire"]) (sc := defScope s__law_put) (by decide +kernel)) (fun _ _ _ _ _ => pg_name (i := 10) sc__law_put.nd rfl (Or.inl rfl)) (fun _ _ _ _ _ => pts_nil) (fun _ _ _ _ _ => (pe_meth (pv 0) L.T.cl L.M_Net_depth G_Net_depth hr L.b_Net_depth .nil pass0 (pa_cons (pv 10) pa_nil)))) pa_nil)) (pe_op op_add pe_int (pe_op op_mul pe_int (pe_bits (pv 3)))) (nomark _)) (pss_one (ps_ret pe_non)) pss_nil)) pss_nil)
    (pss_one (ps_ret (pe_tup (pa_cons (pe_callTy call_list_of (by rfl) B.list PyProof.Rows.boot_list (pa_cons (pv 4) pa_nil)) (pa_cons (pe_callTy call_list_of (by rfl) B.list PyProof.Rows.boot_list (pa_cons (pv 5) pa_nil)) (pa_cons (pe_lst (pa_cons (pv 6) pa_nil)) (pa_cons (pv 8) (pa_cons (pv 9) pa_nil))))))))))))))), ?_⟩
  obtain ⟨_, _, ⟨_, cZ2, cZ3, _⟩, _⟩ := id hN
  have nb1 : b ≠ p.lm := fun z => cZ2 (z ▸ hbZ)
  have nb2 : b ≠ p.ld := fun z => cZ3 (z ▸ hbZ)
  have bS : b ∉ [p.lm, p.ld] := fun z => by
    simp only [List.mem_cons, List.not_mem_nil, or_false] at z
    rcases z with z | z
    · exact nb1 z
    · exact nb2 z
  refine ⟨_, rfl, b, _, _, rfl, hB, by decide, by decide, by decide, by omega, by decide, fun r1 H1 u1 v1 B1 k1 => ?_⟩
  replace B1 := bx1 B1
  refine ⟨_, _, rfl, rfl, ?_⟩
  refine ⟨_, rfl, b, _, _, rfl, B1, by decide, by decide, by decide, by omega, by decide, fun r2 H2 u2 v2 B2 k2 => ?_⟩
  replace B2 := bx1 B2
  refine ⟨_, _, rfl, rfl, ?_⟩
  refine ⟨(by show 2 ≤ sizeLine; decide), fun L1 nL1 => ?_⟩
  dsimp only
  have sL1 := same_upd (o := .lst [.int (1 + r1), .int (12 + r2)]) nL1
  have eL1 : (upd H2 L1 (.lst [.int (1 + r1), .int (12 + r2)])) L1 = some (.lst [.int (1 + r1), .int (12 + r2)]) := upd_same
  have B3 := B2.same sL1
  have nL1b : L1 ≠ b := (B2.ne nL1).symm
  have k3 : Keep b H _ := (k1.trans k2).trans (Keep.ofSame sL1)
  generalize upd H2 L1 (.lst [.int (1 + r1), .int (12 + r2)]) = H3 at *
  refine ⟨_, rfl, b, _, _, rfl, B3, by decide, by decide, by decide, by omega, by decide, fun r3 H4 u4 v4 B4 k4 => ?_⟩
  replace B4 := bx1 B4
  obtain ⟨n, en, n1, n16⟩ : ∃ n : Nat, atI [V.int (1 + r1), V.int (12 + r2)] (if decide (V.int r3 = V.int 0) = true then (1 : Int) else 0) = some (.int (n : Int)) ∧ 1 ≤ n ∧ n ≤ 16 := by
    split
    · exact ⟨(12 + r2).toNat, by show some (V.int (12 + r2)) = _; rw [Int.toNat_of_nonneg (by omega)], by omega, by omega⟩
    · exact ⟨(1 + r1).toNat, by show some (V.int (1 + r1)) = _; rw [Int.toNat_of_nonneg (by omega)], by omega, by omega⟩
  have eL14 := k4 _ _ eL1 nL1b
  refine ⟨rfl, .inr ⟨_, rfl, L1, _, _, _, rfl, rfl, SqL.of eL14, en, ?_⟩⟩
  dsimp only [gName]
  try simp only [L2.start, List.map_cons, List.map_nil, List.length_cons, List.length_nil, List.replicate_succ, List.replicate_zero, List.cons_append, List.nil_append, List.set_cons_succ, List.set_cons_zero, Nat.reduceAdd, Nat.reduceSub, Nat.zero_add]
  have k04 := k3.trans k4
  have N4 := hN.keepB k04 B4.some hbZ
  have K4 := hK.keep k04
  clear eL14 eL1 en
  refine ⟨_, rfl, _, rfl, _, rfl, _, rfl, Z, p, gs, nm, b, _, n, kp, rfl, N4, hbZ, B4, by omega, by omega, n1, n16, K4, fun t1 os O H5 lo ho nO eO B5 k5 => ?_⟩
  have N5 := N4.keepB k5 B5.some hbZ
  have K5 := K4.keep k5
  refine ⟨_, rfl, _, rfl, _, rfl, _, rfl, Z, p, gs, nm, b, _, n, kp, rfl, N5, hbZ, B5, by omega, by omega, n1, n16, K5, fun t2 ts T H6 lt ht nT eT B6 k6 => ?_⟩
  have N6 := N5.keepB k6 B6.some hbZ
  have nOb : O ≠ b := fun z => nO (by rw [z]; simp)
  have nTb : T ≠ b := fun z => nT (by rw [z]; simp)
  have nO2 : O ∉ [p.lm, p.ld] := fun z => nO (List.mem_cons_of_mem _ z)
  have nT2 : T ∉ [p.lm, p.ld] := fun z => nT (List.mem_cons_of_mem _ z)
  have kQ : ∀ {t : Bool} {a : Addr} {xs : List V} {G G' : Hp}, Sq2 t K G a xs → Keep b G G' → G' b ≠ none → a ≠ b → Sq2 t K G' a xs := fun h k hb n => h.keepS (S := [b]) (.ofKeep k (by simp) hb) (by simpa using n)
  replace eO := kQ eO k6 B6.some nOb
  have k06 := (k04.trans k5).trans k6
  refine ⟨_, _, rfl, ?_⟩
  try simp only [L2.start, List.map_cons, List.map_nil, List.length_cons, List.length_nil, List.replicate_succ, List.replicate_zero, List.cons_append, List.nil_append, List.set_cons_succ, List.set_cons_zero, Nat.reduceAdd, Nat.reduceSub, Nat.zero_add]
  refine ⟨_, rfl, b, _, _, rfl, B6, by decide, by decide, by decide, by omega, by decide, fun r5 H7 u7 v7 B7 k7 => ?_⟩
  replace B7 := bx1 B7
  have N7 := N6.keepB k7 B7.some hbZ
  obtain ⟨_, _, _, dx, _, _, f7, _⟩ := id N7
  refine ⟨_, rfl, p.x, dx, _, rfl, f7, rfl, _, rfl, b, _, _, rfl, B7, by decide, by decide, by decide, by omega, by decide, fun r6 H8 u8 v8 B8 k8 => ?_⟩
  replace B8 := bx1 B8
  have N8 := N7.keepB k8 B8.some hbZ
  obtain ⟨bit, rfl⟩ : ∃ bit : Nat, r6 = (bit : Int) := ⟨r6.toNat, by omega⟩
  refine ⟨Z, p, 24, gs, nm, bit, rfl, N8, by omega, fun H9 k9 N9 => ?_⟩
  have B9 := B8.keepS k9 bS
  refine ⟨(by show 2 ≤ sizeLine; decide), fun L2 nL2 => ?_⟩
  have sL2 := same_upd (o := .lst [.int r5, .int ((24 + gs.length : Nat) : Int)]) nL2
  have eL2 : (upd H9 L2 (.lst [.int r5, .int ((24 + gs.length : Nat) : Int)])) L2 = some (.lst [.int r5, .int ((24 + gs.length : Nat) : Int)]) := upd_same
  have NA := N9.same sL2
  have BA := B9.same sL2
  have nL2b : L2 ≠ b := (B9.ne nL2).symm
  have k69 : KeepS [b, p.lm, p.ld] H6 (upd H9 L2 (.lst [.int r5, .int ((24 + gs.length : Nat) : Int)])) := ((KeepS.ofKeep (k7.trans k8) (by simp) B8.some).trans (k9.mono (fun y hy => List.mem_cons_of_mem _ hy))).trans (.ofSame sL2)
  generalize upd H9 L2 (.lst [.int r5, .int ((24 + gs.length : Nat) : Int)]) = HA at *
  refine ⟨_, rfl, b, _, _, rfl, BA, by decide, by decide, by decide, by omega, by decide, fun r7 HB uB vB BB kB => ?_⟩
  replace BB := bx1 BB
  have NB := NA.keepB kB BB.some hbZ
  have eL2B := kB _ _ eL2 nL2b
  have l0 : (gs ++ [Gt.fi bit]).length = gs.length + 1 := by simp
  obtain ⟨cw, ec, hcw⟩ : ∃ cw : Nat, atI [V.int r5, V.int ((24 + gs.length : Nat) : Int)] r7 = some (.int (cw : Int)) ∧ cw < 24 + gs.length + 1 := by
    rcases (show r7 = 0 ∨ r7 = 1 by omega) with e | e <;> subst e
    · exact ⟨r5.toNat, by show some (V.int r5) = _; rw [Int.toNat_of_nonneg (by omega)], by omega⟩
    · exact ⟨24 + gs.length, rfl, by omega⟩
  refine ⟨L2, _, _, _, rfl, rfl, SqL.of eL2B, ec, ?_⟩
  clear ec eL2B eL2
  have up2 : ∀ {G G' : Hp}, KeepS [p.lm, p.ld] G G' → KeepS [b, p.lm, p.ld] G G' := fun h => h.mono (fun y hy => List.mem_cons_of_mem _ hy)
  have k6B : KeepS [b, p.lm, p.ld] H6 HB := k69.trans (.ofKeep kB (by simp) BB.some)
  have k0B : KeepS [b, p.lm, p.ld] H HB := (KeepS.ofKeep k06 (by simp) B6.some).trans k6B
  have eOB := eO.keepS k6B nO
  have eTB := eT.keepS k6B nT
  clear k69 k1 k2 k3 k4 k5 k6 k7 k8 k9 N4 N5 N6 N7 N8 N9 B1 B2 B3 B4 B5 B6 B7 B8 B9
  have same2 : ∀ {t : Bool} {a : Addr} {xs : List V} {G G' : Hp}, Sq2 t K G a xs → Same G G' → Sq2 t K G' a xs := fun h s => h.keepS (S := []) (.ofSame s) (fun z => nomatch z)
  refine ⟨_, rfl, _, rfl, (by show 2 ≤ sizeLine; decide), fun P1 nP1 => ?_⟩
  have sP := same_upd (o := .lst [.ref O, .ref T]) nP1
  have eP : (upd HB P1 (.lst [.ref O, .ref T])) P1 = some (.lst [.ref O, .ref T]) := upd_same
  have eOC := same2 eOB sP
  have eTC := same2 eTB sP
  have NC := NB.same sP
  have BC := BB.same sP
  have k0C : KeepS [b, p.lm, p.ld] H (upd HB P1 (.lst [.ref O, .ref T])) := k0B.trans (.ofSame sP)
  generalize upd HB P1 (.lst [.ref O, .ref T]) = HC at *
  have shw2 : Shw (os.length + 1 + (ts.length + 1 + 0)) 2 (.list [dW t1 os, dW t2 ts]) := by
    have a := shw_W (t := t1) (ws := os) (fun x hx => by have := ho x hx; exact Nat.lt_of_lt_of_le this (Nat.le_trans (show 24 + gs.length ≤ 30000 by omega) (by decide)))
    have b := shw_W (t := t2) (ws := ts) (fun x hx => by have := ht x hx; exact Nat.lt_of_lt_of_le this (Nat.le_trans (show 24 + gs.length ≤ 30000 by omega) (by decide)))
    exact .lst (.cons a (.cons b (ShwA.nil.mono (Nat.le_refl _) (by decide))))
  refine ⟨P1, .list [dW t1 os, dW t2 ts], _, _, rfl, .lst (SqL.of eP) (.cons (dp_W eOC) (.cons (dp_W eTC) .nil)), shw2, by omega, by decide, ?_⟩
  refine ⟨_, _, rfl, ?_⟩
  try simp only [L2.start, List.map_cons, List.map_nil, List.length_cons, List.length_nil, List.replicate_succ, List.replicate_zero, List.cons_append, List.nil_append, List.set_cons_succ, List.set_cons_zero, Nat.reduceAdd, Nat.reduceSub, Nat.zero_add]
  try simp only [L2.start, List.map_cons, List.map_nil, List.length_cons, List.length_nil, List.replicate_succ, List.replicate_zero, List.cons_append, List.nil_append, List.set_cons_succ, List.set_cons_zero, Nat.reduceAdd, Nat.reduceSub, Nat.zero_add]
  have hlen : os.length = ts.length := lo.trans lt.symm
  have R9 := fun (gs' : List Gt) (qw : List Nat) => row47 (gs := gs) (gs' := gs') (bit := bit) (os := os) (ts := ts) (qw := qw) (c := cw) (by omega) (by omega) hlen ho ht hcw
  have lSum := sumW_len (m := 24) (gs := gs ++ [.fi bit]) (os := os) (ts := ts) (c := cw) hlen (fun w h => by have := ho w h; omega) (fun w h => by have := ht w h; omega) (by omega)
  have xSum := (sumW_ok (m := 24) (gs := gs ++ [.fi bit]) (os := os) (ts := ts) (c := cw) hlen (fun w h => by have := ho w h; omega) (fun w h => by have := ht w h; omega) (by omega)).ext.len
  refine ⟨_, rfl, _, rfl, _, rfl, _, rfl, Z, p, 24, _, nm, O, T, t1, t2, os, ts, cw, rfl, NC, eOC, eTC, hlen, (fun w h => by have := ho w h; omega), (fun w h => by have := ht w h; omega), by omega, by omega, by omega, fun SA HD kD ND nSA eSA => ?_⟩
  generalize sumW 24 (gs ++ [.fi bit]) os ts cw = S1 at *
  have eOD := eOC.keepS kD nO2
  have eTD := eTC.keepS kD nT2
  have nSA2 := NC.nin nSA
  refine ⟨_, rfl, _, rfl, _, rfl, _, rfl, Z, p, 24, S1.1, nm, O, T, t1, t2, os, ts, cw, rfl, ND, eOD, eTD, nO2, nT2, hlen, (fun w h => by have := ho w h; omega), (fun w h => by have := ht w h; omega), by omega, by omega, by omega, fun QA HE gs' qw kE NE nQA eQA hQ => ?_⟩
  have k0D := k0C.trans (up2 kD)
  have k0E := k0D.trans (up2 kE)
  have BE := (BC.keepS kD bS).keepS kE bS
  have eSAE := kE.1 _ _ eSA nSA2
  have eOE := eOD.keepS kE nO2
  have eTE := eTD.keepS kE nT2
  have nSAH := ks_none k0C nSA
  have nQAH := ks_none k0D nQA
  have lQ := hQ.2.1
  have r9 := R9 gs' qw hQ
  refine ⟨_, _, rfl, ?_⟩
  try simp only [L2.start, List.map_cons, List.map_nil, List.length_cons, List.length_nil, List.replicate_succ, List.replicate_zero, List.cons_append, List.nil_append, List.set_cons_succ, List.set_cons_zero, Nat.reduceAdd, Nat.reduceSub, Nat.zero_add]
  have isl : kitB "list" "list" = some true := by decide +kernel
  refine ⟨_, rfl, _, _, _, _, _, rfl, .ty _, ty_lst (SqL.of eSAE), kit_ty isl, _, rfl, iteF ?_⟩
  refine ⟨_, rfl, _, _, _, _, _, rfl, .ty _, ty_lst (SqL.of eQA), kit_ty isl, _, rfl, iteF ?_⟩
  refine ⟨_, rfl, _, rfl, (by show 2 ≤ sizeLine; decide), fun P2 nP2 => ?_⟩
  have sP2 := same_upd (o := .lst [.ref O, .ref T]) nP2
  have eP2 : (upd HE P2 (.lst [.ref O, .ref T])) P2 = some (.lst [.ref O, .ref T]) := upd_same
  generalize upd HE P2 (.lst [.ref O, .ref T]) = HF at *
  have eOF := same2 eOE sP2
  have eTF := same2 eTE sP2
  refine ⟨P2, .list [dW t1 os, dW t2 ts], _, _, rfl, .lst (SqL.of eP2) (.cons (dp_W eOF) (.cons (dp_W eTF) .nil)), shw2, by omega, by decide, ?_⟩
  refine ⟨_, rfl, rfl, _, rfl, ?_⟩
  rw [decide_eq_true rfl]
  refine iteF ?_
  dsimp only [tNext]
  have eSAF := sP2 _ _ eSAE
  have eQAF := sP2 _ _ eQA
  have e1 : (!decide (V.int ((os.length + 1 : Nat) : Int) = V.int ((n : Int) + 1))) = false := by rw [decide_eq_true (congrArg V.int (show ((os.length + 1 : Nat) : Int) = (n : Int) + 1 by omega))]; rfl
  refine ⟨_, rfl, SA, _, rfl, .inl (SqL.of eSAF), ?_⟩
  rw [nts_len, lSum]
  refine ⟨_, rfl, _, _, rfl, rfl, rfl, _, rfl, ?_⟩
  rw [e1]
  refine iteF ?_
  refine ⟨_, rfl, QA, _, rfl, .inl (SqL.of eQAF), ?_⟩
  rw [nts_len, lQ]
  refine ⟨_, rfl, _, _, rfl, rfl, rfl, _, rfl, ?_⟩
  rw [e1]
  refine iteF ?_
  dsimp only [tNext]
  try simp only [L2.start, List.map_cons, List.map_nil, List.length_cons, List.length_nil, List.replicate_succ, List.replicate_zero, List.cons_append, List.nil_append, List.set_cons_succ, List.set_cons_zero, Nat.reduceAdd, Nat.reduceSub, Nat.zero_add]
  refine ifS_cut (fun σ' H' => σ' = [some (.ref p.x), some (.ref b), some (.ref kp), some (.int (n : Int)), some (.ref O), some (.ref T), some (.int (cw : Int)), some (.str (PyData.list [dW t1 os, dW t2 ts]).shown), some (.ref SA), some (.ref QA), none] ∧ Same HF H') (fun D' q' => ?_) ?_
  · refine ⟨_, rfl, O, _, rfl, eOF.to, fun A1 nA1 => ?_⟩
    have s1 := same_upd (o := .lst (nts os)) nA1
    have e1 : (upd HF A1 (.lst (nts os))) A1 = some (.lst (nts os)) := upd_same
    have eTF1 := same2 eTF s1
    generalize upd HF A1 (.lst (nts os)) = HG at *
    refine ⟨_, rfl, T, _, rfl, eTF1.to, fun A2 nA2 => ?_⟩
    have s2 := same_upd (o := .lst (nts ts)) nA2
    have e2 : (upd HG A2 (.lst (nts ts))) A2 = some (.lst (nts ts)) := upd_same
    have e12 := s2 _ _ e1
    have s12 := s1.trans s2
    generalize upd HG A2 (.lst (nts ts)) = HH at *
    refine ⟨A1, A2, _, _, rfl, rfl, e12, e2, by rw [nts_len, nts_len]; exact Nat.le_of_lt (big_lt (by omega)), fun A3 nA3 => ?_⟩
    rw [← nts_app]
    have s3 := same_upd (o := .lst (nts (os ++ ts))) nA3
    have e3 : (upd HH A3 (.lst (nts (os ++ ts)))) A3 = some (.lst (nts (os ++ ts))) := upd_same
    have s13 := s12.trans s3
    generalize upd HH A3 (.lst (nts (os ++ ts))) = HI at *
    refine ⟨_, rfl, (by show 1 ≤ sizeLine; decide), fun A4 nA4 => ?_⟩
    have s4 := same_upd (o := .lst [.int (cw : Int)]) nA4
    have e4 : (upd HI A4 (.lst [.int (cw : Int)])) A4 = some (.lst [.int (cw : Int)]) := upd_same
    have e34 := s4 _ _ e3
    have s14 := s13.trans s4
    generalize upd HI A4 (.lst [.int (cw : Int)]) = HJ at *
    refine ⟨A3, A4, _, _, rfl, rfl, e34, e4, by rw [nts_len, List.length_append]; exact Nat.le_of_lt (big_lt (by show _ + 1 ≤ _; omega)), fun A5 nA5 => ?_⟩
    have em : nts (os ++ ts) ++ [V.int (cw : Int)] = ((os ++ ts ++ [cw]).map fun w : Nat => (w : Int)).map V.int := by
      show nts (os ++ ts) ++ nts [cw] = _
      rw [← nts_app, List.map_map]
      rfl
    rw [em]
    have s5 := same_upd (o := .lst (((os ++ ts ++ [cw]).map fun w : Nat => (w : Int)).map V.int)) nA5
    have e5 : (upd HJ A5 (.lst (((os ++ ts ++ [cw]).map fun w : Nat => (w : Int)).map V.int))) A5 = some (.lst (((os ++ ts ++ [cw]).map fun w : Nat => (w : Int)).map V.int)) := upd_same
    have s15 := s14.trans s5
    generalize upd HJ A5 (.lst (((os ++ ts ++ [cw]).map fun w : Nat => (w : Int)).map V.int)) = HK at *
    refine ⟨A5, _, rfl, SqL.of e5, by rw [List.length_map, List.length_append]; show 0 < _ + 1; omega, fun mx hmx hall => ?_⟩
    refine ⟨_, _, rfl, rfl, _, rfl, ite2 (fun z => ?_) (fun z => q' _ _ ⟨rfl, s15⟩)⟩
    have small : ∀ w ∈ os ++ ts ++ [cw], w < 24 := fun w hw => by
      have a := hall _ (List.mem_map.mpr ⟨w, hw, rfl⟩)
      have b := of_decide_eq_true z
      omega
    try simp only [L2.start, List.map_cons, List.map_nil, List.length_cons, List.length_nil, List.replicate_succ, List.replicate_zero, List.cons_append, List.nil_append, List.set_cons_succ, List.set_cons_zero, Nat.reduceAdd, Nat.reduceSub, Nat.zero_add]
    have NK := (NE.same sP2).same s15
    have eQK := s15 _ _ eQAF
    refine ⟨_, rfl, QA, rfl, ⟨_, SqL.of eQK⟩, fun D0 nD => ?_⟩
    refine lc_it (walk_list (K := K) (a := QA) (xs := nts qw)) (fun j H1 => Same HK H1 ∧ H1 D0 = some (.lst (((qw.take j).map (dpW 24 gs')).map V.int))) ⟨same_upd nD, upd_same⟩ (fun j H1 _ ⟨s9, _⟩ => SqL.of (s9 _ _ eQK)) ?_ ?_
    · rintro j v H2 H1 hj ⟨s9, eD⟩ ⟨rfl, hz⟩
      obtain ⟨a, ha, rfl⟩ := nts_at hz
      have la := hQ.2.2.1 a (List.mem_of_getElem? ha)
      have N1 := NK.same s9
      obtain ⟨_, _, _, dx1, _, _, f1, _⟩ := id N1
      dsimp only [gName]
      refine ⟨rfl, yesT ?_⟩
      try simp only [L2.start, List.map_cons, List.map_nil, List.length_cons, List.length_nil, List.replicate_succ, List.replicate_zero, List.cons_append, List.nil_append, List.set_cons_succ, List.set_cons_zero, Nat.reduceAdd, Nat.reduceSub, Nat.zero_add]
      refine ⟨_, rfl, p.x, dx1, _, rfl, f1, rfl, _, rfl, Z, p, 24, gs', nm, a, rfl, N1, la, fun H3 s3 => ?_⟩
      refine ⟨_, s3 _ _ eD, by rw [List.length_map, List.length_map, List.length_take]; exact big_lt (by omega), fun y u e => ?_, ?_⟩
      · rw [upd_ne (ne_of_none e nD)]
        exact s3 _ _ (s9 _ _ e)
      · rw [upd_same, List.take_add_one, ha, List.map_append, List.map_append]
        rfl
    rintro HL ⟨s9, eD⟩
    rw [nts_len, List.take_length] at eD
    refine ⟨D0, _, rfl, SqL.of eD, by rw [List.length_map]; omega, fun mx2 hm2 hall2 => ?_⟩
    obtain ⟨kk, hk, hd⟩ := hQ.2.2.2.2 (fun w h => small w (by simp [h])) (fun w h => small w (by simp [h])) (small cw (by simp))
    have hmx : mx2 ≤ 2 + 2 * (kk : Int) := by
      obtain ⟨w, hw, rfl⟩ := List.mem_map.mp hm2
      exact hd w hw
    have hb := bits47k (n := n) (k := kk) n16 (by rw [lo] at hk; exact hk)
    refine ⟨_, rfl, _, rfl, _, _, rfl, rfl, .inl ⟨by decide, by decide⟩, _, _, rfl, rfl, _, _, rfl, rfl, _, rfl, ite2 (fun z => ?_) (fun z => q' _ _ ⟨rfl, s15.trans s9⟩)⟩
    have := of_decide_eq_true z
    omega
  · rintro σ' HG ⟨rfl, sG⟩
    have eOG := same2 eOF sG
    have eTG := same2 eTF sG
    have eSAG := sG _ _ eSAF
    have eQAG := sG _ _ eQAF
    have k0G : KeepS [b, p.lm, p.ld] H HG := (k0E.trans (.ofSame sP2)).trans (.ofSame sG)
    have NG := (NE.same sP2).same sG
    have BG := (BE.same sP2).same sG
    refine ⟨_, rfl, O, _, rfl, eOG.to, fun A1 nA1 => ?_⟩
    have s1 := same_upd (o := .lst (nts os)) nA1
    have e1 : (upd HG A1 (.lst (nts os))) A1 = some (.lst (nts os)) := upd_same
    generalize upd HG A1 (.lst (nts os)) = HH at *
    refine ⟨_, rfl, T, _, rfl, (same2 eTG s1).to, fun A2 nA2 => ?_⟩
    have s2 := same_upd (o := .lst (nts ts)) nA2
    have e2 : (upd HH A2 (.lst (nts ts))) A2 = some (.lst (nts ts)) := upd_same
    generalize upd HH A2 (.lst (nts ts)) = HI at *
    refine ⟨_, rfl, (by show 1 ≤ sizeLine; decide), fun A3 nA3 => ?_⟩
    have s3 := same_upd (o := .lst [.int (cw : Nat)]) nA3
    have e3 : (upd HI A3 (.lst [.int (cw : Nat)])) A3 = some (.lst (nts [cw])) := upd_same
    generalize upd HI A3 (.lst [.int (cw : Nat)]) = HJ at *
    refine ⟨_, rfl, _, rfl, (by show 5 ≤ sizeLine; decide), fun R nR => ?_⟩
    have s7 := same_upd (o := .tup [.ref A1, .ref A2, .ref A3, .ref SA, .ref QA]) nR
    have e7 : (upd HJ R (.tup [.ref A1, .ref A2, .ref A3, .ref SA, .ref QA])) R = some (.tup ([A1, A2, A3, SA, QA].map V.ref)) := upd_same
    generalize upd HJ R (.tup [.ref A1, .ref A2, .ref A3, .ref SA, .ref QA]) = HL at *
    have s13 := (s1.trans s2).trans s3
    have sGL := s13.trans s7
    refine q gs' R [os, ts, [cw], S1.2, qw] HL r9.1 (NG.same sGL) (fun SS hSS => ?_) r9.2 ⟨_, rfl, by omega, by omega⟩ ((BG.same sGL).mono (by omega)) (k0G.trans (.ofSame sGL))
    have nin : ∀ {a : Addr} {G : Hp}, Same HG G → G a = none → a ∉ SS := fun s n z => hSS _ z (ks_none (k0G.trans (.ofSame s)) n)
    refine ⟨[A1, A2, A3, SA, QA], rfl, ⟨nin s13 nR, fun l hl => ?_⟩, e7, fun i l ws hi hr => ?_⟩
    · simp only [List.mem_cons, List.not_mem_nil, or_false] at hl
      rcases hl with rfl | rfl | rfl | rfl | rfl
      · exact nin (Same.refl _) nA1
      · exact nin s1 nA2
      · exact nin (s1.trans s2) nA3
      · exact fun z => hSS _ z nSAH
      · exact fun z => hSS _ z nQAH
    · match i, hi, hr with
      | 0, hi, hr => cases hi; cases hr; exact s7 _ _ (s3 _ _ (s2 _ _ e1))
      | 1, hi, hr => cases hi; cases hr; exact s7 _ _ (s3 _ _ e2)
      | 2, hi, hr => cases hi; cases hr; exact s7 _ _ e3
      | 3, hi, hr => cases hi; cases hr; exact sGL _ _ eSAG
      | 4, hi, hr => cases hi; cases hr; exact sGL _ _ eQAG
      | i + 5, hi, hr => simp at hi
end
section
variable {P : Program} {w : World} {K : PySem.W.Frag} {mg : Str → Option Value} {base : Heap}
variable {C : Addr} {a1 a2 a3 a4 a5 a6 a7 a8 a9 a10 a11 a12 a13 a14 a15 a16 a17 a18 a19 a20 a21 a22 a23 a24 a25 a26 a27 : Addr} {l1 l2 l3 l4 l5 l6 l7 l8 l9 l10 l11 l12 l13 l14 l15 l16 l17 l18 l19 l20 l21 l22 l23 l24 l25 l26 l27 : FuncData}
def spLaw (K : PySem.W.Frag) : Sp := fun vs H Q _ => ∃ (a : Addr) (ns : List Int), vs = [.ref a] ∧ SqL K H a (ns.map V.int) ∧ ns.length ≤ 63 ∧ ∀ H', Q (.bl true) H'
theorem nmd47 : (∀ a, a < 4 → ∀ j, j < 5 → nmS "abcde" j a ∉ partN "abcde" 5 a j) ∧ ∀ a, a < 5 → (partN "abcde" 5 a 0).Nodup := by decide +kernel
theorem lt47 : ("abcde" : Str).cps.size = 5 := by decide +kernel
theorem strlen47 : ∀ a, a < 4 → (Str.ofString (toString ((a : Nat) : Int))).length ≤ 5 := by decide +kernel
theorem ok_law {f : Addr} {fd : FuncData} (F : Fun K "law" "law" s_law f fd) (B : Bl mg) (L : LL K mg C a1 a2 a3 a4 a5 a6 a7 a8 a9 a10 a11 a12 a13 a14 a15 a16 a17 a18 a19 a20 a21 a22 a23 a24 a25 a26 a27 l1 l2 l3 l4 l5 l6 l7 l8 l9 l10 l11 l12 l13 l14 l15 l16 l17 l18 l19 l20 l21 l22 l23 l24 l25 l26 l27) : FnOkG P w K mg base CX0 10 f fd ["_law_script"] (spLaw K) := by
  have G__law_box : FnOk P w K mg base CX0 9 a7 l7 ["_law_script", "_law_k"] (spBox K) := ok_box L.F__law_box B
  have G_Net___init__ : FnOk P w K mg base CX0 8 a14 l14 ["self", "many"] (spNetI C) := (ok_Net___init__ B L).mono (by decide)
  have G__law_take : FnOk P w K mg base CX0 9 a8 l8 ["_law_box_here", "_law_size"] (spTake 1) := (ok_take L.F__law_take L.b__law_take L.m__law_take B 1).mono (by decide)
  have G__law_put : FnOkG P w K mg base CX0 9 a13 l13 ["_law_net", "_law_box_here", "_law_kept"] (spPut47 K C) := (ok__law_put B L).mono (by decide)
  have G_Net_give : FnOk P w K mg base CX0 9 a22 l22 ["self", "name", "wires"] (spGive K C) := (ok_Net_give B L).mono (by decide)
  have G__law_values : FnOk P w K mg base CX0 9 a10 l10 ["_law_box_here", "_law_inputs", "_law_cases"] spValues := (ok__law_values B L).mono (by decide)
  have G_ran : FnOk P w K mg base CX0 9 a5 l5 ["net", "values", "many"] (spRan C) := (ok_ran B L).mono (by decide)
  have G__law_number : FnOk P w K mg base CX0 9 a11 l11 ["_law_bits", "_law_case"] (spNumber K) := (ok__law_number B L).mono (by decide)
  refine F.okG sc_law (fun vs H Q E h => ?_) (fun cdv A outer s H vs Q E gd hr h => ?_)
  · obtain ⟨a, ns, rfl, _⟩ := h
    rfl
  obtain ⟨a, ns, rfl, hS, h63, q⟩ := h
  refine ⟨_, (pss_cons (ps_for PassesOwn.never rfl (pi_range1 (by rfl) B.range (pa_cons (pe_callB (call_max2 rfl) (by rfl) B.max boot_max (pa_cons pe_int (pa_cons (pe_callB (call_min2 rfl) (by rfl) B.min boot_min (pa_cons (pe_callB call_len_seq (by rfl) B.len PySem.boot_len (pa_cons (pv 0) pa_nil)) (pa_cons pe_int pa_nil))) pa_nil))) pa_nil)) (pg_name (i := 1) sc_law.nd rfl (.inl rfl)) (pss_cons (ps_par3 (by rfl) sc_law.nd (i := 2) (j := 3) (l := 4) rfl rfl rfl (by decide) (by decide) (by decide) rfl rfl rfl (pa_cons (pe_call G__law_box hr (by rfl) L.m__law_box L.F__law_box.kp L.b__law_box .nil pass0 (pa_cons (pv 0) (pa_cons (pv 1) pa_nil))) (pa_cons (pe_make L.M G_Net___init__ hr (by rfl) L.T.mgC L.b_Net___init__ .nil pass0 (pa_cons pe_int pa_nil)) (pa_cons (pe_lst pa_nil) pa_nil))) (by rfl))
    (pss_cons (ps_for PassesOwn.never rfl (pi_range1 (by rfl) B.range (pa_cons pe_int pa_nil)) (pg_name (i := 5) sc_law.nd rfl (.inl rfl)) (pss_cons (ps_set (i := 6) sc_law.nd rfl (.inl rfl) (pe_callG G__law_put gd hr (by rfl) L.m__law_put L.F__law_put.kp L.b__law_put .nil pass0 (pa_cons (pv 3) (pa_cons (pv 2) (pa_cons (pe_lc (own := [("_law_one", 14)]) (by rfl) sc_law.nd (pi_list (pv 4)) (blkOk_by (own := [("_law_one", 14)]) (N := ["_law_script", "_law_k", "_law_box_here", "_law_net", "_law_rows", "_law_turn", "_law_row", "_law_at", "_law_name", "_law_wires_here", "_law_values_here", "_law_told", "_law_case", "_law_own", "_law_one"]) (sc := defScope s_law) (by decide +kernel)) (fun _ _ _ _ _ => pg_name (i := 14) sc_law.nd rfl (Or.inl rfl)) (fun _ _ _ _ _ => pts_nil) (fun _ _ _ _ _ => (pe_ix (ix_tupK (K := K)) (pv 14) pe_int (fun _ _ => rfl)))) pa_nil)))))
    (pss_cons (ps_if (pt_cmpR op_isN (pv 6) pe_non (nomark _)) (pss_one (ps_ret pe_bl)) pss_nil)
    (pss_one (ps_expr (pe_bm PySem.F.plainAttrs_list PySem.F.slot_list_append PySem.F.type_list_append mt_append (pv 4) (pa_cons (pv 6) pa_nil)))))))
    (pss_cons (ps_for PassesOwn.never rfl (pi_enum (by rfl) B.enumerate (pa_cons (pv 4) pa_nil)) (pg_tup (by rfl) (pgs_cons (pg_name (i := 7) sc_law.nd rfl (.inr rfl)) (pgs_cons (pg_name (i := 6) sc_law.nd rfl (.inl rfl)) pgs_nil))) (pss_one (ps_for PassesOwn.never rfl (pi_zl (by rfl) B.zip (pa_cons pe_str (pa_cons (pv 6) pa_nil))) (pg_tup (by rfl) (pgs_cons (pg_name (i := 8) sc_law.nd rfl (.inl rfl)) (pgs_cons (pg_name (i := 9) sc_law.nd rfl (.inl rfl)) pgs_nil))) (pss_one (ps_expr (pe_meth (pv 3) L.T.cl L.M_Net_give G_Net_give hr L.b_Net_give .nil pass0 (pa_cons (pe_op op_add_str (pv 8) (pe_callTy call_str_int (by rfl) B.str PyProof.Rows.boot_str (pa_cons (pv 7) pa_nil))) (pa_cons (pv 9) pa_nil))))))))
    (pss_cons (ps_setLc (i := 10) (own := [("_law_one", 14)]) (by rfl) sc_law.nd rfl rfl (sw_true rfl rfl rfl (by decide +kernel)) (pi_list (pe_call G__law_values hr (by rfl) L.m__law_values L.F__law_values.kp L.b__law_values .nil pass0 (pa_cons (pv 2) (pa_cons pe_int (pa_cons pe_int pa_nil))))) (blkOk_by (own := [("_law_one", 14)]) (N := ["_law_script", "_law_k", "_law_box_here", "_law_net", "_law_rows", "_law_turn", "_law_row", "_law_at", "_law_name", "_law_wires_here", "_law_values_here", "_law_told", "_law_case", "_law_own", "_law_one"]) (sc := defScope s_law) (by decide +kernel)) (fun _ _ _ _ _ => pg_name (i := 14) sc_law.nd rfl (Or.inl rfl)) (fun _ _ _ _ _ => pts_nil) (fun _ _ _ _ _ => (pe_op op_orL (pe_op op_shlN (pv 14) pe_int) pe_int)))
    (pss_cons (ps_set (i := 11) sc_law.nd rfl (.inr rfl) (pe_callTy (call_dictP rfl) (by rfl) L.z_dict PyProof.Rows.boot_dict (pa_cons (pe_callN G_ran hr (by rfl) L.m_ran L.F_ran.kp (L.kb_ran_many).choose_spec pass0 (pa_cons (pv 3) (pa_cons (pv 10) pa_nil)) (pk_cons pe_int pk_nil)) pa_nil)))
    (pss_one (ps_for PassesOwn.never rfl (pi_range1 (by rfl) B.range (pa_cons pe_int pa_nil)) (pg_name (i := 7) sc_law.nd rfl (.inr rfl)) (pss_one (ps_for PassesOwn.never rfl (pi_range1 (by rfl) B.range (pa_cons pe_int pa_nil)) (pg_name (i := 12) sc_law.nd rfl (.inr rfl)) (pss_cons (ps_setLc (i := 13) (own := [("_law_name", 8)]) (by rfl) sc_law.nd rfl rfl (sw_true rfl rfl rfl (by decide +kernel)) (pi_str pe_str) (blkOk_by (own := [("_law_name", 8)]) (N := ["_law_script", "_law_k", "_law_box_here", "_law_net", "_law_rows", "_law_turn", "_law_row", "_law_at", "_law_name", "_law_wires_here", "_law_values_here", "_law_told", "_law_case", "_law_own", "_law_one"]) (sc := defScope s_law) (by decide +kernel)) (fun _ _ _ _ _ => pg_name (i := 8) sc_law.nd rfl (Or.inl rfl)) (fun _ _ _ _ _ => pts_nil) (fun _ _ _ _ _ => (pe_call G__law_number hr (by rfl) L.m__law_number L.F__law_number.kp L.b__law_number .nil pass0 (pa_cons (pe_dget (units1 hr) (pv 11) (pe_op op_add_str (pv 8) (pe_callTy call_str_int (by rfl) B.str PyProof.Rows.boot_str (pa_cons (pv 7) pa_nil))) (fun _ _ => rfl)) (pa_cons (pv 12) pa_nil)))))
    (pss_one (ps_if (PW.pt (pw_or (pt_cmpR op_ne (pe_ix ix_list (pv 13) pe_int (fun _ _ => rfl)) (pe_callB (cr_sum rfl) (by rfl) B.sum boot_sum (pa_cons (pe_slice sl_list (pv 13) po_none (po_some pe_int)) pa_nil)) (nomark _)) (pw_or1 (pt_cmpR op_ne (pe_ix ix_list (pv 13) pe_int (fun _ _ => rfl)) (pe_ix ix_list (pv 13) pe_int (fun _ _ => rfl)) (nomark _))))) (pss_one (ps_ret pe_bl)) pss_nil)))))))))))))
    (pss_one (ps_ret pe_bl))), ?_⟩
  refine ⟨_, rfl, a, _, rfl, .inl hS, _, _, rfl, ?_⟩
  obtain ⟨n, en, hn⟩ : ∃ n : Nat, (if (if (3 : Int) < (((ns.map V.int).length : Nat) : Int) then (3 : Int) else (((ns.map V.int).length : Nat) : Int)) > 1 then (if (3 : Int) < (((ns.map V.int).length : Nat) : Int) then (3 : Int) else (((ns.map V.int).length : Nat) : Int)) else 1) = (n : Int) ∧ n ≤ 63 := by
    rw [List.length_map]
    split <;> split <;> first | exact ⟨3, rfl, by decide⟩ | exact ⟨ns.length, rfl, h63⟩ | exact ⟨1, rfl, by decide⟩
  refine ⟨_, _, rfl, ?_⟩
  rw [en]
  refine ⟨_, rfl, by omega, by omega, ?_⟩
  rw [Int.toNat_natCast]
  refine for_range (n := n) (fun i σ H5 => ∃ (y1 y2 y3 y4 y5 y6 y7 y8 y9 y10 y11 y12 y13 : Option V), σ = [some (.ref a), y1, y2, y3, y4, y5, y6, y7, y8, y9, y10, y11, y12, y13, none] ∧ Same H H5) ⟨_, _, _, _, _, _, _, _, _, _, _, _, _, rfl, Same.refl _⟩ ?_ ?_
  · rintro i σ H5 hi ⟨y1, y2, y3, y4, y5, y6, y7, y8, y9, y10, y11, y12, y13, rfl, s5⟩
    dsimp only [gName]
    try simp only [L2.start, List.map_cons, List.map_nil, List.length_cons, List.length_nil, List.replicate_succ, List.replicate_zero, List.cons_append, List.nil_append, List.set_cons_succ, List.set_cons_zero, Nat.reduceAdd, Nat.reduceSub, Nat.zero_add]
    refine ⟨_, rfl, _, rfl, a, ns, _, rfl, s5.seq hS, by omega, by omega, fun b H6 nb s6 B6 => ?_⟩
    refine fun x dx nx ndx ne => ?_
    refine ⟨x, dx, 24, rfl, upd_same, by omega, fun p H7 px fr ⟨n1, n2, n3⟩ N0 => ⟨rfl, ?_⟩⟩
    have s7 : Same H6 H7 := made nx ndx ne fr
    subst px
    obtain ⟨_, _, _, eb6, _⟩ := id B6
    have N7 := N0 [b] (fun z hz => by
      rw [List.mem_singleton.mp hz]
      have a1 := ne_of_none eb6 nx
      have b1 := ne_of_none eb6 ndx
      exact ⟨a1, by rw [upd_ne a1, upd_ne b1]; exact some_ne eb6⟩)
    have B7 := B6.same s7
    refine ⟨Nat.zero_le _, fun D nD => ?_⟩
    have nDb : D ≠ b := (B7.ne nD).symm
    have nDS := netS_nin N7 B7 nD
    have eD7 : (upd H7 D (.lst [])) D = some (.lst []) := upd_same
    have sD := same_upd (o := .lst []) nD
    have ND := N7.add (o := .lst []) nD
    have BD := B7.same sD
    generalize upd H7 D (.lst []) = HD at *
    refine ⟨_, _, _, rfl, ?_⟩
    have N8 := ND
    have B8 := BD
    have eD8 := eD7
    have s78 : Same H7 HD := sD
    have hb1 : b ∈ D :: [b] := by simp
    try simp only [L2.start, List.map_cons, List.map_nil, List.length_cons, List.length_nil, List.replicate_succ, List.replicate_zero, List.cons_append, List.nil_append, List.set_cons_succ, List.set_cons_zero, Nat.reduceAdd, Nat.reduceSub, Nat.zero_add]
    refine ⟨4, rfl, by decide, by decide, ?_⟩
    refine for_range (n := 4) (fun j σ H9 => ∃ (y5 y6 y7 y8 y9 y10 y11 y12 y13 : Option V) (gs : List Gt) (Rs : List Addr) (rss : List (List (List Nat))), σ = [some (.ref a), some (.int (0 + (i : Int))), some (.ref b), some (.ref p.x), some (.ref D), y5, y6, y7, y8, y9, y10, y11, y12, y13, none] ∧ Rs.length = j ∧ rss.length = j ∧ gs.length ≤ 510 * j ∧ GsOk 24 gs ∧ NetAt C (D :: [b]) H9 p 24 gs [] ∧ BoxAt (20 + 310 * j) H9 b ∧ KeepS [b, p.lm, p.ld] H7 H9 ∧ H9 D = some (.lst (Rs.map V.ref)) ∧ (∀ (i : Nat) (R : Addr) (rs : List (List Nat)), Rs[i]? = some R → rss[i]? = some rs → RowL (D :: netS b p) H9 R rs) ∧ (∀ rs ∈ rss, GoodR F47 gs rs) ∧ (∀ rs ∈ rss, ∃ ws, rs[3]? = some ws ∧ 1 ≤ ws.length ∧ ws.length ≤ 17)) ⟨_, _, _, _, _, _, _, _, _, [], [], [], rfl, rfl, rfl, by simp, (fun i g h => by simp at h), N8, B8.mono (by decide), KeepS.ofSame s78, eD8, (fun i R rs h => by simp at h), (fun _ z => nomatch z), (fun _ z => nomatch z)⟩ ?_ ?_
    · rintro j σ H9 hj ⟨y5, y6, y7, y8, y9, y10, y11, y12, y13, gs, Rs, rss, rfl, lR, lr, lg, ok, N9, B9, k9, eD, hrow, hgood, hlist⟩
      dsimp only [gName]
      try simp only [L2.start, List.map_cons, List.map_nil, List.length_cons, List.length_nil, List.replicate_succ, List.replicate_zero, List.cons_append, List.nil_append, List.set_cons_succ, List.set_cons_zero, Nat.reduceAdd, Nat.reduceSub, Nat.zero_add]
      refine ⟨_, rfl, _, rfl, _, rfl, D, rfl, ⟨_, SqL.of eD⟩, fun KP nKP => ?_⟩
      have nKPb : KP ≠ b := (B9.ne nKP).symm
      have nKPD : KP ≠ D := fun z => by rw [z, eD] at nKP; cases nKP
      refine lc_it (walk_list (K := K) (a := D) (xs := Rs.map V.ref)) (fun u H1 => ∃ (ls : List Addr) (wss : List (List Nat)), ls.length = u ∧ wss.length = u ∧ Same H9 H1 ∧ H1 KP = some (.lst (ls.map V.ref)) ∧ ∀ (i : Nat) (l : Addr) (ws : List Nat), ls[i]? = some l → wss[i]? = some ws → H9 l = some (.lst (nts ws)) ∧ l ∉ D :: netS b p ∧ 1 ≤ ws.length ∧ ws.length ≤ 17 ∧ ∀ w ∈ ws, w < 24 + gs.length) ⟨[], [], rfl, rfl, same_upd nKP, upd_same, fun i l ws h => by simp at h⟩ (fun u H1 _ ⟨_, _, _, _, k1, _⟩ => SqL.of (k1 _ _ eD)) ?_ ?_
      · rintro u v H2 H1 hu ⟨ls, wss, ll, lw, k1, eK1, hls⟩ ⟨rfl, hz⟩
        rw [List.length_map, lR] at hu
        replace hz : (Rs.map V.ref)[u]? = some v := hz
        obtain ⟨R, hR⟩ : ∃ R, Rs[u]? = some R := ⟨Rs[u]'(by omega), List.getElem?_eq_getElem (by omega)⟩
        rw [List.getElem?_map, hR] at hz
        cases hz
        obtain ⟨rs, hrs⟩ : ∃ rs, rss[u]? = some rs := ⟨rss[u]'(by omega), List.getElem?_eq_getElem (by omega)⟩
        have hm := List.mem_of_getElem? hrs
        obtain ⟨lsR, lls, ⟨aR, als⟩, eR9, hlsR⟩ := id (hrow u R rs hR hrs)
        obtain ⟨ws, hws, w1, w16⟩ := hlist rs hm
        obtain ⟨l, hl⟩ : ∃ l, lsR[3]? = some l := ⟨lsR[3]'(by have := (List.getElem?_eq_some_iff.mp hws).1; omega), List.getElem?_eq_getElem _⟩
        have el9 := hlsR _ l ws hl hws
        have nl := als l (List.mem_of_getElem? hl)
        refine ⟨rfl, yesT ?_⟩
        try simp only [L2.start, List.map_cons, List.map_nil, List.length_cons, List.length_nil, List.replicate_succ, List.replicate_zero, List.cons_append, List.nil_append, List.set_cons_succ, List.set_cons_zero, Nat.reduceAdd, Nat.reduceSub, Nat.zero_add]
        have eR3 := k1 _ _ eR9
        refine ⟨_, rfl, R, _, _, _, rfl, rfl, .inl (.inl eR3), atI_nat (j := 3) (by rw [List.getElem?_map, hl]; rfl), ?_⟩
        refine ⟨_, eK1, by rw [List.length_map, ll]; exact big_lt (by omega), ls ++ [l], wss ++ [ws], by rw [List.length_append, ll]; rfl, by rw [List.length_append, lw]; rfl, fun y o e => ?_, by rw [upd_same, List.map_append]; rfl, fun i' l' ws' h1 h2 => ?_⟩
        · rw [upd_ne (ne_of_none e nKP)]
          exact k1 _ _ e
        · by_cases c : i' < ls.length
          · rw [List.getElem?_append_left c] at h1
            rw [List.getElem?_append_left (by omega)] at h2
            exact hls i' l' ws' h1 h2
          · have i0 : i' = ls.length := by
              have := (List.getElem?_eq_some_iff.mp h1).1
              rw [List.length_append, List.length_cons, List.length_nil] at this
              omega
            rw [List.getElem?_append_right (by omega), i0, Nat.sub_self] at h1
            rw [List.getElem?_append_right (by omega), i0, ll, ← lw, Nat.sub_self] at h2
            cases h1
            cases h2
            exact ⟨el9, nl, w1, w16, ((hgood rs hm).1 _ (List.mem_of_getElem? hws)).2⟩
      rintro H1 ⟨ls, wss, ll, lw, k1, eK1, hls⟩
      rw [List.length_map, lR] at ll lw
      have N1 := N9.same k1
      have B1 := B9.same k1
      have eD1 := k1 _ _ eD
      have k19 : KeepS [b, p.lm, p.ld] H9 H1 := .ofSame k1
      have hKp : KpAt K p b gs H1 KP := ⟨ls, wss, eK1, nKPb, by omega, by omega, fun i' l' ws' h1 h2 => by
        obtain ⟨a1, a2, a3, a4, a5⟩ := hls i' l' ws' h1 h2
        refine ⟨k1 _ _ a1, (fun z => a2 ?_), a3, a4, a5⟩
        simp only [netS, List.mem_cons, List.not_mem_nil, or_false] at z ⊢
        rcases z with z | z | z <;> simp [z]⟩
      try simp only [L2.start, List.map_cons, List.map_nil, List.length_cons, List.length_nil, List.replicate_succ, List.replicate_zero, List.cons_append, List.nil_append, List.set_cons_succ, List.set_cons_zero, Nat.reduceAdd, Nat.reduceSub, Nat.zero_add]
      refine ⟨D :: [b], p, gs, [], b, _, KP, rfl, N1, hb1, B1, by omega, by omega, hKp, fun gs' R rs HA eg NA rA gA lA BA kA => ?_⟩
      have nDS3 : D ∉ [b, p.lm, p.ld] := fun z => by
        simp only [List.mem_cons, List.not_mem_nil, or_false] at z
        simp only [netS, List.mem_cons, List.not_mem_nil, or_false] at nDS
        rcases z with z | z | z <;> simp [z] at nDS
      have eDA := kA.1 _ _ eD1 nDS3
      have hS : ∀ y ∈ D :: netS b p, H1 y ≠ none := fun y hy => by
        obtain ⟨_, _, _, _, _, _, e1, e2, e3, e4, _⟩ := id N1
        simp only [netS, List.mem_cons, List.not_mem_nil, or_false] at hy
        rcases hy with z | z | z | z | z <;> rw [z]
        · exact some_ne eD1
        · exact B1.some
        · exact some_ne e2
        · exact some_ne e3
        · exact some_ne e4
      have lg' := eg.len
      dsimp only [gName]
      try simp only [L2.start, List.map_cons, List.map_nil, List.length_cons, List.length_nil, List.replicate_succ, List.replicate_zero, List.cons_append, List.nil_append, List.set_cons_succ, List.set_cons_zero, Nat.reduceAdd, Nat.reduceSub, Nat.zero_add]
      refine ⟨_, rfl, rfl, _, rfl, iteF ?_⟩
      dsimp only [tNext]
      refine ⟨_, rfl, .inl ⟨rfl, _, SqL.of eDA⟩, _, rfl, D, _, _, rfl, rfl, eDA, by rw [List.length_map, lR]; exact big_lt (by omega), ?_⟩
      refine ⟨_, _, _, _, _, _, _, _, _, gs', Rs ++ [R], rss ++ [rs], rfl, by rw [List.length_append, lR]; rfl, by rw [List.length_append, lr]; rfl, by omega, eg.2 ok, NA.put (by simp), BoxAt.mono (BA.at (upd_ne nDb.symm)) (by omega), ⟨fun y o e ny => by rw [upd_ne (ne_of_none e nD)]; exact kA.1 _ _ (k19.1 _ _ (k9.1 _ _ e ny) ny) ny, fun y e => ?_⟩, by rw [upd_same, List.map_append]; rfl, fun i' R' rs' h1 h2 => ?_, fun rs' hm => ?_, fun rs' hm => ?_⟩
      · by_cases c : y = D
        · rw [c, upd_same]
          exact fun z => nomatch z
        · rw [upd_ne c]
          exact kA.2 _ (k19.2 _ (k9.2 _ e))
      · by_cases c : i' < Rs.length
        · rw [List.getElem?_append_left c] at h1
          rw [List.getElem?_append_left (by omega)] at h2
          refine RowL.keepS (T := [D]) (((hrow i' R' rs' h1 h2).keepS k19 (fun y hy => ?_)).keepS kA (fun y hy => ?_)) (.upd (by simp)) (fun y hy => by rw [List.mem_singleton.mp hy]; simp)
          · simp only [netS, List.mem_cons, List.not_mem_nil, or_false] at hy ⊢
            rcases hy with z | z | z <;> simp [z]
          · simp only [netS, List.mem_cons, List.not_mem_nil, or_false] at hy ⊢
            rcases hy with z | z | z <;> simp [z]
        · have i0 : i' = Rs.length := by
            have := (List.getElem?_eq_some_iff.mp h1).1
            rw [List.length_append, List.length_cons, List.length_nil] at this
            omega
          rw [List.getElem?_append_right (by omega), i0, Nat.sub_self] at h1
          rw [List.getElem?_append_right (by omega), i0, lR, ← lr, Nat.sub_self] at h2
          cases h1
          cases h2
          exact (rA _ hS).keepS (T := [D]) (.upd (by simp)) (fun y hy => by rw [List.mem_singleton.mp hy]; simp)
      · rcases List.mem_append.mp hm with z | z
        · exact (hgood rs' z).ext eg
        · rw [List.mem_singleton.mp z]
          exact gA
      · rcases List.mem_append.mp hm with z | z
        · exact hlist rs' z
        · rw [List.mem_singleton.mp z]
          exact lA
    rintro σ H9 ⟨y5, y6, y7, y8, y9, y10, y11, y12, y13, gs, Rs, rss, rfl, lR, lr, lg, ok, N9, B9, k9, eD, hrow, hgood, hlist⟩
    obtain ⟨_, _, ⟨_, cZ2, cZ3, cZ4⟩, _⟩ := id N9
    have bn : b ∉ [p.dn] := fun z => cZ4 (by rw [← List.mem_singleton.mp z]; simp)
    have Dn : D ∉ [p.dn] := fun z => cZ4 (by rw [← List.mem_singleton.mp z]; simp)
    try simp only [L2.start, List.map_cons, List.map_nil, List.length_cons, List.length_nil, List.replicate_succ, List.replicate_zero, List.cons_append, List.nil_append, List.set_cons_succ, List.set_cons_zero, Nat.reduceAdd, Nat.reduceSub, Nat.zero_add]
    refine ⟨_, rfl, D, _, rfl, SqL.of eD, ?_⟩
    have len5 : ∀ rs ∈ rss, rs.length = 5 := fun rs hm => by
      obtain ⟨os, ts, c, pl, qk, e, _⟩ := (hgood rs hm).2 (List.replicate 24 false) (by simp)
      have := congrArg List.length e
      rw [List.length_map] at this
      exact this
    refine for_it (walk_enum (K := K) (a := D) (xs := Rs.map V.ref)) (fun j σ H1 => ∃ (y6 y7 y8 y9 : Option V), σ = [some (.ref a), some (.int (0 + (i : Int))), some (.ref b), some (.ref p.x), some (.ref D), y5, y6, y7, y8, y9, y10, y11, y12, y13, none] ∧ KeepS [p.dn] H9 H1 ∧ NetAt C (D :: [b]) H1 p 24 gs (partM "abcde" rss 5 j 0)) ⟨_, _, _, _, rfl, KeepS.refl _ _, N9⟩ (fun j σ H1 _ ⟨_, _, _, _, _, k1, _⟩ => k1.seq Dn (SqL.of eD)) ?_ ?_
    · rintro j v σ H1 H2 hj ⟨z5, z6, z7, z8, rfl, k1, N1⟩ ⟨TT, x, y, rfl, nTT, rfl, hx, hy⟩
      cases hx
      rw [List.length_map, lR] at hj
      replace hy : (Rs.map V.ref)[j]? = some y := hy
      rw [List.getElem?_map] at hy
      obtain ⟨R, hR⟩ : ∃ R, Rs[j]? = some R := ⟨Rs[j]'(by omega), List.getElem?_eq_getElem (by omega)⟩
      rw [hR] at hy
      cases hy
      obtain ⟨rs, hrs⟩ : ∃ rs, rss[j]? = some rs := ⟨rss[j]'(by omega), List.getElem?_eq_getElem (by omega)⟩
      have l6 := len5 rs (List.mem_of_getElem? hrs)
      have sTT := same_upd (o := .tup [.int (j : Int), .ref R]) nTT
      have N2 := N1.same sTT
      have k2 : KeepS [p.dn] H9 (upd H1 TT (.tup [.int (j : Int), .ref R])) := k1.trans (.ofSame sTT)
      have eTT : (upd H1 TT (.tup [.int (j : Int), .ref R])) TT = some (.tup [.int (j : Int), .ref R]) := upd_same
      generalize upd H1 TT (.tup [.int (j : Int), .ref R]) = H2 at *
      refine ⟨TT, _, rfl, .inl (.inl eTT), rfl, _, _, rfl, _, _, rfl, rfl, ?_⟩
      try simp only [L2.start, List.map_cons, List.map_nil, List.length_cons, List.length_nil, List.replicate_succ, List.replicate_zero, List.cons_append, List.nil_append, List.set_cons_succ, List.set_cons_zero, Nat.reduceAdd, Nat.reduceSub, Nat.zero_add]
      have row9 := hrow j R rs hR hrs
      obtain ⟨ls, lls, ⟨aR, als⟩, eR9, hls⟩ := id row9
      have Rn : R ∉ [p.dn] := fun z => aR (by rw [List.mem_singleton.mp z]; simp [netS])
      have eR2 := k2.1 _ _ eR9 Rn
      refine ⟨_, rfl, true, _, R, ls.map V.ref, rfl, .inl (.inl eR2), ?_⟩
      refine for_it (walk_zl (K := K) (t := true) (x := "abcde") (a := R) (ys := ls.map V.ref) (n := 5) lt47 (by rw [List.length_map, lls, l6])) (fun u σ H3 => ∃ (y8 y9 : Option V), σ = [some (.ref a), some (.int (0 + (i : Int))), some (.ref b), some (.ref p.x), some (.ref D), y5, some (.ref R), some (.int (j : Int)), y8, y9, y10, y11, y12, y13, none] ∧ KeepS [p.dn] H9 H3 ∧ NetAt C (D :: [b]) H3 p 24 gs (partM "abcde" rss 5 j u)) ⟨_, _, rfl, k2, N2⟩ (fun u σ H3 _ ⟨_, _, _, k3, _⟩ => .inl (.inl (k3.1 _ _ eR9 Rn))) ?_ ?_
      · rintro u v σ H3 H4 hu ⟨y7, y8, rfl, k3, N3⟩ ⟨TU, x, y, rfl, nTU, rfl, hx, hy⟩
        obtain ⟨rfl, _⟩ := let_at hx
        replace hy : (ls.map V.ref)[u]? = some y := hy
        rw [List.getElem?_map] at hy
        obtain ⟨l, hl⟩ : ∃ l, ls[u]? = some l := ⟨ls[u]'(by omega), List.getElem?_eq_getElem (by omega)⟩
        rw [hl] at hy
        cases hy
        obtain ⟨ws, hws⟩ : ∃ ws, rs[u]? = some ws := ⟨rs[u]'(by omega), List.getElem?_eq_getElem (by omega)⟩
        have ew : rw2 rss u j = ws := by
          unfold rw2
          simp only [List.getD, hrs, Option.getD_some, hws]
        have el9 := hls u l ws hl hws
        have ln : l ∉ [p.dn] := fun z => als l (List.mem_of_getElem? hl) (by rw [List.mem_singleton.mp z]; simp [netS])
        have sTU := same_upd (o := .tup [.str (letS "abcde" u), .ref l]) nTU
        have N4 := N3.same sTU
        have k4 : KeepS [p.dn] H9 (upd H3 TU (.tup [.str (letS "abcde" u), .ref l])) := k3.trans (.ofSame sTU)
        have eTU : (upd H3 TU (.tup [.str (letS "abcde" u), .ref l])) TU = some (.tup [.str (letS "abcde" u), .ref l]) := upd_same
        generalize upd H3 TU (.tup [.str (letS "abcde" u), .ref l]) = H4 at *
        refine ⟨TU, _, rfl, .inl (.inl eTU), rfl, _, _, rfl, _, _, rfl, rfl, ?_⟩
        try simp only [L2.start, List.map_cons, List.map_nil, List.length_cons, List.length_nil, List.replicate_succ, List.replicate_zero, List.cons_append, List.nil_append, List.set_cons_succ, List.set_cons_zero, Nat.reduceAdd, Nat.reduceSub, Nat.zero_add]
        obtain ⟨_, _, _, dx4, _, _, f4, _⟩ := id N4
        have gg := (hgood rs (List.mem_of_getElem? hrs)).1 ws (List.mem_of_getElem? hws)
        have sl := strlen47 j (by omega)
        refine ⟨_, rfl, p.x, dx4, _, rfl, f4, rfl, _, rfl, _, rfl, _, rfl, ?_, _, _, rfl, rfl, ?_, _, rfl, D :: [b], p, 24, gs, _, nmS "abcde" u j, l, ws, rfl, N4, ?_, .inl (SqL.of (k4.1 _ _ el9 ln)), gg.2, ?_, fun H5' kD ND => ?_⟩
        · exact Nat.lt_of_le_of_lt (Nat.log2_le_self _) (by omega)
        · exact Nat.le_of_lt (big_lt (show 1 + _ ≤ 500000 by omega))
        · rw [partM_fst]
          exact nmd47.1 j (by omega) u hu
        · rw [partM_len]
          omega
        · refine ⟨some _, some _, rfl, k4.trans kD, ?_⟩
          rw [partM_snoc, ew]
          exact ND
      · rintro σ H3 ⟨y7, y8, rfl, k3, N3⟩
        refine ⟨_, _, _, _, rfl, k3, ?_⟩
        rw [partM_next]
        exact N3
    rintro σ H1 ⟨z7, z8, z9, z10, rfl, k1, N1⟩
    rw [List.length_map, lR] at N1
    have B1 := B9.keepS k1 bn
    have hD1 := k1.1 _ _ eD Dn
    refine ⟨_, rfl, b, _, 24, 62, rfl, B1, by omega, by decide, by decide, fun us0 U0 H2a lu0 hus nU0 eU0 B2a k2a => ?_⟩
    refine ⟨U0, rfl, ⟨_, SqL.of eU0⟩, fun VL nVL => ?_⟩
    have nVLb : VL ≠ b := (B2a.ne nVL).symm
    refine lc_it (walk_list (K := K) (a := U0) (xs := us0.map V.int)) (fun u H3 => Same H2a H3 ∧ H3 VL = some (.lst (((us0.take u).map (fun v => v * 2 ^ 2 + 2)).map V.int))) ⟨same_upd nVL, upd_same⟩ (fun u H3 _ ⟨s3, _⟩ => SqL.of (s3 _ _ eU0)) ?_ ?_
    · rintro u v H4 H3 hu ⟨s3, eV⟩ ⟨rfl, hz⟩
      obtain ⟨d, hd, rfl⟩ := at_int46 hz
      obtain ⟨d0, d1⟩ := hus d (List.mem_of_getElem? hd)
      have lu3 := (List.getElem?_eq_some_iff.mp hd).1
      have pv' : ((2 ^ 62 : Nat) : Int) = 2 ^ 62 := PySem.W.kbt_cast 62
      dsimp only [gName]
      refine ⟨rfl, yesT ?_⟩
      try simp only [L2.start, List.map_cons, List.map_nil, List.length_cons, List.length_nil, List.replicate_succ, List.replicate_zero, List.cons_append, List.nil_append, List.set_cons_succ, List.set_cons_zero, Nat.reduceAdd, Nat.reduceSub, Nat.zero_add]
      refine ⟨_, rfl, _, 2, rfl, rfl, shl_ok (n := 62) (by omega) (by decide), d, 2, 2, rfl, rfl, ⟨d0, by decide, by decide⟩, ?_⟩
      refine ⟨_, eV, by rw [List.length_map, List.length_map, List.length_take]; exact big_lt (by omega), fun y o e => ?_, ?_⟩
      · rw [upd_ne (ne_of_none e nVL)]
        exact s3 _ _ e
      · rw [upd_same, List.take_add_one, hd, List.map_append, List.map_append]
        rfl
    rintro H2 ⟨s2, eU⟩
    rw [List.length_map, List.take_length] at eU
    obtain ⟨us, eus⟩ : ∃ us, us = us0.map (fun v => v * 2 ^ 2 + 2) := ⟨_, rfl⟩
    rw [← eus] at eU
    have lu : us.length = 24 := by rw [eus, List.length_map]; exact lu0
    have k2 : Keep b H1 H2 := k2a.trans (Keep.ofSame s2)
    have B2 := B2a.same s2
    clear eus
    dsimp only [gName]
    try simp only [L2.start, List.map_cons, List.map_nil, List.length_cons, List.length_nil, List.replicate_succ, List.replicate_zero, List.cons_append, List.nil_append, List.set_cons_succ, List.set_cons_zero, Nat.reduceAdd, Nat.reduceSub, Nat.zero_add]
    have N2 := N1.keepB k2 B2.some hb1
    have hD2 := k2 _ _ hD1 nDb
    have hrow1 : ∀ (i : Nat) (R : Addr) (rs : List (List Nat)), Rs[i]? = some R → rss[i]? = some rs → RowL (D :: netS b p) H1 R rs := fun i R rs h1 h2 => (hrow i R rs h1 h2).keepS k1 (fun y hy => by rw [List.mem_singleton.mp hy]; simp [netS])
    have hrow2 : ∀ (i : Nat) (R : Addr) (rs : List (List Nat)), Rs[i]? = some R → rss[i]? = some rs → RowL (D :: netS b p) H2 R rs := fun i R rs h1 h2 => (hrow1 i R rs h1 h2).keepS (T := [b]) (.ofKeep k2 (by simp) B2.some) (fun y hy => by rw [List.mem_singleton.mp hy]; simp [netS])
    have hmem : ∀ x ∈ partM "abcde" rss 5 4 0, x.2.length ≤ 900 ∧ ∀ w ∈ x.2, w < 24 + gs.length := fun x hx => by
      obtain ⟨i, q, hi, hq, rfl⟩ := partM_in hx
      obtain ⟨rs, hrs⟩ : ∃ rs, rss[i]? = some rs := ⟨rss[i]'(by omega), List.getElem?_eq_getElem (by omega)⟩
      have l6 := len5 rs (List.mem_of_getElem? hrs)
      obtain ⟨ws, hws⟩ : ∃ ws, rs[q]? = some ws := ⟨rs[q]'(by omega), List.getElem?_eq_getElem (by omega)⟩
      have ew : rw2 rss q i = ws := by
        unfold rw2
        simp only [List.getD, hrs, Option.getD_some, hws]
      have := (hgood rs (List.mem_of_getElem? hrs)).1 ws (List.mem_of_getElem? hws)
      show (rw2 rss q i).length ≤ 900 ∧ ∀ w ∈ rw2 rss q i, _
      rw [ew]
      exact ⟨by omega, this.2⟩
    refine ⟨_, rfl, _, rfl, rfl, rfl, D :: [b], p, 24, gs, partM "abcde" rss 5 4 0, VL, us, 64, rfl, N2, eU, lu, by decide, by omega, by rw [partM_len]; omega, ok, hmem, fun ys t H4 hp hs s4 hRun => ?_⟩
    obtain ⟨ps, kvs, r1, r2, r3, r4⟩ := run_dict hRun hp (by rw [partM_fst]; exact nmd47.2 4 (by decide))
    refine ⟨t, ps, kvs, rfl, r1, r2, fun TD nTD => ?_⟩
    rw [r3]
    have sTD := same_upd (o := .dK kvs) nTD
    have tAt : TAt (upd H4 TD (.dK kvs)) TD (partM "abcde" rss 5 4 0) (rv (2 ^ 64 - 1) (us.map (· % 2 ^ 64)) gs) := TAt.same (H := upd H4 TD (.dK kvs)) ⟨kvs, upd_same, fun x hx => by
      obtain ⟨l, a, b⟩ := r4 x hx
      exact ⟨l, a, sTD _ _ b⟩⟩ (Same.refl _)
    have s25 := s4.trans sTD
    have hD5 := s25 _ _ hD2
    have hrow5 : ∀ (i : Nat) (R : Addr) (rs : List (List Nat)), Rs[i]? = some R → rss[i]? = some rs → RowL (D :: netS b p) (upd H4 TD (.dK kvs)) R rs := fun i R rs h1 h2 => (hrow2 i R rs h1 h2).same s25
    have kAll : KeepS [b, p.lm, p.ld, p.dn] H7 (upd H4 TD (.dK kvs)) := (((k9.mono (fun y hy => by simp only [List.mem_cons, List.not_mem_nil, or_false] at hy ⊢; rcases hy with z | z | z <;> simp [z])).trans (k1.mono (fun y hy => by rw [List.mem_singleton.mp hy]; simp))).trans ((KeepS.ofKeep (S := [b]) k2 (by simp) B2.some).mono (fun y hy => by rw [List.mem_singleton.mp hy]; simp))).trans (.ofSame s25)
    generalize upd H4 TD (.dK kvs) = H5' at *
    dsimp only [gName]
    try simp only [L2.start, List.map_cons, List.map_nil, List.length_cons, List.length_nil, List.replicate_succ, List.replicate_zero, List.cons_append, List.nil_append, List.set_cons_succ, List.set_cons_zero, Nat.reduceAdd, Nat.reduceSub, Nat.zero_add]
    have w5 : Walk (Its "abcde") 5 (fun _ => True) (fun i H v H' => H' = H ∧ ∃ c, ("abcde" : Str).cps[i]? = some c ∧ v = .str ⟨#[c]⟩) := lt47 ▸ walk_str (z := "abcde")
    refine ⟨4, rfl, by decide, by decide, ?_⟩
    refine for_range (n := 4) (fun j σ H1 => ∃ (y7 y12 y13 : Option V), σ = [some (.ref a), some (.int (0 + (i : Int))), some (.ref b), some (.ref p.x), some (.ref D), y5, z7, y7, z9, z10, some (.ref VL), some (.ref TD), y12, y13, none] ∧ Same H5' H1) ⟨_, _, _, rfl, Same.refl _⟩ ?_ ?_
    · rintro j σ HB hj ⟨x7, x12, x13, rfl, sB⟩
      rw [show (0 : Int) + (j : Nat) = ((j : Nat) : Int) from by omega]
      obtain ⟨rs, hrs⟩ : ∃ rs, rss[j]? = some rs := ⟨rss[j]'(by omega), List.getElem?_eq_getElem (by omega)⟩
      have hm := List.mem_of_getElem? hrs
      have l6 := len5 rs hm
      dsimp only [gName]
      try simp only [L2.start, List.map_cons, List.map_nil, List.length_cons, List.length_nil, List.replicate_succ, List.replicate_zero, List.cons_append, List.nil_append, List.set_cons_succ, List.set_cons_zero, Nat.reduceAdd, Nat.reduceSub, Nat.zero_add]
      refine ⟨64, rfl, by decide, by decide, ?_⟩
      refine for_range (n := 64) (fun c σ H1 => ∃ (y12 y13 : Option V), σ = [some (.ref a), some (.int (0 + (i : Int))), some (.ref b), some (.ref p.x), some (.ref D), y5, z7, some (.int (j : Int)), z9, z10, some (.ref VL), some (.ref TD), y12, y13, none] ∧ Same H5' H1) ⟨_, _, rfl, sB⟩ ?_ ?_
      · rintro c σ HC hc ⟨x12, x13, rfl, sC⟩
        rw [show (0 : Int) + (c : Nat) = ((c : Nat) : Int) from by omega]
        dsimp only [gName]
        try simp only [L2.start, List.map_cons, List.map_nil, List.length_cons, List.length_nil, List.replicate_succ, List.replicate_zero, List.cons_append, List.nil_append, List.set_cons_succ, List.set_cons_zero, Nat.reduceAdd, Nat.reduceSub, Nat.zero_add]
        have hF := (hgood rs hm).2 (bitsOf us c) (by rw [bitsOf_len, lu])
        obtain ⟨bs, hbs⟩ : ∃ bs, bs = rs.map fun ws => ws.map (wb (bitsOf us c) gs) := ⟨_, rfl⟩
        rw [← hbs] at hF
        have lbs : bs.length = 5 := by rw [hbs, List.length_map, l6]
        refine ⟨_, rfl, fun OW nOW => ?_⟩
        refine lc_it w5 (fun u H1 => Same HC H1 ∧ H1 OW = some (.lst ((bs.take u).map fun x => V.int (numB x : Int)))) ⟨same_upd nOW, upd_same⟩ (fun _ _ _ _ => trivial) ?_ ?_
        · rintro u v H1 H2' hu ⟨s1, eO⟩ ⟨rfl, cc, hcc, rfl⟩
          have elet : (⟨#[cc]⟩ : Str) = letS "abcde" u := by
            have := (let_at (lt := "abcde") (i := u) (y := .str ⟨#[cc]⟩) (by rw [hcc]; rfl)).1
            exact V.str.inj this
          rw [elet]
          obtain ⟨ws, hws⟩ : ∃ ws, rs[u]? = some ws := ⟨rs[u]'(by omega), List.getElem?_eq_getElem (by omega)⟩
          have ew : rw2 rss u j = ws := by
            unfold rw2
            simp only [List.getD, hrs, Option.getD_some, hws]
          have tA := tAt.same (sC.trans s1)
          obtain ⟨kv, eTD, hkv⟩ := tA
          obtain ⟨l, hl, el⟩ := hkv (nmS "abcde" u j, rw2 rss u j) (partM_mem hj hu)
          rw [ew] at el
          have sl := strlen47 j (by omega)
          refine ⟨rfl, yesT ?_⟩
          try simp only [L2.start, List.map_cons, List.map_nil, List.length_cons, List.length_nil, List.replicate_succ, List.replicate_zero, List.cons_append, List.nil_append, List.set_cons_succ, List.set_cons_zero, Nat.reduceAdd, Nat.reduceSub, Nat.zero_add]
          refine ⟨_, rfl, _, rfl, _, rfl, _, rfl, Nat.lt_of_le_of_lt (Nat.log2_le_self _) (by omega), _, _, rfl, rfl, Nat.le_of_lt (big_lt (show 1 + _ ≤ 500000 by omega)), TD, .ref l, rfl, ?_, _, rfl, l, _, c, rfl, SqL.of el, ?_⟩
          · have := DGet.k (k := .inr (nmS "abcde" u j)) eTD
            rw [hl] at this
            exact this
          rw [num_case hc]
          have hbu : bs[u]? = some (ws.map (wb (bitsOf us c) gs)) := by rw [hbs, List.getElem?_map, hws]; rfl
          refine ⟨_, eO, ?_, fun y o e => ?_, ?_⟩
          · rw [List.length_map, List.length_take]
            exact big_lt (by omega)
          · rw [upd_ne (ne_of_none e nOW)]
            exact s1 _ _ e
          · rw [upd_same, List.take_add_one, hbu, List.map_append]
            rfl
        rintro HD' ⟨sD', eO⟩
        rw [List.take_of_length_le (by omega)] at eO
        obtain ⟨os, ts, cc, pl, qk, ebs, h1, h2⟩ := hF
        rw [ebs] at eO
        have eO' : HD' OW = some (.lst [.int (numB os : Int), .int (numB ts : Int), .int (numB [cc] : Int), .int (numB pl : Int), .int (numB qk : Int)]) := eO
        dsimp only [gName]
        try simp only [L2.start, List.map_cons, List.map_nil, List.length_cons, List.length_nil, List.replicate_succ, List.replicate_zero, List.cons_append, List.nil_append, List.set_cons_succ, List.set_cons_zero, Nat.reduceAdd, Nat.reduceSub, Nat.zero_add]
        have nc : numB [cc] = cc.toNat := by cases cc <;> rfl
        refine ⟨_, rfl, OW, _, _, _, rfl, rfl, SqL.of eO', atI_nat (j := 3) rfl, ?_⟩
        refine ⟨_, rfl, _, rfl, OW, _, rfl, SqL.of eO', fun LS nLS => ?_⟩
        have sLS := same_upd (o := .lst (([(numB os : Int), (numB ts : Int), (numB [cc] : Int)] : List Int).map V.int)) nLS
        have eLS : (upd HD' LS (.lst (([(numB os : Int), (numB ts : Int), (numB [cc] : Int)] : List Int).map V.int))) LS = some (.lst (([(numB os : Int), (numB ts : Int), (numB [cc] : Int)] : List Int).map V.int)) := upd_same
        refine ⟨LS, [(numB os : Int), (numB ts : Int), (numB [cc] : Int)], rfl, SqL.of eLS, ?_⟩
        have eO2 := sLS _ _ eO'
        have es : ([(numB os : Int), (numB ts : Int), (numB [cc] : Int)] : List Int).sum = (numB pl : Int) := by
          simp only [List.sum_cons, List.sum_nil]
          omega
        rw [es]
        refine ⟨rfl, _, rfl, ?_⟩
        rw [decide_eq_true (rfl : V.int (numB pl : Int) = V.int (numB pl : Int))]
        refine iteF ?_
        refine ⟨_, rfl, OW, _, _, _, rfl, rfl, SqL.of eO2, atI_nat (j := 4) rfl, _, rfl, OW, _, _, _, rfl, rfl, SqL.of eO2, atI_nat (j := 3) rfl, ?_⟩
        refine ⟨rfl, _, rfl, ?_⟩
        rw [decide_eq_true (congrArg V.int (show (numB qk : Int) = (numB pl : Int) by omega))]
        refine iteF ?_
        dsimp only [tNext]
        exact ⟨_, _, rfl, (sC.trans sD').trans sLS⟩
      · rintro σ H1 ⟨x12, x13, rfl, s1⟩
        exact ⟨_, _, _, rfl, s1⟩
    · rintro σ HA ⟨x7, x12, x13, rfl, sA⟩
      refine ⟨_, _, _, _, _, _, _, _, _, _, _, _, _, rfl, fun y o e => ?_⟩
      have e5 := s5 _ _ e
      have e6 := s6 _ _ e5
      have e8 := s7 _ _ e6
      have nx' : y ≠ p.x := ne_of_none e6 nx
      have ndx' : y ≠ dx := ne_of_none e6 ndx
      have eu : (upd (upd H6 dx (.own p.x)) p.x (.ins C dx [])) y = some o := by rw [upd_ne nx', upd_ne ndx']; exact e6
      refine sA _ _ (kAll.1 _ _ e8 (fun z => ?_))
      simp only [List.mem_cons, List.not_mem_nil, or_false] at z
      rcases z with z | z | z | z
      · exact ne_of_none e5 nb z
      · exact ne_of_none eu n1 z
      · exact ne_of_none eu n2 z
      · exact ne_of_none eu n3 z
  · rintro σ H5 ⟨y1, y2, y3, y4, y5, y6, y7, y8, y9, y10, y11, y12, y13, rfl, s5⟩
    exact q _
end
theorem all_mk {l : PySem.W.OpenLaw} {w : World} {K : PySem.W.Frag} {h : Heap} {mg : Str → Option Value} {fa f1 f2 f3 f4 f5 f6 f7 f8 f9 f10 f11 f12 f13 f14 f15 f16 f17 f18 f19 f20 f21 f22 f23 f24 f25 f26 f27 f28 C : Addr} (X : K.In h) (G : h.Ns mainGlobals mg) (hfa : mg "law" = some (.ref fa))
    {od1 an1 od2 an2 od3 an3 od4 an4 od5 an5 od6 an6 od7 an7 od8 an8 od9 an9 od10 an10 od11 an11 od12 an12 od13 an13 od14 an14 od15 an15 od16 an16 od17 an17 od18 an18 od19 an19 od20 an20 od21 an21 od22 an22 od23 an23 od24 an24 od25 an25 od26 an26 od27 an27 od28 an28 : Option Addr} {sl1 sl2 sl3 sl4 sl5 sl6 sl7 sl8 sl9 sl10 sl11 sl12 sl13 sl14 sl15 sl16 sl17 sl18 sl19 sl20 sl21 sl22 sl23 sl24 sl25 sl26 sl27 sl28 : Array (Option Value)} {oc1 kV1 dc1 pm1 cd1 ct1 oc2 kV2 dc2 pm2 cd2 ct2 oc3 kV3 dc3 pm3 cd3 ct3 oc4 kV4 dc4 pm4 cd4 ct4 oc5 dc5 pm5 cd5 ct5 oc6 kV6 dc6 pm6 cd6 ct6 oc7 kV7 dc7 pm7 cd7 ct7 oc8 kV8 dc8 pm8 cd8 ct8 oc9 kV9 dc9 pm9 cd9 ct9 oc10 kV10 dc10 pm10 cd10 ct10 oc11 kV11 dc11 pm11 cd11 ct11 oc12 kV12 dc12 pm12 cd12 ct12 oc13 kV13 dc13 pm13 cd13 ct13 oc14 kV14 dc14 pm14 cd14 ct14 oc15 kV15 dc15 pm15 cd15 ct15 oc16 kV16 dc16 pm16 cd16 ct16 oc17 kV17 dc17 pm17 cd17 ct17 oc18 kV18 dc18 pm18 cd18 ct18 oc19 kV19 dc19 pm19 cd19 ct19 oc20 kV20 dc20 pm20 cd20 ct20 oc21 kV21 dc21 pm21 cd21 ct21 oc22 kV22 dc22 pm22 cd22 ct22 oc23 kV23 dc23 pm23 cd23 ct23 oc24 kV24 dc24 pm24 cd24 ct24 oc25 kV25 dc25 pm25 cd25 ct25 oc26 kV26 dc26 pm26 cd26 ct26 oc27 kV27 dc27 pm27 cd27 ct27 oc28 kV28 dc28 pm28 cd28 ct28 : Value}
    {Dk5 : Addr} {tk5_0 : Tok}
    (a1 : PySem.W.nsIn K mainGlobals "sum_wires" = some (some (.ref f1))) (l1 : K.lookup f1 = some ⟨oc1, od1, .func (PySem.W.fnOf "sum_wires" "sum_wires" (defArgs s_sum_wires) (defBody s_sum_wires) (defScope s_sum_wires) .none kV1 dc1 pm1 an1 cd1 ct1), sl1⟩) (c1 : PySem.W.codeIn K cd1 "sum_wires" = true) (k1 : PySem.W.keepIn K (.ref f1) = true)
    (a2 : PySem.W.nsIn K mainGlobals "quick_sum_wires" = some (some (.ref f2))) (l2 : K.lookup f2 = some ⟨oc2, od2, .func (PySem.W.fnOf "quick_sum_wires" "quick_sum_wires" (defArgs s_quick_sum_wires) (defBody s_quick_sum_wires) (defScope s_quick_sum_wires) .none kV2 dc2 pm2 an2 cd2 ct2), sl2⟩) (c2 : PySem.W.codeIn K cd2 "quick_sum_wires" = true) (k2 : PySem.W.keepIn K (.ref f2) = true)
    (a3 : PySem.W.nsIn K mainGlobals "carry_wires" = some (some (.ref f3))) (l3 : K.lookup f3 = some ⟨oc3, od3, .func (PySem.W.fnOf "carry_wires" "carry_wires" (defArgs s_carry_wires) (defBody s_carry_wires) (defScope s_carry_wires) .none kV3 dc3 pm3 an3 cd3 ct3), sl3⟩) (c3 : PySem.W.codeIn K cd3 "carry_wires" = true) (k3 : PySem.W.keepIn K (.ref f3) = true)
    (a4 : PySem.W.nsIn K mainGlobals "span_doubled" = some (some (.ref f4))) (l4 : K.lookup f4 = some ⟨oc4, od4, .func (PySem.W.fnOf "span_doubled" "span_doubled" (defArgs s_span_doubled) (defBody s_span_doubled) (defScope s_span_doubled) .none kV4 dc4 pm4 an4 cd4 ct4), sl4⟩) (c4 : PySem.W.codeIn K cd4 "span_doubled" = true) (k4 : PySem.W.keepIn K (.ref f4) = true)
    (a5 : PySem.W.nsIn K mainGlobals "ran" = some (some (.ref f5))) (l5 : K.lookup f5 = some ⟨oc5, od5, .func (PySem.W.fnOf "ran" "ran" (defArgs s_ran) (defBody s_ran) (defScope s_ran) .none (.ref Dk5) dc5 pm5 an5 cd5 ct5), sl5⟩) (c5 : PySem.W.codeIn K cd5 "ran" = true) (k5 : PySem.W.keepIn K (.ref f5) = true)
    (w5_0 : PySem.W.nsIn K Dk5 "many" = some (some (.int 1 tk5_0)))
    (a6 : PySem.W.nsIn K mainGlobals "gate_bits" = some (some (.ref f6))) (l6 : K.lookup f6 = some ⟨oc6, od6, .func (PySem.W.fnOf "gate_bits" "gate_bits" (defArgs s_gate_bits) (defBody s_gate_bits) (defScope s_gate_bits) .none kV6 dc6 pm6 an6 cd6 ct6), sl6⟩) (c6 : PySem.W.codeIn K cd6 "gate_bits" = true) (k6 : PySem.W.keepIn K (.ref f6) = true)
    (a7 : PySem.W.nsIn K mainGlobals "_law_box" = some (some (.ref f7))) (l7 : K.lookup f7 = some ⟨oc7, od7, .func (PySem.W.fnOf "_law_box" "_law_box" (defArgs sBox) (defBody sBox) (defScope sBox) .none kV7 dc7 pm7 an7 cd7 ct7), sl7⟩) (c7 : PySem.W.codeIn K cd7 "_law_box" = true) (k7 : PySem.W.keepIn K (.ref f7) = true)
    (a8 : PySem.W.nsIn K mainGlobals "_law_take" = some (some (.ref f8))) (l8 : K.lookup f8 = some ⟨oc8, od8, .func (PySem.W.fnOf "_law_take" "_law_take" (defArgs sTake) (defBody sTake) (defScope sTake) .none kV8 dc8 pm8 an8 cd8 ct8), sl8⟩) (c8 : PySem.W.codeIn K cd8 "_law_take" = true) (k8 : PySem.W.keepIn K (.ref f8) = true)
    (a9 : PySem.W.nsIn K mainGlobals "_law_wires" = some (some (.ref f9))) (l9 : K.lookup f9 = some ⟨oc9, od9, .func (PySem.W.fnOf "_law_wires" "_law_wires" (defArgs s__law_wires) (defBody s__law_wires) (defScope s__law_wires) .none kV9 dc9 pm9 an9 cd9 ct9), sl9⟩) (c9 : PySem.W.codeIn K cd9 "_law_wires" = true) (k9 : PySem.W.keepIn K (.ref f9) = true)
    (a10 : PySem.W.nsIn K mainGlobals "_law_values" = some (some (.ref f10))) (l10 : K.lookup f10 = some ⟨oc10, od10, .func (PySem.W.fnOf "_law_values" "_law_values" (defArgs s__law_values) (defBody s__law_values) (defScope s__law_values) .none kV10 dc10 pm10 an10 cd10 ct10), sl10⟩) (c10 : PySem.W.codeIn K cd10 "_law_values" = true) (k10 : PySem.W.keepIn K (.ref f10) = true)
    (a11 : PySem.W.nsIn K mainGlobals "_law_number" = some (some (.ref f11))) (l11 : K.lookup f11 = some ⟨oc11, od11, .func (PySem.W.fnOf "_law_number" "_law_number" (defArgs s__law_number) (defBody s__law_number) (defScope s__law_number) .none kV11 dc11 pm11 an11 cd11 ct11), sl11⟩) (c11 : PySem.W.codeIn K cd11 "_law_number" = true) (k11 : PySem.W.keepIn K (.ref f11) = true)
    (a12 : PySem.W.nsIn K mainGlobals "_law_handed" = some (some (.ref f12))) (l12 : K.lookup f12 = some ⟨oc12, od12, .func (PySem.W.fnOf "_law_handed" "_law_handed" (defArgs s__law_handed) (defBody s__law_handed) (defScope s__law_handed) .none kV12 dc12 pm12 an12 cd12 ct12), sl12⟩) (c12 : PySem.W.codeIn K cd12 "_law_handed" = true) (k12 : PySem.W.keepIn K (.ref f12) = true)
    (a13 : PySem.W.nsIn K mainGlobals "_law_put" = some (some (.ref f13))) (l13 : K.lookup f13 = some ⟨oc13, od13, .func (PySem.W.fnOf "_law_put" "_law_put" (defArgs s__law_put) (defBody s__law_put) (defScope s__law_put) .none kV13 dc13 pm13 an13 cd13 ct13), sl13⟩) (c13 : PySem.W.codeIn K cd13 "_law_put" = true) (k13 : PySem.W.keepIn K (.ref f13) = true)
    (a14 : PySem.W.nsIn K mainGlobals "law" = some (some (.ref f14))) (l14 : K.lookup f14 = some ⟨oc14, od14, .func (PySem.W.fnOf "law" "law" (defArgs s_law) (defBody s_law) (defScope s_law) .none kV14 dc14 pm14 an14 cd14 ct14), sl14⟩) (c14 : PySem.W.codeIn K cd14 "law" = true) (k14 : PySem.W.keepIn K (.ref f14) = true)
    (aC : PySem.W.nsIn K mainGlobals "Net" = some (some (.ref C)))
    (pgC : PySem.W.plainGet K C Str.empty = true) (hdC : PySem.W.hasDictIn K C = true) (poC : PySem.W.plainOver K C = true) (saC : PySem.W.findIn K (.ref C) "__setattr__" = some (some (.builtin "object.__setattr__"))) (mkC : PySem.W.makesIn K C = true) (kcC : PySem.W.keepIn K (.ref C) = true)
    (naC0 : PySem.W.findIn K (.ref C) "input_count" = some none)
    (naC1 : PySem.W.findIn K (.ref C) "made" = some none)
    (naC2 : PySem.W.findIn K (.ref C) "depths" = some none)
    (naC3 : PySem.W.findIn K (.ref C) "by_name" = some none)
    (a15 : PySem.W.findIn K (.ref C) "__init__" = some (some (.ref f15))) (i15 : PySem.W.isFn K (.ref f15) = true) (l15 : K.lookup f15 = some ⟨oc15, od15, .func (PySem.W.fnOf "__init__" "Net.__init__" (defArgs s_Net___init__) (defBody s_Net___init__) (defScope s_Net___init__) .none kV15 dc15 pm15 an15 cd15 ct15), sl15⟩) (c15 : PySem.W.codeIn K cd15 "Net.__init__" = true) (k15 : PySem.W.keepIn K (.ref f15) = true)
    (a16 : PySem.W.findIn K (.ref C) "both" = some (some (.ref f16))) (i16 : PySem.W.isFn K (.ref f16) = true) (l16 : K.lookup f16 = some ⟨oc16, od16, .func (PySem.W.fnOf "both" "Net.both" (defArgs s_Net_both) (defBody s_Net_both) (defScope s_Net_both) .none kV16 dc16 pm16 an16 cd16 ct16), sl16⟩) (c16 : PySem.W.codeIn K cd16 "Net.both" = true) (k16 : PySem.W.keepIn K (.ref f16) = true)
    (a17 : PySem.W.findIn K (.ref C) "either" = some (some (.ref f17))) (i17 : PySem.W.isFn K (.ref f17) = true) (l17 : K.lookup f17 = some ⟨oc17, od17, .func (PySem.W.fnOf "either" "Net.either" (defArgs s_Net_either) (defBody s_Net_either) (defScope s_Net_either) .none kV17 dc17 pm17 an17 cd17 ct17), sl17⟩) (c17 : PySem.W.codeIn K cd17 "Net.either" = true) (k17 : PySem.W.keepIn K (.ref f17) = true)
    (a18 : PySem.W.findIn K (.ref C) "unlike" = some (some (.ref f18))) (i18 : PySem.W.isFn K (.ref f18) = true) (l18 : K.lookup f18 = some ⟨oc18, od18, .func (PySem.W.fnOf "unlike" "Net.unlike" (defArgs s_Net_unlike) (defBody s_Net_unlike) (defScope s_Net_unlike) .none kV18 dc18 pm18 an18 cd18 ct18), sl18⟩) (c18 : PySem.W.codeIn K cd18 "Net.unlike" = true) (k18 : PySem.W.keepIn K (.ref f18) = true)
    (a19 : PySem.W.findIn K (.ref C) "fixed" = some (some (.ref f19))) (i19 : PySem.W.isFn K (.ref f19) = true) (l19 : K.lookup f19 = some ⟨oc19, od19, .func (PySem.W.fnOf "fixed" "Net.fixed" (defArgs s_Net_fixed) (defBody s_Net_fixed) (defScope s_Net_fixed) .none kV19 dc19 pm19 an19 cd19 ct19), sl19⟩) (c19 : PySem.W.codeIn K cd19 "Net.fixed" = true) (k19 : PySem.W.keepIn K (.ref f19) = true)
    (a20 : PySem.W.findIn K (.ref C) "put" = some (some (.ref f20))) (i20 : PySem.W.isFn K (.ref f20) = true) (l20 : K.lookup f20 = some ⟨oc20, od20, .func (PySem.W.fnOf "put" "Net.put" (defArgs s_Net_put) (defBody s_Net_put) (defScope s_Net_put) .none kV20 dc20 pm20 an20 cd20 ct20), sl20⟩) (c20 : PySem.W.codeIn K cd20 "Net.put" = true) (k20 : PySem.W.keepIn K (.ref f20) = true)
    (a21 : PySem.W.findIn K (.ref C) "put_gate" = some (some (.ref f21))) (i21 : PySem.W.isFn K (.ref f21) = true) (l21 : K.lookup f21 = some ⟨oc21, od21, .func (PySem.W.fnOf "put_gate" "Net.put_gate" (defArgs s_Net_put_gate) (defBody s_Net_put_gate) (defScope s_Net_put_gate) .none kV21 dc21 pm21 an21 cd21 ct21), sl21⟩) (c21 : PySem.W.codeIn K cd21 "Net.put_gate" = true) (k21 : PySem.W.keepIn K (.ref f21) = true)
    (a22 : PySem.W.findIn K (.ref C) "need" = some (some (.ref f22))) (i22 : PySem.W.isFn K (.ref f22) = true) (l22 : K.lookup f22 = some ⟨oc22, od22, .func (PySem.W.fnOf "need" "Net.need" (defArgs s_Net_need) (defBody s_Net_need) (defScope s_Net_need) .none kV22 dc22 pm22 an22 cd22 ct22), sl22⟩) (c22 : PySem.W.codeIn K cd22 "Net.need" = true) (k22 : PySem.W.keepIn K (.ref f22) = true)
    (a23 : PySem.W.findIn K (.ref C) "give" = some (some (.ref f23))) (i23 : PySem.W.isFn K (.ref f23) = true) (l23 : K.lookup f23 = some ⟨oc23, od23, .func (PySem.W.fnOf "give" "Net.give" (defArgs s_Net_give) (defBody s_Net_give) (defScope s_Net_give) .none kV23 dc23 pm23 an23 cd23 ct23), sl23⟩) (c23 : PySem.W.codeIn K cd23 "Net.give" = true) (k23 : PySem.W.keepIn K (.ref f23) = true)
    (a24 : PySem.W.findIn K (.ref C) "given" = some (some (.ref f24))) (i24 : PySem.W.isFn K (.ref f24) = true) (l24 : K.lookup f24 = some ⟨oc24, od24, .func (PySem.W.fnOf "given" "Net.given" (defArgs s_Net_given) (defBody s_Net_given) (defScope s_Net_given) .none kV24 dc24 pm24 an24 cd24 ct24), sl24⟩) (c24 : PySem.W.codeIn K cd24 "Net.given" = true) (k24 : PySem.W.keepIn K (.ref f24) = true)
    (a25 : PySem.W.findIn K (.ref C) "names" = some (some (.ref f25))) (i25 : PySem.W.isFn K (.ref f25) = true) (l25 : K.lookup f25 = some ⟨oc25, od25, .func (PySem.W.fnOf "names" "Net.names" (defArgs s_Net_names) (defBody s_Net_names) (defScope s_Net_names) .none kV25 dc25 pm25 an25 cd25 ct25), sl25⟩) (c25 : PySem.W.codeIn K cd25 "Net.names" = true) (k25 : PySem.W.keepIn K (.ref f25) = true)
    (a26 : PySem.W.findIn K (.ref C) "inputs" = some (some (.ref f26))) (i26 : PySem.W.isFn K (.ref f26) = true) (l26 : K.lookup f26 = some ⟨oc26, od26, .func (PySem.W.fnOf "inputs" "Net.inputs" (defArgs s_Net_inputs) (defBody s_Net_inputs) (defScope s_Net_inputs) .none kV26 dc26 pm26 an26 cd26 ct26), sl26⟩) (c26 : PySem.W.codeIn K cd26 "Net.inputs" = true) (k26 : PySem.W.keepIn K (.ref f26) = true)
    (a27 : PySem.W.findIn K (.ref C) "gates" = some (some (.ref f27))) (i27 : PySem.W.isFn K (.ref f27) = true) (l27 : K.lookup f27 = some ⟨oc27, od27, .func (PySem.W.fnOf "gates" "Net.gates" (defArgs s_Net_gates) (defBody s_Net_gates) (defScope s_Net_gates) .none kV27 dc27 pm27 an27 cd27 ct27), sl27⟩) (c27 : PySem.W.codeIn K cd27 "Net.gates" = true) (k27 : PySem.W.keepIn K (.ref f27) = true)
    (a28 : PySem.W.findIn K (.ref C) "depth" = some (some (.ref f28))) (i28 : PySem.W.isFn K (.ref f28) = true) (l28 : K.lookup f28 = some ⟨oc28, od28, .func (PySem.W.fnOf "depth" "Net.depth" (defArgs s_Net_depth) (defBody s_Net_depth) (defScope s_Net_depth) .none kV28 dc28 pm28 an28 cd28 ct28), sl28⟩) (c28 : PySem.W.codeIn K cd28 "Net.depth" = true) (k28 : PySem.W.keepIn K (.ref f28) = true)
    (z1 : PySem.W.nsIn K mainGlobals "len" = some none)
    (z2 : PySem.W.nsIn K mainGlobals "abs" = some none)
    (z3 : PySem.W.nsIn K mainGlobals "int" = some none)
    (z4 : PySem.W.nsIn K mainGlobals "divmod" = some none)
    (z5 : PySem.W.nsIn K mainGlobals "list" = some none)
    (z6 : PySem.W.nsIn K mainGlobals "enumerate" = some none)
    (z7 : PySem.W.nsIn K mainGlobals "isinstance" = some none)
    (z8 : PySem.W.nsIn K mainGlobals "tuple" = some none)
    (z9 : PySem.W.nsIn K mainGlobals "str" = some none)
    (z10 : PySem.W.nsIn K mainGlobals "bool" = some none)
    (z11 : PySem.W.nsIn K mainGlobals "zip" = some none)
    (z12 : PySem.W.nsIn K mainGlobals "all" = some none)
    (z13 : PySem.W.nsIn K mainGlobals "range" = some none)
    (z14 : PySem.W.nsIn K mainGlobals "max" = some none)
    (z15 : PySem.W.nsIn K mainGlobals "any" = some none)
    (z16 : PySem.W.nsIn K mainGlobals "min" = some none)
    (z17 : PySem.W.nsIn K mainGlobals "sum" = some none)
    (zsorted : PySem.W.nsIn K mainGlobals "sorted" = some none)
    (zrepr : PySem.W.nsIn K mainGlobals "repr" = some none)
    (zdict : PySem.W.nsIn K mainGlobals "dict" = some none)
    : ∃ fd : FuncData, (∀ (s : Shared) (v : Value), BindsTo s fd ⟨[v], []⟩ [("_law_script", v)]) ∧ ∀ base : Heap, K.In base → base.Ns mainGlobals mg → FnOkG l.prog w K mg base CX0 10 fa fd ["_law_script"] (spLaw K) := by
  have e := hfa.symm.trans (PySem.W.mg_of X G a14)
  cases e
  have F1 := fun_mk (st := s_sum_wires) l1 c1 k1
  have b1 := F1.binds (ps := ["net", "ones", "others", "carry"]) fun _ _ _ _ _ _ us hl => match us, hl with | [_, _, _, _], _ => rfl
  have m1 := PySem.W.mg_of X G a1
  have F2 := fun_mk (st := s_quick_sum_wires) l2 c2 k2
  have b2 := F2.binds (ps := ["net", "ones", "others", "carry"]) fun _ _ _ _ _ _ us hl => match us, hl with | [_, _, _, _], _ => rfl
  have m2 := PySem.W.mg_of X G a2
  have F3 := fun_mk (st := s_carry_wires) l3 c3 k3
  have b3 := F3.binds (ps := ["net", "spans"]) fun _ _ _ _ _ _ us hl => match us, hl with | [_, _], _ => rfl
  have m3 := PySem.W.mg_of X G a3
  have F4 := fun_mk (st := s_span_doubled) l4 c4 k4
  have b4 := F4.binds (ps := ["net", "spans", "place", "size"]) fun _ _ _ _ _ _ us hl => match us, hl with | [_, _, _, _], _ => rfl
  have m4 := PySem.W.mg_of X G a4
  have F5 := fun_mk (st := s_ran) l5 c5 k5
  have m5 := PySem.W.mg_of X G a5
  have F6 := fun_mk (st := s_gate_bits) l6 c6 k6
  have b6 := F6.binds (ps := ["gate", "wires", "full"]) fun _ _ _ _ _ _ us hl => match us, hl with | [_, _, _], _ => rfl
  have m6 := PySem.W.mg_of X G a6
  have F7 := fun_mk (st := sBox) l7 c7 k7
  have b7 := F7.binds (ps := ["_law_script", "_law_k"]) fun _ _ _ _ _ _ us hl => match us, hl with | [_, _], _ => rfl
  have m7 := PySem.W.mg_of X G a7
  have F8 := fun_mk (st := sTake) l8 c8 k8
  have b8 := F8.binds (ps := ["_law_box_here", "_law_size"]) fun _ _ _ _ _ _ us hl => match us, hl with | [_, _], _ => rfl
  have m8 := PySem.W.mg_of X G a8
  have F9 := fun_mk (st := s__law_wires) l9 c9 k9
  have b9 := F9.binds (ps := ["_law_net", "_law_box_here", "_law_size"]) fun _ _ _ _ _ _ us hl => match us, hl with | [_, _, _], _ => rfl
  have m9 := PySem.W.mg_of X G a9
  have F10 := fun_mk (st := s__law_values) l10 c10 k10
  have b10 := F10.binds (ps := ["_law_box_here", "_law_inputs", "_law_cases"]) fun _ _ _ _ _ _ us hl => match us, hl with | [_, _, _], _ => rfl
  have m10 := PySem.W.mg_of X G a10
  have F11 := fun_mk (st := s__law_number) l11 c11 k11
  have b11 := F11.binds (ps := ["_law_bits", "_law_case"]) fun _ _ _ _ _ _ us hl => match us, hl with | [_, _], _ => rfl
  have m11 := PySem.W.mg_of X G a11
  have F12 := fun_mk (st := s__law_handed) l12 c12 k12
  have b12 := F12.binds (ps := ["_law_net", "_law_box_here", "_law_size", "_law_kept"]) fun _ _ _ _ _ _ us hl => match us, hl with | [_, _, _, _], _ => rfl
  have m12 := PySem.W.mg_of X G a12
  have F13 := fun_mk (st := s__law_put) l13 c13 k13
  have b13 := F13.binds (ps := ["_law_net", "_law_box_here", "_law_kept"]) fun _ _ _ _ _ _ us hl => match us, hl with | [_, _, _], _ => rfl
  have m13 := PySem.W.mg_of X G a13
  have F14 := fun_mk (st := s_law) l14 c14 k14
  have F15 := fun_mk (st := s_Net___init__) l15 c15 k15
  have b15 := F15.binds (ps := ["self", "many"]) fun _ _ _ _ _ _ us hl => match us, hl with | [_, _], _ => rfl
  have M15 : Meth K C "__init__" f15 := ⟨a15, i15, k15⟩
  have F16 := fun_mk (st := s_Net_both) l16 c16 k16
  have b16 := F16.binds (ps := ["self", "a", "b"]) fun _ _ _ _ _ _ us hl => match us, hl with | [_, _, _], _ => rfl
  have M16 : Meth K C "both" f16 := ⟨a16, i16, k16⟩
  have F17 := fun_mk (st := s_Net_either) l17 c17 k17
  have b17 := F17.binds (ps := ["self", "a", "b"]) fun _ _ _ _ _ _ us hl => match us, hl with | [_, _, _], _ => rfl
  have M17 : Meth K C "either" f17 := ⟨a17, i17, k17⟩
  have F18 := fun_mk (st := s_Net_unlike) l18 c18 k18
  have b18 := F18.binds (ps := ["self", "a", "b"]) fun _ _ _ _ _ _ us hl => match us, hl with | [_, _, _], _ => rfl
  have M18 : Meth K C "unlike" f18 := ⟨a18, i18, k18⟩
  have F19 := fun_mk (st := s_Net_fixed) l19 c19 k19
  have b19 := F19.binds (ps := ["self", "bit"]) fun _ _ _ _ _ _ us hl => match us, hl with | [_, _], _ => rfl
  have M19 : Meth K C "fixed" f19 := ⟨a19, i19, k19⟩
  have F20 := fun_mk (st := s_Net_put) l20 c20 k20
  have b20 := F20.binds (ps := ["self", "kind", "wires"]) fun _ _ _ _ _ _ us hl => match us, hl with | [_, _, _], _ => rfl
  have M20 : Meth K C "put" f20 := ⟨a20, i20, k20⟩
  have F21 := fun_mk (st := s_Net_put_gate) l21 c21 k21
  have b21 := F21.binds (ps := ["self", "gate", "depth"]) fun _ _ _ _ _ _ us hl => match us, hl with | [_, _, _], _ => rfl
  have M21 : Meth K C "put_gate" f21 := ⟨a21, i21, k21⟩
  have F22 := fun_mk (st := s_Net_need) l22 c22 k22
  have b22 := F22.binds (ps := ["self", "wires"]) fun _ _ _ _ _ _ us hl => match us, hl with | [_, _], _ => rfl
  have M22 : Meth K C "need" f22 := ⟨a22, i22, k22⟩
  have F23 := fun_mk (st := s_Net_give) l23 c23 k23
  have b23 := F23.binds (ps := ["self", "name", "wires"]) fun _ _ _ _ _ _ us hl => match us, hl with | [_, _, _], _ => rfl
  have M23 : Meth K C "give" f23 := ⟨a23, i23, k23⟩
  have F24 := fun_mk (st := s_Net_given) l24 c24 k24
  have b24 := F24.binds (ps := ["self", "name"]) fun _ _ _ _ _ _ us hl => match us, hl with | [_, _], _ => rfl
  have M24 : Meth K C "given" f24 := ⟨a24, i24, k24⟩
  have F25 := fun_mk (st := s_Net_names) l25 c25 k25
  have b25 := F25.binds (ps := ["self"]) fun _ _ _ _ _ _ us hl => match us, hl with | [_], _ => rfl
  have M25 : Meth K C "names" f25 := ⟨a25, i25, k25⟩
  have F26 := fun_mk (st := s_Net_inputs) l26 c26 k26
  have b26 := F26.binds (ps := ["self"]) fun _ _ _ _ _ _ us hl => match us, hl with | [_], _ => rfl
  have M26 : Meth K C "inputs" f26 := ⟨a26, i26, k26⟩
  have F27 := fun_mk (st := s_Net_gates) l27 c27 k27
  have b27 := F27.binds (ps := ["self"]) fun _ _ _ _ _ _ us hl => match us, hl with | [_], _ => rfl
  have M27 : Meth K C "gates" f27 := ⟨a27, i27, k27⟩
  have F28 := fun_mk (st := s_Net_depth) l28 c28 k28
  have b28 := F28.binds (ps := ["self", "wire"]) fun _ _ _ _ _ _ us hl => match us, hl with | [_, _], _ => rfl
  have M28 : Meth K C "depth" f28 := ⟨a28, i28, k28⟩
  have clC : Cls K C := ⟨pgC, hdC, poC, saC⟩
  have mgC := PySem.W.mg_of X G aC
  have B : Bl mg := ⟨PySem.W.mg_none_of X G z1, PySem.W.mg_none_of X G z2, PySem.W.mg_none_of X G z3, PySem.W.mg_none_of X G z4, PySem.W.mg_none_of X G z5, PySem.W.mg_none_of X G z6, PySem.W.mg_none_of X G z7, PySem.W.mg_none_of X G z8, PySem.W.mg_none_of X G z9, PySem.W.mg_none_of X G z10, PySem.W.mg_none_of X G z11, PySem.W.mg_none_of X G z12, PySem.W.mg_none_of X G z13, PySem.W.mg_none_of X G z14, PySem.W.mg_none_of X G z15, PySem.W.mg_none_of X G z16, PySem.W.mg_none_of X G z17⟩
  refine ⟨PySem.W.fnOf "law" "law" (defArgs s_law) (defBody s_law) (defScope s_law) .none kV14 dc14 pm14 an14 cd14 ct14, fun s v => .of_eq rfl, fun base _ _ => ?_⟩
  have kb5_many : ∃ g, KBn K (PySem.W.fnOf "ran" "ran" (defArgs s_ran) (defBody s_ran) (defScope s_ran) .none (.ref Dk5) dc5 pm5 an5 cd5 ct5) ["net", "values", "many"] 2 ["many"] g (fun vs zs => vs ++ zs) := ⟨fun vs zs => vs ++ zs, ⟨kbn_of (st := s_ran) (ml := []) (gV := fun vs zs => vs ++ zs) (fun q hq => nomatch hq) (fun us ws l1 l2 => match us, ws, l1, l2 with | [_, _], [_], _, _ => (show _ = pure _ from rfl)) (fun _ _ r1 r2 => r1.append r2), fun r1 r2 => r1.append r2⟩⟩
  have L : LL K mg C f1 f2 f3 f4 f5 f6 f7 f8 f9 f10 f11 f12 f13 f15 f16 f17 f18 f19 f20 f21 f22 f23 f24 f25 f26 f27 f28 _ _ _ _ _ _ _ _ _ _ _ _ _ _ _ _ _ _ _ _ _ _ _ _ _ _ _  := ⟨F1, m1, b1, F2, m2, b2, F3, m3, b3, F4, m4, b4, F5, m5, kb5_many, F6, m6, b6, F7, m7, b7, F8, m8, b8, F9, m9, b9, F10, m10, b10, F11, m11, b11, F12, m12, b12, F13, m13, b13, ⟨clC, naC0, naC1, naC2, naC3, mgC⟩, ⟨mkC, a15, i15, kcC⟩, F15, b15, F16, b16, M16, F17, b17, M17, F18, b18, M18, F19, b19, M19, F20, b20, M20, F21, b21, M21, F22, b22, M22, F23, b23, M23, F24, b24, M24, F25, b25, M25, F26, b26, M26, F27, b27, M27, F28, b28, M28, PySem.W.mg_none_of X G zsorted, PySem.W.mg_none_of X G zrepr, PySem.W.mg_none_of X G zdict⟩
  exact ok_law F14 B L
end GZ
open PySem PySem.W PyProof.Rows
set_option maxRecDepth 100000 in
set_option maxHeartbeats 0 in
theorem PySem.Challenge.cw_guessedzeros_k47_sums_of_wires_holds : PySem.Challenge.rw_guessedzeros_k47_sums_of_wires.Holds := by
  w_on; o_law; k_headLK; (case hw => w_witness2)
  k_fill
  refine L2.walkG (l := PySem.Challenge.rw_guessedzeros_k47_sums_of_wires) (n := 63) (k := 10) (x := "_law_script") (CX := fun _ => L2.CX0) (sp := fun w => GZ.spLaw _) rfl (by decide) rfl ⟨rfl, by decide, by decide⟩ (fun w h Y => PySem.W.kIn_of Y) ?F (fun _ _ a ns hl _ hS => ⟨a, ns, rfl, hS, hl, fun _ => rfl⟩) (fun _ _ _ _ _ h => h)
  case F =>
    intro w mg fa h KX G hmg
    refine' GZ.all_mk KX G hmg ?a1 ?l1 ?c1 ?k1 ?a2 ?l2 ?c2 ?k2 ?a3 ?l3 ?c3 ?k3 ?a4 ?l4 ?c4 ?k4 ?a5 ?l5 ?c5 ?k5 ?w5_0 ?a6 ?l6 ?c6 ?k6 ?a7 ?l7 ?c7 ?k7 ?a8 ?l8 ?c8 ?k8 ?a9 ?l9 ?c9 ?k9 ?a10 ?l10 ?c10 ?k10 ?a11 ?l11 ?c11 ?k11 ?a12 ?l12 ?c12 ?k12 ?a13 ?l13 ?c13 ?k13 ?a14 ?l14 ?c14 ?k14 ?aC ?pgC ?hdC ?poC ?saC ?mkC ?kcC ?naC0 ?naC1 ?naC2 ?naC3 ?a15 ?i15 ?l15 ?c15 ?k15 ?a16 ?i16 ?l16 ?c16 ?k16 ?a17 ?i17 ?l17 ?c17 ?k17 ?a18 ?i18 ?l18 ?c18 ?k18 ?a19 ?i19 ?l19 ?c19 ?k19 ?a20 ?i20 ?l20 ?c20 ?k20 ?a21 ?i21 ?l21 ?c21 ?k21 ?a22 ?i22 ?l22 ?c22 ?k22 ?a23 ?i23 ?l23 ?c23 ?k23 ?a24 ?i24 ?l24 ?c24 ?k24 ?a25 ?i25 ?l25 ?c25 ?k25 ?a26 ?i26 ?l26 ?c26 ?k26 ?a27 ?i27 ?l27 ?c27 ?k27 ?a28 ?i28 ?l28 ?c28 ?k28 ?z1 ?z2 ?z3 ?z4 ?z5 ?z6 ?z7 ?z8 ?z9 ?z10 ?z11 ?z12 ?z13 ?z14 ?z15 ?z16 ?z17 ?zsorted ?zrepr ?zdict
    (case a1 => k_is)
    (case l1 => k_is)
    (case c1 => k_is)
    (case k1 => k_is)
    (case a2 => k_is)
    (case l2 => k_is)
    (case c2 => k_is)
    (case k2 => k_is)
    (case a3 => k_is)
    (case l3 => k_is)
    (case c3 => k_is)
    (case k3 => k_is)
    (case a4 => k_is)
    (case l4 => k_is)
    (case c4 => k_is)
    (case k4 => k_is)
    (case a5 => k_is)
    (case l5 => k_is)
    (case c5 => k_is)
    (case k5 => k_is)
    (case w5_0 => k_is)
    (case a6 => k_is)
    (case l6 => k_is)
    (case c6 => k_is)
    (case k6 => k_is)
    (case a7 => k_is)
    (case l7 => k_is)
    (case c7 => k_is)
    (case k7 => k_is)
    (case a8 => k_is)
    (case l8 => k_is)
    (case c8 => k_is)
    (case k8 => k_is)
    (case a9 => k_is)
    (case l9 => k_is)
    (case c9 => k_is)
    (case k9 => k_is)
    (case a10 => k_is)
    (case l10 => k_is)
    (case c10 => k_is)
    (case k10 => k_is)
    (case a11 => k_is)
    (case l11 => k_is)
    (case c11 => k_is)
    (case k11 => k_is)
    (case a12 => k_is)
    (case l12 => k_is)
    (case c12 => k_is)
    (case k12 => k_is)
    (case a13 => k_is)
    (case l13 => k_is)
    (case c13 => k_is)
    (case k13 => k_is)
    (case a14 => k_is)
    (case l14 => k_is)
    (case c14 => k_is)
    (case k14 => k_is)
    (case aC => k_is)
    (case pgC => k_is)
    (case hdC => k_is)
    (case poC => k_is)
    (case saC => k_is)
    (case mkC => k_is)
    (case kcC => k_is)
    (case naC0 => k_is)
    (case naC1 => k_is)
    (case naC2 => k_is)
    (case naC3 => k_is)
    (case a15 => k_is)
    (case i15 => k_is)
    (case l15 => k_is)
    (case c15 => k_is)
    (case k15 => k_is)
    (case a16 => k_is)
    (case i16 => k_is)
    (case l16 => k_is)
    (case c16 => k_is)
    (case k16 => k_is)
    (case a17 => k_is)
    (case i17 => k_is)
    (case l17 => k_is)
    (case c17 => k_is)
    (case k17 => k_is)
    (case a18 => k_is)
    (case i18 => k_is)
    (case l18 => k_is)
    (case c18 => k_is)
    (case k18 => k_is)
    (case a19 => k_is)
    (case i19 => k_is)
    (case l19 => k_is)
    (case c19 => k_is)
    (case k19 => k_is)
    (case a20 => k_is)
    (case i20 => k_is)
    (case l20 => k_is)
    (case c20 => k_is)
    (case k20 => k_is)
    (case a21 => k_is)
    (case i21 => k_is)
    (case l21 => k_is)
    (case c21 => k_is)
    (case k21 => k_is)
    (case a22 => k_is)
    (case i22 => k_is)
    (case l22 => k_is)
    (case c22 => k_is)
    (case k22 => k_is)
    (case a23 => k_is)
    (case i23 => k_is)
    (case l23 => k_is)
    (case c23 => k_is)
    (case k23 => k_is)
    (case a24 => k_is)
    (case i24 => k_is)
    (case l24 => k_is)
    (case c24 => k_is)
    (case k24 => k_is)
    (case a25 => k_is)
    (case i25 => k_is)
    (case l25 => k_is)
    (case c25 => k_is)
    (case k25 => k_is)
    (case a26 => k_is)
    (case i26 => k_is)
    (case l26 => k_is)
    (case c26 => k_is)
    (case k26 => k_is)
    (case a27 => k_is)
    (case i27 => k_is)
    (case l27 => k_is)
    (case c27 => k_is)
    (case k27 => k_is)
    (case a28 => k_is)
    (case i28 => k_is)
    (case l28 => k_is)
    (case c28 => k_is)
    (case k28 => k_is)
    (case z1 => k_is)
    (case z2 => k_is)
    (case z3 => k_is)
    (case z4 => k_is)
    (case z5 => k_is)
    (case z6 => k_is)
    (case z7 => k_is)
    (case z8 => k_is)
    (case z9 => k_is)
    (case z10 => k_is)
    (case z11 => k_is)
    (case z12 => k_is)
    (case z13 => k_is)
    (case z14 => k_is)
    (case z15 => k_is)
    (case z16 => k_is)
    (case z17 => k_is)
    (case zsorted => k_is)
    (case zrepr => k_is)
    (case zdict => k_is)

import PyProof.Rows.All
import Wide.All
import OpenK.AllK
import Wide.FinOn
import HandS.ForMost
import HandS.Walk
import HandS.Zip
import HandS.WideBits
import HandS.IsInst
import OpenK.KEqL
import HandS.More
import HandS.Flow
import HandS.NoneIn
import HandS.Defaults
import HandS.Wide
import HandS.Style
import HandS.Dict
import HandS.Star
import HandS.Conv
import HandS.Small
import HandS.Codes
import HandS.Text
import HandS.WordsDict
import KE.OsRunLaw
import KE.GoesZip
import KE.GoesMore
import KE.GoesEnum
import KE.KUnpackStar
import KE.KRevSl
import HandS.ListItems
import HandS.DictComp
import HandS.Deep
import HandS.TupAny
import HandS.OwnEq
import PyProof.Rows.FactsT3
import PySem.Challenge.RW_guessedzeros_k51_likes_and_shared_wires
set_option Elab.async false
set_option linter.all false
set_option maxRecDepth 100000
set_option maxHeartbeats 40000000
namespace GZ
open PySem PySem.Spec PyProof.Rows L2
/-! ### the text by places -/
def topS (i : Nat) : Stmt := PySem.Challenge.pw_guessedzeros_k51_likes_and_shared_wires.main.body.getD i (.Pass ⟨0, 0, 0, 0⟩)
abbrev s_Net___init__ : Stmt := inClass (topS 5) 0
theorem sc_Net___init__ : FnScope ["self", "many"] ["self", "many"] (defScope s_Net___init__) := ⟨rfl, rfl, rfl, by decide +kernel, rfl, by decide +kernel, by decide +kernel⟩
abbrev s_Net_both : Stmt := inClass (topS 5) 1
theorem sc_Net_both : FnScope ["self", "a", "b"] ["self", "a", "b"] (defScope s_Net_both) := ⟨rfl, rfl, rfl, by decide +kernel, rfl, by decide +kernel, by decide +kernel⟩
abbrev s_Net_either : Stmt := inClass (topS 5) 2
theorem sc_Net_either : FnScope ["self", "a", "b"] ["self", "a", "b"] (defScope s_Net_either) := ⟨rfl, rfl, rfl, by decide +kernel, rfl, by decide +kernel, by decide +kernel⟩
abbrev s_Net_unlike : Stmt := inClass (topS 5) 3
theorem sc_Net_unlike : FnScope ["self", "a", "b"] ["self", "a", "b"] (defScope s_Net_unlike) := ⟨rfl, rfl, rfl, by decide +kernel, rfl, by decide +kernel, by decide +kernel⟩
abbrev s_Net_other : Stmt := inClass (topS 5) 4
theorem sc_Net_other : FnScope ["self", "a"] ["self", "a"] (defScope s_Net_other) := ⟨rfl, rfl, rfl, by decide +kernel, rfl, by decide +kernel, by decide +kernel⟩
abbrev s_Net_fixed : Stmt := inClass (topS 5) 5
theorem sc_Net_fixed : FnScope ["self", "bit"] ["self", "bit"] (defScope s_Net_fixed) := ⟨rfl, rfl, rfl, by decide +kernel, rfl, by decide +kernel, by decide +kernel⟩
abbrev s_Net_put : Stmt := inClass (topS 5) 6
theorem sc_Net_put : FnScope ["self", "kind", "wires", "depth", "wire"] ["self", "kind", "wires"] (defScope s_Net_put) := ⟨rfl, rfl, rfl, by decide +kernel, rfl, by decide +kernel, by decide +kernel⟩
abbrev s_Net_put_gate : Stmt := inClass (topS 5) 7
theorem sc_Net_put_gate : FnScope ["self", "gate", "depth"] ["self", "gate", "depth"] (defScope s_Net_put_gate) := ⟨rfl, rfl, rfl, by decide +kernel, rfl, by decide +kernel, by decide +kernel⟩
abbrev s_Net_need : Stmt := inClass (topS 5) 8
theorem sc_Net_need : FnScope ["self", "wires", "wire"] ["self", "wires"] (defScope s_Net_need) := ⟨rfl, rfl, rfl, by decide +kernel, rfl, by decide +kernel, by decide +kernel⟩
abbrev s_Net_give : Stmt := inClass (topS 5) 9
theorem sc_Net_give : FnScope ["self", "name", "wires"] ["self", "name", "wires"] (defScope s_Net_give) := ⟨rfl, rfl, rfl, by decide +kernel, rfl, by decide +kernel, by decide +kernel⟩
abbrev s_Net_given : Stmt := inClass (topS 5) 10
theorem sc_Net_given : FnScope ["self", "name"] ["self", "name"] (defScope s_Net_given) := ⟨rfl, rfl, rfl, by decide +kernel, rfl, by decide +kernel, by decide +kernel⟩
abbrev s_Net_names : Stmt := inClass (topS 5) 11
theorem sc_Net_names : FnScope ["self"] ["self"] (defScope s_Net_names) := ⟨rfl, rfl, rfl, by decide +kernel, rfl, by decide +kernel, by decide +kernel⟩
abbrev s_Net_inputs : Stmt := inClass (topS 5) 12
theorem sc_Net_inputs : FnScope ["self"] ["self"] (defScope s_Net_inputs) := ⟨rfl, rfl, rfl, by decide +kernel, rfl, by decide +kernel, by decide +kernel⟩
abbrev s_Net_gates : Stmt := inClass (topS 5) 13
theorem sc_Net_gates : FnScope ["self"] ["self"] (defScope s_Net_gates) := ⟨rfl, rfl, rfl, by decide +kernel, rfl, by decide +kernel, by decide +kernel⟩
abbrev s_Net___len__ : Stmt := inClass (topS 5) 15
theorem sc_Net___len__ : FnScope ["self"] ["self"] (defScope s_Net___len__) := ⟨rfl, rfl, rfl, by decide +kernel, rfl, by decide +kernel, by decide +kernel⟩
abbrev s_Net_like : Stmt := inClass (topS 5) 16
theorem sc_Net_like : FnScope ["self", "twin", "name"] ["self"] (defScope s_Net_like) := ⟨rfl, rfl, rfl, by decide +kernel, rfl, by decide +kernel, by decide +kernel⟩
abbrev s_sum_wires : Stmt := topS 7
theorem sc_sum_wires : FnScope ["net", "ones", "others", "carry", "total", "one", "other", "half"] ["net", "ones", "others", "carry"] (defScope s_sum_wires) := ⟨rfl, rfl, rfl, by decide +kernel, rfl, by decide +kernel, by decide +kernel⟩
abbrev s_shift_wires : Stmt := topS 8
theorem sc_shift_wires : FnScope ["net", "ones", "by", "many", "nought", "kept", "more", "amount", "wire", "lost"] ["net", "ones", "by"] (defScope s_shift_wires) := ⟨rfl, rfl, rfl, by decide +kernel, rfl, by decide +kernel, by decide +kernel⟩
abbrev s_left_wires : Stmt := topS 9
theorem sc_left_wires : FnScope ["net", "ones", "by", "nought", "kept", "amount", "wire"] ["net", "ones", "by"] (defScope s_left_wires) := ⟨rfl, rfl, rfl, by decide +kernel, rfl, by decide +kernel, by decide +kernel⟩
abbrev s_shift_amounts : Stmt := topS 10
theorem sc_shift_amounts : FnScope ["net", "many", "by", "near", "far", "place", "wire"] ["net", "many", "by"] (defScope s_shift_amounts) := ⟨rfl, rfl, rfl, by decide +kernel, rfl, by decide +kernel, by decide +kernel⟩
abbrev s_any_wire : Stmt := topS 11
theorem sc_any_wire : FnScope ["net", "wires", "found", "wire"] ["net", "wires"] (defScope s_any_wire) := ⟨rfl, rfl, rfl, by decide +kernel, rfl, by decide +kernel, by decide +kernel⟩
abbrev s_zero_wires : Stmt := topS 12
theorem sc_zero_wires : FnScope ["net", "ones", "firsts", "bits", "place", "zeros", "wire"] ["net", "ones"] (defScope s_zero_wires) := ⟨rfl, rfl, rfl, by decide +kernel, rfl, by decide +kernel, by decide +kernel⟩
abbrev s_first_wires : Stmt := topS 13
theorem sc_first_wires : FnScope ["net", "ones", "firsts", "clear", "one"] ["net", "ones"] (defScope s_first_wires) := ⟨rfl, rfl, rfl, by decide +kernel, rfl, by decide +kernel, by decide +kernel⟩
abbrev s_mark_wires : Stmt := topS 14
theorem sc_mark_wires : FnScope ["net", "ones", "others", "digits", "marks", "place", "bars", "one", "other"] ["net", "ones", "others"] (defScope s_mark_wires) := ⟨rfl, rfl, rfl, by decide +kernel, rfl, by decide +kernel, by decide +kernel⟩
abbrev s_chosen_wires : Stmt := topS 15
theorem sc_chosen_wires : FnScope ["net", "wire", "ones", "others", "stays", "one", "other"] ["net", "wire", "ones", "others"] (defScope s_chosen_wires) := ⟨rfl, rfl, rfl, by decide +kernel, rfl, by decide +kernel, by decide +kernel⟩
abbrev s_times_wires : Stmt := topS 16
theorem sc_times_wires : FnScope ["net", "ones", "others", "nought", "total", "ended", "other", "row", "last", "one"] ["net", "ones", "others"] (defScope s_times_wires) := ⟨rfl, rfl, rfl, by decide +kernel, rfl, by decide +kernel, by decide +kernel⟩
abbrev s_ran : Stmt := topS 18
theorem sc_ran : FnScope ["net", "values", "many", "full", "wires", "gate", "value", "name", "wire"] ["net", "values", "many"] (defScope s_ran) := ⟨rfl, rfl, rfl, by decide +kernel, rfl, by decide +kernel, by decide +kernel⟩
abbrev s_gate_bits : Stmt := topS 19
theorem sc_gate_bits : FnScope ["gate", "wires", "full", "kind", "one", "other"] ["gate", "wires", "full"] (defScope s_gate_bits) := ⟨rfl, rfl, rfl, by decide +kernel, rfl, by decide +kernel, by decide +kernel⟩
abbrev sBox : Stmt := topS 21
abbrev sTake : Stmt := topS 22
abbrev s__law_made : Stmt := topS 23
theorem sc__law_made : FnScope ["_law_rows", "_law_wide", "_law_net", "_law_row"] ["_law_rows", "_law_wide"] (defScope s__law_made) := ⟨rfl, rfl, rfl, by decide +kernel, rfl, by decide +kernel, by decide +kernel⟩
abbrev s__law_part : Stmt := topS 24
theorem sc__law_part : FnScope ["_law_net", "_law_sort", "_law_wires", "_law_half"] ["_law_net", "_law_sort", "_law_wires"] (defScope s__law_part) := ⟨rfl, rfl, rfl, by decide +kernel, rfl, by decide +kernel, by decide +kernel⟩
abbrev s__law_deed_right : Stmt := topS 25
theorem sc__law_deed_right : FnScope ["_law_box_here", "_law_nets", "_law_kept", "_law_at", "_law_how", "_law_net", "_law_own", "_law_there", "_law_wires", "_law_name", "_law_sort", "_law_like", "_law_held", "_law_told", "_law_turn"] ["_law_box_here", "_law_nets", "_law_kept"] (defScope s__law_deed_right) := ⟨rfl, rfl, rfl, by decide +kernel, rfl, by decide +kernel, by decide +kernel⟩
abbrev s__law_stands : Stmt := topS 26
theorem sc__law_stands : FnScope ["_law_net", "_law_own", "_law_lists", "_law_one", "_law_anew", "_law_name", "_law_values", "_law_at"] ["_law_net", "_law_own"] (defScope s__law_stands) := ⟨rfl, rfl, rfl, by decide +kernel, rfl, by decide +kernel, by decide +kernel⟩
abbrev s_law : Stmt := topS 27
theorem sc_law : FnScope ["_law_script", "_law_k", "_law_box_here", "_law_nets", "_law_kept", "_law_turn", "_law_net", "_law_own"] ["_law_script"] (defScope s_law) := ⟨rfl, rfl, rfl, by decide +kernel, rfl, by decide +kernel, by decide +kernel⟩
/-! ### built-in names that the text leaves alone -/
structure Bl (mg : Str → Option Value) : Prop where
  len : mg "len" = none
  abs : mg "abs" = none
  int : mg "int" = none
  divmod : mg "divmod" = none
  list : mg "list" = none
  enumerate : mg "enumerate" = none
  isinstance : mg "isinstance" = none
  tuple : mg "tuple" = none
  str : mg "str" = none
  bool : mg "bool" = none
  zip : mg "zip" = none
  all : mg "all" = none
  range : mg "range" = none
  max : mg "max" = none
  any : mg "any" = none
  min : mg "min" = none
  sum : mg "sum" = none
/-! ### rules with the written part told (for the blocks of comprehensions) -/
section
variable {X : Cx} {K : PySem.W.Frag}
theorem call_len_seqK (h : X.K = K := by rfl) : CallR X (.builtin "len") (fun xs H Q => ∃ p ys, xs = [.ref p] ∧ (SqL K H p ys ∨ SqT K H p ys) ∧ Q (.int ys.length) H) := by subst h; exact call_len_seq
theorem call_list_ofK (h : X.K = K := by rfl) : CallR X (.type "list") (fun xs H Q => ∃ p ys, xs = [.ref p] ∧ (SqL K H p ys ∨ SqT K H p ys) ∧ ∀ l, H l = none → Q (.ref l) (upd H l (.lst ys))) := by subst h; exact call_list_of
theorem call_tuple_ofK (h : X.K = K := by rfl) : CallR X (.type "tuple") (fun xs H Q => ∃ p ys, xs = [.ref p] ∧ ((SqL K H p ys ∧ ∀ l, H l = none → Q (.ref l) (upd H l (.tup ys))) ∨ (SqT K H p ys ∧ Q (.ref p) H))) := by subst h; exact call_tuple_of
theorem ix_listK (h : X.K = K := by rfl) : IxR X (rIxL K) := by subst h; exact ix_list
theorem ix_tupK (h : X.K = K := by rfl) : IxR X (rIxT K) := by subst h; exact ix_tup
theorem ix_seqK (h : X.K = K := by rfl) : IxR X (rIx K) := by subst h; exact ix_seq
theorem op_in_seqK (h : X.K = K := by rfl) : OpR X (compareOp .In) (rIn K false) := by subst h; exact op_in_seq
theorem op_notIn_seqK (h : X.K = K := by rfl) : OpR X (compareOp .NotIn) (rIn K true) := by subst h; exact op_notIn_seq
theorem sl_listK (h : X.K = K := by rfl) : SlR X (rSlL K) := by subst h; exact sl_list
theorem cr_sumK (hc : X.calm = true) (h : X.K = K := by rfl) : CallR X (.builtin "sum") (rSum K) := by subst h; exact cr_sum hc
theorem cr_allK (hc : X.calm = true) (h : X.K = K := by rfl) : CallR X (.builtin "all") (rAll K) := by subst h; exact cr_all hc
theorem cr_anyK (hc : X.calm = true) (h : X.K = K := by rfl) : CallR X (.builtin "any") (rAny K) := by subst h; exact cr_any hc
theorem call_isiK' (h : X.K = K := by rfl) : CallR X (.builtin "isinstance") (rIsi K) := by subst h; exact call_isi
theorem pi_listK {tg l : Expr} {tl : TE} (hl : PE X l tl) (h : X.K = K := by rfl) : PI X tg l (iList K tl) := by subst h; exact pi_list hl
theorem pi_tupK {tg l : Expr} {tl : TE} (hl : PE X l tl) (h : X.K = K := by rfl) : PI X tg l (iTup K tl) := by subst h; exact pi_tup hl
theorem pe_fldK {e : Expr} {ta : TE} {f : Str} {pos : Pos} (he : PE X e ta) (hb : attributeBase e f X.env (eval e X.env) = eval e X.env) (h : X.K = K := by rfl) : PE X (.Attribute e f pos) (tFld K ta f) := by subst h; exact pe_fld he hb
end
/-! ### heaps -/
theorem same_upd {H : Hp} {p : Addr} {o : HO} (h : H p = none) : Same H (upd H p o) := fun b x e => by
  rw [upd_ne (ne_of_none e h)]
  exact e
/-- all but what stands at b is as it was -/
def Keep (b : Addr) (H H' : Hp) : Prop := ∀ p o, H p = some o → p ≠ b → H' p = some o
theorem Keep.refl (b : Addr) (H : Hp) : Keep b H H := fun _ _ h _ => h
theorem Keep.trans {b : Addr} {H H1 H2 : Hp} (x : Keep b H H1) (y : Keep b H1 H2) : Keep b H H2 := fun p o h n => y p o (x p o h n) n
theorem Keep.ofSame {b : Addr} {H H1 : Hp} (x : Same H H1) : Keep b H H1 := fun p o h _ => x p o h
theorem Keep.upd {b : Addr} {H : Hp} {o : HO} : Keep b H (upd H b o) := fun p x h n => by
  rw [upd_ne n]
  exact h
theorem Keep.new {b p : Addr} {H : Hp} {o : HO} (h : H p = none) : Keep b H (L2.upd H p o) := .ofSame (same_upd h)
theorem Keep.seq {K : PySem.W.Frag} {b a : Addr} {H H' : Hp} {xs : List V} (e : Keep b H H') (n : a ≠ b) (h : SqL K H a xs) : SqL K H' a xs := by
  rcases h with (h | ⟨o, h⟩) | h
  · exact .inl (.inl (e _ _ h n))
  · exact .inl (.inr ⟨o, e _ _ h n⟩)
  · exact .inr h
theorem Keep.seqT {K : PySem.W.Frag} {b a : Addr} {H H' : Hp} {xs : List V} (e : Keep b H H') (n : a ≠ b) (h : SqT K H a xs) : SqT K H' a xs := by
  rcases h with (h | ⟨o, h⟩) | h
  · exact .inl (.inl (e _ _ h n))
  · exact .inl (.inr ⟨o, e _ _ h n⟩)
  · exact .inr h
theorem Same.seqT {K : PySem.W.Frag} {a : Addr} {H H' : Hp} {xs : List V} (e : Same H H') (h : SqT K H a xs) : SqT K H' a xs := by
  rcases h with (h | ⟨o, h⟩) | h
  · exact .inl (.inl (e _ _ h))
  · exact .inl (.inr ⟨o, e _ _ h⟩)
  · exact .inr h
/-- a drawing box: three ints, the last at most c -/
def BoxAt (c : Int) (H : Hp) (b : Addr) : Prop := ∃ x0 x1 x2 : Int, H b = some (.lst [.int x0, .int x1, .int x2]) ∧ 0 ≤ x0 ∧ 0 ≤ x1 ∧ x1 < 2147483647 ∧ 0 ≤ x2 ∧ x2 ≤ c
theorem BoxAt.mono {c d : Int} {H : Hp} {b : Addr} (h : BoxAt c H b) (l : c ≤ d) : BoxAt d H b := by
  obtain ⟨x0, x1, x2, e, a1, a2, a3, a4, a5⟩ := h
  exact ⟨x0, x1, x2, e, a1, a2, a3, a4, by omega⟩
theorem BoxAt.same {c : Int} {H H' : Hp} {b : Addr} (h : BoxAt c H b) (s : Same H H') : BoxAt c H' b := by
  obtain ⟨x0, x1, x2, e, r⟩ := h
  exact ⟨x0, x1, x2, s _ _ e, r⟩
theorem BoxAt.at {c : Int} {H H' : Hp} {b : Addr} (h : BoxAt c H b) (s : H' b = H b) : BoxAt c H' b := by
  obtain ⟨x0, x1, x2, e, r⟩ := h
  exact ⟨x0, x1, x2, by rw [s]; exact e, r⟩
theorem BoxAt.ne {c : Int} {H : Hp} {b p : Addr} (h : BoxAt c H b) (n : H p = none) : b ≠ p := by
  obtain ⟨x0, x1, x2, e, r⟩ := h
  exact ne_of_none e n
theorem e7 : (10 : Int) ^ ((7 : Int).toNat) = 10000000 := by decide
theorem e18 : (10 : Int) ^ ((18 : Int).toNat) = 1000000000000000000 := by decide
theorem divp_small {i j : Int} (h0 : 0 < j) (h1 : j < 2 ^ 250) : CDivP i j := by
  refine ⟨h0, ?_⟩
  show (decide ((if j == 0 then 0 else j.natAbs.log2 / 30 + 1) > 300) && _) = false
  rw [if_neg (show ¬ (j == 0) = true by simpa using (show j ≠ 0 by omega))]
  have hl : j.natAbs.log2 < 250 := PySem.Flt.log2_lt_of (by decide) (by omega)
  rw [decide_eq_false (show ¬ (j.natAbs.log2 / 30 + 1 > 300) by omega), Bool.false_and]
section
variable {P : Program} {w : World} {K : PySem.W.Frag} {mg : Str → Option Value} {base : Heap}
/-! ### _law_take -/
theorem scTake : FnScope ["_law_box_here", "_law_size", "_law_found", "_law_step", "_law_once", "_law_twice"] ["_law_box_here", "_law_size"] (defScope sTake) := ⟨rfl, rfl, rfl, by decide +kernel, rfl, by decide +kernel, by decide +kernel⟩
def spTake (k : Nat) : Sp := fun vs H Q _ => ∃ (b : Addr) (n c : Int), vs = [.ref b, .int n] ∧ BoxAt c H b ∧ 1 ≤ n ∧ n ≤ 10000000 ^ k ∧ n < 2 ^ 250 ∧ c + 2 ^ k ≤ 1000000000 ∧ 0 < k ∧
  ∀ (r : Int) (H' : Hp), 0 ≤ r → r < n → BoxAt (c + 2 ^ (k - 1)) H' b → Keep b H H' → Q (.int r) H'
theorem take_none {f : Addr} {fd : FuncData} : FnOk P w K mg base CX0 0 f fd ["_law_box_here", "_law_size"] (spTake 0) := by
  have no : ∀ vs H Q E, ¬ spTake 0 vs H Q E := fun vs H Q E h => by
    obtain ⟨b, n, c, _, _, _, _, _, _, h0, _⟩ := h
    omega
  exact ⟨fun vs H Q E h => absurd h (no vs H Q E), fun A outer s H args us vs Q E _ _ _ _ h => absurd h (no vs H Q E)⟩
theorem ok_take1 {f : Addr} {fd : FuncData} {k : Nat} (F : Fun K "_law_take" "_law_take" sTake f fd) (G : FnOk P w K mg base CX0 k f fd ["_law_box_here", "_law_size"] (spTake k)) (bf : Binds K fd ["_law_box_here", "_law_size"] []) (mf : mg "_law_take" = some (.ref f)) (B : Bl mg) :
    FnOk P w K mg base CX0 (k + 1) f fd ["_law_box_here", "_law_size"] (spTake (k + 1)) := by
  refine F.ok scTake (fun vs H Q E h => ?_) (fun cdv A outer s H vs Q E hr h => ?_)
  · obtain ⟨b, n, c, rfl, _⟩ := h
    rfl
  obtain ⟨b, n, c, rfl, hB, hn1, hnk, hn60, hc, _, q⟩ := h
  obtain ⟨x0, x1, x2, hb, h0, h1, h1', h2, h2'⟩ := hB
  have hp : (0 : Int) < 2 ^ k := Int.pow_pos (by decide)
  have hk2 : (2 : Int) ^ (k + 1) = 2 ^ k * 2 := Int.pow_succ 2 k
  refine ⟨_, pss_cons (ps_if (pt_cmpR op_gt (pe_ix ix_list (pv 0) pe_int (fun _ _ => rfl)) pe_int (nomark _))
      (pss_cons (ps_asg (pe_callB call_divmodW (by rfl) B.divmod boot_divmod (pa_cons (pe_ix ix_list (pv 0) pe_int (fun _ _ => rfl)) (pa_cons (pv 1) pa_nil)))
          (pg_tup (by rfl) (pgs_cons (pg_sub (pv 0) pe_int set_list) (pgs_cons (pg_name (i := 2) scTake.nd rfl (.inl rfl)) pgs_nil))))
        (pss_one (ps_ret (pv 2)))) pss_nil)
    (pss_cons (ps_if (pt_cmpR op_gt (pv 1) (pe_op op_pow pe_int pe_int) (nomark _))
      (pss_one (ps_ret (pe_op op_mod (pe_op op_add (pe_call G hr (by rfl) mf F.kp bf .nil pass0 (pa_cons (pv 0) (pa_cons (pe_op op_pow pe_int pe_int) pa_nil)))
          (pe_op op_mul (pe_op op_pow pe_int pe_int) (pe_call G hr (by rfl) mf F.kp bf .nil pass0 (pa_cons (pv 0) (pa_cons (pe_op op_add (pe_op op_fdiv (pe_op op_sub (pv 1) pe_int) (pe_op op_pow pe_int pe_int)) pe_int) pa_nil))))) (pv 1)))) pss_nil)
    (pss_cons (ps_asg (pe_op op_add (pe_ix ix_list (pv 0) pe_int (fun _ _ => rfl)) pe_int) (pg_sub (pv 0) pe_int set_list))
    (pss_cons (ps_set (i := 3) scTake.nd rfl (.inl rfl) (pe_op op_add pe_int (pe_op op_mul (pe_ix ix_list (pv 0) pe_int (fun _ _ => rfl)) (pe_ix ix_list (pv 0) pe_int (fun _ _ => rfl)))))
    (pss_cons (ps_set (i := 4) scTake.nd rfl (.inl rfl) (pe_op op_mod (pe_op op_mul (pe_op op_add (pe_ix ix_list (pv 0) pe_int (fun _ _ => rfl)) (pe_op op_mul pe_int (pe_ix ix_list (pv 0) pe_int (fun _ _ => rfl)))) (pv 3)) pe_int))
    (pss_cons (ps_set (i := 5) scTake.nd rfl (.inl rfl) (pe_op op_mod (pe_op op_add (pe_op op_mul (pv 4) (pe_op op_add (pe_op op_mod (pv 4) pe_int) pe_int)) (pe_ix ix_list (pv 0) pe_int (fun _ _ => rfl))) pe_int))
    (pss_one (ps_ret (pe_op op_mod (pe_op op_fdiv (pe_op op_mod (pe_op op_mul (pv 5) (pe_op op_add (pe_op op_mod (pv 5) pe_int) pe_int)) pe_int) pe_int) (pv 1))))))))), ?_⟩
  refine ⟨_, rfl, b, _, _, _, rfl, rfl, SqL.of hb, rfl, _, _, rfl, rfl, _, rfl, ite2 (fun cc => ?_) (fun cc => ?_)⟩
  · -- the great number's own digits
    refine ⟨_, rfl, b, _, _, _, rfl, rfl, SqL.of hb, rfl, _, rfl, _, _, rfl, divp_small (by omega) (by omega), fun p np => ?_⟩
    have nbp : b ≠ p := ne_of_none hb np
    refine ⟨p, _, rfl, .inl (.inl upd_same), rfl, _, _, rfl, _, rfl, b, _, _, 0, rfl, rfl, (by rw [upd_ne nbp]; exact hb), rfl, _, _, rfl, rfl, _, rfl, ?_⟩
    refine q _ _ (Int.emod_nonneg _ (by omega)) (Int.emod_lt_of_pos _ (by omega)) ⟨x0 / n, x1, x2, upd_same, Int.ediv_nonneg h0 (by omega), h1, h1', h2, by show x2 ≤ c + 2 ^ k; omega⟩ ?_
    exact Keep.trans (Keep.new np) Keep.upd
  · refine ⟨_, rfl, _, _, rfl, rfl, ⟨by decide, by decide, by decide⟩, _, _, rfl, rfl, _, rfl, ite2 (fun c2 => ?_) (fun c2 => ?_)⟩
    · -- two lesser draws
      have c3 : (10 : Int) ^ ((7 : Int).toNat) < n := of_decide_eq_true c2
      rw [e7] at c3
      have hk : 0 < k := by
        rcases Nat.eq_zero_or_pos k with z | z
        · subst z
          rw [show (10000000 : Int) ^ (0 + 1) = 10000000 by decide] at hnk
          omega
        · exact z
      obtain ⟨j, rfl⟩ : ∃ j, k = j + 1 := ⟨k - 1, by omega⟩
      have hj2 : (2 : Int) ^ (j + 1) = 2 ^ j * 2 := Int.pow_succ 2 j
      have hjp : (0 : Int) < 2 ^ j := Int.pow_pos (by decide)
      have h10 : (10000000 : Int) ≤ 10000000 ^ (j + 1) := by
        rw [Int.pow_succ]
        have : (0 : Int) < 10000000 ^ j := Int.pow_pos (by decide)
        omega
      have hdiv : (n - 1) / 10000000 + 1 ≤ 10000000 ^ (j + 1) := by
        rw [Int.pow_succ] at hnk
        have : n - 1 < 10000000 ^ (j + 1) * 10000000 := by omega
        have := Int.ediv_lt_of_lt_mul (by decide) this
        omega
      refine ⟨_, rfl, _, _, rfl, rfl, ⟨by decide, by decide, by decide⟩, b, _, c, rfl, ⟨x0, x1, x2, hb, h0, h1, h1', h2, h2'⟩, (by rw [e7]; decide), (by rw [e7]; exact h10), (by rw [e7]; decide), by omega, by omega, fun r1 H1 a1 a2 B1 k1 => ?_⟩
      refine ⟨_, _, rfl, rfl, ⟨by decide, by decide, by decide⟩, _, rfl, _, rfl, _, _, rfl, rfl, _, _, rfl, rfl, ⟨by decide, by decide, by decide⟩, _, _, rfl, rfl, (by rw [e7]; exact ⟨by decide, by decide⟩), _, _, rfl, rfl, ?_⟩
      rw [e7]
      refine ⟨b, _, c + 2 ^ j, rfl, B1, by omega, hdiv, by omega, by omega, by omega, fun r2 H2 a3 a4 B2 k2 => ?_⟩
      refine ⟨_, _, rfl, rfl, .inl ⟨by decide, by decide⟩, _, _, rfl, rfl, _, rfl, _, _, rfl, rfl, (by show (0 : Int) < n; omega), ?_⟩
      refine q _ _ (Int.emod_nonneg _ (by omega)) (Int.emod_lt_of_pos _ (by omega)) (B2.mono ?_) (k1.trans k2)
      show c + 2 ^ j + 2 ^ j ≤ c + 2 ^ (j + 1)
      omega
    · -- a turn of the wheel
      refine ⟨_, rfl, b, _, _, _, rfl, rfl, SqL.of hb, rfl, _, _, rfl, rfl, _, rfl, b, _, _, 2, rfl, rfl, hb, rfl, ?_⟩
      have hb2 : (upd H b (.lst [.int x0, .int x1, .int (x2 + 1)])) b = some (.lst [.int x0, .int x1, .int (x2 + 1)]) := upd_same
      refine ⟨_, rfl, b, _, _, _, rfl, rfl, SqL.of hb2, rfl, _, rfl, b, _, _, _, rfl, rfl, SqL.of hb2, rfl, _, _, rfl, rfl, .inl ⟨by omega, by omega⟩, _, _, rfl, rfl, ?_⟩
      refine ⟨_, rfl, b, _, _, _, rfl, rfl, SqL.of hb2, rfl, _, rfl, b, _, _, _, rfl, rfl, SqL.of hb2, rfl, _, _, rfl, rfl, .inl ⟨by omega, by omega⟩, _, _, rfl, rfl, _, rfl, _, _, rfl, rfl, .inl ⟨by omega, by omega⟩, _, _, rfl, rfl, (by show (0 : Int) < 2147483587; decide), ?_⟩
      generalize (x1 + 39373 * (x2 + 1)) * (69621 + (x2 + 1) * (x2 + 1)) = y
      have y1 := Int.emod_nonneg y (show (2147483587 : Int) ≠ 0 by decide)
      have y2 := Int.emod_lt_of_pos y (show (0 : Int) < 2147483587 by decide)
      refine ⟨_, rfl, _, rfl, _, _, rfl, rfl, (by show (0 : Int) < 30011; decide), _, _, rfl, rfl, _, _, rfl, rfl, .inl ⟨by omega, by omega⟩, _, rfl, b, _, _, _, rfl, rfl, SqL.of hb2, rfl, _, _, rfl, rfl, _, _, rfl, rfl, (by show (0 : Int) < 2147483563; decide), ?_⟩
      generalize (y % 2147483587 * (y % 2147483587 % 30011 + 5) + (x2 + 1)) = z
      have z1 := Int.emod_nonneg z (show (2147483563 : Int) ≠ 0 by decide)
      have z2 := Int.emod_lt_of_pos z (show (0 : Int) < 2147483563 by decide)
      refine ⟨_, rfl, _, rfl, _, _, rfl, rfl, (by show (0 : Int) < 1013; decide), _, _, rfl, rfl, _, _, rfl, rfl, .inl ⟨by omega, by omega⟩, _, _, rfl, rfl, (by show (0 : Int) < 998244353; decide), _, _, rfl, rfl, ⟨by decide, by decide⟩, _, rfl, _, _, rfl, rfl, (by show (0 : Int) < n; omega), ?_⟩
      refine q _ _ (Int.emod_nonneg _ (by omega)) (Int.emod_lt_of_pos _ (by omega)) ⟨x0, x1, x2 + 1, hb2, h0, h1, h1', by omega, by show x2 + 1 ≤ c + 2 ^ k; omega⟩ Keep.upd
theorem ok_take {f : Addr} {fd : FuncData} (F : Fun K "_law_take" "_law_take" sTake f fd) (bf : Binds K fd ["_law_box_here", "_law_size"] []) (mf : mg "_law_take" = some (.ref f)) (B : Bl mg) : ∀ k : Nat, FnOk P w K mg base CX0 k f fd ["_law_box_here", "_law_size"] (spTake k)
  | 0 => take_none
  | k + 1 => ok_take1 F (ok_take F bf mf B k) bf mf B
/-! ### _law_box -/
theorem scBox : FnScope ["_law_script", "_law_k", "_law_cell"] ["_law_script", "_law_k"] (defScope sBox) := ⟨rfl, rfl, rfl, by decide +kernel, rfl, by decide +kernel, by decide +kernel⟩
def spBox (K : PySem.W.Frag) : Sp := fun vs H Q _ => ∃ (a : Addr) (zs : List Int) (k : Int), vs = [.ref a, .int k] ∧ SqL K H a (zs.map V.int) ∧ 0 ≤ k ∧ k ≤ 1000 ∧
  ∀ (p : Addr) (H' : Hp), H p = none → Same H H' → BoxAt 0 H' p → Q (.ref p) H'
theorem b01 (b : Bool) : (-(2 ^ 64) < (if b = true then (1 : Int) else 0)) ∧ (if b = true then (1 : Int) else 0) < 2 ^ 64 := by cases b <;> decide
theorem b01n (b : Bool) : 0 ≤ (if b = true then (1 : Int) else 0) := by cases b <;> decide
theorem abs_nn (i : Int) : 0 ≤ (if i < 0 then -i else i) := by
  split <;> omega
theorem at_int {zs : List Int} {k : Int} (h0 : 0 ≤ k) (h : k < (zs.length : Int)) : ∃ v : Int, atI (zs.map V.int) k = some (.int v) ∧ zs[k.toNat]? = some v := by
  have hk : k.toNat < zs.length := by omega
  have ek : k = ((k.toNat : Nat) : Int) := by omega
  have q : atI (zs.map V.int) ((k.toNat : Nat) : Int) = some (.int zs[k.toNat]) := atI_nat (by rw [List.getElem?_map, List.getElem?_eq_getElem hk] <;> rfl)
  rw [← ek] at q
  exact ⟨zs[k.toNat], q, List.getElem?_eq_getElem hk⟩
theorem ok_box {f : Addr} {fd : FuncData} {k : Nat} (F : Fun K "_law_box" "_law_box" sBox f fd) (B : Bl mg) : FnOk P w K mg base CX0 (k + 1) f fd ["_law_script", "_law_k"] (spBox K) := by
  refine F.ok scBox (fun vs H Q E h => ?_) (fun cdv A outer s H vs Q E hr h => ?_)
  · obtain ⟨a, zs, k, rfl, _⟩ := h
    rfl
  obtain ⟨a, zs, k, rfl, hS, h0, h1, q⟩ := h
  refine ⟨_, pss_cons (ps_set (i := 2) scBox.nd rfl (.inl rfl) (pe_ifExp (pt_cmpR op_lt (pv 1) (pe_callB call_len_seq (by rfl) B.len PySem.boot_len (pa_cons (pv 0) pa_nil)) (nomark _)) (pe_ix ix_list (pv 0) (pv 1) (fun _ _ => rfl)) pe_int))
    (pss_one (ps_ret (pe_lst (pa_cons (pe_op op_mul (pe_callB call_abs (by rfl) B.abs boot_abs (pa_cons (pv 2) pa_nil)) (pe_callTy call_int1 (by rfl) B.int PyProof.Rows.boot_int (pa_cons (pe_cmpR op_ge (pe_callB call_abs (by rfl) B.abs boot_abs (pa_cons (pv 2) pa_nil)) (pe_op op_pow pe_int pe_int) (nomark _)) pa_nil)))
      (pa_cons (pe_op op_mod (pe_op op_mul (pe_op op_add (pe_op op_add (pe_op op_mod (pv 2) pe_int) (pe_op op_mul pe_int (pv 1))) pe_int) pe_int) pe_int) (pa_cons pe_int pa_nil)))))), ?_⟩
  refine ⟨_, rfl, _, rfl, a, _, rfl, .inl hS, _, _, rfl, rfl, _, rfl, ite2 (fun cc => ?_) (fun cc => ?_)⟩
  · have c1 : k < (((zs.map V.int).length : Nat) : Int) := of_decide_eq_true cc
    rw [List.length_map] at c1
    obtain ⟨v, hv, _⟩ := at_int h0 c1
    refine ⟨_, rfl, _, rfl, a, _, _, _, rfl, rfl, hS, hv, ?_⟩
    refine ⟨_, rfl, _, rfl, _, rfl, _, rfl, _, _, rfl, rfl, ⟨by decide, by decide, by decide⟩, _, _, rfl, rfl, .inr ⟨_, rfl, ?_⟩⟩
    refine ⟨_, _, rfl, rfl, .inr (b01 _), _, rfl, _, _, rfl, rfl, (by show (0 : Int) < 2147483629; decide), _, rfl, _, _, rfl, rfl, .inl ⟨by decide, by decide⟩, _, _, rfl, rfl, _, _, rfl, rfl, _, _, rfl, rfl, .inr ⟨by decide, by decide⟩, _, _, rfl, rfl, (by show (0 : Int) < 2147483647; decide), (by show 3 ≤ sizeLine; decide), fun p np => ?_⟩
    refine q p _ np (same_upd np) ⟨_, _, _, upd_same, Int.mul_nonneg (abs_nn v) (b01n _), Int.emod_nonneg _ (by decide), Int.emod_lt_of_pos _ (by decide), by decide, by decide⟩
  · refine ⟨_, rfl, _, rfl, _, rfl, _, rfl, _, _, rfl, rfl, ⟨by decide, by decide, by decide⟩, _, _, rfl, rfl, .inr ⟨_, rfl, ?_⟩⟩
    refine ⟨_, _, rfl, rfl, .inr (b01 _), _, rfl, _, _, rfl, rfl, (by show (0 : Int) < 2147483629; decide), _, rfl, _, _, rfl, rfl, .inl ⟨by decide, by decide⟩, _, _, rfl, rfl, _, _, rfl, rfl, _, _, rfl, rfl, .inr ⟨by decide, by decide⟩, _, _, rfl, rfl, (by show (0 : Int) < 2147483647; decide), (by show 3 ≤ sizeLine; decide), fun p np => ?_⟩
    refine q p _ np (same_upd np) ⟨_, _, _, upd_same, Int.mul_nonneg (abs_nn 0) (b01n _), Int.emod_nonneg _ (by decide), Int.emod_lt_of_pos _ (by decide), by decide, by decide⟩
theorem ty_lst {H : Hp} {a : Addr} {xs : List V} (h : SqL K H a xs) : TyX K H (.ref a) (.type "list") := by
  rcases h with (h | ⟨o, h⟩) | ⟨o, its, n, h1, h2, _⟩
  · exact .base (.lst h)
  · exact .base (.frz h)
  · exact .kList h1 h2
theorem ty_tup {H : Hp} {a : Addr} {xs : List V} (h : SqT K H a xs) : TyX K H (.ref a) (.type "tuple") := by
  rcases h with (h | ⟨o, h⟩) | ⟨o, its, n, h1, h2, _⟩
  · exact .base (.tup h)
  · exact .fTuple h
  · exact .kTuple h1 h2
theorem yesT {σ : L2.St} {H : Hp} {R S : Hp → Prop} (h : R H) : tYes σ H fun b H3 => if b = true then R H3 else S H3 := h
theorem repl_snoc {α : Type} (i : Nat) (x : α) : List.replicate i x ++ [x] = List.replicate (i + 1) x := List.replicate_succ'.symm
theorem all_repl (n : Nat) : (List.replicate n true).all id = true := by
  rw [List.all_eq_true]
  intro x hx
  rw [List.eq_of_mem_replicate hx]
  rfl
end
end GZ
namespace GM
theorem pow_pos' (n : Nat) : (0 : Int) < 2 ^ n := Int.pow_pos (by decide)
theorem pow_s (n : Nat) : (2 : Int) ^ (n + 1) = 2 ^ n * 2 := Int.pow_succ 2 n
theorem pow_le' {m n : Nat} (h : m ≤ n) : (2 : Int) ^ m ≤ 2 ^ n := by
  induction n with
  | zero =>
    have : m = 0 := by omega
    rw [this]
    exact Int.le_refl _
  | succ n ih =>
    by_cases e : m = n + 1
    · rw [e]
      exact Int.le_refl _
    · have := ih (by omega)
      have := pow_s n
      have := pow_pos' n
      omega
theorem pow_add' (m n : Nat) : (2 : Int) ^ (m + n) = 2 ^ m * 2 ^ n := Int.pow_add 2 m n
theorem bits_pow {x : Nat} {e : Nat} (h : x < 2 ^ e) : PySem.Builtin.Int.intBits (x : Int) ≤ e := PyProof.Rows.intBits_le (by rw [Int.natAbs_natCast]; exact h)
theorem bits_le_pow {x : Nat} {e : Nat} (h : 2 ^ e ≤ x) : e + 1 ≤ PySem.Builtin.Int.intBits (x : Int) := by
  have hx : x ≠ 0 := by
    have := Nat.two_pow_pos e
    omega
  unfold PySem.Builtin.Int.intBits
  rw [if_neg (by simpa using hx), Int.natAbs_natCast]
  have := (Nat.le_log2 hx).mpr h
  omega
theorem bits_unique {x e : Nat} (h1 : 2 ^ e ≤ x) (h2 : x < 2 ^ (e + 1)) : PySem.Builtin.Int.intBits (x : Int) = e + 1 := by
  have := bits_pow h2
  have := bits_le_pow h1
  omega
theorem bits_ex {x : Nat} (h : 0 < x) : ∃ e, 2 ^ e ≤ x ∧ x < 2 ^ (e + 1) := ⟨x.log2, Nat.log2_self_le (by omega), Nat.lt_log2_self⟩
theorem bits_half {x : Nat} (h : 0 < x) : PySem.Builtin.Int.intBits (x : Int) = PySem.Builtin.Int.intBits ((x / 2 : Nat) : Int) + 1 := by
  obtain ⟨e, h1, h2⟩ := bits_ex h
  rw [bits_unique h1 h2]
  cases e with
  | zero =>
    have : x = 1 := by
      simp at h1 h2
      omega
    rw [this]
    rfl
  | succ e =>
    rw [bits_unique (x := x / 2) (e := e)]
    · rw [Nat.pow_succ] at h1
      omega
    · rw [Nat.pow_succ] at h2
      omega
theorem bits_double {x m : Nat} (h : 0 < x) (hm : m ≤ 1) : PySem.Builtin.Int.intBits ((2 * x + m : Nat) : Int) = PySem.Builtin.Int.intBits (x : Int) + 1 := by
  rw [bits_half (x := 2 * x + m) (by omega), show (2 * x + m) / 2 = x by omega]
theorem shr_lt {x : Int} {a b : Nat} (h0 : 0 ≤ x) (h : x < 2 ^ (a + b)) : 0 ≤ x / 2 ^ b ∧ x / 2 ^ b < 2 ^ a := by
  have hb := pow_pos' b
  refine ⟨Int.ediv_nonneg h0 (by omega), ?_⟩
  rw [pow_add'] at h
  exact Int.ediv_lt_of_lt_mul hb h
end GM
namespace GM
/-! ### words: a sign, a scale of m bits, a tail of t bits -/
def bit (a : Int) (n : Nat) : Int := a / 2 ^ n % 2
def blr (a : Int) : Nat → List Int
  | 0 => []
  | n + 1 => bit a n :: blr a n
def wv : List Int → Int
  | [] => 0
  | d :: r => d * 2 ^ r.length + wv r
theorem blr_len (a : Int) : ∀ n, (blr a n).length = n
  | 0 => rfl
  | n + 1 => by
    show (blr a n).length + 1 = n + 1
    rw [blr_len a n]
theorem div_div (w : Int) (t m : Nat) : w / 2 ^ t / 2 ^ m = w / 2 ^ (t + m) := by
  rw [pow_add', Int.ediv_ediv_of_nonneg (Int.le_of_lt (pow_pos' t))]
theorem bit_div (w : Int) (t m : Nat) : bit (w / 2 ^ t) m = bit w (m + t) := by
  unfold bit
  rw [div_div, Nat.add_comm t m]
theorem blr_take (w : Int) (t : Nat) : ∀ m, (blr w (m + t)).take m = blr (w / 2 ^ t) m
  | 0 => rfl
  | m + 1 => by
    show (blr w ((m + 1) + t)).take (m + 1) = bit (w / 2 ^ t) m :: blr (w / 2 ^ t) m
    rw [show m + 1 + t = (m + t) + 1 by omega]
    show bit w (m + t) :: (blr w (m + t)).take m = _
    rw [blr_take w t m, bit_div]
theorem blr_drop (w : Int) (t : Nat) : ∀ m, (blr w (m + t)).drop m = blr w t
  | 0 => by rw [Nat.zero_add]; rfl
  | m + 1 => by
    rw [show m + 1 + t = (m + t) + 1 by omega]
    show (blr w (m + t)).drop m = _
    exact blr_drop w t m
theorem mod_step (a : Int) (n : Nat) : bit a n * 2 ^ n + a % 2 ^ n = a % 2 ^ (n + 1) := by
  unfold bit
  have hp := pow_pos' n
  have e1 := Int.emod_add_mul_ediv a (2 ^ n)
  have e2 := Int.emod_add_mul_ediv (a / 2 ^ n) 2
  have h1 := Int.emod_nonneg a (show (2 : Int) ^ n ≠ 0 by omega)
  have h2 := Int.emod_lt_of_pos a hp
  have e3 : 2 ^ n * (a / 2 ^ n) = a / 2 ^ n % 2 * 2 ^ n + a / 2 ^ n / 2 * (2 ^ n * 2) := by
    conv => lhs; rw [← e2]
    rw [Int.mul_add, Int.mul_comm (2 ^ n) (a / 2 ^ n % 2), ← Int.mul_assoc, Int.mul_comm (2 ^ n * 2) _]
  have key : (a / 2 ^ n % 2 * 2 ^ n + a % 2 ^ n) + a / 2 ^ n / 2 * 2 ^ (n + 1) = a := by
    rw [pow_s]
    omega
  have hb : 0 ≤ a / 2 ^ n % 2 * 2 ^ n + a % 2 ^ n ∧ a / 2 ^ n % 2 * 2 ^ n + a % 2 ^ n < 2 ^ (n + 1) := by
    rw [pow_s]
    have : a / 2 ^ n % 2 = 0 ∨ a / 2 ^ n % 2 = 1 := by omega
    rcases this with z | z <;> rw [z] <;> omega
  have em := Int.add_mul_emod_self_right (a / 2 ^ n % 2 * 2 ^ n + a % 2 ^ n) (a / 2 ^ n / 2) (2 ^ (n + 1))
  rw [key, Int.emod_eq_of_lt hb.1 hb.2] at em
  exact em.symm
theorem wv_blr (a : Int) : ∀ n, wv (blr a n) = a % 2 ^ n
  | 0 => by
    show (0 : Int) = a % 1
    omega
  | n + 1 => by
    show bit a n * 2 ^ (blr a n).length + wv (blr a n) = _
    rw [blr_len, wv_blr a n, ← mod_step a n]
theorem fold2 : ∀ (ds : List Int) (w : Int), ds.foldl (fun a b => a * 2 + b) w = w * 2 ^ ds.length + wv ds
  | [], w => by
    show w = w * 2 ^ 0 + 0
    rw [Int.pow_zero]
    omega
  | d :: r, w => by
    show r.foldl (fun a b => a * 2 + b) (w * 2 + d) = w * 2 ^ (r.length + 1) + (d * 2 ^ r.length + wv r)
    rw [fold2 r, pow_s, Int.add_mul, Int.mul_assoc, Int.mul_comm 2 (2 ^ r.length)]
    omega
theorem wv_ones : ∀ k, wv (List.replicate k 1) = 2 ^ k - 1
  | 0 => rfl
  | k + 1 => by
    rw [List.replicate_succ]
    show 1 * 2 ^ (List.replicate k (1 : Int)).length + wv (List.replicate k 1) = _
    rw [List.length_replicate, wv_ones k, pow_s]
    omega
/-- sign, scale, tail of a word -/
def sgn (m t : Nat) (w : Int) : Int := w / 2 ^ (m + t) % 2
def scl (m t : Nat) (w : Int) : Int := w / 2 ^ t % 2 ^ m
def tlp (t : Nat) (w : Int) : Int := w % 2 ^ t
theorem scl_tlp (m t : Nat) (w : Int) : scl m t w * 2 ^ t + tlp t w = w % 2 ^ (m + t) := by
  induction m with
  | zero =>
    unfold scl tlp
    rw [Int.pow_zero, Int.emod_one, Int.zero_mul, Int.zero_add, Nat.zero_add]
  | succ m ih =>
    have e := mod_step (w / 2 ^ t) m
    have e2 := mod_step w (m + t)
    rw [bit_div] at e
    unfold scl at ih ⊢
    rw [← e, Int.add_mul, show m + 1 + t = (m + t) + 1 by omega, ← e2, ← ih, Int.mul_assoc, ← pow_add']
    omega
theorem sgn_01 {m t : Nat} {w : Int} : sgn m t w = 0 ∨ sgn m t w = 1 := by
  unfold sgn
  omega
theorem word_eq {m t : Nat} {w : Int} (h0 : 0 ≤ w) (h1 : w < 2 ^ (1 + m + t)) : sgn m t w * 2 ^ (m + t) + w % 2 ^ (m + t) = w := by
  have e := mod_step w (m + t)
  rw [show m + t + 1 = 1 + m + t by omega, Int.emod_eq_of_lt h0 h1] at e
  exact e
theorem scl_nn (m t : Nat) (w : Int) : 0 ≤ scl m t w ∧ scl m t w < 2 ^ m := ⟨Int.emod_nonneg _ (by have := pow_pos' m; omega), Int.emod_lt_of_pos _ (pow_pos' m)⟩
theorem tlp_nn (t : Nat) (w : Int) : 0 ≤ tlp t w ∧ tlp t w < 2 ^ t := ⟨Int.emod_nonneg _ (by have := pow_pos' t; omega), Int.emod_lt_of_pos _ (pow_pos' t)⟩
/-- with the other sign -/
def trn (m t : Nat) (w : Int) : Int := (1 - sgn m t w) * 2 ^ (m + t) + w % 2 ^ (m + t)
theorem mk_parts {m t : Nat} {s r : Int} (hs : s = 0 ∨ s = 1) (h0 : 0 ≤ r) (h1 : r < 2 ^ (m + t)) : 0 ≤ s * 2 ^ (m + t) + r ∧ s * 2 ^ (m + t) + r < 2 ^ (1 + m + t) ∧ sgn m t (s * 2 ^ (m + t) + r) = s ∧ (s * 2 ^ (m + t) + r) % 2 ^ (m + t) = r := by
  have hp := pow_pos' (m + t)
  have e : (2 : Int) ^ (1 + m + t) = 2 ^ (m + t) * 2 := by rw [← pow_s]; congr 1; omega
  have em : (s * 2 ^ (m + t) + r) % 2 ^ (m + t) = r := by
    rw [Int.add_comm, Int.add_mul_emod_self_right, Int.emod_eq_of_lt h0 h1]
  have ed : (s * 2 ^ (m + t) + r) / 2 ^ (m + t) = s := by
    rw [Int.add_comm, Int.add_mul_ediv_right _ _ (by omega), Int.ediv_eq_zero_of_lt h0 h1, Int.zero_add]
  refine ⟨?_, ?_, ?_, em⟩
  · rcases hs with z | z <;> subst z <;> omega
  · rw [e]
    rcases hs with z | z <;> subst z <;> omega
  · unfold sgn
    rw [ed]
    omega
theorem trn_trn {m t : Nat} {w : Int} (h0 : 0 ≤ w) (h1 : w < 2 ^ (1 + m + t)) : trn m t (trn m t w) = w ∧ 0 ≤ trn m t w ∧ trn m t w < 2 ^ (1 + m + t) := by
  have hp := pow_pos' (m + t)
  have hs : 1 - sgn m t w = 0 ∨ 1 - sgn m t w = 1 := by
    have := sgn_01 (m := m) (t := t) (w := w)
    omega
  obtain ⟨a, b, c, d⟩ := mk_parts (m := m) (t := t) hs (Int.emod_nonneg w (show (2 : Int) ^ (m + t) ≠ 0 by omega)) (Int.emod_lt_of_pos w hp)
  refine ⟨?_, a, b⟩
  show (1 - sgn m t (trn m t w)) * 2 ^ (m + t) + trn m t w % 2 ^ (m + t) = w
  rw [show sgn m t (trn m t w) = 1 - sgn m t w from c, show trn m t w % 2 ^ (m + t) = w % 2 ^ (m + t) from d, show 1 - (1 - sgn m t w) = sgn m t w by omega]
  exact word_eq h0 h1
end GM
namespace GZ
open PySem PySem.Spec PyProof.Rows L2
end GZ
namespace GZ
open PySem PySem.Spec PyProof.Rows L2
theorem val0 (t : Tok) : Vals [V.int 0] [Value.int 0 t] := .cons ⟨_, rfl⟩ .nil
/-! ### keyword-only parameters -/
theorem kbn_of {K : PySem.W.Frag} {x qual : Str} {st : Stmt} {D : Addr} {an : Option Addr} {doc pm cdv ct : Value} {ps ks : List Str} {n : Nat} {ml : List (Str × Value)} {g : List Value → List Value → List Value} {gV : List V → List V → List V} (hml : ∀ q ∈ ml, PySem.W.nsIn K D q.1 = some (some q.2))
    (h : ∀ us ws : List Value, us.length = n → ws.length = ks.length → KwChain D ml (bindArgs (PySem.W.fnOf x qual (defArgs st) (defBody st) (defScope st) .none (.ref D) doc pm an cdv ct) ⟨us, ks.zip ws⟩) (ps.zip (g us ws)))
    (rel : ∀ {vs : List V} {us : List Value} {zs : List V} {ws : List Value}, vs.length = n → zs.length = ks.length → Vals vs us → Vals zs ws → Vals (gV vs zs) (g us ws)) :
    ∀ (s : Shared) (us ws : List Value), K.In s.heap → us.length = n → ws.length = ks.length → BindsTo s (PySem.W.fnOf x qual (defArgs st) (defBody st) (defScope st) .none (.ref D) doc pm an cdv ct) ⟨us, ks.zip ws⟩ (ps.zip (g us ws)) :=
  fun s us ws X l1 l2 => BindsTo.of_looks fun M => KwChain.looks X hml (h us ws l1 l2)
theorem bnd_of {K : PySem.W.Frag} {x qual : Str} {st : Stmt} {D : Addr} {an : Option Addr} {doc pm cdv ct : Value} {ps : List Str} {ml : List (Str × Value)} {ds : List Value} (hml : ∀ q ∈ ml, PySem.W.nsIn K D q.1 = some (some q.2))
    (h : ∀ us : List Value, us.length + ds.length = ps.length → KwChain D ml (bindArgs (PySem.W.fnOf x qual (defArgs st) (defBody st) (defScope st) .none (.ref D) doc pm an cdv ct) ⟨us, []⟩) (ps.zip (us ++ ds))) :
    Binds K (PySem.W.fnOf x qual (defArgs st) (defBody st) (defScope st) .none (.ref D) doc pm an cdv ct) ps ds := fun s us X hl => by
  rw [List.length_append] at hl
  exact BindsTo.of_looks fun M => KwChain.looks X hml (h us hl)
/-! ### a def whose defaults aren't asked for -/
structure FunA (K : PySem.W.Frag) (x qual : Str) (st : Stmt) (f : Addr) (fd : FuncData) : Prop where
  ex : ∃ (oc : Value) (od : Option Addr) (dV kV doc pm : Value) (an : Option Addr) (cdv ct : Value) (osl : Array (Option Value)),
    fd = PySem.W.fnOf x qual (defArgs st) (defBody st) (defScope st) dV kV doc pm an cdv ct ∧ K.lookup f = some ⟨oc, od, .func fd, osl⟩ ∧ PySem.W.codeIn K cdv qual = true
  kp : PySem.W.keepIn K (.ref f) = true
theorem FunA.ok {P : Program} {w : World} {K : PySem.W.Frag} {mg : Str → Option Value} {base : Heap} {x qual : Str} {st : Stmt} {f : Addr} {fd : FuncData} {N ps : List Str} {k : Nat} {sp : Sp} (F : FunA K x qual st f fd) (S : FnScope N ps (defScope st)) (len : ∀ vs H Q E, sp vs H Q E → vs.length = ps.length)
    (hbody : ∀ (cdv : Value) (A : Around) (outer : List Env) (s : Shared) (H : Hp) (vs : List V) (Q : VK) (E : XK), Room k (A.deeper (envOfC qual (defScope st) s.heap.objs.size f cdv)) → sp vs H Q E →
      ∃ t, PSs (cxOf CX0 P w K mg base N qual (defScope st) f cdv A outer s H E).nox (defBody st) t ∧ t { nx := fun _ H' => Q .non H', rt := Q } (start N vs) H) : FnOk P w K mg base CX0 (k + 1) f fd ps sp := by
  obtain ⟨oc, od, dV, kV, doc, pm, an, cdv, ct, osl, rfl, lk, hcd⟩ := F.ex
  refine fn_of lk hcd S len fun A outer s H vs Q E hr hsp => ?_
  obtain ⟨t, h, q⟩ := hbody cdv A outer s H vs Q E hr hsp
  exact ⟨t, h.nox, q⟩
theorem bindsA {K : PySem.W.Frag} {x qual : Str} {st : Stmt} {f T : Addr} {oc oT vT : Value} {od an dT : Option Addr} {osl sT : Array (Option Value)} {kV doc pm cdv ct : Value} {nT : Nat} {ps : List Str} (l : K.lookup f = some ⟨oc, od, .func (PySem.W.fnOf x qual (defArgs st) (defBody st) (defScope st) (.ref T) kV doc pm an cdv ct), osl⟩)
    (lT : K.lookup T = some ⟨oT, dT, .seq #[vT] nT, sT⟩)
    (h : ∀ (kV doc pm : Value) (an : Option Addr) (cdv ct : Value) (us : List Value), us.length = ps.length → ∃ k, bindArgs (PySem.W.fnOf x qual (defArgs st) (defBody st) (defScope st) (.ref T) kV doc pm an cdv ct) ⟨us, []⟩ = seqItems? (.ref T) >>= k ∧ k (some #[vT]) = pure (ps.zip us)) : Binds K (PySem.W.fnOf x qual (defArgs st) (defBody st) (defScope st) (.ref T) kV doc pm an cdv ct) ps [] := by
  intro s us X hl
  rw [List.append_nil] at hl ⊢
  obtain ⟨k, e1, e2⟩ := h kV doc pm an cdv ct us hl
  refine BindsTo.of_looks fun M => ?_
  rw [e1]
  exact looks_items X lT rfl (.of_pure e2)
theorem bindsAD {K : PySem.W.Frag} {x qual : Str} {st : Stmt} {f T : Addr} {oc oT vT : Value} {od an dT : Option Addr} {osl sT : Array (Option Value)} {kV doc pm cdv ct : Value} {nT : Nat} {ps : List Str} (l : K.lookup f = some ⟨oc, od, .func (PySem.W.fnOf x qual (defArgs st) (defBody st) (defScope st) (.ref T) kV doc pm an cdv ct), osl⟩)
    (lT : K.lookup T = some ⟨oT, dT, .seq #[vT] nT, sT⟩)
    (h : ∀ (kV doc pm : Value) (an : Option Addr) (cdv ct : Value) (us : List Value), us.length + 1 = ps.length → ∃ k, bindArgs (PySem.W.fnOf x qual (defArgs st) (defBody st) (defScope st) (.ref T) kV doc pm an cdv ct) ⟨us, []⟩ = seqItems? (.ref T) >>= k ∧ k (some #[vT]) = pure (ps.zip (us ++ [vT]))) : Binds K (PySem.W.fnOf x qual (defArgs st) (defBody st) (defScope st) (.ref T) kV doc pm an cdv ct) ps [vT] := by
  intro s us X hl
  rw [List.length_append] at hl
  obtain ⟨k, e1, e2⟩ := h kV doc pm an cdv ct us hl
  refine BindsTo.of_looks fun M => ?_
  rw [e1]
  exact looks_items X lT rfl (.of_pure e2)
theorem kbindsA {x1 : Str} {K : PySem.W.Frag} {x qual : Str} {st : Stmt} {f T : Addr} {oc oT vT : Value} {od an dT : Option Addr} {osl sT : Array (Option Value)} {kV doc pm cdv ct : Value} {nT : Nat} {ps : List Str} (l : K.lookup f = some ⟨oc, od, .func (PySem.W.fnOf x qual (defArgs st) (defBody st) (defScope st) (.ref T) kV doc pm an cdv ct), osl⟩)
    (lT : K.lookup T = some ⟨oT, dT, .seq #[vT] nT, sT⟩)
    (h : ∀ (kV doc pm : Value) (an : Option Addr) (cdv ct u w : Value), ∃ k, bindArgs (PySem.W.fnOf x qual (defArgs st) (defBody st) (defScope st) (.ref T) kV doc pm an cdv ct) ⟨[u], [(x1, w)]⟩ = seqItems? (.ref T) >>= k ∧ k (some #[vT]) = pure (ps.zip [u, w])) : KBn K (PySem.W.fnOf x qual (defArgs st) (defBody st) (defScope st) (.ref T) kV doc pm an cdv ct) ps 1 [x1] (fun us ws => us ++ ws) (fun us ws => us ++ ws) := by
  refine ⟨fun s us ws X l1 l2 => ?_, fun r1 r2 => r1.append r2⟩
  match us, ws, l1, l2 with
  | [u], [w], _, _ =>
    obtain ⟨k, e1, e2⟩ := h kV doc pm an cdv ct u w
    refine BindsTo.of_looks fun M => ?_
    show PySem.W.Looks M s.heap (bindArgs (PySem.W.fnOf x qual (defArgs st) (defBody st) (defScope st) (.ref T) kV doc pm an cdv ct) ⟨[u], [(x1, w)]⟩) (ps.zip [u, w])
    rw [e1]
    exact looks_items X lT rfl (.of_pure e2)
theorem funA_mk {K : PySem.W.Frag} {x qual : Str} {st : Stmt} {f : Addr} {oc : Value} {od an : Option Addr} {osl : Array (Option Value)} {dV kV doc pm cdv ct : Value} (l : K.lookup f = some ⟨oc, od, .func (PySem.W.fnOf x qual (defArgs st) (defBody st) (defScope st) dV kV doc pm an cdv ct), osl⟩)
    (c : PySem.W.codeIn K cdv qual = true) (k : PySem.W.keepIn K (.ref f) = true) : FunA K x qual st f (PySem.W.fnOf x qual (defArgs st) (defBody st) (defScope st) dV kV doc pm an cdv ct) := ⟨⟨oc, od, dV, kV, doc, pm, an, cdv, ct, osl, rfl, l, c⟩, k⟩
section
variable {P : Program} {w : World} {K : PySem.W.Frag} {mg : Str → Option Value} {base : Heap}
theorem cutG {Cd A : Int → Int → Hp → Prop} {B : Prop} (h1 : ∀ n p H, Cd n p H → A n p H) (h2 : (∀ n p H, Cd n p H → A n p H) → B) : B := h2 h1
theorem cutA {Cd A : Addr → Hp → Prop} {B : Prop} (h1 : ∀ a H, Cd a H → A a H) (h2 : (∀ a H, Cd a H → A a H) → B) : B := h2 h1
theorem cutH {H : Hp} {A : Hp → Prop} {B : Prop} (h1 : ∀ H', Same H H' → A H') (h2 : (∀ H', Same H H' → A H') → B) : B := h2 h1
theorem cutP {A B : Prop} (h1 : A) (h2 : A → B) : B := h2 h1
theorem gB {i : Nat} {v u : Bool} {σ : L2.St} {H : Hp} {D : L2.St → Hp → Prop} (e : v = u) (h : gName i (V.bl u) σ H D) : gName i (V.bl v) σ H D := e ▸ h
theorem gI {i : Nat} {v u : Int} {σ : L2.St} {H : Hp} {D : L2.St → Hp → Prop} (e : v = u) (h : gName i (V.int u) σ H D) : gName i (V.int v) σ H D := e ▸ h
theorem dvi (a b : Int) : decide (V.int a = V.int b) = decide (a = b) := by
  by_cases c : a = b
  · rw [decide_eq_true c, decide_eq_true (congrArg V.int c)]
  · rw [decide_eq_false c, decide_eq_false (fun z => c (V.int.inj z))]
theorem dvs (a b : Str) : decide (V.str a = V.str b) = decide (a = b) := by
  by_cases c : a = b
  · rw [decide_eq_true c, decide_eq_true (congrArg V.str c)]
  · rw [decide_eq_false c, decide_eq_false (fun z => c (V.str.inj z))]
theorem bx1 {c : Int} {H : Hp} {b : Addr} (h : BoxAt (c + 2 ^ (1 - 1)) H b) : BoxAt (c + 1) H b := h
theorem Keep.none {b p : Addr} {H H' : Hp} (k : Keep b H H') (n : p ≠ b) (h : H' p = none) : H p = none := by
  cases q : H p with
  | none => rfl
  | some o =>
    rw [k p o q n] at h
    cases h
theorem dp_ints {H : Hp} : ∀ ds : List Int, DpAll K H (ds.map V.int) (ds.map PyData.int)
  | [] => .nil
  | d :: ds => .cons (.int d) (dp_ints ds)
theorem eqv_ints (ds : List Int) : PyData.eqv (.list (ds.map PyData.int)) (.list (ds.map PyData.int)) = true := PySem.SeqAt.eqv_refl _ (PySem.SeqAt.canLay_of_shaped (PySem.W.shaped_ints ds))
/-! ### nets -/
def KeepS (S : List Addr) (H H' : Hp) : Prop := (∀ y o, H y = some o → y ∉ S → H' y = some o) ∧ ∀ y, H y ≠ none → H' y ≠ none
theorem KeepS.refl (S : List Addr) (H : Hp) : KeepS S H H := ⟨fun _ _ e _ => e, fun _ e => e⟩
theorem KeepS.trans {S : List Addr} {H H1 H2 : Hp} (a : KeepS S H H1) (b : KeepS S H1 H2) : KeepS S H H2 := ⟨fun y o e n => b.1 y o (a.1 y o e n) n, fun y e => b.2 y (a.2 y e)⟩
theorem some_ne {H : Hp} {y : Addr} {o : HO} (e : H y = some o) : H y ≠ none := fun z => by rw [z] at e; cases e
theorem KeepS.ofSame {S : List Addr} {H H1 : Hp} (s : Same H H1) : KeepS S H H1 := ⟨fun y o e _ => s y o e, fun y e => by
  cases q : H y with
  | none => exact absurd q e
  | some o => exact some_ne (s y o q)⟩
theorem KeepS.mono {S T : List Addr} {H H1 : Hp} (h : ∀ y ∈ S, y ∈ T) (a : KeepS S H H1) : KeepS T H H1 := ⟨fun y o e n => a.1 y o e (fun m => n (h y m)), a.2⟩
theorem KeepS.ofKeep {b : Addr} {S : List Addr} {H H1 : Hp} (k : Keep b H H1) (m : b ∈ S) (hb : H1 b ≠ none) : KeepS S H H1 := ⟨fun y o e n => k y o e (fun z => n (by rw [z]; exact m)), fun y e => by
  by_cases c : y = b
  · rw [c]
    exact hb
  · cases q : H y with
    | none => exact absurd q e
    | some o => exact some_ne (k y o q c)⟩
theorem KeepS.upd {S : List Addr} {H : Hp} {a : Addr} {o : HO} (m : a ∈ S) : KeepS S H (upd H a o) := ⟨fun y u e n => by rw [upd_ne (fun z => n (by rw [z]; exact m))]; exact e, fun y e => by
  by_cases c : y = a
  · rw [c, upd_same]
    exact fun z => by cases z
  · rw [upd_ne c]
    exact e⟩
theorem KeepS.new {S : List Addr} {H : Hp} {a : Addr} {o : HO} (n : H a = none) : KeepS S H (L2.upd H a o) := .ofSame (same_upd n)
theorem KeepS.keep {b : Addr} {H H1 : Hp} (k : KeepS [b] H H1) : Keep b H H1 := fun y o e n => k.1 y o e (by simp only [List.mem_singleton]; exact n)
theorem KeepS.same {H H1 : Hp} (k : KeepS [] H H1) : Same H H1 := fun y o e => k.1 y o e (fun z => nomatch z)
theorem KeepS.seq {K : PySem.W.Frag} {S : List Addr} {a : Addr} {H H' : Hp} {xs : List V} (e : KeepS S H H') (n : a ∉ S) (h : SqL K H a xs) : SqL K H' a xs := by
  rcases h with (h | ⟨o, h⟩) | h
  · exact .inl (.inl (e.1 _ _ h n))
  · exact .inl (.inr ⟨o, e.1 _ _ h n⟩)
  · exact .inr h
theorem KeepS.seqT {K : PySem.W.Frag} {S : List Addr} {a : Addr} {H H' : Hp} {xs : List V} (e : KeepS S H H') (n : a ∉ S) (h : SqT K H a xs) : SqT K H' a xs := by
  rcases h with (h | ⟨o, h⟩) | h
  · exact .inl (.inl (e.1 _ _ h n))
  · exact .inl (.inr ⟨o, e.1 _ _ h n⟩)
  · exact .inr h
theorem BoxAt.keepS {c : Int} {S : List Addr} {H H' : Hp} {b : Addr} (h : BoxAt c H b) (k : KeepS S H H') (n : b ∉ S) : BoxAt c H' b := by
  obtain ⟨x, y, z, e, r⟩ := h
  exact ⟨x, y, z, k.1 _ _ e n, r⟩
inductive Gt where
  | w (k : Str) (ws : List Nat)
  | fi (b : Nat)
def nts (ws : List Nat) : List V := ws.map fun (a : Nat) => V.int (a : Int)
theorem nts_at {ws : List Nat} {i : Nat} {x : V} (h : (nts ws)[i]? = some x) : ∃ v, ws[i]? = some v ∧ x = .int (v : Int) := by
  unfold nts at h
  rw [List.getElem?_map] at h
  cases q : ws[i]? with
  | none => rw [q] at h; cases h
  | some v => rw [q] at h; exact ⟨v, rfl, (Option.some.inj h).symm⟩
theorem nts_len (ws : List Nat) : (nts ws).length = ws.length := by
  unfold nts
  rw [List.length_map]
def Gt.row : Gt → List V
  | .w k ws => .str k :: nts ws
  | .fi b => [.str "fixed", .int (b : Int)]
def Gt.ok (n : Nat) : Gt → Prop
  | .w k ws => (((k = "both" ∨ k = "either" ∨ k = "unlike") ∧ ws.length = 2) ∨ (k = "other" ∧ ws.length = 1)) ∧ ∀ a ∈ ws, a < n
  | .fi b => b ≤ 1
def mx (l : List Int) : Int := l.foldl (fun m x => if x > m then x else m) 0
theorem mx_fold : ∀ (l : List Int) (a : Int), a ≤ l.foldl (fun m x => if x > m then x else m) a ∧ (∀ y ∈ l, y ≤ l.foldl (fun m x => if x > m then x else m) a) ∧ (l.foldl (fun m x => if x > m then x else m) a = a ∨ l.foldl (fun m x => if x > m then x else m) a ∈ l)
  | [], a => ⟨Int.le_refl _, (fun _ z => nomatch z), .inl rfl⟩
  | x :: l, a => by
    obtain ⟨h1, h2, h3⟩ := mx_fold l (if x > a then x else a)
    have e : a ≤ (if x > a then x else a) ∧ x ≤ (if x > a then x else a) ∧ ((if x > a then x else a) = a ∨ (if x > a then x else a) = x) := by split <;> omega
    rw [List.foldl_cons]
    refine ⟨by omega, fun y hy => ?_, ?_⟩
    · rcases List.mem_cons.mp hy with z | z
      · rw [z]
        omega
      · exact h2 y z
    · rcases h3 with z | z
      · rcases e.2.2 with u | u
        · exact .inl (z.trans u)
        · exact .inr (List.mem_cons.mpr (.inl (z.trans u)))
      · exact .inr (List.mem_cons.mpr (.inr z))
theorem mx_is {l : List Int} {m : Int} (h : m ∈ l) (hm : ∀ y ∈ l, y ≤ m) (h0 : ∀ y ∈ l, 0 ≤ y) : mx l = m := by
  obtain ⟨h1, h2, h3⟩ := mx_fold l 0
  have a := h2 m h
  have b := h0 m h
  unfold mx
  rcases h3 with z | z
  · omega
  · have := hm _ z
    omega
theorem mx_nn (l : List Int) : 0 ≤ mx l := (mx_fold l 0).1
def dep (ds : List Int) : Gt → Int
  | .w _ ws => 1 + mx (ws.map fun a => ds.getD a 0)
  | .fi _ => 0
theorem dep_nn (ds : List Int) (g : Gt) : 0 ≤ dep ds g := by
  cases g with
  | w k ws =>
    have := mx_nn (ws.map fun a => ds.getD a 0)
    show 0 ≤ 1 + mx (ws.map fun a => ds.getD a 0)
    omega
  | fi b => exact Int.le_refl _
def dps (m : Nat) (gs : List Gt) : List Int := gs.foldl (fun ds g => ds ++ [dep ds g]) (List.replicate m 0)
theorem dps_snoc (m : Nat) (gs : List Gt) (g : Gt) : dps m (gs ++ [g]) = dps m gs ++ [dep (dps m gs) g] := by
  unfold dps
  rw [List.foldl_append]
  rfl
theorem dps_fold : ∀ (gs : List Gt) (ds : List Int), (∀ d ∈ ds, 0 ≤ d) → (gs.foldl (fun ds g => ds ++ [dep ds g]) ds).length = ds.length + gs.length ∧ ∀ d ∈ gs.foldl (fun ds g => ds ++ [dep ds g]) ds, 0 ≤ d
  | [], ds, h => ⟨rfl, h⟩
  | g :: gs, ds, h => by
    have a := dps_fold gs (ds ++ [dep ds g]) (fun d hd => by
      rcases List.mem_append.mp hd with z | z
      · exact h d z
      · rw [List.mem_singleton.mp z]
        exact dep_nn ds g)
    rw [List.foldl_cons]
    refine ⟨?_, a.2⟩
    rw [a.1, List.length_append, List.length_cons, List.length_cons, List.length_nil]
    omega
theorem dps_len (m : Nat) (gs : List Gt) : (dps m gs).length = m + gs.length := by
  have a := (dps_fold gs (List.replicate m 0) (fun d hd => by rw [List.eq_of_mem_replicate hd]; exact Int.le_refl _)).1
  rw [List.length_replicate] at a
  exact a
theorem dps_nn (m : Nat) (gs : List Gt) : ∀ d ∈ dps m gs, 0 ≤ d := (dps_fold gs (List.replicate m 0) (fun d hd => by rw [List.eq_of_mem_replicate hd]; exact Int.le_refl _)).2
structure NetP where
  x : Addr
  lm : Addr
  ld : Addr
  dn : Addr
def GsAt (Z : List Addr) (H : Hp) (ps : List Addr) (gs : List Gt) : Prop := ps.length = gs.length ∧ ∀ (i : Nat) (q : Addr) (g : Gt), ps[i]? = some q → gs[i]? = some g → q ∉ Z ∧ H q = some (.tup g.row)
def NmAt (Z : List Addr) (H : Hp) (p : NetP) (kvs : List (Key × V)) (nm : List (Str × List Nat)) : Prop :=
  kvs.length = nm.length ∧ (nm.map (·.1)).Nodup ∧ ∀ (i : Nat) (k : Key) (v : V) (n : Str) (ws : List Nat), kvs[i]? = some (k, v) → nm[i]? = some (n, ws) → k = .inr n ∧ ∃ l, v = .ref l ∧ l ∉ Z ∧ l ≠ p.lm ∧ l ≠ p.ld ∧ H l = some (.lst (nts ws))
def NetAt (C : Addr) (Z : List Addr) (H : Hp) (p : NetP) (m : Nat) (gs : List Gt) (nm : List (Str × List Nat)) : Prop :=
  (∀ z ∈ Z, H z ≠ none) ∧ p.lm ≠ p.ld ∧ (p.x ∉ Z ∧ p.lm ∉ Z ∧ p.ld ∉ Z ∧ p.dn ∉ Z) ∧ ∃ dx ps kvs, H p.x = some (.ins C dx [("input_count", .int (m : Int)), ("made", .ref p.lm), ("depths", .ref p.ld), ("by_name", .ref p.dn)]) ∧
    H p.lm = some (.lst (ps.map V.ref)) ∧ H p.ld = some (.lst ((dps m gs).map V.int)) ∧ H p.dn = some (.dK kvs) ∧ GsAt Z H ps gs ∧ NmAt Z H p kvs nm
theorem NetAt.keep {C : Addr} {S Z : List Addr} {H H' : Hp} {p : NetP} {m : Nat} {gs : List Gt} {nm : List (Str × List Nat)} (h : NetAt C Z H p m gs nm) (k : KeepS S H H') (hs : ∀ y ∈ S, y ∈ Z) : NetAt C Z H' p m gs nm := by
  obtain ⟨a, b, ⟨c1, c2, c3, c4⟩, dx, ps, kvs, e1, e2, e3, e4, ⟨g1, g2⟩, n1, n2, n3⟩ := h
  have f : ∀ {y : Addr} {o : HO}, y ∉ Z → H y = some o → H' y = some o := fun n e => k.1 _ _ e (fun z => n (hs _ z))
  refine ⟨fun z hz => k.2 z (a z hz), b, ⟨c1, c2, c3, c4⟩, dx, ps, kvs, f c1 e1, f c2 e2, f c3 e3, f c4 e4, ⟨g1, fun i q g hi hg => ?_⟩, n1, n2, fun i k v n ws hi hn => ?_⟩
  · have := g2 i q g hi hg
    exact ⟨this.1, f this.1 this.2⟩
  · obtain ⟨ek, l, ev, l1, l2, l3, l4⟩ := n3 i k v n ws hi hn
    exact ⟨ek, l, ev, l1, l2, l3, f l1 l4⟩
theorem NetAt.same {C : Addr} {Z : List Addr} {H H' : Hp} {p : NetP} {m : Nat} {gs : List Gt} {nm : List (Str × List Nat)} (h : NetAt C Z H p m gs nm) (s : Same H H') : NetAt C Z H' p m gs nm := h.keep (S := []) (.ofSame s) (fun _ z => nomatch z)
theorem NetAt.keepB {C b : Addr} {Z : List Addr} {H H' : Hp} {p : NetP} {m : Nat} {gs : List Gt} {nm : List (Str × List Nat)} (h : NetAt C Z H p m gs nm) (k : Keep b H H') (hb : H' b ≠ none) (m' : b ∈ Z) : NetAt C Z H' p m gs nm := h.keep (S := [b]) (.ofKeep k (List.mem_singleton.mpr rfl) hb) (fun y hy => by rw [List.mem_singleton.mp hy]; exact m')
theorem BoxAt.some {c : Int} {H : Hp} {b : Addr} (h : BoxAt c H b) : H b ≠ none := by
  obtain ⟨_, _, _, e, _⟩ := h
  exact some_ne e
theorem made {C : Addr} {H : Hp} {x dx : Addr} (nx : H x = none) (nd : H dx = none) (ne : dx ≠ x) {H' : Hp} (k : ∀ p o, (upd (upd H dx (.own x)) x (.ins C dx [])) p = some o → p ≠ x → H' p = some o) : Same H H' := fun p o e =>
  k p o (by rw [upd_ne (ne_of_none e nx), upd_ne (ne_of_none e nd)]; exact e) (ne_of_none e nx)
theorem units1 {k : Nat} {A : Around} (r : Room k A) : A.units + 1 < cLine := by have := r.un; omega
theorem pi_or {X : Cx} {tg e : Expr} {i j : TI} (h1 : PI X tg e i) (h2 : PI X tg e j) : PI X tg e (fun σ H R => i σ H R ∨ j σ H R) := ⟨fun pins s σ H R I h => h.elim (fun a => h1.run pins s σ H R I a) (fun b => h2.run pins s σ H R I b)⟩
structure FT (K : PySem.W.Frag) (mg : Str → Option Value) (C : Addr) : Prop where
  cl : Cls K C
  n_input_count : NoAttr K C "input_count"
  n_made : NoAttr K C "made"
  n_depths : NoAttr K C "depths"
  n_by_name : NoAttr K C "by_name"
  mgC : mg "Net" = some (.ref C)
structure LL (K : PySem.W.Frag) (mg : Str → Option Value) (C : Addr) (a1 a2 a3 a4 a5 a6 a7 a8 a9 a10 a11 a12 a13 a14 a15 a16 a17 a18 a19 a20 a21 a22 a23 a24 a25 a26 a27 a28 a29 a30 a31 a32 a33 a34 : Addr) (l1 l2 l3 l4 l5 l6 l7 l8 l9 l10 l11 l12 l13 l14 l15 l16 l17 l18 l19 l20 l21 l22 l23 l24 l25 l26 l27 l28 l29 l30 l31 l32 l33 l34 : FuncData) : Prop where
  F_sum_wires : Fun K "sum_wires" "sum_wires" s_sum_wires a1 l1
  m_sum_wires : mg "sum_wires" = some (.ref a1)
  b_sum_wires : Binds K l1 ["net", "ones", "others", "carry"] []
  F_shift_wires : Fun K "shift_wires" "shift_wires" s_shift_wires a2 l2
  m_shift_wires : mg "shift_wires" = some (.ref a2)
  b_shift_wires : Binds K l2 ["net", "ones", "by"] []
  F_left_wires : Fun K "left_wires" "left_wires" s_left_wires a3 l3
  m_left_wires : mg "left_wires" = some (.ref a3)
  b_left_wires : Binds K l3 ["net", "ones", "by"] []
  F_shift_amounts : Fun K "shift_amounts" "shift_amounts" s_shift_amounts a4 l4
  m_shift_amounts : mg "shift_amounts" = some (.ref a4)
  b_shift_amounts : Binds K l4 ["net", "many", "by"] []
  F_any_wire : Fun K "any_wire" "any_wire" s_any_wire a5 l5
  m_any_wire : mg "any_wire" = some (.ref a5)
  b_any_wire : Binds K l5 ["net", "wires"] []
  F_zero_wires : Fun K "zero_wires" "zero_wires" s_zero_wires a6 l6
  m_zero_wires : mg "zero_wires" = some (.ref a6)
  b_zero_wires : Binds K l6 ["net", "ones"] []
  F_first_wires : Fun K "first_wires" "first_wires" s_first_wires a7 l7
  m_first_wires : mg "first_wires" = some (.ref a7)
  b_first_wires : Binds K l7 ["net", "ones"] []
  F_mark_wires : Fun K "mark_wires" "mark_wires" s_mark_wires a8 l8
  m_mark_wires : mg "mark_wires" = some (.ref a8)
  b_mark_wires : Binds K l8 ["net", "ones", "others"] []
  F_chosen_wires : Fun K "chosen_wires" "chosen_wires" s_chosen_wires a9 l9
  m_chosen_wires : mg "chosen_wires" = some (.ref a9)
  b_chosen_wires : Binds K l9 ["net", "wire", "ones", "others"] []
  F_times_wires : Fun K "times_wires" "times_wires" s_times_wires a10 l10
  m_times_wires : mg "times_wires" = some (.ref a10)
  b_times_wires : Binds K l10 ["net", "ones", "others"] []
  F_ran : Fun K "ran" "ran" s_ran a11 l11
  m_ran : mg "ran" = some (.ref a11)
  kb_ran_many : ∃ g, KBn K l11 ["net", "values", "many"] 2 ["many"] g (fun vs zs => vs ++ zs)
  F_gate_bits : Fun K "gate_bits" "gate_bits" s_gate_bits a12 l12
  m_gate_bits : mg "gate_bits" = some (.ref a12)
  b_gate_bits : Binds K l12 ["gate", "wires", "full"] []
  F__law_box : Fun K "_law_box" "_law_box" sBox a13 l13
  m__law_box : mg "_law_box" = some (.ref a13)
  b__law_box : Binds K l13 ["_law_script", "_law_k"] []
  F__law_take : Fun K "_law_take" "_law_take" sTake a14 l14
  m__law_take : mg "_law_take" = some (.ref a14)
  b__law_take : Binds K l14 ["_law_box_here", "_law_size"] []
  F__law_made : Fun K "_law_made" "_law_made" s__law_made a15 l15
  m__law_made : mg "_law_made" = some (.ref a15)
  b__law_made : Binds K l15 ["_law_rows", "_law_wide"] []
  F__law_part : Fun K "_law_part" "_law_part" s__law_part a16 l16
  m__law_part : mg "_law_part" = some (.ref a16)
  b__law_part : Binds K l16 ["_law_net", "_law_sort", "_law_wires"] []
  F__law_deed_right : Fun K "_law_deed_right" "_law_deed_right" s__law_deed_right a17 l17
  m__law_deed_right : mg "_law_deed_right" = some (.ref a17)
  b__law_deed_right : Binds K l17 ["_law_box_here", "_law_nets", "_law_kept"] []
  F__law_stands : Fun K "_law_stands" "_law_stands" s__law_stands a18 l18
  m__law_stands : mg "_law_stands" = some (.ref a18)
  b__law_stands : Binds K l18 ["_law_net", "_law_own"] []
  T : FT K mg C
  M : Mk K C a19
  F_Net___init__ : Fun K "__init__" "Net.__init__" s_Net___init__ a19 l19
  b_Net___init__ : Binds K l19 ["self", "many"] []
  F_Net_both : Fun K "both" "Net.both" s_Net_both a20 l20
  b_Net_both : Binds K l20 ["self", "a", "b"] []
  M_Net_both : Meth K C "both" a20
  F_Net_either : Fun K "either" "Net.either" s_Net_either a21 l21
  b_Net_either : Binds K l21 ["self", "a", "b"] []
  M_Net_either : Meth K C "either" a21
  F_Net_unlike : Fun K "unlike" "Net.unlike" s_Net_unlike a22 l22
  b_Net_unlike : Binds K l22 ["self", "a", "b"] []
  M_Net_unlike : Meth K C "unlike" a22
  F_Net_other : Fun K "other" "Net.other" s_Net_other a23 l23
  b_Net_other : Binds K l23 ["self", "a"] []
  M_Net_other : Meth K C "other" a23
  F_Net_fixed : Fun K "fixed" "Net.fixed" s_Net_fixed a24 l24
  b_Net_fixed : Binds K l24 ["self", "bit"] []
  M_Net_fixed : Meth K C "fixed" a24
  F_Net_put : Fun K "put" "Net.put" s_Net_put a25 l25
  b_Net_put : Binds K l25 ["self", "kind", "wires"] []
  M_Net_put : Meth K C "put" a25
  F_Net_put_gate : Fun K "put_gate" "Net.put_gate" s_Net_put_gate a26 l26
  b_Net_put_gate : Binds K l26 ["self", "gate", "depth"] []
  M_Net_put_gate : Meth K C "put_gate" a26
  F_Net_need : Fun K "need" "Net.need" s_Net_need a27 l27
  b_Net_need : Binds K l27 ["self", "wires"] []
  M_Net_need : Meth K C "need" a27
  F_Net_give : Fun K "give" "Net.give" s_Net_give a28 l28
  b_Net_give : Binds K l28 ["self", "name", "wires"] []
  M_Net_give : Meth K C "give" a28
  F_Net_given : Fun K "given" "Net.given" s_Net_given a29 l29
  b_Net_given : Binds K l29 ["self", "name"] []
  M_Net_given : Meth K C "given" a29
  F_Net_names : Fun K "names" "Net.names" s_Net_names a30 l30
  b_Net_names : Binds K l30 ["self"] []
  M_Net_names : Meth K C "names" a30
  F_Net_inputs : Fun K "inputs" "Net.inputs" s_Net_inputs a31 l31
  b_Net_inputs : Binds K l31 ["self"] []
  M_Net_inputs : Meth K C "inputs" a31
  F_Net_gates : Fun K "gates" "Net.gates" s_Net_gates a32 l32
  b_Net_gates : Binds K l32 ["self"] []
  M_Net_gates : Meth K C "gates" a32
  F_Net___len__ : Fun K "__len__" "Net.__len__" s_Net___len__ a33 l33
  b_Net___len__ : Binds K l33 ["self"] []
  M_Net___len__ : Meth K C "__len__" a33
  F_Net_like : Fun K "like" "Net.like" s_Net_like a34 l34
  b_Net_like : Binds K l34 ["self"] []
  M_Net_like : Meth K C "like" a34
  z_sorted : mg "sorted" = none
  z_dict : mg "dict" = none
variable {C : Addr} {a1 a2 a3 a4 a5 a6 a7 a8 a9 a10 a11 a12 a13 a14 a15 a16 a17 a18 a19 a20 a21 a22 a23 a24 a25 a26 a27 a28 a29 a30 a31 a32 a33 a34 : Addr} {l1 l2 l3 l4 l5 l6 l7 l8 l9 l10 l11 l12 l13 l14 l15 l16 l17 l18 l19 l20 l21 l22 l23 l24 l25 l26 l27 l28 l29 l30 l31 l32 l33 l34 : FuncData}

end
theorem gset_if2 {i : Nat} {v : V} {σ : L2.St} {H : Hp} {c : TT} {t u r : TS} {D : Ends} (h : tIfS c t u { D with nx := r D } (σ.set i (some v)) H) : gName i v σ H ({ D with nx := tSeq (tIfS c t u) r D } : Ends).nx := h
theorem gset_if {σ : L2.St} {H : Hp} {c : TT} {t u r : TS} {D : Ends} (h : tIfS c t u { D with nx := r D } σ H) : tSeq (tIfS c t u) r D σ H := h
theorem ifS_cut {c : TT} {t u : TS} {D : Ends} {σ : L2.St} {H : Hp} (R : L2.St → Hp → Prop) (h : ∀ D' : Ends, (∀ σ' H', R σ' H' → D'.nx σ' H') → tIfS c t u D' σ H) (q : ∀ σ' H', R σ' H' → D.nx σ' H') : tIfS c t u D σ H := h D q
theorem ifS_ev {c : TT} {t u : TS} {D : Ends} {σ : L2.St} {H : Hp} (R : Bool → Hp → Prop) (h : ∀ Q : Bool → Hp → Prop, (∀ z H', R z H' → Q z H') → c σ H Q) (q1 : ∀ H', R true H' → t D σ H') (q2 : ∀ H', R false H' → u D σ H') : tIfS c t u D σ H := h _ fun z H' r => by
  cases z with
  | true => exact q1 H' r
  | false => exact q2 H' r
theorem if_ev {t : TT} {ta tb : TE} {σ : L2.St} {H : Hp} {Q : VK} (R : V → Hp → Prop) (h : ∀ Q : VK, (∀ z H', R z H' → Q z H') → tIf t ta tb σ H Q) (q : ∀ z H', R z H' → Q z H') : tIf t ta tb σ H Q := h Q q
theorem and_ev {ta tb : TE} {σ : L2.St} {H : Hp} {Q : VK} (R : V → Hp → Prop) (h : ∀ Q : VK, (∀ z H', R z H' → Q z H') → tAndV ta tb σ H Q) (q : ∀ z H', R z H' → Q z H') : tAndV ta tb σ H Q := h Q q
theorem or_ev {ta tb : TE} {σ : L2.St} {H : Hp} {Q : VK} (R : V → Hp → Prop) (h : ∀ Q : VK, (∀ z H', R z H' → Q z H') → tOrV ta tb σ H Q) (q : ∀ z H', R z H' → Q z H') : tOrV ta tb σ H Q := h Q q
theorem ifset_ev {c : TT} {e : TE} {k : Nat} {D : Ends} {σ : L2.St} {H : Hp} {old : V} (hσ : σ.set k (some old) = σ) (R : V → Hp → Prop) (h : ∀ Q : VK, (∀ z H', R z H' → Q z H') → c σ H (fun b H1 => if b = true then e σ H1 Q else Q old H1)) (q : ∀ z H', R z H' → D.nx (σ.set k (some z)) H') : tIfS c (tAsg e (gName k)) tNext D σ H := by
  have t := h (fun z H' => D.nx (σ.set k (some z)) H') q
  rw [hσ] at t
  exact t
theorem two_cut {t : TE} {g : TG} {c : TT} {a b r : TS} {D : Ends} {σ : L2.St} {H : Hp} (R : L2.St → Hp → Prop) (h : ∀ D' : Ends, (∀ σ' H', R σ' H' → D'.nx σ' H') → tSeq (tAsg t g) (tIfS c a b) D' σ H) (q : ∀ σ' H', R σ' H' → r D σ' H') : tSeq (tAsg t g) (tSeq (tIfS c a b) r) D σ H := h { D with nx := r D } q
theorem org80 {ta tb : TE} {σ : L2.St} {H : Hp} {Q : VK} {c d : Bool} (ha : ∀ Q : VK, Q (.bl c) H → ta σ H Q) (hb : ∀ Q : VK, Q (.bl d) H → tb σ H Q) (h : Q (.bl (c || d)) H) : tOrV ta tb σ H Q := by
  refine ha _ ⟨c, rfl, ?_⟩
  cases c
  · exact hb _ h
  · exact h
theorem gnext_if18 {σ : L2.St} {H : Hp} {c : TT} {t u : TS} {r : TS} {D : Ends} (h : tIfS c t u { D with nx := r D } σ H) : tNext ({ D with nx := tSeq (tIfS c t u) r D } : Ends) σ H := h
theorem ret_if18 {c : TT} {ta tb : TE} {D : Ends} {σ : L2.St} {H : Hp} (R : Bool → Hp → Prop) (h : ∀ Q : Bool → Hp → Prop, (∀ z H', R z H' → Q z H') → c σ H Q) (q1 : ∀ H', R true H' → ta σ H' D.rt) (q2 : ∀ H', R false H' → tb σ H' D.rt) : tRet (tIf c ta tb) D σ H := h _ fun z H' r => by
  cases z with
  | true => exact q1 H' r
  | false => exact q2 H' r
theorem gset_if3 {i : Nat} {v : V} {σ : L2.St} {H : Hp} {c : TT} {t u r : TS} {D : Ends} (h : tIfS c t u { D with nx := r D } (σ.set i (some v)) H) : gName i v σ H (tSeq (tIfS c t u) r D) := h
theorem asg_ev {t : TE} {i : Nat} {r : TS} {D : Ends} {σ : L2.St} {H : Hp} (R : V → Hp → Prop) (h : ∀ Q : VK, (∀ z H', R z H' → Q z H') → t σ H Q) (q : ∀ z H', R z H' → r D (σ.set i (some z)) H') : tSeq (tAsg t (gName i)) r D σ H := h _ q
/-! ### dict comprehensions, walked -/
section
variable {J : It} {n : Nat} {G : Hp → Prop} {Y : Nat → Hp → V → Hp → Prop}
theorem dc_it (w : Walk J n G Y) {g : TG} {tt : TT} {tk tv : TE} {vs : List Nat} {σ : L2.St} {H1 : Hp} {D : Addr} {Qd : Hp → Prop} (Pv : Nat → Hp → Prop) (h0 : Pv 0 (upd H1 D (.dK []))) (hG : ∀ i H, i ≤ n → Pv i H → G H)
    (hs : ∀ i x H H', i < n → Pv i H → Y i H x H' → g x (wipe σ vs) H' fun σ2 H2 => wipe σ2 vs = wipe σ vs ∧ tt σ2 H2 fun b H3 =>
      if b = true then tk σ2 H3 fun y H4 => tv σ2 H4 fun z H5 => ∃ kvs k, y = kV k ∧ H5 D = some (.dK kvs) ∧ kvs.length < sizeLine ∧ Pv (i + 1) (upd H5 D (.dK (putK kvs k z))) else Pv (i + 1) H3) (hd : ∀ H, Pv n H → Qd H) :
    ∃ W : Nat → Nat → Hp → Prop, (∃ m, W 0 m (upd H1 D (.dK []))) ∧ ∀ i m H, W i m H →
      (J.stop i H ∧ Qd H) ∨ (J.go i H ∧ ∃ Nx : Hp → Prop, (∀ H', Nx H' → ∃ m', m' < m ∧ W (i + 1) m' H') ∧ ∀ x H', J.yld i H x H' → g x (wipe σ vs) H' fun σ2 H2 => wipe σ2 vs = wipe σ vs ∧ tt σ2 H2 fun b H3 =>
        if b = true then tk σ2 H3 fun y H4 => tv σ2 H4 fun z H5 => ∃ kvs k, y = kV k ∧ H5 D = some (.dK kvs) ∧ kvs.length < sizeLine ∧ Nx (upd H5 D (.dK (putK kvs k z))) else Nx H3) := by
  refine ⟨fun i m H => m = n - i ∧ i ≤ n ∧ Pv i H, ⟨n, by simp, Nat.zero_le _, h0⟩, ?_⟩
  rintro i m H ⟨rfl, hi, p⟩
  have q := hG i H hi p
  by_cases hlt : i < n
  · refine .inr ⟨w.goes i H hlt q, Pv (i + 1), fun H' p' => ⟨n - (i + 1), by omega, rfl, hlt, p'⟩, fun x H' y => hs i x H H' hlt p (w.yields i H x H' hlt q y)⟩
  · have e : i = n := by omega
    subst e
    exact .inl ⟨w.stops H q, hd H p⟩
end
/-! ### len(x) of an own __len__ -/
theorem call_lenOwn {X : Cx} {C f : Addr} {fd : FuncData} {ps : List Str} {sp : Sp} {CI : CXT} {n : Nat} {E : XK} (hm : Meth X.K C "__len__" f) (FN : FnOk X.prog X.w X.K X.mg X.base CI n f fd ps sp) (bN : Binds X.K fd ps []) (hr : Room (n + 1) X.A) (hx : Passes CI X E) :
    CallR X (.builtin "len") (fun xs H Q => ∃ (x dx : Addr) (fs : List (Str × V)), xs = [.ref x] ∧ H x = some (.ins C dx fs) ∧ sp [.ref x] H (fun v H' => ∃ k : Int, v = .int k ∧ 0 ≤ k ∧ k < 2 ^ 63 ∧ Q (.int k) H') E) := by
  intro pins s σ H xs us Q I r h
  obtain ⟨a, dx, fs, rfl, ha, hsp⟩ := h
  obtain ⟨u, rfl, ru⟩ := vals1 r
  obtain rfl : u = Value.ref a := ru
  obtain ⟨mA, J, _⟩ := ins_get I.hok ha
  obtain ⟨od, J, _⟩ := J.look
  obtain ⟨m, hF⟩ := I.fr
  have sb : Sub X n X.A.in1 := Sub.in1 ⟨hr, rfl⟩
  refine PySem.W.len_K hF I.ok.mod.kin J hm.at_ hm.fn ?_
  have e0 : Env0 X.prog X.w X.K X.mg X.base X.A.in1 X.stack s H := by
    have e := I.env0
    exact ⟨by rw [sb.fr]; exact e.frames, e.mod, e.bs, e.bsz, e.funs, e.frf, e.hok, e.bare⟩
  have hl := FN.len _ _ _ _ hsp
  have r2 : Vals [V.ref a] [Value.ref a] := .cons rfl .nil
  refine wpAny_call (codeAny_mono (FN.run X.A.in1 X.stack s H ⟨[.ref a], []⟩ [.ref a] [.ref a] _ E sb.room e0 (by
    have := bN s [.ref a] I.kIn (by simpa using hl)
    simpa using this) r2 hsp) fun r s' hq => ?_)
  cases r with
  | error e => exact hx pins σ H s e s' I hq
  | ok fl =>
    cases fl with
    | ret u =>
      obtain ⟨v, H', I', rv, k, rfl, k0, k1, q⟩ := I.after hq
      obtain ⟨t, rfl⟩ := rv
      exact ⟨⟨k0, k1⟩, .int k, H', I'.tok _, ⟨_, rfl⟩, q⟩
    | next => exact False.elim hq
    | brk => exact False.elim hq
    | cont => exact False.elim hq
/-! ### zip of two lists or tuples -/
def SqIt (t : Bool) (h : Heap) (i2 a : Addr) (i : Nat) : Prop := bif t then h.IsTupleIter i2 a i else h.IsListIter i2 a i
def SqIs (t : Bool) (h : Heap) (a : Addr) (its : Array Value) : Prop := bif t then h.IsTuple a its else h.IsList a its
theorem SqIt.ex {t : Bool} {h : Heap} {i2 a : Addr} {i : Nat} (s : SqIt t h i2 a i) : ∃ o, h.get? i2 = some o ∧ ∀ f, o.data ≠ .cell f := by
  cases t <;> obtain ⟨o, e, _, d⟩ := s <;> exact ⟨o, e, fun f q => by rw [d] at q; cases q⟩
theorem draws_sq {prog : Program} {w : World} {A : Around} (t : Bool) (hh : A.handled = none) (it l : Addr) (hne : l ≠ it) (items : Array Value) :
    Draws prog w A it [it, l] items.size (fun i v => items[i]? = some v) (fun i h => SqIt t h it l i ∧ SqIs t h l items) := by
  cases t
  · exact Draws.list hh it l hne items
  · exact Draws.tuple hh it l hne items
theorem sq_val {X : Cx} {t : Bool} {pins : List (Addr × Obj)} {σ : L2.St} {H : Hp} {s : Shared} {a : Addr} {ys : List V} (I : Inv X pins σ H s) (h : bif t then SqT X.K H a ys else SqL X.K H a ys) : ∃ its : List Value, Vals ys its ∧ SqIs t s.heap a its.toArray := by
  cases t
  · obtain ⟨its, rv, p, _⟩ := I.list h
    exact ⟨its, rv, p.isList⟩
  · obtain ⟨its, rv, p, _⟩ := I.tuple h
    exact ⟨its, rv, p⟩
theorem sq_inj {X : Cx} {t : Bool} {pins : List (Addr × Obj)} {σ : L2.St} {H : Hp} {s : Shared} {a : Addr} {ys zs : List V} (I : Inv X pins σ H s) (h : bif t then SqT X.K H a ys else SqL X.K H a ys) (h2 : bif t then SqT X.K H a zs else SqL X.K H a zs) : ys = zs := by
  cases t
  · exact I.list_inj h h2
  · exact I.tuple_inj h h2
theorem begins_sq (t : Bool) (l : Addr) (items : Array Value) : Begins (.ref l) { cls := .type (bif t then "tuple_iterator" else "list_iterator"), data := .fields #[.ref l, .int 0 0] } fun h => SqIs t h l items := by
  cases t
  · exact begins_list l items
  · exact begins_tuple l items
def Sq2 (t : Bool) (K : PySem.W.Frag) (H : Hp) (a : Addr) (xs : List V) : Prop := bif t then SqT K H a xs else SqL K H a xs
theorem Sq2.to {t : Bool} {K : PySem.W.Frag} {H : Hp} {a : Addr} {xs : List V} (h : Sq2 t K H a xs) : SqL K H a xs ∨ SqT K H a xs := by
  cases t
  · exact .inl h
  · exact .inr h
theorem Sq2.of {K : PySem.W.Frag} {H : Hp} {a : Addr} {xs : List V} (h : SqL K H a xs ∨ SqT K H a xs) : ∃ t, Sq2 t K H a xs := h.elim (fun z => ⟨false, z⟩) fun z => ⟨true, z⟩
def Itzb (t1 t2 : Bool) (K : PySem.W.Frag) (a b : Addr) : It :=
  ⟨fun i H => ∃ (xs ys : List V), Sq2 t1 K H a xs ∧ Sq2 t2 K H b ys ∧ i < xs.length ∧ i < ys.length,
   fun i H v H' => ∃ T x y, v = .ref T ∧ H T = none ∧ H' = upd H T (.tup [x, y]) ∧ (∀ xs, Sq2 t1 K H a xs → xs[i]? = some x) ∧ ∀ ys, Sq2 t2 K H b ys → ys[i]? = some y,
   fun i H => ∃ (xs ys : List V), Sq2 t1 K H a xs ∧ Sq2 t2 K H b ys ∧ i = min xs.length ys.length⟩
def StZb (t1 t2 : Bool) (a b z TI TO i1 i2 : Addr) (i : Nat) (h : Heap) : Prop :=
  IsZip h z TI TO .none ∧ IsTupOf2 h TI (.ref i1) (.ref i2) ∧ (∃ u v, IsTupOf2 h TO u v) ∧ SqIt t1 h i1 a i ∧ SqIt t2 h i2 b i
theorem turn_zb {P : Program} {w : World} {K : PySem.W.Frag} {elts : List Expr} {kk : Nat} {tpos : Pos} {t1 t2 : Bool} {a b z TI TO i1 i2 : Addr} (S : ZipSep2 z TI TO i1 i2 [i1, a] [i2, b]) (na : a ≠ i1) (nb : b ≠ i2) :
    Turn P w K (.Tuple elts kk tpos) (Itzb t1 t2 K a b) [z, TI, TO, i1, i2] z (StZb t1 t2 a b z TI TO i1 i2) where
  mem := List.mem_cons_self
  obj := by
    rintro i h ⟨a1, a2, ⟨u, v, a3⟩, s1, s2⟩ c hm
    simp only [List.mem_cons, List.not_mem_nil, or_false] at hm
    rcases hm with e | e | e | e | e <;> subst e
    · exact ⟨_, a1, (fun _ q => nomatch q)⟩
    · exact ⟨_, a2, (fun _ q => nomatch q)⟩
    · exact ⟨_, a3, (fun _ q => nomatch q)⟩
    · obtain ⟨o2, e2, n2⟩ := s1.ex
      exact ⟨o2, e2, n2⟩
    · obtain ⟨o2, e2, n2⟩ := s2.ex
      exact ⟨o2, e2, n2⟩
  keep := by
    rintro i h h' ⟨a1, a2, ⟨u, v, a3⟩, s1, s2⟩ k
    refine ⟨k z (by simp) _ a1, k TI (by simp) _ a2, ⟨u, v, k TO (by simp) _ a3⟩, ?_, ?_⟩
    · cases t1 <;> exact s1.at fun o q => k i1 (by simp) o q
    · cases t2 <;> exact s2.at fun o q => k i2 (by simp) o q
  item := by
    intro X hP hw hK hc i pins s σ H E I hf st hg
    subst hP hw hK
    obtain ⟨xs, ys, hx, hy, l1, l2⟩ := hg
    obtain ⟨its1, rv1, p1⟩ := sq_val I hx
    obtain ⟨its2, rv2, p2⟩ := sq_val I hy
    obtain ⟨u, hu, ru⟩ := rv1.get (List.getElem?_eq_getElem l1)
    obtain ⟨v, hv, rv⟩ := rv2.get (List.getElem?_eq_getElem l2)
    have W := WalksT.zipD2 (prog := X.prog) (w := X.w) (A := X.A) S (draws_sq (A := X.A.in1) t1 (I.ok.hd hc) i1 a na its1.toArray) (draws_sq (A := X.A.in1) t2 (I.ok.hd hc) i2 b nb its2.toArray)
    have hin : ∀ c ∈ [z, TO, i1, i2], c ∈ [z, TI, TO, i1, i2] := fun b hb => by
      simp only [List.mem_cons, List.not_mem_nil, or_false] at hb ⊢
      rcases hb with q | q | q | q <;> simp [q]
    obtain ⟨a1, a2, a3, s1, s2⟩ := id st
    have g1 := rv1.length
    have g2 := rv2.length
    refine W.item i s _ E (by simp only [List.size_toArray]; omega) ⟨a1, a2, a3, ⟨s1, p1⟩, ⟨s2, p2⟩⟩ fun T vals h1 tk pt hT isT mid k1 => ?_
    obtain ⟨u1, u2, e1, e2, rfl⟩ := pt
    rw [List.getElem?_toArray, hu] at e1
    rw [List.getElem?_toArray, hv] at e2
    cases e1
    cases e2
    refine ⟨.ref T, rfl, W.go elts kk tpos i T { s with heap := h1, toks := tk } _ E mid fun h2 st2 k2 => ?_⟩
    have nT : T ∉ [z, TO, i1, i2] := W.apart i T h1 mid
    have isT2 : h2.IsTuple T #[u, v] := isT.at fun o e => k2 T o nT e
    have new : ObjOk X.prog X.w (upd H T (.tup [xs[i], ys[i]])) h2 T (.tup [xs[i], ys[i]]) :=
      ⟨by show 2 ≤ sizeLine; decide, [u, v], .cons ru (.cons rv .nil), isT2⟩
    have I2 : Inv X pins σ (upd H T (.tup [xs[i], ys[i]])) { s with heap := h2, toks := tk } :=
      I.turnedNew (t' := tk) (ch := [z, TI, TO, i1, i2]) (fun b o nb e => k2 b o (fun q => nb (hin b q)) (k1 b o (fun q => nb (hin b q)) e)) hf hT new
    obtain ⟨b1, b2, b3, ⟨b4, _⟩, b5, _⟩ := st2
    refine ⟨.ref T, _, I2, rfl, ⟨T, _, _, rfl, I.hok.fresh hT, rfl, fun zs' hz' => ?_, fun zs' hz' => ?_⟩, ⟨b1, b2, b3, b4, b5⟩, fun b hb => ?_⟩
    · rw [sq_inj I hz' hx]
      exact List.getElem?_eq_getElem l1
    · rw [sq_inj I hz' hy]
      exact List.getElem?_eq_getElem l2
    have nb : b ≠ T := by
      obtain ⟨a1, a2, ⟨u, v, a3⟩, s1, s2⟩ := st
      obtain ⟨o1, e1, _⟩ := s1.ex
      obtain ⟨o2, e2, _⟩ := s2.ex
      have lt : b < s.heap.objs.size := by
        simp only [List.mem_cons, List.not_mem_nil, or_false] at hb
        rcases hb with q | q | q | q | q <;> subst q
        · exact Heap.lt_size a1
        · exact Heap.lt_size a2
        · exact Heap.lt_size a3
        · exact Heap.lt_size e1
        · exact Heap.lt_size e2
      exact Nat.ne_of_lt (Nat.lt_of_lt_of_le lt hT)
    rw [upd_ne nb]
    exact (hf b hb).1
  done := by
    intro X hP hw hK hc i pins s σ H E I hf st hg
    subst hP hw hK
    obtain ⟨xs, ys, hx, hy, hi⟩ := hg
    obtain ⟨its1, rv1, p1⟩ := sq_val I hx
    obtain ⟨its2, rv2, p2⟩ := sq_val I hy
    have W := WalksT.zipD2 (prog := X.prog) (w := X.w) (A := X.A) S (draws_sq (A := X.A.in1) t1 (I.ok.hd hc) i1 a na its1.toArray) (draws_sq (A := X.A.in1) t2 (I.ok.hd hc) i2 b nb its2.toArray)
    have hn : i = min its1.toArray.size its2.toArray.size := by
      have e1 := rv1.length
      have e2 := rv2.length
      simp only [List.size_toArray]
      omega
    subst hn
    obtain ⟨a1, a2, a3, s1, s2⟩ := id st
    refine W.done s _ E ⟨a1, a2, a3, ⟨s1, p1⟩, ⟨s2, p2⟩⟩ fun h1 tk k1 => ⟨rfl, I.turnedL (t' := tk) (ch := [z, TI, TO, i1, i2]) (fun b o nb e => k1 b o (fun q => nb ?_) e) hf⟩
    simp only [List.mem_cons, List.not_mem_nil, or_false] at q ⊢
    rcases q with q | q | q | q <;> simp [q]
  self := fun A i s Q E st h => wpAny_pyIter_zip st.1 h
def iZb (K : PySem.W.Frag) (ta : TA) : TI := fun σ H R => ta σ H fun vs H1 => ∃ (t1 t2 : Bool) (a b : Addr) (xs ys : List V), vs = [.ref a, .ref b] ∧ Sq2 t1 K H1 a xs ∧ Sq2 t2 K H1 b ys ∧ R (Itzb t1 t2 K a b) H1
theorem pi_zb {X : Cx} {e e2 : Expr} {ta : TA} {p pos tpos : Pos} {elts : List Expr} {kk : Nat} (hg : Gl X "zip") (hm : X.mg "zip" = none) (ha : PA X [e, e2] ta)
    (hs : starEach [e, e2] X.env = (false, eval e X.env) :: starEach [e2] X.env := by rfl) (hp : (backTo pos (starEach [e2] X.env)).any (·.1) = false := by rfl) :
    PI X (.Tuple elts kk tpos) (.Call (.Name "zip" p) [e, e2] [] pos) (iZb X.K ta) := by
  constructor
  intro pins s σ H R I h
  refine Call_ (ld_blt I hg hm PyProof.Rows.boot_zip (PyProof.Rows.callWith_type1 (thn (ha.run pos pins s σ H _ I h) fun us s1 hh => ?_) hs hp))
  obtain ⟨vs, H1, I1, r1, t1, t2, a, b, xs, ys, rfl, hx, hy, q⟩ := hh
  match us, r1 with
  | [v1, v2], .cons hv1 (.cons hv2 .nil) =>
    cases hv1
    cases hv2
    obtain ⟨its1, rv1, p1⟩ := sq_val I1 hx
    obtain ⟨its2, rv2, p2⟩ := sq_val I1 hy
    have la : a < s1.heap.objs.size := by
      cases t1 <;> obtain ⟨o, e, _⟩ := p1 <;> exact Heap.lt_size e
    have lb : b < s1.heap.objs.size := by
      cases t2 <;> obtain ⟨o, e, _⟩ := p2 <;> exact Heap.lt_size e
    refine zip_begins2 (begins_sq t1 a its1.toArray) (begins_sq t2 b its2.toArray) p1 p2 fun h' a1 a2 a3 g1 g2 _ k => wpAny_pyIter_zip a1 ?_
    have I2 : Inv X pins σ H1 { s1 with heap := h' } := I1.kept (t' := s1.toks) k
    have S : ZipSep2 (s1.heap.objs.size + 4) (s1.heap.objs.size + 2) (s1.heap.objs.size + 3) s1.heap.objs.size (s1.heap.objs.size + 1) [s1.heap.objs.size, a] [s1.heap.objs.size + 1, b] := zip_sep2 (fp1 := [a]) (fp2 := [b]) (fun c q => by rw [List.mem_singleton.mp q]; exact la) (fun c q => by rw [List.mem_singleton.mp q]; exact lb)
    have fr : ∀ c ∈ [s1.heap.objs.size + 4, s1.heap.objs.size + 2, s1.heap.objs.size + 3, s1.heap.objs.size, s1.heap.objs.size + 1], FpOk X pins H1 c := fun b hb => by
      have le : s1.heap.objs.size ≤ b := by
        simp only [List.mem_cons, List.not_mem_nil, or_false] at hb
        rcases hb with z | z | z | z | z <;> rw [z]
        · exact Nat.le_add_right _ _
        · exact Nat.le_add_right _ _
        · exact Nat.le_add_right _ _
        · exact Nat.le_refl _
        · exact Nat.le_add_right _ _
      exact I1.fpOk le (I1.hok.fresh le)
    refine ⟨s1.heap.objs.size + 4, [s1.heap.objs.size + 4, s1.heap.objs.size + 2, s1.heap.objs.size + 3, s1.heap.objs.size, s1.heap.objs.size + 1], _, _, H1, rfl, I2, turn_zb S (Nat.ne_of_lt la) (Nat.ne_of_lt (Nat.lt_succ_of_lt lb)), ⟨a1, a2, ⟨_, _, a3⟩, ?_, ?_⟩, fr, q⟩
    · cases t1 <;> exact ⟨_, g1, rfl, rfl⟩
    · cases t2 <;> exact ⟨_, g2, rfl, rfl⟩
theorem walk_zb {K : PySem.W.Frag} {t1 t2 : Bool} {a b : Addr} {xs ys : List V} {n : Nat} (hx : xs.length = n) (hy : ys.length = n) : Walk (Itzb t1 t2 K a b) n (fun H => Sq2 t1 K H a xs ∧ Sq2 t2 K H b ys) (YPair (fun i => xs[i]?) (fun i => ys[i]?)) := by
  refine ⟨fun i _ hi q => ⟨xs, ys, q.1, q.2, by omega, by omega⟩, fun _ q => ⟨xs, ys, q.1, q.2, by omega⟩, fun i H v H' hi q z => ?_⟩
  obtain ⟨T, c, y, h1, h2, h3, h4, h5⟩ := z
  exact ⟨T, _, _, h1, h2, h3, h4 xs q.1, h5 ys q.2⟩
/-! ### a list or a tuple walked -/
def Itq (t : Bool) (K : PySem.W.Frag) (a : Addr) : It := bif t then Itt K a else Itl K a
def iSq (K : PySem.W.Frag) (tl : TE) : TI := fun σ H R => tl σ H fun x H1 => ∃ (t : Bool) (a : Addr) (xs : List V), x = .ref a ∧ Sq2 t K H1 a xs ∧ R (Itq t K a) H1
theorem pi_sq {X : Cx} {tg l : Expr} {tl : TE} (hl : PE X l tl) : PI X tg l (iSq X.K tl) := by
  refine ⟨fun pins s σ H R I h => ?_⟩
  refine thn (hl.run pins s σ H _ I h) fun v s1 ⟨x, H1, I1, r1, q1⟩ => ?_
  obtain ⟨t, a, xs, e, hq, q⟩ := q1
  subst e
  cases r1
  cases t
  · obtain ⟨its, rv, p, hz⟩ := I1.list hq
    refine wpAny_pyIter_list p.isList ?_
    refine ⟨s1.heap.objs.size, [s1.heap.objs.size], _, _, H1, rfl, I1.kept (t' := s1.toks) fun b o e => Heap.get?_push_of_some _ e, turn_list a _, ⟨_, Heap.get?_push_size _ rfl, rfl, rfl⟩, fun b hb => ?_, q⟩
    have e : b = s1.heap.objs.size := by simpa using hb
    subst e
    exact I1.fpOk (Nat.le_refl _) (I1.hok.fresh (Nat.le_refl _))
  · obtain ⟨its, rv, p, hz⟩ := I1.tuple hq
    refine wpAny_pyIter_tuple (show s1.heap.IsTuple a its.toArray from p) ?_
    refine ⟨s1.heap.objs.size, [s1.heap.objs.size], _, _, H1, rfl, I1.kept (t' := s1.toks) fun b o e => Heap.get?_push_of_some _ e, turn_tuple a _, ⟨_, Heap.get?_push_size _ rfl, rfl, rfl⟩, fun b hb => ?_, q⟩
    have e : b = s1.heap.objs.size := by simpa using hb
    subst e
    exact I1.fpOk (Nat.le_refl _) (I1.hok.fresh (Nat.le_refl _))
theorem walk_q {t : Bool} {K : PySem.W.Frag} {a : Addr} {xs : List V} : Walk (Itq t K a) xs.length (fun H => Sq2 t K H a xs) (YAt xs) := by
  cases t
  · exact walk_list
  · exact walk_tup
theorem Sq2.len {t : Bool} {K : PySem.W.Frag} {H : Hp} {a : Addr} {xs : List V} (h : Sq2 t K H a xs) : SqL K H a xs ∨ SqT K H a xs := h.to
/-! ### zip of a text and a list or a tuple: new pairs of a sign and an item -/
def Itzl (t : Bool) (K : PySem.W.Frag) (x : Str) (a : Addr) : It :=
  ⟨fun i H => ∃ (ys : List V) (y : V), (bif t then SqT K H a ys else SqL K H a ys) ∧ i < x.cps.size ∧ ys[i]? = some y,
   fun i H v H' => ∃ T c y, v = .ref T ∧ H T = none ∧ H' = upd H T (.tup [.str ⟨#[c]⟩, y]) ∧ x.cps[i]? = some c ∧ ∀ ys, (bif t then SqT K H a ys else SqL K H a ys) → ys[i]? = some y,
   fun i H => ∃ ys : List V, (bif t then SqT K H a ys else SqL K H a ys) ∧ i = min x.cps.size ys.length⟩
def StZl (t : Bool) (x : Str) (tx : Tok) (a z TI TO i1 i2 : Addr) (i : Nat) (h : Heap) : Prop :=
  IsZip h z TI TO .none ∧ IsTupOf2 h TI (.ref i1) (.ref i2) ∧ (∃ u v, IsTupOf2 h TO u v) ∧ h.IsStrIter i1 (strIterType x) x tx i ∧ SqIt t h i2 a i
theorem turn_zl {P : Program} {w : World} {K : PySem.W.Frag} {elts : List Expr} {kk : Nat} {tpos : Pos} {t : Bool} {x : Str} {tx : Tok} {a z TI TO i1 i2 : Addr} (S : ZipSep2 z TI TO i1 i2 [i1] [i2, a]) (na : a ≠ i2) :
    Turn P w K (.Tuple elts kk tpos) (Itzl t K x a) [z, TI, TO, i1, i2] z (StZl t x tx a z TI TO i1 i2) where
  mem := List.mem_cons_self
  obj := by
    rintro i h ⟨a1, a2, ⟨u, v, a3⟩, ⟨o1, e1, _, d1⟩, s2⟩ c hm
    simp only [List.mem_cons, List.not_mem_nil, or_false] at hm
    rcases hm with e | e | e | e | e <;> subst e
    · exact ⟨_, a1, (fun _ q => nomatch q)⟩
    · exact ⟨_, a2, (fun _ q => nomatch q)⟩
    · exact ⟨_, a3, (fun _ q => nomatch q)⟩
    · exact ⟨o1, e1, (fun _ q => by rw [d1] at q; cases q)⟩
    · obtain ⟨o2, e2, n2⟩ := s2.ex
      exact ⟨o2, e2, n2⟩
  keep := by
    rintro i h h' ⟨a1, a2, ⟨u, v, a3⟩, s1, s2⟩ k
    obtain ⟨o1, e1, r1⟩ := s1
    refine ⟨k z (by simp) _ a1, k TI (by simp) _ a2, ⟨u, v, k TO (by simp) _ a3⟩, ⟨o1, k i1 (by simp) _ e1, r1⟩, ?_⟩
    cases t <;> exact s2.at fun o q => k i2 (by simp) o q
  item := by
    intro X hP hw hK hc i pins s σ H E I hf st hg
    subst hP hw hK
    obtain ⟨ys, y, hq, hi, hy⟩ := hg
    obtain ⟨its, rv, p⟩ := sq_val I hq
    obtain ⟨u, hu, ru⟩ := rv.get hy
    have W := WalksT.zipD2 (prog := X.prog) (w := X.w) (A := X.A) S (Draws.text (A := X.A.in1) (I.ok.hd hc) i1 x tx) (draws_sq (A := X.A.in1) t (I.ok.hd hc) i2 a na its.toArray)
    have hin : ∀ b ∈ [z, TO, i1, i2], b ∈ [z, TI, TO, i1, i2] := fun b hb => by
      simp only [List.mem_cons, List.not_mem_nil, or_false] at hb ⊢
      rcases hb with q | q | q | q <;> simp [q]
    obtain ⟨a1, a2, a3, s1, s2⟩ := id st
    have lt : i < its.length := by
      rw [← rv.length]
      obtain ⟨w, _⟩ := List.getElem?_eq_some_iff.mp hy
      exact w
    refine W.item i s _ E (by simp only [List.size_toArray]; omega) ⟨a1, a2, a3, s1, s2, p⟩ fun T vals h1 tk pt hT isT mid k1 => ?_
    obtain ⟨u1, u2, ⟨c, t1, hc1, rfl⟩, h2, rfl⟩ := pt
    rw [List.getElem?_toArray, hu] at h2
    cases h2
    refine ⟨.ref T, rfl, W.go elts kk tpos i T { s with heap := h1, toks := tk } _ E mid fun h2 st2 k2 => ?_⟩
    have nT : T ∉ [z, TO, i1, i2] := W.apart i T h1 mid
    have isT2 : h2.IsTuple T #[.str ⟨#[c]⟩ t1, u] := isT.at fun o e => k2 T o nT e
    have new : ObjOk X.prog X.w (upd H T (.tup [.str ⟨#[c]⟩, y])) h2 T (.tup [.str ⟨#[c]⟩, y]) :=
      ⟨by show 2 ≤ sizeLine; decide, [.str ⟨#[c]⟩ t1, u], .cons ⟨t1, rfl⟩ (.cons ru .nil), isT2⟩
    have I2 : Inv X pins σ (upd H T (.tup [.str ⟨#[c]⟩, y])) { s with heap := h2, toks := tk } :=
      I.turnedNew (t' := tk) (ch := [z, TI, TO, i1, i2]) (fun b o nb e => k2 b o (fun q => nb (hin b q)) (k1 b o (fun q => nb (hin b q)) e)) hf hT new
    obtain ⟨b1, b2, b3, b4, b5, _⟩ := st2
    refine ⟨.ref T, _, I2, rfl, ⟨T, c, y, rfl, I.hok.fresh hT, rfl, hc1, fun zs hz => ?_⟩, ⟨b1, b2, b3, b4, b5⟩, fun b hb => ?_⟩
    · rw [sq_inj I hz hq]
      exact hy
    have nb : b ≠ T := by
      obtain ⟨a1, a2, ⟨u, v, a3⟩, ⟨o1, e1, _⟩, s2⟩ := st
      obtain ⟨o2, e2, _⟩ := s2.ex
      have lt : b < s.heap.objs.size := by
        simp only [List.mem_cons, List.not_mem_nil, or_false] at hb
        rcases hb with q | q | q | q | q <;> subst q
        · exact Heap.lt_size a1
        · exact Heap.lt_size a2
        · exact Heap.lt_size a3
        · exact Heap.lt_size e1
        · exact Heap.lt_size e2
      exact Nat.ne_of_lt (Nat.lt_of_lt_of_le lt hT)
    rw [upd_ne nb]
    exact (hf b hb).1
  done := by
    intro X hP hw hK hc i pins s σ H E I hf st hg
    subst hP hw hK
    obtain ⟨ys, hq, hi⟩ := hg
    obtain ⟨its, rv, p⟩ := sq_val I hq
    have W := WalksT.zipD2 (prog := X.prog) (w := X.w) (A := X.A) S (Draws.text (A := X.A.in1) (I.ok.hd hc) i1 x tx) (draws_sq (A := X.A.in1) t (I.ok.hd hc) i2 a na its.toArray)
    have hn : i = min x.cps.size its.toArray.size := by
      have e1 := rv.length
      have e2 : its.toArray.size = its.length := List.size_toArray
      omega
    subst hn
    obtain ⟨a1, a2, a3, s1, s2⟩ := id st
    refine W.done s _ E ⟨a1, a2, a3, s1, s2, p⟩ fun h1 tk k1 => ⟨rfl, I.turnedL (t' := tk) (ch := [z, TI, TO, i1, i2]) (fun b o nb e => k1 b o (fun q => nb ?_) e) hf⟩
    simp only [List.mem_cons, List.not_mem_nil, or_false] at q ⊢
    rcases q with q | q | q | q <;> simp [q]
  self := fun A i s Q E st h => wpAny_pyIter_zip st.1 h
def iZl (K : PySem.W.Frag) (ta : TA) : TI := fun σ H R => ta σ H fun vs H1 => ∃ (t : Bool) (x : Str) (a : Addr) (ys : List V), vs = [.str x, .ref a] ∧ (bif t then SqT K H1 a ys else SqL K H1 a ys) ∧ R (Itzl t K x a) H1
theorem pi_zl {X : Cx} {e e2 : Expr} {ta : TA} {p pos tpos : Pos} {elts : List Expr} {kk : Nat} (hg : Gl X "zip") (hm : X.mg "zip" = none) (ha : PA X [e, e2] ta)
    (hs : starEach [e, e2] X.env = (false, eval e X.env) :: starEach [e2] X.env := by rfl) (hp : (backTo pos (starEach [e2] X.env)).any (·.1) = false := by rfl) :
    PI X (.Tuple elts kk tpos) (.Call (.Name "zip" p) [e, e2] [] pos) (iZl X.K ta) := by
  constructor
  intro pins s σ H R I h
  refine Call_ (ld_blt I hg hm PyProof.Rows.boot_zip (PyProof.Rows.callWith_type1 (thn (ha.run pos pins s σ H _ I h) fun us s1 hh => ?_) hs hp))
  obtain ⟨vs, H1, I1, r1, t, x, a, ys, rfl, hq, q⟩ := hh
  match us, r1 with
  | [v1, v2], .cons ⟨tx, hx⟩ (.cons hy .nil) =>
    subst hx
    cases hy
    obtain ⟨its, rv, pl⟩ := sq_val I1 hq
    have la : a < s1.heap.objs.size := by
      cases t <;> obtain ⟨o, e, _⟩ := pl <;> exact Heap.lt_size e
    refine zip_begins2 (begins_text x tx) (begins_sq t a its.toArray) trivial pl fun h' a1 a2 a3 g1 g2 _ k => wpAny_pyIter_zip a1 ?_
    have I2 : Inv X pins σ H1 { s1 with heap := h' } := I1.kept (t' := s1.toks) k
    have S : ZipSep2 (s1.heap.objs.size + 4) (s1.heap.objs.size + 2) (s1.heap.objs.size + 3) s1.heap.objs.size (s1.heap.objs.size + 1) [s1.heap.objs.size] [s1.heap.objs.size + 1, a] := zip_sep2 (fp1 := []) (fp2 := [a]) (fun _ q => nomatch q) (fun b q => by rw [List.mem_singleton.mp q]; exact la)
    have fr : ∀ b ∈ [s1.heap.objs.size + 4, s1.heap.objs.size + 2, s1.heap.objs.size + 3, s1.heap.objs.size, s1.heap.objs.size + 1], FpOk X pins H1 b := fun b hb => by
      have le : s1.heap.objs.size ≤ b := by
        simp only [List.mem_cons, List.not_mem_nil, or_false] at hb
        rcases hb with z | z | z | z | z <;> rw [z]
        · exact Nat.le_add_right _ _
        · exact Nat.le_add_right _ _
        · exact Nat.le_add_right _ _
        · exact Nat.le_refl _
        · exact Nat.le_add_right _ _
      exact I1.fpOk le (I1.hok.fresh le)
    refine ⟨s1.heap.objs.size + 4, [s1.heap.objs.size + 4, s1.heap.objs.size + 2, s1.heap.objs.size + 3, s1.heap.objs.size, s1.heap.objs.size + 1], _, _, H1, rfl, I2, turn_zl S (Nat.ne_of_lt (Nat.lt_succ_of_lt la)), ⟨a1, a2, ⟨_, _, a3⟩, ⟨_, g1, rfl, rfl⟩, ?_⟩, fr, q⟩
    cases t <;> exact ⟨_, g2, rfl, rfl⟩
theorem walk_zl {K : PySem.W.Frag} {t : Bool} {x : Str} {a : Addr} {ys : List V} {n : Nat} (hx : x.cps.size = n) (hy : ys.length = n) : Walk (Itzl t K x a) n (fun H => bif t then SqT K H a ys else SqL K H a ys) (YPair (fun i => (x.cps[i]?).map fun c => .str ⟨#[c]⟩) (fun i => ys[i]?)) := by
  refine ⟨fun i _ hi q => ⟨ys, ys[i]'(by omega), q, by omega, List.getElem?_eq_getElem (by omega)⟩, fun _ q => ⟨ys, q, by omega⟩, fun i H v H' hi q z => ?_⟩
  obtain ⟨T, c, y, h1, h2, h3, h4, h5⟩ := z
  exact ⟨T, _, _, h1, h2, h3, by simp only [h4]; rfl, h5 ys q⟩
/-! ### xs[::-1] of a list or a tuple; a starred name ahead of one -/
section
variable {prog : Program} {w : World} {A : Around} {E : Value → Shared → Prop} {s : Shared}
theorem fm_congr {α β : Type} {f g : α → Option β} : ∀ {l : List α}, (∀ x ∈ l, f x = g x) → l.filterMap f = l.filterMap g
  | [], _ => rfl
  | a :: l, h => by
    rw [List.filterMap_cons, List.filterMap_cons, h a (by simp), fm_congr fun x hx => h x (List.mem_cons_of_mem _ hx)]
theorem pick_rev (xs : Array Value) : ((List.range xs.size).filterMap fun (m : Nat) => xs[(((xs.size : Int) - 1) + (m : Int) * (-1)).toNat]?).toArray = xs.toList.reverse.toArray := by
  have e : (List.range xs.size).filterMap (fun (m : Nat) => xs[(((xs.size : Int) - 1) + (m : Int) * (-1)).toNat]?) = ((List.range xs.size).map fun k => xs.size - 1 - k).filterMap (xs[·]?) := by
    rw [List.filterMap_map]
    refine fm_congr fun m hm => ?_
    have := List.mem_range.mp hm
    show xs[(((xs.size : Int) - 1) + (m : Int) * (-1)).toNat]? = xs[xs.size - 1 - m]?
    rw [show (((xs.size : Int) - 1) + (m : Int) * (-1)).toNat = xs.size - 1 - m by omega]
  rw [e, PySem.W.krv_range, List.filterMap_reverse, PySem.W.krv_all]
theorem sliceApplied_rev {sl : Addr} {vs : Value} {n : Nat} {Q : Int × Int × Nat → Shared → Prop} (hs : s.heap.IsSliceOf sl .none .none vs) (ps : IsPart vs (some (-1)))
    (h : Q ((n : Int) - 1, -1, n) s) : wpAny (model prog w) A (Builtin.Slice.sliceApplied (.ref sl) (pure (n : Int))) Q E s := by
  obtain ⟨os, hos, hcs, hds⟩ := id hs
  unfold Builtin.Slice.sliceApplied Builtin.Slice.sliceFields
  refine wpAny_bind (wpAny_bind (wpAny_field hos hds (x := .none) rfl (wpAny_bind (wpAny_field hos hds (x := .none) rfl (wpAny_bind (wpAny_field hos hds (x := vs) rfl (wpAny_pure ?_)))))))
  refine wpAny_bind (HT.slicePart_ ps ?_)
  show wpAny _ _ (if ((-1 : Int) == 0) = true then _ else _) _ _ s
  rw [if_neg (by decide)]
  refine wpAny_bind (slicePart_none (wpAny_bind (slicePart_none (wpAny_bind (wpAny_pure ?_)))))
  have e : Builtin.Slice.slicePlaces ((n : Int) - 1) (-1) (-1) = n := by
    unfold Builtin.Slice.slicePlaces
    have h1 : ¬ ((-1 : Int) > 0) := by omega
    simp only [h1, if_false]
    split
    · rw [show (-(-1) : Int) = 1 by decide, Int.ediv_one]
      omega
    · omega
  show wpAny _ _ (pure (((n : Int) - 1), (-1 : Int), Builtin.Slice.slicePlaces ((n : Int) - 1) (-1) (-1))) _ _ s
  rw [e]
  exact wpAny_pure h
theorem getItem_tuple_rev {t sl : Addr} {items : Array Value} {vs : Value} {Q : Value → Shared → Prop} (ht : IsTup s.heap t items) (hs : s.heap.IsSliceOf sl .none .none vs) (ps : IsPart vs (some (-1)))
    (h : Q (.ref s.heap.objs.size) { s with heap := s.heap.push { cls := .type "tuple", data := .seq items.toList.reverse.toArray } })
    (hsz : items.size ≤ sizeLine) : wpAny (model prog w) A (getItem (.ref t) (.ref sl)) Q E s := by
  have htake : sizeOk (.seq items.toList.reverse.toArray) := by
    show items.toList.reverse.toArray.size ≤ sizeLine
    rw [List.size_toArray, List.length_reverse, Array.length_toList]
    exact hsz
  obtain ⟨os, hos, hcs, hds⟩ := id hs
  have hTs : s.TypeIs (.ref sl) "slice" := ⟨os, hos, hcs⟩
  unfold getItem
  try with_reducible refine wpAny_holding ?_
  first | refine wpAny_bind (wpAny_pure ?_) | skip
  refine wpAny_bind (wpAny_sequenceKey ht.typeIs (by decide) ?_)
  refine wpAny_bind (wpAny_callSpecial?_slot (name := Str.ofString "__getitem__") ht.typeIs PyProof.Rows.slot_tuple_getitem
    (wpAny_call_entry PyProof.Rows.slot_tuple_getitem ht.typeIs entry_tuple_getitem ?_ (args_tuple_getitem _ _)))
  show wpAny _ _ (Builtin.Tuple.tupleItemsOf (.ref t) >>= _) _ _ s
  refine wpAny_bind (tupleItemsOf_ ht ?_)
  refine wpAny_bind (wpAny_typeOf hTs ?_)
  rw [if_pos (by decide)]
  refine wpAny_bind (sliceApplied_rev hs ps ?_)
  have hno : ¬ ((((items.size : Int) - 1) == 0 && (-1 : Int) == 1 && items.size == items.size) = true) := by
    intro q
    rw [Bool.and_eq_true, Bool.and_eq_true] at q
    exact absurd q.1.2 (by decide)
  show wpAny _ _ (if (((items.size : Int) - 1) == 0 && (-1 : Int) == 1 && items.size == items.size) = true then _ else _) _ _ s
  rw [if_neg hno, pick_rev]
  first
    | exact wpAny_bind (m := Builtin.Tuple.tupleExact _) (wpAny_newObj_type (wpAny_pure ⟨_, rfl, wpAny_pure h⟩) htake)
    | exact wpAny_bind (m := Builtin.Tuple.tupleExact _) (wpAny_newObj_type (wpAny_bind (wpAny_pure (wpAny_pure ⟨_, rfl, wpAny_pure h⟩))) htake)
    | exact wpAny_bind (wpAny_bind (m := Builtin.Tuple.tupleExact _) (wpAny_newObj_type (wpAny_pure (wpAny_pure ⟨_, rfl, wpAny_pure h⟩)) htake))
    | exact wpAny_bind (wpAny_bind (m := Builtin.Tuple.tupleExact _) (wpAny_newObj_type (wpAny_pure ⟨_, rfl, wpAny_pure h⟩) htake))
end
section
variable {X : Cx}
def sqO (t : Bool) (xs : List V) : HO := bif t then .tup xs else .lst xs
def tRevS (K : PySem.W.Frag) (te : TE) : TE := fun σ H Q => te σ H fun x H1 => ∃ (t : Bool) (a : Addr) (xs : List V), x = .ref a ∧ Sq2 t K H1 a xs ∧ ∀ p, H1 p = none → Q (.ref p) (upd H1 p (sqO t xs.reverse))
theorem pe_revS {e : Expr} {te : TE} {k : Nat} {p1 p2 p3 pos : Pos} (he : PE X e te) : PE X (.Subscript e (.Slice none none (some (.UnaryOp .USub (.Constant (.int 1) k p1) p2)) p3) pos) (tRevS X.K te) := by
  refine ⟨fun pins s σ H Q I h => ?_⟩
  refine Subscript_ (thn (he.run pins s σ H _ I h) fun v s1 ⟨x, H1, I1, r1, q1⟩ => ?_)
  obtain ⟨t, a, xs, ex, hx, q⟩ := q1
  subst ex
  cases r1
  have hst : PO X (some (.UnaryOp .USub (.Constant (.int 1) k p1) p2)) (tPart (tUn (rU fun i => .int (-i)) (tC (.int 1)))) := po_some (pe_un un_neg pe_int)
  refine wpAny_Slice (thn (po_none.run pins s1 σ H1 (fun o H2 => o = none ∧ H2 = H1) I1 ⟨rfl, rfl⟩) fun vl s2 ⟨l, H2, I2, pl, el, e2⟩ => ?_)
  subst el e2
  refine thn (po_none.run pins s2 σ H2 (fun o H3 => o = none ∧ H3 = H2) I2 ⟨rfl, rfl⟩) fun vu s3 ⟨u, H3, I3, pu, eu, e3⟩ => ?_
  subst eu e3
  refine thn (hst.run pins s3 σ H3 (fun o H4 => o = some (-1) ∧ H4 = H3) I3 ⟨1, rfl, -1, rfl, rfl, rfl⟩) fun vs s4 ⟨o, H4, I4, ps, eo, e4⟩ => ?_
  subst eo e4
  have I5 : Inv X pins σ H4 { s4 with heap := s4.heap.push { cls := .type "slice", data := .fields #[vl, vu, vs] } } := I4.kept (t' := s4.toks) fun b ob q => Heap.get?_push_of_some _ q
  show wpAny (model X.prog X.w) X.A (subscriptTail e (.Slice none none (some (.UnaryOp .USub (.Constant (.int 1) k p1) p2)) p3) (.ref a) (.ref s4.heap.objs.size)) (EP X pins σ Q) X.xe { s4 with heap := s4.heap.push { cls := .type "slice", data := .fields #[vl, vu, vs] } }
  cases t
  · obtain ⟨its, r, ht, hz⟩ := I5.list hx
    have hlen := r.length
    refine tail_any (ops := [.ref a, .ref s4.heap.objs.size]) ht.isList.typeIs (PySem.slot_list_getitem.lookup) ?_ (by with_unfolding_all rfl)
    refine wpAny_getItem_list_slice ht.isList (Heap.IsSliceOf.new _ vl vu vs) pl pu ps (by decide) ?_ (by rw [List.size_toArray]; omega)
    rw [PySem.W.krv_pick]
    refine ⟨.ref _, _, I5.laid (t' := s4.toks) (o := .lst xs.reverse) (fun b ob q => Heap.get?_push_of_some _ q) (Nat.le_refl _) ?_, rfl, q _ (I5.hok.fresh (Nat.le_refl _))⟩
    exact ⟨by rw [List.length_reverse]; exact hz, _, 0, r.reverse, Heap.get?_push_size _ rfl⟩
  · obtain ⟨its, r, ht, hz⟩ := I5.tuple hx
    have hlen := r.length
    cases pl
    cases pu
    refine tail_any (ops := [.ref a, .ref s4.heap.objs.size]) ht.typeIs (PyProof.Rows.slot_tuple_getitem.lookup) ?_ (by with_unfolding_all rfl)
    refine getItem_tuple_rev ht (Heap.IsSliceOf.new _ _ _ vs) ps ?_ (by rw [List.size_toArray]; omega)
    refine ⟨.ref _, _, I5.laid (t' := s4.toks) (o := .tup xs.reverse) (fun b ob q => Heap.get?_push_of_some _ q) (Nat.le_refl _) ?_, rfl, q _ (I5.hok.fresh (Nat.le_refl _))⟩
    exact ⟨by rw [List.length_reverse]; exact hz, _, r.reverse, IsTup.new _ _⟩
theorem Sq2.new {t : Bool} {K : PySem.W.Frag} {H : Hp} {a : Addr} {xs : List V} : Sq2 t K (upd H a (sqO t xs)) a xs := by
  cases t
  · exact SqL.of upd_same
  · exact .inl (.inl upd_same)
/-- *xs, y = a list -/
def gStar1 (K : PySem.W.Frag) (t : TGs) : TG := fun v σ H Q => ∃ (a : Addr) (xs : List V) (y : V), v = .ref a ∧ SqL K H a (xs ++ [y]) ∧ xs.length ≤ 16000 ∧ ∀ D, H D = none → t [.ref D, y] σ (upd H D (.lst xs)) Q
theorem unpack_star1 {prog : Program} {w : World} {A : Around} {E : Value → Shared → Prop} {s : Shared} {l : Addr} {items : Array Value} {Q : List Value → Shared → Prop} (hl : s.heap.IsList l items) (hh : A.handled = none) (h0 : 1 ≤ items.size) (hz : items.size ≤ 16384)
    (h : ∀ (h₂ : Heap) (tk : Nat), (∀ b o, s.heap.get? b = some o → h₂.get? b = some o) → Q ([.ref h₂.objs.size] ++ items.toList.drop (items.size - 1)) { s with heap := h₂.push { cls := .type "list", data := .seq (items.toList.take (items.size - 1)).toArray 0 }, toks := tk }) : wpAny (model prog w) A (unpackItems (.ref l) 2 (some 0)) Q E s := by
  have hlt : l ≠ s.heap.objs.size := by obtain ⟨o, ho, _⟩ := hl; exact Nat.ne_of_lt (Heap.lt_size ho)
  unfold unpackItems
  refine wpAny_bind ?_
  unfold notIterableAtAll
  refine wpAny_bind (wpAny_specialOf hl.typeIs slot_list_iter.lookup ?_)
  refine wpAny_pure ?_
  simp only [Bool.false_eq_true, if_false]
  refine wpAny_bind (wpAny_holding (wpAny_pyIter_list hl ?_))
  refine wpAny_bind (wpAny_holding (PySem.W.kun_draw hlt 0 0 _ _ ⟨_, Heap.get?_push_size _ rfl, rfl, rfl⟩ (hl.push _) (by omega) fun h₁ hit₁ hs₁ => ?_))
  have hl₁ : h₁.IsList l items := (hl.push _).extBut hs₁.extBut hlt
  have hit₁' := hit₁
  obtain ⟨oi, hoi, _⟩ := hit₁'
  have hl₁' := hl₁
  obtain ⟨ol, hol, _⟩ := hl₁'
  rw [List.drop_zero, List.take_zero]
  rw [if_neg (show ¬ (([] : List Value).length < 0) by simp)]
  refine wpAny_bind (wpAny_holding (PySem.W.kun_collect (s := { s with heap := h₁ }) (T := "list_iterator") (.inr (.inr (.inl rfl))) (Walks.list (A := A.in1) hh s.heap.objs.size l hlt items) (fun j u st => st.1.typeIs) (k := 0) (by omega) ⟨hit₁, hl₁⟩ (Heap.lt_size hoi) (Heap.lt_size hol) (fun h₂ tk hk => ?_) (by rw [sizeLine_eq]; omega)))
  have hrl : (items.toList.drop 0).length = items.size := by rw [List.drop_zero, Array.length_toList]
  show wpAny _ _ (if (items.toList.drop 0).length < 2 - 1 - 0 then _ else _) _ _ _
  rw [if_neg (by rw [hrl]; omega)]
  show wpAny _ _ (newList ((items.toList.drop 0).take ((items.toList.drop 0).length - (2 - 1 - 0))) >>= fun d => pure ([] ++ [d] ++ (items.toList.drop 0).drop ((items.toList.drop 0).length - (2 - 1 - 0)))) _ _ _
  rw [hrl, List.drop_zero]
  have he : ∀ b o, s.heap.get? b = some o → h₂.get? b = some o := fun b o e => hk b o (Nat.ne_of_lt (Heap.lt_size e)) (hs₁.extBut b o (Nat.ne_of_lt (Heap.lt_size e)) (Heap.get?_push_of_some _ e))
  refine wpAny_bind ?_
  unfold newList
  refine wpAny_newObj_type (wpAny_pure ?_) (by show (items.toList.take (items.size - 1)).toArray.size ≤ sizeLine; rw [List.size_toArray, List.length_take, sizeLine_eq, Array.length_toList]; omega)
  exact h h₂ tk he
theorem pg_star1 {es : List Expr} {k : Nat} {pos : Pos} {t : TGs} (hc : X.calm = true) (h : PGs X es t)
    (hn : (assignEach es X.env).length = 2 := by rfl) (hst : (assignEach es X.env).findIdx? (·.1) = some 0 := by rfl) : PG X (.Tuple es k pos) (gStar1 X.K t) := by
  refine ⟨fun pins s σ H v u Q I r hw => ?_⟩
  obtain ⟨a, xs, y, e1, hq, hz, hw⟩ := hw
  subst e1
  cases r
  obtain ⟨its, rv, pl, hzz⟩ := I.list hq
  have hlen := rv.length
  rw [List.length_append, List.length_singleton] at hlen
  rw [PyProof.Rows.assign_Tuple]
  refine wpAny_bind (wpAny_standAt ?_)
  unfold unpack
  rw [hn, hst]
  refine wpAny_bind (wpAny_holding (unpack_star1 pl.isList (I.ok.hd hc) (by rw [List.size_toArray]; omega) (by rw [List.size_toArray]; omega) fun h' tk hx => ?_))
  have e3 : its.toArray.size - 1 = xs.length := by rw [List.size_toArray]; omega
  rw [e3]
  have rt := rv.take xs.length
  have rd := rv.drop xs.length
  rw [List.take_left' rfl] at rt
  rw [List.drop_left' rfl] at rd
  have I0 : Inv X pins σ H { s with heap := h', toks := tk } := I.kept (t' := tk) hx
  have I1 : Inv X pins σ (upd H h'.objs.size (.lst xs)) { s with heap := h'.push { cls := .type "list", data := .seq (its.take xs.length).toArray 0 }, toks := tk } := I0.laid (t' := tk) (o := .lst xs) (fun b u e => Heap.get?_push_of_some _ e) (Nat.le_refl _) ⟨by show xs.length ≤ sizeLine; rw [sizeLine_eq]; omega, _, 0, rt, Heap.get?_push_size _ rfl⟩
  exact h.run pins _ σ _ _ _ Q I1 (.cons (show RelV (.ref h'.objs.size) (.ref h'.objs.size) from rfl) rd) (hw _ (I0.hok.fresh (Nat.le_refl _)))
theorem pgs_star {e : Expr} {sp : Pos} {es : List Expr} {t : TG} {u : TGs} (h1 : PG X e t) (h2 : PGs X es u) : PGs X (.Starred e sp :: es) (gCons t u) := by
  refine ⟨fun pins s σ H vs us Q I r h => ?_⟩
  obtain ⟨v, vr, e1, h⟩ := h
  subst e1
  cases r with
  | cons r rr =>
    show wpAny _ _ (assignInOrder (assign e X.env :: (assignEach es X.env).map (·.2)) _) _ _ _
    refine assignInOrder_cons (thn (h1.run pins s σ H _ _ _ I r h) fun _ s1 ⟨σ1, H1, I1, q1⟩ => ?_)
    exact h2.run pins s1 σ1 H1 _ _ Q I1 rr q1
end
/-! ### enumerate of a list or a tuple -/
set_option maxHeartbeats 1000000 in
theorem meets_enumerate_newV {v : Value} {o : Obj} {H : Heap → Prop} (B : Begins v o H) :
    Meets (Builtin.«enumerate.__new__» ⟨[.type "enumerate", v], []⟩) (fun _ R s => H s.heap ∧
      R (.ok (.ret (.ref (s.heap.push o).objs.size))) { s with heap := (s.heap.push o).push { cls := .type "enumerate", data := .fields #[.none, .bool false, .ref s.heap.objs.size, rawInt 0, .none, .none] } }) :=
  .of_wp fun prog w A R s h => by
    obtain ⟨hp, g, d, tk, os⟩ := s; obtain ⟨h1, h⟩ := h
    have hsub := sub_enumerate
    have q1 : ∀ {A' : Around} {E : Value → Shared → Prop} {Q : Value → Shared → Prop}, Q (.ref hp.objs.size) ⟨hp.push o, g, d, tk, os⟩ → wpAny (model prog w) A' (pyIter v) Q E ⟨hp, g, d, tk, os⟩ :=
      fun q => B.iter prog w _ _ ⟨hp, g, d, tk, os⟩ _ h1 q
    wp_walk using q1
    refine wpAny_stack_any fun st => wpAny_pure ?_
    split
    · rename_i c _ _ _ _ _
      cases (c == Value.type "enumerate")
      · wp_walk using q1
        exact ⟨_, rfl, h⟩
      · wp_walk using q1
        exact ⟨_, rfl, h⟩
    · wp_walk using q1
      exact ⟨_, rfl, h⟩
theorem call_enumerate_v {prog : Program} {w : World} {A : Around} {E : Value → Shared → Prop} {s : Shared} {v : Value} {o : Obj} {H : Heap → Prop} {Q : Value → Shared → Prop} (B : Begins v o H) (h1 : H s.heap)
    (h : ∀ h', IsEnum h' (s.heap.objs.size + 1) s.heap.objs.size 0 .none → h'.get? s.heap.objs.size = some o → h'.objs.size = s.heap.objs.size + 2 →
      (∀ b o, s.heap.get? b = some o → h'.get? b = some o) → Q (.ref (s.heap.objs.size + 1)) { s with heap := h' }) :
    wpAny (model prog w) A (call (.type "enumerate") [v]) Q E s := by
  refine callType_new F.called_enumerate (by decide) (F.typeCall_enumerate_1 _) (F.newCall_enumerate_1 _) (fun obj => F.args_object_init_2 obj _) F.entry_enumerate_new
    (meets_enumerate_newV B) ⟨h1, ?_⟩
  have hz : (s.heap.push o).objs.size = s.heap.objs.size + 1 := Heap.size_push ..
  show _ ∧ _
  rw [hz]
  have he : IsEnum ((s.heap.push o).push { cls := .type "enumerate", data := .fields #[.none, .bool false, .ref s.heap.objs.size, rawInt 0, .none, .none] }) (s.heap.objs.size + 1) s.heap.objs.size 0 .none := by
    have := Heap.get?_push_size (s.heap.push o) (o := { cls := .type "enumerate", data := .fields #[.none, .bool false, .ref s.heap.objs.size, rawInt 0, .none, .none] }) rfl
    rw [hz] at this; exact this
  refine ⟨⟨_, he, rfl⟩, h _ he (Heap.get?_push_of_some _ (Heap.get?_push_size _ B.free)) (by rw [Heap.size_push, hz]) fun b o x => Heap.get?_push_of_some _ (Heap.get?_push_of_some _ x)⟩
def Iteq (t : Bool) (K : PySem.W.Frag) (a : Addr) : It :=
  ⟨fun i H => ∃ xs : List V, Sq2 t K H a xs ∧ i < xs.length,
   fun i H v H' => ∃ T x, v = .ref T ∧ H T = none ∧ H' = upd H T (.tup [.int (i : Nat), x]) ∧ ∀ xs, Sq2 t K H a xs → xs[i]? = some x,
   fun i H => ∃ xs : List V, Sq2 t K H a xs ∧ i = xs.length⟩
def StEq (t : Bool) (a e it : Addr) (i : Nat) (h : Heap) : Prop := (∃ old, IsEnum h e it ((i : Nat) : Int) old) ∧ SqIt t h it a i
theorem turn_eq {P : Program} {w : World} {K : PySem.W.Frag} {elts : List Expr} {kk : Nat} {tpos : Pos} {t : Bool} {a e it : Addr} (ne : e ≠ it) (na : a ≠ it) (nea : e ≠ a) :
    Turn P w K (.Tuple elts kk tpos) (Iteq t K a) [e, it] e (StEq t a e it) where
  mem := List.mem_cons_self
  obj := by
    rintro i h ⟨⟨old, a1⟩, s1⟩ c hm
    simp only [List.mem_cons, List.not_mem_nil, or_false] at hm
    rcases hm with z | z <;> subst z
    · exact ⟨_, a1, (fun _ q => nomatch q)⟩
    · obtain ⟨o2, e2, n2⟩ := s1.ex
      exact ⟨o2, e2, n2⟩
  keep := by
    rintro i h h' ⟨⟨old, a1⟩, s1⟩ k
    refine ⟨⟨old, k e (by simp) _ a1⟩, ?_⟩
    cases t <;> exact s1.at fun o q => k it (by simp) o q
  item := by
    intro X hP hw hK hc i pins s σ H E I hf st hg
    subst hP hw hK
    obtain ⟨xs, hx, l1⟩ := hg
    obtain ⟨its, rv, p⟩ := sq_val I hx
    obtain ⟨u, hu, ru⟩ := rv.get (List.getElem?_eq_getElem l1)
    have W := WalksT.enumerateD (prog := X.prog) (w := X.w) (A := X.A) (draws_sq (A := X.A.in1) t (I.ok.hd hc) it a na its.toArray) e ne (by simp [ne, nea]) (by simp)
    have g1 := rv.length
    obtain ⟨a1, s1⟩ := id st
    refine W.item i s _ E (by simp only [List.size_toArray]; omega) ⟨a1, s1, p⟩ fun T vals h1 tk pt hT isT mid k1 => ?_
    obtain ⟨t0, u1, e1, rfl⟩ := pt
    rw [List.getElem?_toArray, hu] at e1
    cases e1
    refine ⟨.ref T, rfl, W.go elts kk tpos i T { s with heap := h1, toks := tk } _ E mid fun h2 st2 k2 => ?_⟩
    have nT : T ∉ [e, it] := W.apart i T h1 mid
    have isT2 : h2.IsTuple T #[.int ((i : Nat) : Int) t0, u] := isT.at fun o z => k2 T o nT z
    have new : ObjOk X.prog X.w (upd H T (.tup [.int (i : Nat), xs[i]])) h2 T (.tup [.int (i : Nat), xs[i]]) :=
      ⟨by show 2 ≤ sizeLine; decide, [.int ((i : Nat) : Int) t0, u], .cons ⟨t0, rfl⟩ (.cons ru .nil), isT2⟩
    have I2 : Inv X pins σ (upd H T (.tup [.int (i : Nat), xs[i]])) { s with heap := h2, toks := tk } :=
      I.turnedNew (t' := tk) (ch := [e, it]) (fun b o nb z => k2 b o nb (k1 b o nb z)) hf hT new
    obtain ⟨b1, b2, _⟩ := st2
    refine ⟨.ref T, _, I2, rfl, ⟨T, _, rfl, I.hok.fresh hT, rfl, fun zs hz => ?_⟩, ⟨b1, b2⟩, fun b hb => ?_⟩
    · rw [sq_inj I hz hx]
      exact List.getElem?_eq_getElem l1
    have nb : b ≠ T := by
      obtain ⟨⟨old, a1⟩, s1⟩ := st
      obtain ⟨o1, e1, _⟩ := s1.ex
      have lt : b < s.heap.objs.size := by
        simp only [List.mem_cons, List.not_mem_nil, or_false] at hb
        rcases hb with q | q <;> subst q
        · exact Heap.lt_size a1
        · exact Heap.lt_size e1
      exact Nat.ne_of_lt (Nat.lt_of_lt_of_le lt hT)
    rw [upd_ne nb]
    exact (hf b hb).1
  done := by
    intro X hP hw hK hc i pins s σ H E I hf st hg
    subst hP hw hK
    obtain ⟨xs, hx, hi⟩ := hg
    obtain ⟨its, rv, p⟩ := sq_val I hx
    have W := WalksT.enumerateD (prog := X.prog) (w := X.w) (A := X.A) (draws_sq (A := X.A.in1) t (I.ok.hd hc) it a na its.toArray) e ne (by simp [ne, nea]) (by simp)
    have hn : i = its.toArray.size := by
      have e1 := rv.length
      simp only [List.size_toArray]
      omega
    subst hn
    obtain ⟨a1, s1⟩ := id st
    exact W.done s _ E ⟨a1, s1, p⟩ fun h1 tk k1 => ⟨rfl, I.turnedL (t' := tk) (ch := [e, it]) (fun b o nb z => k1 b o nb z) hf⟩
  self := fun A i s Q E st h => by
    obtain ⟨⟨old, a1⟩, _⟩ := st
    exact wpAny_pyIter_enum a1 h
def iEq (K : PySem.W.Frag) (ta : TA) : TI := fun σ H R => ta σ H fun vs H1 => ∃ (t : Bool) (a : Addr) (xs : List V), vs = [.ref a] ∧ Sq2 t K H1 a xs ∧ R (Iteq t K a) H1
theorem pi_eq {X : Cx} {e : Expr} {ta : TA} {p pos tpos : Pos} {elts : List Expr} {kk : Nat} (hg : Gl X "enumerate") (hm : X.mg "enumerate" = none) (ha : PA X [e] ta) (hs : starEach [e] X.env = [(false, eval e X.env)] := by rfl) :
    PI X (.Tuple elts kk tpos) (.Call (.Name "enumerate" p) [e] [] pos) (iEq X.K ta) := by
  constructor
  intro pins s σ H R I h
  refine Call_ (ld_blt I hg hm boot_enumerate (PyProof.Rows.callWith_type1 (thn (ha.run pos pins s σ H _ I h) fun us s1 hh => ?_) hs rfl))
  obtain ⟨vs, H1, I1, r1, t, a, xs, rfl, hx, q⟩ := hh
  match us, r1 with
  | [v1], .cons hv1 .nil =>
    cases hv1
    obtain ⟨its, rv, p1⟩ := sq_val I1 hx
    have la : a < s1.heap.objs.size := by
      cases t <;> obtain ⟨o, e, _⟩ := p1 <;> exact Heap.lt_size e
    refine call_enumerate_v (begins_sq t a its.toArray) p1 fun h' a1 a2 _ k => wpAny_pyIter_enum a1 ?_
    have I2 : Inv X pins σ H1 { s1 with heap := h' } := I1.kept (t' := s1.toks) k
    have fr : ∀ b ∈ [s1.heap.objs.size + 1, s1.heap.objs.size], FpOk X pins H1 b := fun b hb => by
      have le : s1.heap.objs.size ≤ b := by
        simp only [List.mem_cons, List.not_mem_nil, or_false] at hb
        rcases hb with z | z <;> rw [z]
        · exact Nat.le_add_right _ _
        · exact Nat.le_refl _
      exact I1.fpOk le (I1.hok.fresh le)
    refine ⟨s1.heap.objs.size + 1, [s1.heap.objs.size + 1, s1.heap.objs.size], _, _, H1, rfl, I2, turn_eq (Nat.succ_ne_self _) (Nat.ne_of_lt la) (Nat.ne_of_gt (Nat.lt_succ_of_lt la)), ⟨⟨_, a1⟩, ?_⟩, fr, q⟩
    cases t <;> exact ⟨_, a2, rfl, rfl⟩
theorem walk_eq {t : Bool} {K : PySem.W.Frag} {a : Addr} {xs : List V} {n : Nat} (hn : xs.length = n) : Walk (Iteq t K a) n (fun H => Sq2 t K H a xs) (YPair (fun i => some (.int (i : Nat))) (fun i => xs[i]?)) := by
  refine ⟨fun i _ hi q => ⟨xs, q, by omega⟩, fun _ q => ⟨xs, q, by omega⟩, fun i H v H' hi q z => ?_⟩
  obtain ⟨T, c, h1, h2, h3, h4⟩ := z
  exact ⟨T, _, _, h1, h2, h3, rfl, h4 xs q⟩
/-! ### a name, then a starred one: x, *ys = a list -/
section
variable {X : Cx}
def gStarE (K : PySem.W.Frag) (t : TGs) : TG := fun v σ H Q => ∃ (a : Addr) (x : V) (xs : List V), v = .ref a ∧ SqL K H a (x :: xs) ∧ xs.length ≤ 16000 ∧ ∀ D, H D = none → t [x, .ref D] σ (upd H D (.lst xs)) Q
theorem unpack_starE {prog : Program} {w : World} {A : Around} {E : Value → Shared → Prop} {s : Shared} {l : Addr} {items : Array Value} {Q : List Value → Shared → Prop} (hl : s.heap.IsList l items) (hh : A.handled = none) (h0 : 1 ≤ items.size) (hz : items.size ≤ 16384)
    (h : ∀ (h₂ : Heap) (tk : Nat), (∀ b o, s.heap.get? b = some o → h₂.get? b = some o) → Q (items.toList.take 1 ++ [.ref h₂.objs.size]) { s with heap := h₂.push { cls := .type "list", data := .seq (items.toList.drop 1).toArray 0 }, toks := tk }) : wpAny (model prog w) A (unpackItems (.ref l) 2 (some 1)) Q E s := by
  have hlt : l ≠ s.heap.objs.size := by obtain ⟨o, ho, _⟩ := hl; exact Nat.ne_of_lt (Heap.lt_size ho)
  unfold unpackItems
  refine wpAny_bind ?_
  unfold notIterableAtAll
  refine wpAny_bind (wpAny_specialOf hl.typeIs slot_list_iter.lookup ?_)
  refine wpAny_pure ?_
  simp only [Bool.false_eq_true, if_false]
  refine wpAny_bind (wpAny_holding (wpAny_pyIter_list hl ?_))
  refine wpAny_bind (wpAny_holding (PySem.W.kun_draw hlt 1 0 _ _ ⟨_, Heap.get?_push_size _ rfl, rfl, rfl⟩ (hl.push _) (by omega) fun h₁ hit₁ hs₁ => ?_))
  have hl₁ : h₁.IsList l items := (hl.push _).extBut hs₁.extBut hlt
  have hit₁' := hit₁
  obtain ⟨oi, hoi, _⟩ := hit₁'
  have hl₁' := hl₁
  obtain ⟨ol, hol, _⟩ := hl₁'
  rw [List.drop_zero]
  have hfl : (items.toList.take 1).length = 1 := by rw [List.length_take, Array.length_toList]; omega
  rw [if_neg (show ¬ ((items.toList.take 1).length < 1) by rw [hfl]; omega)]
  refine wpAny_bind (wpAny_holding (PySem.W.kun_collect (s := { s with heap := h₁ }) (T := "list_iterator") (.inr (.inr (.inl rfl))) (Walks.list (A := A.in1) hh s.heap.objs.size l hlt items) (fun j u st => st.1.typeIs) (k := 1) (by omega) ⟨hit₁, hl₁⟩ (Heap.lt_size hoi) (Heap.lt_size hol) (fun h₂ tk hk => ?_) (by rw [sizeLine_eq]; omega)))
  have hrl : (items.toList.drop 1).length = items.size - 1 := by rw [List.length_drop, Array.length_toList]
  show wpAny _ _ (if (items.toList.drop 1).length < 2 - 1 - 1 then _ else _) _ _ _
  rw [if_neg (by omega)]
  show wpAny _ _ (newList ((items.toList.drop 1).take ((items.toList.drop 1).length - (2 - 1 - 1))) >>= fun d => pure (items.toList.take 1 ++ [d] ++ (items.toList.drop 1).drop ((items.toList.drop 1).length - (2 - 1 - 1)))) _ _ _
  rw [show (2 - 1 - 1 : Nat) = 0 from rfl, Nat.sub_zero, List.take_length, List.drop_length]
  have he : ∀ b o, s.heap.get? b = some o → h₂.get? b = some o := fun b o e => hk b o (Nat.ne_of_lt (Heap.lt_size e)) (hs₁.extBut b o (Nat.ne_of_lt (Heap.lt_size e)) (Heap.get?_push_of_some _ e))
  refine wpAny_bind ?_
  unfold newList
  refine wpAny_newObj_type (wpAny_pure ?_) (by show (items.toList.drop 1).toArray.size ≤ sizeLine; rw [List.size_toArray, List.length_drop, sizeLine_eq, Array.length_toList]; omega)
  rw [List.append_nil]
  exact h h₂ tk he
theorem pg_starE {es : List Expr} {k : Nat} {pos : Pos} {t : TGs} (hc : X.calm = true) (h : PGs X es t)
    (hn : (assignEach es X.env).length = 2 := by rfl) (hst : (assignEach es X.env).findIdx? (·.1) = some 1 := by rfl) : PG X (.Tuple es k pos) (gStarE X.K t) := by
  refine ⟨fun pins s σ H v u Q I r hw => ?_⟩
  obtain ⟨a, x, xs, e1, hq, hz, hw⟩ := hw
  subst e1
  cases r
  obtain ⟨its, rv, pl, hzz⟩ := I.list hq
  have hlen := rv.length
  rw [List.length_cons] at hlen
  rw [PyProof.Rows.assign_Tuple]
  refine wpAny_bind (wpAny_standAt ?_)
  unfold unpack
  rw [hn, hst]
  refine wpAny_bind (wpAny_holding (unpack_starE pl.isList (I.ok.hd hc) (by rw [List.size_toArray]; omega) (by rw [List.size_toArray]; omega) fun h' tk hx => ?_))
  have rt := rv.take 1
  have rd := rv.drop 1
  have I0 : Inv X pins σ H { s with heap := h', toks := tk } := I.kept (t' := tk) hx
  have I1 : Inv X pins σ (upd H h'.objs.size (.lst xs)) { s with heap := h'.push { cls := .type "list", data := .seq (its.drop 1).toArray 0 }, toks := tk } := I0.laid (t' := tk) (o := .lst xs) (fun b u e => Heap.get?_push_of_some _ e) (Nat.le_refl _) ⟨by show xs.length ≤ sizeLine; rw [sizeLine_eq]; omega, _, 0, rd, Heap.get?_push_size _ rfl⟩
  exact h.run pins _ σ _ _ _ Q I1 (rt.append (.cons (show RelV (.ref h'.objs.size) (.ref h'.objs.size) from rfl) .nil)) (hw _ (I0.hok.fresh (Nat.le_refl _)))
end
/-! ### xs[lo:hi] of a list or a tuple -/
def rSlS (K : PySem.W.Frag) : V → Option Int → Option Int → Hp → VK → Prop := fun x lo hi H Q => ∃ (t : Bool) (a : Addr) (xs : List V), x = .ref a ∧ Sq2 t K H a xs ∧
  ∀ p H', Same H H' → Sq2 t K H' p (cutV xs lo hi) → (p = a ∨ H p = none) → Q (.ref p) H'
theorem sl_sq {X : Cx} : SlR X (rSlS X.K) := by
  intro pz u0 τ H x v vl vu lo hi sl Q I rx hs pl pu h
  obtain ⟨t, a, xs, rfl, hx, q⟩ := h
  cases t with
  | false => exact sl_list pz u0 τ H _ v vl vu lo hi sl Q I rx hs pl pu ⟨a, xs, rfl, hx, fun p n => q p _ (same_upd n) (SqL.of upd_same) (.inr n)⟩
  | true =>
    refine sl_tupA pz u0 τ H _ v vl vu lo hi sl Q I rx hs pl pu ⟨a, xs, rfl, hx, fun z => ?_, fun _ p n => q p _ (same_upd n) (.inl (.inl upd_same)) (.inr n)⟩
    have e : cutV xs lo hi = xs := by
      unfold cutV
      rw [z.1, z.2, List.drop_zero, Nat.sub_zero, List.take_length]
    refine q a H (Same.refl _) ?_ (.inl rfl)
    rw [e]
    exact hx
section
variable {P : Program} {w : World} {K : PySem.W.Frag} {mg : Str → Option Value} {base : Heap}
variable {C : Addr} {a1 a2 a3 a4 a5 a6 a7 a8 a9 a10 a11 a12 a13 a14 a15 a16 a17 a18 a19 a20 a21 a22 a23 a24 a25 a26 a27 a28 a29 a30 a31 a32 a33 a34 : Addr} {l1 l2 l3 l4 l5 l6 l7 l8 l9 l10 l11 l12 l13 l14 l15 l16 l17 l18 l19 l20 l21 l22 l23 l24 l25 l26 l27 l28 l29 l30 l31 l32 l33 l34 : FuncData}
/-! ### a net's gates -/
theorem flat_rep (m : Nat) (v : V) : (List.replicate m [v]).flatten = List.replicate m v := by
  induction m with
  | zero => rfl
  | succ k ih =>
    rw [List.replicate_succ, List.flatten_cons, ih, List.replicate_succ]
    rfl
def spNetI (C : Addr) : Sp := fun vs H Q _ => ∃ (x dx : Addr) (m : Nat), vs = [.ref x, .int (m : Int)] ∧ H x = some (.ins C dx []) ∧ m ≤ 100000 ∧
  ∀ (p : NetP) (H' : Hp), p.x = x → (∀ y o, H y = some o → y ≠ x → H' y = some o) → (H p.lm = none ∧ H p.ld = none ∧ H p.dn = none) → (∀ Z : List Addr, (∀ z ∈ Z, z ≠ x ∧ H z ≠ none) → NetAt C Z H' p m [] []) → Q .non H'
theorem ok_Net___init__ (B : Bl mg) (L : LL K mg C a1 a2 a3 a4 a5 a6 a7 a8 a9 a10 a11 a12 a13 a14 a15 a16 a17 a18 a19 a20 a21 a22 a23 a24 a25 a26 a27 a28 a29 a30 a31 a32 a33 a34 l1 l2 l3 l4 l5 l6 l7 l8 l9 l10 l11 l12 l13 l14 l15 l16 l17 l18 l19 l20 l21 l22 l23 l24 l25 l26 l27 l28 l29 l30 l31 l32 l33 l34) : FnOk P w K mg base CX0 1 a19 l19 ["self", "many"] (spNetI C) := by
  refine L.F_Net___init__.ok sc_Net___init__ (fun vs H Q E h => ?_) (fun cdv A outer s H vs Q E hr h => ?_)
  · obtain ⟨x, dx, m, rfl, _⟩ := h
    rfl
  obtain ⟨x, dx, m, rfl, hx, hm, q⟩ := h
  refine ⟨_, (pss_cons (ps_fld (pv 0) (pv 1) rfl)
    (pss_cons (ps_fld (pv 0) (pe_lst pa_nil) rfl)
    (pss_cons (ps_fld (pv 0) (pe_op op_rep (pe_lst (pa_cons pe_int pa_nil)) (pv 1)) rfl)
    (pss_one (ps_fld (pv 0) pe_dnewK rfl))))), ?_⟩
  refine ⟨_, rfl, _, rfl, x, C, dx, _, rfl, hx, L.T.cl, L.T.n_input_count, (by show 0 < 1000; decide), ?_⟩
  have a1 : (upd H x (.ins C dx (putF "input_count" (.int (m : Int)) []))) x = some (.ins C dx [("input_count", .int (m : Int))]) := upd_same
  have f1 : ∀ y o, H y = some o → y ≠ x → (upd H x (.ins C dx (putF "input_count" (.int (m : Int)) []))) y = some o := fun y o e n => by rw [upd_ne n]; exact e
  generalize upd H x (.ins C dx (putF "input_count" (.int (m : Int)) [])) = H1 at *
  refine ⟨Nat.zero_le _, fun lm nlm => ?_⟩
  have n1 : x ≠ lm := ne_of_none a1 nlm
  refine ⟨_, rfl, x, C, dx, _, rfl, by rw [upd_ne n1]; exact a1, L.T.cl, L.T.n_made, (by show 1 < 1000; decide), ?_⟩
  have a2 : (upd (upd H1 lm (.lst [])) x (.ins C dx (putF "made" (.ref lm) [("input_count", .int (m : Int))]))) x = some (.ins C dx [("input_count", .int (m : Int)), ("made", .ref lm)]) := upd_same
  have b2 : (upd (upd H1 lm (.lst [])) x (.ins C dx (putF "made" (.ref lm) [("input_count", .int (m : Int))]))) lm = some (.lst []) := by rw [upd_ne n1.symm, upd_same]
  have f2 : ∀ y o, H1 y = some o → y ≠ x → (upd (upd H1 lm (.lst [])) x (.ins C dx (putF "made" (.ref lm) [("input_count", .int (m : Int))]))) y = some o := fun y o e n => by rw [upd_ne n, upd_ne (ne_of_none e nlm)]; exact e
  generalize upd (upd H1 lm (.lst [])) x (.ins C dx (putF "made" (.ref lm) [("input_count", .int (m : Int))])) = H2 at *
  refine ⟨(by show 1 ≤ sizeLine; decide), fun z nz => ?_⟩
  refine ⟨_, rfl, z, (m : Int), _, rfl, rfl, upd_same, by omega, by omega, (by show 1 * ((m : Int)).toNat ≤ _; rw [Int.toNat_natCast, Nat.one_mul]; exact Nat.le_trans hm (by decide)), fun ld nld => ?_⟩
  have e0 : (List.replicate ((m : Int)).toNat [V.int 0]).flatten = (dps m []).map V.int := by
    rw [Int.toNat_natCast]
    show _ = (List.replicate m 0).map V.int
    rw [List.map_replicate]
    exact flat_rep m _
  rw [e0]
  have z1 := ne_of_none a2 nz
  have z2 := ne_of_none b2 nz
  have sz := same_upd (o := .lst [V.int 0]) nz
  have sd := same_upd (o := .lst ((dps m []).map V.int)) nld
  have l1 := ne_of_none (sz _ _ a2) nld
  have l2 := ne_of_none (sz _ _ b2) nld
  refine ⟨_, rfl, x, C, dx, _, rfl, sd _ _ (sz _ _ a2), L.T.cl, L.T.n_depths, (by show 2 < 1000; decide), ?_⟩
  have sA := sz.trans sd
  have b3 := sd _ _ (sz _ _ b2)
  have d3 : (upd (upd H2 z (.lst [V.int 0])) ld (.lst ((dps m []).map V.int))) ld = some (.lst ((dps m []).map V.int)) := upd_same
  generalize upd (upd H2 z (.lst [V.int 0])) ld (.lst ((dps m []).map V.int)) = H3 at *
  have a4 : (upd H3 x (.ins C dx (putF "depths" (.ref ld) [("input_count", .int (m : Int)), ("made", .ref lm)]))) x = some (.ins C dx [("input_count", .int (m : Int)), ("made", .ref lm), ("depths", .ref ld)]) := upd_same
  have f4 : ∀ y o, H3 y = some o → y ≠ x → (upd H3 x (.ins C dx (putF "depths" (.ref ld) [("input_count", .int (m : Int)), ("made", .ref lm)]))) y = some o := fun y o e n => by rw [upd_ne n]; exact e
  have b4 := f4 _ _ b3 n1.symm
  have d4 := f4 _ _ d3 l1.symm
  generalize upd H3 x (.ins C dx (putF "depths" (.ref ld) [("input_count", .int (m : Int)), ("made", .ref lm)])) = H4 at *
  refine fun dn ndn => ?_
  have a5 := ne_of_none a4 ndn
  have b5 := ne_of_none b4 ndn
  have d5 := ne_of_none d4 ndn
  have s5 := same_upd (o := .dK []) ndn
  refine ⟨_, rfl, x, C, dx, _, rfl, s5 _ _ a4, L.T.cl, L.T.n_by_name, (by show 3 < 1000; decide), ?_⟩
  have nn : ∀ (y : Addr), (∀ o, H y = some o → y ≠ x → False) → y ≠ x → H y = none := fun y h n => by
    cases e : H y with
    | none => rfl
    | some o => exact (h o e n).elim
  refine q ⟨x, lm, ld, dn⟩ _ rfl (fun y o e n => ?_) ⟨nn lm (fun o e n => by have := f1 _ _ e n; rw [nlm] at this; cases this) n1.symm, nn ld (fun o e n => by have := sz _ _ (f2 _ _ (f1 _ _ e n) n); rw [nld] at this; cases this) l1.symm, nn dn (fun o e n => by have := f4 _ _ (sA _ _ (f2 _ _ (f1 _ _ e n) n)) n; rw [ndn] at this; cases this) a5.symm⟩ (fun Z hZ => ?_)
  · rw [upd_ne n]
    exact s5 _ _ (f4 _ _ (sA _ _ (f2 _ _ (f1 _ _ e n) n)) n)
  have zz : ∀ a ∈ Z, a ≠ x ∧ a ≠ lm ∧ a ≠ ld ∧ a ≠ dn ∧ H4 a ≠ none := fun a ha => by
    obtain ⟨nx, h0⟩ := hZ a ha
    cases e : H a with
    | none => exact absurd e h0
    | some o =>
      have e1 := f1 _ _ e nx
      have e2 := f2 _ _ e1 nx
      have e4 := f4 _ _ (sA _ _ e2) nx
      exact ⟨nx, ne_of_none e1 nlm, ne_of_none (sz _ _ e2) nld, ne_of_none e4 ndn, some_ne e4⟩
  refine ⟨fun a ha => ?_, l2, ⟨fun h => (zz _ h).1 rfl, fun h => (zz _ h).2.1 rfl, fun h => (zz _ h).2.2.1 rfl, fun h => (zz _ h).2.2.2.1 rfl⟩, dx, [], [], upd_same, ?_, ?_, ?_, ⟨rfl, fun i q g h => by simp at h⟩, rfl, List.nodup_nil, fun i k v n ws h => by simp at h⟩
  · rw [upd_ne (zz a ha).1, upd_ne (zz a ha).2.2.2.1]
    exact (zz a ha).2.2.2.2
  · show (upd (upd H4 dn (.dK [])) x _) lm = _
    rw [upd_ne n1.symm]
    exact s5 _ _ b4
  · show (upd (upd H4 dn (.dK [])) x _) ld = _
    rw [upd_ne l1.symm]
    exact s5 _ _ d4
  · show (upd (upd H4 dn (.dK [])) x _) dn = _
    rw [upd_ne a5.symm, upd_same]
/-! ### gates laid -/
def spNeed (K : PySem.W.Frag) (C : Addr) : Sp := fun vs H Q _ => ∃ (Z : List Addr) (p : NetP) (m : Nat) (gs : List Gt) (nm : List (Str × List Nat)) (t : Addr) (ws : List Nat), vs = [.ref p.x, .ref t] ∧ NetAt C Z H p m gs nm ∧ (SqL K H t (nts ws) ∨ SqT K H t (nts ws)) ∧ (∀ a ∈ ws, a < m + gs.length) ∧
  ∀ H', Same H H' → Q .non H'
theorem ok_Net_need (B : Bl mg) (L : LL K mg C a1 a2 a3 a4 a5 a6 a7 a8 a9 a10 a11 a12 a13 a14 a15 a16 a17 a18 a19 a20 a21 a22 a23 a24 a25 a26 a27 a28 a29 a30 a31 a32 a33 a34 l1 l2 l3 l4 l5 l6 l7 l8 l9 l10 l11 l12 l13 l14 l15 l16 l17 l18 l19 l20 l21 l22 l23 l24 l25 l26 l27 l28 l29 l30 l31 l32 l33 l34) : FnOk P w K mg base CX0 1 a27 l27 ["self", "wires"] (spNeed K C) := by
  refine L.F_Net_need.ok sc_Net_need (fun vs H Q E h => ?_) (fun cdv A outer s H vs Q E hr h => ?_)
  · obtain ⟨Z, p, m, gs, nm, t, ws, rfl, _⟩ := h
    rfl
  obtain ⟨Z, p, m, gs, nm, t, ws, rfl, hN, hT, hw, q⟩ := h
  refine ⟨_, (pss_one (ps_for PassesOwn.never rfl (pi_or (pi_list (pv 1)) (pi_tup (pv 1))) (pg_name (i := 2) sc_Net_need.nd rfl (.inl rfl)) (pss_one (ps_if (pt_not (pt_chain op_le op_lt pe_int (pv 2) (pe_callB call_len_seq (by rfl) B.len PySem.boot_len (pa_cons (pe_fld (pv 0) rfl) pa_nil)))) (pss_one ps_never) pss_nil)))), ?_⟩
  have turn : ∀ (a : Nat), a ∈ ws → ∀ (H9 : Hp) (y : Option V) (T : TS) (D : Ends), Same H H9 → D.nx [some (.ref p.x), some (.ref t), some (.int (a : Int))] H9 → True := fun _ _ _ _ _ _ _ _ => trivial
  rcases hT with hT | hT
  · refine .inl ⟨_, rfl, t, rfl, ⟨_, hT⟩, ?_⟩
    refine for_it (walk_list (K := K) (a := t) (xs := nts ws)) (fun j σ H9 => ∃ y : Option V, σ = [some (.ref p.x), some (.ref t), y] ∧ Same H H9) ⟨_, rfl, Same.refl _⟩ (fun j σ H9 _ ⟨_, _, s9⟩ => s9.seq hT) ?_ ?_
    · rintro j v σ H9 H10 hj ⟨y, rfl, s9⟩ ⟨rfl, hz⟩
      obtain ⟨a, ha, rfl⟩ := nts_at hz
      have la := hw a (List.mem_of_getElem? ha)
      obtain ⟨_, _, _, dx, ps, kvs, e1, e2, e3, _⟩ := hN.same s9
      dsimp only [gName]
      try simp only [L2.start, List.map_cons, List.map_nil, List.length_cons, List.length_nil, List.replicate_succ, List.replicate_zero, List.cons_append, List.nil_append, List.set_cons_succ, List.set_cons_zero, Nat.reduceAdd, Nat.reduceSub, Nat.zero_add]
      refine ⟨_, rfl, _, _, rfl, rfl, _, rfl, ?_⟩
      rw [if_pos (decide_eq_true (by omega))]
      refine ⟨_, rfl, p.x, C, dx, _, _, rfl, e1, L.T.cl, L.T.n_depths, rfl, ?_⟩
      refine ⟨p.ld, _, rfl, .inl (SqL.of e3), _, _, rfl, rfl, _, rfl, ?_⟩
      have lt : decide ((a : Int) < ((((dps m gs).map V.int).length : Nat) : Int)) = true := decide_eq_true (by rw [List.length_map, dps_len]; omega)
      rw [lt]
      refine iteF ?_
      exact ⟨_, rfl, s9⟩
    · rintro σ H9 ⟨y, rfl, s9⟩
      exact q _ s9
  · refine .inr ⟨_, rfl, t, rfl, ⟨_, hT⟩, ?_⟩
    refine for_it (walk_tup (K := K) (a := t) (xs := nts ws)) (fun j σ H9 => ∃ y : Option V, σ = [some (.ref p.x), some (.ref t), y] ∧ Same H H9) ⟨_, rfl, Same.refl _⟩ (fun j σ H9 _ ⟨_, _, s9⟩ => Same.seqT s9 hT) ?_ ?_
    · rintro j v σ H9 H10 hj ⟨y, rfl, s9⟩ ⟨rfl, hz⟩
      obtain ⟨a, ha, rfl⟩ := nts_at hz
      have la := hw a (List.mem_of_getElem? ha)
      obtain ⟨_, _, _, dx, ps, kvs, e1, e2, e3, _⟩ := hN.same s9
      dsimp only [gName]
      try simp only [L2.start, List.map_cons, List.map_nil, List.length_cons, List.length_nil, List.replicate_succ, List.replicate_zero, List.cons_append, List.nil_append, List.set_cons_succ, List.set_cons_zero, Nat.reduceAdd, Nat.reduceSub, Nat.zero_add]
      refine ⟨_, rfl, _, _, rfl, rfl, _, rfl, ?_⟩
      rw [if_pos (decide_eq_true (by omega))]
      refine ⟨_, rfl, p.x, C, dx, _, _, rfl, e1, L.T.cl, L.T.n_depths, rfl, ?_⟩
      refine ⟨p.ld, _, rfl, .inl (SqL.of e3), _, _, rfl, rfl, _, rfl, ?_⟩
      have lt : decide ((a : Int) < ((((dps m gs).map V.int).length : Nat) : Int)) = true := decide_eq_true (by rw [List.length_map, dps_len]; omega)
      rw [lt]
      refine iteF ?_
      exact ⟨_, rfl, s9⟩
    · rintro σ H9 ⟨y, rfl, s9⟩
      exact q _ s9
theorem refs_inj : ∀ {as bs : List Addr}, as.map V.ref = bs.map V.ref → as = bs
  | [], [], _ => rfl
  | [], b :: bs, h => by simp at h
  | a :: as, [], h => by simp at h
  | a :: as, b :: bs, h => by
    rw [List.map_cons, List.map_cons] at h
    injection h with h1 h2
    rw [V.ref.inj h1, refs_inj h2]
theorem NetAt.laid {C : Addr} {Z : List Addr} {H : Hp} {p : NetP} {m : Nat} {gs : List Gt} {nm : List (Str × List Nat)} {q : Addr} {g : Gt} {ps : List Addr}
    (h : NetAt C Z H p m gs nm) (eq : H q = some (.tup g.row)) (nq : q ∉ Z) (em : H p.lm = some (.lst (ps.map V.ref))) :
    NetAt C Z (upd (upd H p.lm (.lst (ps.map V.ref ++ [.ref q]))) p.ld (.lst ((dps m gs).map V.int ++ [.int (dep (dps m gs) g)]))) p m (gs ++ [g]) nm := by
  obtain ⟨a, b, ⟨c1, c2, c3, c4⟩, dx, ps', kvs, e1, e2, e3, e4, ⟨g1, g2⟩, n1, n2, n3⟩ := h
  have hps : ps' = ps := by
    rw [e2] at em
    have := HO.lst.inj (Option.some.inj em)
    exact refs_inj this
  subst hps
  have f : ∀ {y : Addr} {o : HO}, H y = some o → y ≠ p.lm → y ≠ p.ld → (upd (upd H p.lm (.lst (ps'.map V.ref ++ [.ref q]))) p.ld (.lst ((dps m gs).map V.int ++ [.int (dep (dps m gs) g)]))) y = some o := fun e x1 x2 => by
    rw [upd_ne x2, upd_ne x1]
    exact e
  have tn : ∀ {y : Addr} {xs : List V}, H y = some (.tup xs) → y ≠ p.lm ∧ y ≠ p.ld := fun e => ⟨(fun z => by rw [z, e2] at e; cases e), (fun z => by rw [z, e3] at e; cases e)⟩
  refine ⟨fun z hz => ?_, b, ⟨c1, c2, c3, c4⟩, dx, ps' ++ [q], kvs, f e1 (fun z => by rw [z, e2] at e1; cases e1) (fun z => by rw [z, e3] at e1; cases e1), ?_, ?_, f e4 (fun z => by rw [z, e2] at e4; cases e4) (fun z => by rw [z, e3] at e4; cases e4), ⟨?_, fun i r g' hi hg => ?_⟩, n1, n2, fun i k v n ws hi hn => ?_⟩
  · have z1 : z ≠ p.lm := fun y => c2 (y ▸ hz)
    have z2 : z ≠ p.ld := fun y => c3 (y ▸ hz)
    rw [upd_ne z2, upd_ne z1]
    exact a z hz
  · rw [upd_ne b, upd_same, List.map_append]
    rfl
  · rw [upd_same, dps_snoc, List.map_append]
    rfl
  · rw [List.length_append, List.length_append, g1]
    rfl
  · by_cases c : i < ps'.length
    · rw [List.getElem?_append_left c] at hi
      rw [List.getElem?_append_left (by omega)] at hg
      have := g2 i r g' hi hg
      exact ⟨this.1, f this.2 (tn this.2).1 (tn this.2).2⟩
    · have i0 : i = ps'.length := by
        have := (List.getElem?_eq_some_iff.mp hi).1
        rw [List.length_append, List.length_cons, List.length_nil] at this
        omega
      rw [List.getElem?_append_right (by omega), i0, Nat.sub_self] at hi
      rw [List.getElem?_append_right (by omega), i0, g1, Nat.sub_self] at hg
      cases hi
      cases hg
      exact ⟨nq, f eq (tn eq).1 (tn eq).2⟩
  · obtain ⟨ek, l, ev, l1, l2, l3, l4⟩ := n3 i k v n ws hi hn
    exact ⟨ek, l, ev, l1, l2, l3, f l4 l2 l3⟩
def spPutG (C : Addr) : Sp := fun vs H Q _ => ∃ (Z : List Addr) (p : NetP) (m : Nat) (gs : List Gt) (nm : List (Str × List Nat)) (q : Addr) (g : Gt), vs = [.ref p.x, .ref q, .int (dep (dps m gs) g)] ∧ NetAt C Z H p m gs nm ∧ H q = some (.tup g.row) ∧ q ∉ Z ∧ m + gs.length ≤ 500000 ∧
  ∀ H', KeepS [p.lm, p.ld] H H' → NetAt C Z H' p m (gs ++ [g]) nm → Q (.int ((m + gs.length : Nat) : Int)) H'
theorem ok_Net_put_gate (B : Bl mg) (L : LL K mg C a1 a2 a3 a4 a5 a6 a7 a8 a9 a10 a11 a12 a13 a14 a15 a16 a17 a18 a19 a20 a21 a22 a23 a24 a25 a26 a27 a28 a29 a30 a31 a32 a33 a34 l1 l2 l3 l4 l5 l6 l7 l8 l9 l10 l11 l12 l13 l14 l15 l16 l17 l18 l19 l20 l21 l22 l23 l24 l25 l26 l27 l28 l29 l30 l31 l32 l33 l34) : FnOk P w K mg base CX0 1 a26 l26 ["self", "gate", "depth"] (spPutG C) := by
  refine L.F_Net_put_gate.ok sc_Net_put_gate (fun vs H Q E h => ?_) (fun cdv A outer s H vs Q E hr h => ?_)
  · obtain ⟨Z, p, m, gs, nm, q, g, rfl, _⟩ := h
    rfl
  obtain ⟨Z, p, m, gs, nm, a, g, rfl, hN, ea, na, hl, q⟩ := h
  refine ⟨_, (pss_cons (ps_expr (pe_bm PySem.F.plainAttrs_list PySem.F.slot_list_append PySem.F.type_list_append mt_append (pe_fld (pv 0) rfl) (pa_cons (pv 1) pa_nil)))
    (pss_cons (ps_expr (pe_bm PySem.F.plainAttrs_list PySem.F.slot_list_append PySem.F.type_list_append mt_append (pe_fld (pv 0) rfl) (pa_cons (pv 2) pa_nil)))
    (pss_one (ps_ret (pe_op op_sub (pe_callB call_len_seq (by rfl) B.len PySem.boot_len (pa_cons (pe_fld (pv 0) rfl) pa_nil)) pe_int))))), ?_⟩
  obtain ⟨hz, b, _, dx, ps, kvs, e1, e2, e3, e4, g0⟩ := id hN
  have lps : ps.length = gs.length := g0.1.1
  have nx : p.x ≠ p.lm := fun z => by rw [z, e2] at e1; cases e1
  have nx' : p.x ≠ p.ld := fun z => by rw [z, e3] at e1; cases e1
  refine ⟨_, rfl, p.x, C, dx, _, _, rfl, e1, L.T.cl, L.T.n_made, rfl, .inl ⟨rfl, _, SqL.of e2⟩, _, rfl, p.lm, _, _, rfl, rfl, e2, by rw [List.length_map]; exact Nat.lt_of_le_of_lt (by omega) (show 500000 < sizeLine by decide), ?_⟩
  have f1 : (upd H p.lm (.lst (ps.map V.ref ++ [.ref a]))) p.x = _ := (upd_ne nx).trans e1
  have f3 : (upd H p.lm (.lst (ps.map V.ref ++ [.ref a]))) p.ld = _ := (upd_ne b.symm).trans e3
  refine ⟨_, rfl, p.x, C, dx, _, _, rfl, f1, L.T.cl, L.T.n_depths, rfl, .inl ⟨rfl, _, SqL.of f3⟩, _, rfl, p.ld, _, _, rfl, rfl, f3, by rw [List.length_map, dps_len]; exact Nat.lt_of_le_of_lt (by omega) (show 500000 < sizeLine by decide), ?_⟩
  have f1' : (upd (upd H p.lm (.lst (ps.map V.ref ++ [.ref a]))) p.ld (.lst ((dps m gs).map V.int ++ [.int (dep (dps m gs) g)]))) p.x = _ := (upd_ne nx').trans f1
  refine ⟨_, rfl, p.x, C, dx, _, _, rfl, f1', L.T.cl, L.T.n_depths, rfl, ?_⟩
  refine ⟨p.ld, _, rfl, .inl (SqL.of upd_same), _, _, rfl, rfl, ?_⟩
  have w := q _ ⟨fun y o e n => ?_, fun y e => ?_⟩ (hN.laid ea na e2)
  · have ev : (((((dps m gs).map V.int ++ [V.int (dep (dps m gs) g)]).length : Nat) : Int) - 1) = ((m + gs.length : Nat) : Int) := by
      rw [List.length_append, List.length_map, dps_len, List.length_cons, List.length_nil]
      omega
    rw [← ev] at w
    exact w
  · simp only [List.mem_cons, List.not_mem_nil, or_false, not_or] at n
    rw [upd_ne n.2, upd_ne n.1]
    exact e
  · exact ((KeepS.upd (S := [p.lm]) (by simp)).2 y e) |> fun h => (KeepS.upd (S := [p.ld]) (by simp)).2 y h
def spFixed (C : Addr) : Sp := fun vs H Q _ => ∃ (Z : List Addr) (p : NetP) (m : Nat) (gs : List Gt) (nm : List (Str × List Nat)) (b : Nat), vs = [.ref p.x, .int (b : Int)] ∧ NetAt C Z H p m gs nm ∧ m + gs.length ≤ 500000 ∧
  ∀ H', KeepS [p.lm, p.ld] H H' → NetAt C Z H' p m (gs ++ [.fi b]) nm → Q (.int ((m + gs.length : Nat) : Int)) H'
theorem ok_Net_fixed (B : Bl mg) (L : LL K mg C a1 a2 a3 a4 a5 a6 a7 a8 a9 a10 a11 a12 a13 a14 a15 a16 a17 a18 a19 a20 a21 a22 a23 a24 a25 a26 a27 a28 a29 a30 a31 a32 a33 a34 l1 l2 l3 l4 l5 l6 l7 l8 l9 l10 l11 l12 l13 l14 l15 l16 l17 l18 l19 l20 l21 l22 l23 l24 l25 l26 l27 l28 l29 l30 l31 l32 l33 l34) : FnOk P w K mg base CX0 2 a24 l24 ["self", "bit"] (spFixed C) := by
  have G_Net_put_gate : FnOk P w K mg base CX0 1 a26 l26 ["self", "gate", "depth"] (spPutG C) := (ok_Net_put_gate B L).mono (by decide)
  refine L.F_Net_fixed.ok sc_Net_fixed (fun vs H Q E h => ?_) (fun cdv A outer s H vs Q E hr h => ?_)
  · obtain ⟨Z, p, m, gs, nm, b, rfl, _⟩ := h
    rfl
  obtain ⟨Z, p, m, gs, nm, b, rfl, hN, hl, q⟩ := h
  refine ⟨_, (pss_one (ps_ret (pe_meth (pv 0) L.T.cl L.M_Net_put_gate G_Net_put_gate hr L.b_Net_put_gate .nil pass0 (pa_cons (pe_tup (pa_cons pe_str (pa_cons (pv 1) pa_nil))) (pa_cons pe_int pa_nil))))), ?_⟩
  obtain ⟨hz, _, _, dx, _, _, e1, _⟩ := id hN
  refine ⟨_, rfl, p.x, dx, _, rfl, e1, rfl, _, rfl, (by show 2 ≤ sizeLine; decide), fun a na => ?_⟩
  have sa := same_upd (o := .tup (Gt.fi b).row) na
  refine ⟨Z, p, m, gs, nm, a, .fi b, rfl, hN.same sa, upd_same, fun z => hz a z na, hl, fun H' k N' => q H' (.trans (.ofSame sa) k) N'⟩
def spPut (K : PySem.W.Frag) (C : Addr) : Sp := fun vs H Q _ => ∃ (Z : List Addr) (p : NetP) (m : Nat) (gs : List Gt) (nm : List (Str × List Nat)) (k : Str) (t : Addr) (ws : List Nat), vs = [.ref p.x, .str k, .ref t] ∧ NetAt C Z H p m gs nm ∧ SqT K H t (nts ws) ∧ ws ≠ [] ∧ ws.length ≤ 2 ∧ (∀ a ∈ ws, a < m + gs.length) ∧ m + gs.length ≤ 500000 ∧
  ∀ H', KeepS [p.lm, p.ld] H H' → NetAt C Z H' p m (gs ++ [.w k ws]) nm → Q (.int ((m + gs.length : Nat) : Int)) H'
theorem ok_Net_put (B : Bl mg) (L : LL K mg C a1 a2 a3 a4 a5 a6 a7 a8 a9 a10 a11 a12 a13 a14 a15 a16 a17 a18 a19 a20 a21 a22 a23 a24 a25 a26 a27 a28 a29 a30 a31 a32 a33 a34 l1 l2 l3 l4 l5 l6 l7 l8 l9 l10 l11 l12 l13 l14 l15 l16 l17 l18 l19 l20 l21 l22 l23 l24 l25 l26 l27 l28 l29 l30 l31 l32 l33 l34) : FnOk P w K mg base CX0 3 a25 l25 ["self", "kind", "wires"] (spPut K C) := by
  have G_Net_put_gate : FnOk P w K mg base CX0 2 a26 l26 ["self", "gate", "depth"] (spPutG C) := (ok_Net_put_gate B L).mono (by decide)
  have G_Net_need : FnOk P w K mg base CX0 2 a27 l27 ["self", "wires"] (spNeed K C) := (ok_Net_need B L).mono (by decide)
  refine L.F_Net_put.ok sc_Net_put (fun vs H Q E h => ?_) (fun cdv A outer s H vs Q E hr h => ?_)
  · obtain ⟨Z, p, m, gs, nm, k, t, ws, rfl, _⟩ := h
    rfl
  obtain ⟨Z, p, m, gs, nm, k, t, ws, rfl, hN, hT, w0, w2, hw, hl, q⟩ := h
  refine ⟨_, (pss_cons (ps_expr (pe_meth (pv 0) L.T.cl L.M_Net_need G_Net_need hr L.b_Net_need .nil pass0 (pa_cons (pv 2) pa_nil)))
    (pss_cons (ps_set (i := 3) sc_Net_put.nd rfl (.inl rfl) (pe_op op_add pe_int (pe_callB (cr_max rfl) (by rfl) B.max boot_max (pa_cons (pe_lc (own := [("wire", 4)]) (by rfl) sc_Net_put.nd (pi_tup (pv 2)) (blkOk_by (own := [("wire", 4)]) (N := ["self", "kind", "wires", "depth", "wire"]) (sc := defScope s_Net_put) (by decide +kernel)) (fun _ _ _ _ _ => pg_name (i := 4) sc_Net_put.nd rfl (Or.inl rfl)) (fun _ _ _ _ _ => pts_nil) (fun _ _ _ _ _ => (pe_ix (ix_listK (K := K)) (pe_fldK (K := K) (pv 0) rfl) (pv 4) (fun _ _ => rfl)))) pa_nil))))
    (pss_one (ps_ret (pe_meth (pv 0) L.T.cl L.M_Net_put_gate G_Net_put_gate hr L.b_Net_put_gate .nil pass0 (pa_cons (pe_tup (pa_cons (pv 1) (StX.pa_star (pv 2) pa_nil))) (pa_cons (pv 3) pa_nil))))))), ?_⟩
  obtain ⟨hz, _, _, dx, _, _, e1, _⟩ := id hN
  refine ⟨_, rfl, p.x, dx, _, rfl, e1, rfl, _, rfl, Z, p, m, gs, nm, t, ws, rfl, hN, .inr hT, hw, fun H1 s1 => ?_⟩
  have N1 := hN.same s1
  obtain ⟨_, _, _, _, ps, kvs, f1, f2, f3, _⟩ := id N1
  have hT1 := Same.seqT s1 hT
  refine ⟨_, rfl, t, rfl, ⟨_, hT1⟩, fun D nD => ?_⟩
  refine lc_it (walk_tup (K := K) (a := t) (xs := nts ws)) (fun i H9 => Same H1 H9 ∧ H9 D = some (.lst ((ws.take i).map fun a => V.int ((dps m gs).getD a 0)))) ⟨same_upd nD, upd_same⟩ (fun i H9 _ ⟨s9, _⟩ => Same.seqT s9 hT1) ?_ ?_
  · rintro j z H9 H10 hj ⟨s9, eD⟩ ⟨rfl, hz⟩
    obtain ⟨a, ha, rfl⟩ := nts_at hz
    have la := hw a (List.mem_of_getElem? ha)
    refine ⟨rfl, yesT ?_⟩
    have e1' := s9 _ _ f1
    have e3' := s9 _ _ f3
    have hat : atI ((dps m gs).map V.int) (a : Int) = some (.int ((dps m gs).getD a 0)) := atI_nat (by
      rw [List.getElem?_map, List.getElem?_eq_getElem (by rw [dps_len]; exact la)]
      simp [List.getD, List.getElem?_eq_getElem (show a < (dps m gs).length by rw [dps_len]; exact la)])
    refine ⟨_, rfl, p.x, C, _, _, _, rfl, e1', L.T.cl, L.T.n_depths, rfl, _, rfl, p.ld, _, _, _, rfl, rfl, SqL.of e3', hat, ?_⟩
    refine ⟨_, eD, ?_, fun y u e => ?_, ?_⟩
    · rw [List.length_map, List.length_take]
      exact Nat.lt_of_le_of_lt (Nat.min_le_right _ _) (small1000 (by omega))
    · rw [upd_ne (ne_of_none e nD)]
      exact s9 _ _ e
    · rw [upd_same, List.take_add_one, ha, List.map_append]
      rfl
  rintro H2 ⟨s2, eD⟩
  rw [nts_len, List.take_length] at eD
  have mx1 : ∀ y ∈ ws.map (fun a => (dps m gs).getD a 0), 0 ≤ y := fun y hy => by
    obtain ⟨a, ha, rfl⟩ := List.mem_map.mp hy
    have la := hw a ha
    have := dps_nn m gs ((dps m gs)[a]'(by rw [dps_len]; exact la)) (List.getElem_mem _)
    simp only [List.getD, List.getElem?_eq_getElem (show a < (dps m gs).length by rw [dps_len]; exact la), Option.getD_some]
    exact this
  refine ⟨D, ws.map (fun a => (dps m gs).getD a 0), rfl, SqL.of (by rw [List.map_map]; exact eD), by rw [List.length_map]; exact List.length_pos_iff.mpr w0, fun M hM hL => ?_⟩
  have eM := mx_is hM hL mx1
  refine ⟨_, _, rfl, rfl, ?_⟩
  try simp only [L2.start, List.map_cons, List.map_nil, List.length_cons, List.length_nil, List.replicate_succ, List.replicate_zero, List.cons_append, List.nil_append, List.set_cons_succ, List.set_cons_zero, Nat.reduceAdd, Nat.reduceSub, Nat.zero_add]
  have e1' := s2 _ _ f1
  have hT2 := Same.seqT s2 hT1
  refine ⟨_, rfl, p.x, _, _, rfl, e1', rfl, ?_⟩
  try simp only [L2.start, List.map_cons, List.map_nil, List.length_cons, List.length_nil, List.replicate_succ, List.replicate_zero, List.cons_append, List.nil_append, List.set_cons_succ, List.set_cons_zero, Nat.reduceAdd, Nat.reduceSub, Nat.zero_add]
  refine ⟨_, rfl, _, rfl, t, _, rfl, .inl hT2, ?_⟩
  dsimp only [tNil]
  rw [List.append_nil]
  refine ⟨by rw [List.length_cons, nts_len]; exact Nat.le_trans (show ws.length + 1 ≤ 3 by omega) (by decide), fun g ng => ?_⟩
  have sg := same_upd (o := .tup (Gt.w k ws).row) ng
  have ed : (1 + M : Int) = dep (dps m gs) (.w k ws) := by
    show _ = 1 + mx _
    rw [eM]
  have N2 := (N1.same s2).same sg
  refine ⟨_, rfl, Z, p, m, gs, nm, g, .w k ws, by rw [ed]; rfl, N2, upd_same, fun z => N1.1 g z (by
    cases e : H1 g with
    | none => rfl
    | some o =>
      rw [s2 _ _ e] at ng
      cases ng), hl, fun H' k' N' => q H' (.trans (.ofSame ((s1.trans s2).trans sg)) k') N'⟩
def spG2 (C : Addr) (k : Str) : Sp := fun vs H Q _ => ∃ (Z : List Addr) (p : NetP) (m : Nat) (gs : List Gt) (nm : List (Str × List Nat)) (a b : Nat), vs = [.ref p.x, .int (a : Int), .int (b : Int)] ∧ NetAt C Z H p m gs nm ∧ a < m + gs.length ∧ b < m + gs.length ∧ m + gs.length ≤ 500000 ∧
  ∀ H', KeepS [p.lm, p.ld] H H' → NetAt C Z H' p m (gs ++ [.w k [a, b]]) nm → Q (.int ((m + gs.length : Nat) : Int)) H'
theorem ok_Net_both (B : Bl mg) (L : LL K mg C a1 a2 a3 a4 a5 a6 a7 a8 a9 a10 a11 a12 a13 a14 a15 a16 a17 a18 a19 a20 a21 a22 a23 a24 a25 a26 a27 a28 a29 a30 a31 a32 a33 a34 l1 l2 l3 l4 l5 l6 l7 l8 l9 l10 l11 l12 l13 l14 l15 l16 l17 l18 l19 l20 l21 l22 l23 l24 l25 l26 l27 l28 l29 l30 l31 l32 l33 l34) : FnOk P w K mg base CX0 4 a20 l20 ["self", "a", "b"] (spG2 C "both") := by
  have G_Net_put : FnOk P w K mg base CX0 3 a25 l25 ["self", "kind", "wires"] (spPut K C) := (ok_Net_put B L).mono (by decide)
  refine L.F_Net_both.ok sc_Net_both (fun vs H Q E h => ?_) (fun cdv A outer s H vs Q E hr h => ?_)
  · obtain ⟨Z, p, m, gs, nm, a, b, rfl, _⟩ := h
    rfl
  obtain ⟨Z, p, m, gs, nm, a, b, rfl, hN, ha, hb, hl, q⟩ := h
  refine ⟨_, (pss_one (ps_ret (pe_meth (pv 0) L.T.cl L.M_Net_put G_Net_put hr L.b_Net_put .nil pass0 (pa_cons pe_str (pa_cons (pe_tup (pa_cons (pv 1) (pa_cons (pv 2) pa_nil))) pa_nil))))), ?_⟩
  obtain ⟨hz, _, _, dx, _, _, e1, _⟩ := id hN
  refine ⟨_, rfl, p.x, dx, _, rfl, e1, rfl, _, rfl, _, rfl, (by show 2 ≤ sizeLine; decide), fun t nt => ?_⟩
  have st := same_upd (o := .tup [.int (a : Int), .int (b : Int)]) nt
  refine ⟨Z, p, m, gs, nm, "both", t, [a, b], rfl, hN.same st, .inl (.inl upd_same), (fun z => nomatch z), (Nat.le_of_ble_eq_true rfl), fun x hx => ?_, hl, fun H' k N' => q H' (.trans (.ofSame st) k) N'⟩
  simp only [List.mem_cons, List.not_mem_nil, or_false] at hx
  rcases hx with z | z <;> rw [z] <;> assumption
theorem ok_Net_either (B : Bl mg) (L : LL K mg C a1 a2 a3 a4 a5 a6 a7 a8 a9 a10 a11 a12 a13 a14 a15 a16 a17 a18 a19 a20 a21 a22 a23 a24 a25 a26 a27 a28 a29 a30 a31 a32 a33 a34 l1 l2 l3 l4 l5 l6 l7 l8 l9 l10 l11 l12 l13 l14 l15 l16 l17 l18 l19 l20 l21 l22 l23 l24 l25 l26 l27 l28 l29 l30 l31 l32 l33 l34) : FnOk P w K mg base CX0 4 a21 l21 ["self", "a", "b"] (spG2 C "either") := by
  have G_Net_put : FnOk P w K mg base CX0 3 a25 l25 ["self", "kind", "wires"] (spPut K C) := (ok_Net_put B L).mono (by decide)
  refine L.F_Net_either.ok sc_Net_either (fun vs H Q E h => ?_) (fun cdv A outer s H vs Q E hr h => ?_)
  · obtain ⟨Z, p, m, gs, nm, a, b, rfl, _⟩ := h
    rfl
  obtain ⟨Z, p, m, gs, nm, a, b, rfl, hN, ha, hb, hl, q⟩ := h
  refine ⟨_, (pss_one (ps_ret (pe_meth (pv 0) L.T.cl L.M_Net_put G_Net_put hr L.b_Net_put .nil pass0 (pa_cons pe_str (pa_cons (pe_tup (pa_cons (pv 1) (pa_cons (pv 2) pa_nil))) pa_nil))))), ?_⟩
  obtain ⟨hz, _, _, dx, _, _, e1, _⟩ := id hN
  refine ⟨_, rfl, p.x, dx, _, rfl, e1, rfl, _, rfl, _, rfl, (by show 2 ≤ sizeLine; decide), fun t nt => ?_⟩
  have st := same_upd (o := .tup [.int (a : Int), .int (b : Int)]) nt
  refine ⟨Z, p, m, gs, nm, "either", t, [a, b], rfl, hN.same st, .inl (.inl upd_same), (fun z => nomatch z), (Nat.le_of_ble_eq_true rfl), fun x hx => ?_, hl, fun H' k N' => q H' (.trans (.ofSame st) k) N'⟩
  simp only [List.mem_cons, List.not_mem_nil, or_false] at hx
  rcases hx with z | z <;> rw [z] <;> assumption
theorem ok_Net_unlike (B : Bl mg) (L : LL K mg C a1 a2 a3 a4 a5 a6 a7 a8 a9 a10 a11 a12 a13 a14 a15 a16 a17 a18 a19 a20 a21 a22 a23 a24 a25 a26 a27 a28 a29 a30 a31 a32 a33 a34 l1 l2 l3 l4 l5 l6 l7 l8 l9 l10 l11 l12 l13 l14 l15 l16 l17 l18 l19 l20 l21 l22 l23 l24 l25 l26 l27 l28 l29 l30 l31 l32 l33 l34) : FnOk P w K mg base CX0 4 a22 l22 ["self", "a", "b"] (spG2 C "unlike") := by
  have G_Net_put : FnOk P w K mg base CX0 3 a25 l25 ["self", "kind", "wires"] (spPut K C) := (ok_Net_put B L).mono (by decide)
  refine L.F_Net_unlike.ok sc_Net_unlike (fun vs H Q E h => ?_) (fun cdv A outer s H vs Q E hr h => ?_)
  · obtain ⟨Z, p, m, gs, nm, a, b, rfl, _⟩ := h
    rfl
  obtain ⟨Z, p, m, gs, nm, a, b, rfl, hN, ha, hb, hl, q⟩ := h
  refine ⟨_, (pss_one (ps_ret (pe_meth (pv 0) L.T.cl L.M_Net_put G_Net_put hr L.b_Net_put .nil pass0 (pa_cons pe_str (pa_cons (pe_tup (pa_cons (pv 1) (pa_cons (pv 2) pa_nil))) pa_nil))))), ?_⟩
  obtain ⟨hz, _, _, dx, _, _, e1, _⟩ := id hN
  refine ⟨_, rfl, p.x, dx, _, rfl, e1, rfl, _, rfl, _, rfl, (by show 2 ≤ sizeLine; decide), fun t nt => ?_⟩
  have st := same_upd (o := .tup [.int (a : Int), .int (b : Int)]) nt
  refine ⟨Z, p, m, gs, nm, "unlike", t, [a, b], rfl, hN.same st, .inl (.inl upd_same), (fun z => nomatch z), (Nat.le_of_ble_eq_true rfl), fun x hx => ?_, hl, fun H' k N' => q H' (.trans (.ofSame st) k) N'⟩
  simp only [List.mem_cons, List.not_mem_nil, or_false] at hx
  rcases hx with z | z <;> rw [z] <;> assumption
def spG1 (C : Addr) : Sp := fun vs H Q _ => ∃ (Z : List Addr) (p : NetP) (m : Nat) (gs : List Gt) (nm : List (Str × List Nat)) (a : Nat), vs = [.ref p.x, .int (a : Int)] ∧ NetAt C Z H p m gs nm ∧ a < m + gs.length ∧ m + gs.length ≤ 500000 ∧
  ∀ H', KeepS [p.lm, p.ld] H H' → NetAt C Z H' p m (gs ++ [.w "other" [a]]) nm → Q (.int ((m + gs.length : Nat) : Int)) H'
theorem ok_Net_other (B : Bl mg) (L : LL K mg C a1 a2 a3 a4 a5 a6 a7 a8 a9 a10 a11 a12 a13 a14 a15 a16 a17 a18 a19 a20 a21 a22 a23 a24 a25 a26 a27 a28 a29 a30 a31 a32 a33 a34 l1 l2 l3 l4 l5 l6 l7 l8 l9 l10 l11 l12 l13 l14 l15 l16 l17 l18 l19 l20 l21 l22 l23 l24 l25 l26 l27 l28 l29 l30 l31 l32 l33 l34) : FnOk P w K mg base CX0 4 a23 l23 ["self", "a"] (spG1 C) := by
  have G_Net_put : FnOk P w K mg base CX0 3 a25 l25 ["self", "kind", "wires"] (spPut K C) := (ok_Net_put B L).mono (by decide)
  refine L.F_Net_other.ok sc_Net_other (fun vs H Q E h => ?_) (fun cdv A outer s H vs Q E hr h => ?_)
  · obtain ⟨Z, p, m, gs, nm, a, rfl, _⟩ := h
    rfl
  obtain ⟨Z, p, m, gs, nm, a, rfl, hN, ha, hl, q⟩ := h
  refine ⟨_, (pss_one (ps_ret (pe_meth (pv 0) L.T.cl L.M_Net_put G_Net_put hr L.b_Net_put .nil pass0 (pa_cons pe_str (pa_cons (pe_tup (pa_cons (pv 1) pa_nil)) pa_nil))))), ?_⟩
  obtain ⟨hz, _, _, dx, _, _, e1, _⟩ := id hN
  refine ⟨_, rfl, p.x, dx, _, rfl, e1, rfl, _, rfl, (by show 1 ≤ sizeLine; decide), fun t nt => ?_⟩
  have st := same_upd (o := .tup [.int (a : Int)]) nt
  refine ⟨Z, p, m, gs, nm, "other", t, [a], rfl, hN.same st, .inl (.inl upd_same), (fun z => nomatch z), (Nat.le_of_ble_eq_true rfl), fun x hx => ?_, hl, fun H' k N' => q H' (.trans (.ofSame st) k) N'⟩
  rw [List.mem_singleton.mp hx]
  exact ha
end
section
variable {P : Program} {w : World} {K : PySem.W.Frag} {mg : Str → Option Value} {base : Heap}
variable {C : Addr} {a1 a2 a3 a4 a5 a6 a7 a8 a9 a10 a11 a12 a13 a14 a15 a16 a17 a18 a19 a20 a21 a22 a23 a24 a25 a26 a27 a28 a29 a30 a31 a32 a33 a34 : Addr} {l1 l2 l3 l4 l5 l6 l7 l8 l9 l10 l11 l12 l13 l14 l15 l16 l17 l18 l19 l20 l21 l22 l23 l24 l25 l26 l27 l28 l29 l30 l31 l32 l33 l34 : FuncData}
/-! ### names of a net -/
theorem NmAt.keys {Z : List Addr} {H : Hp} {p : NetP} {kvs : List (Key × V)} {nm : List (Str × List Nat)} (h : NmAt Z H p kvs nm) : kvs.map (·.1) = nm.map fun x => (Sum.inr x.1 : Key) := by
  obtain ⟨h1, h2, h3⟩ := h
  refine List.ext_getElem? fun i => ?_
  rw [List.getElem?_map, List.getElem?_map]
  by_cases c : i < kvs.length
  · have c' : i < nm.length := by omega
    rw [List.getElem?_eq_getElem c, List.getElem?_eq_getElem c']
    have := (h3 i kvs[i].1 kvs[i].2 nm[i].1 nm[i].2 (List.getElem?_eq_getElem c) (List.getElem?_eq_getElem c')).1
    show some kvs[i].1 = some _
    rw [this]
  · rw [List.getElem?_eq_none (by omega), List.getElem?_eq_none (by omega)]
    rfl
theorem valV_out {kvs : List (Key × V)} {k : Key} (h : k ∉ kvs.map (·.1)) : valV kvs k = none := by
  have e := valV_any k kvs
  cases q : valV kvs k with
  | none => rfl
  | some v =>
    rw [q] at e
    obtain ⟨x, hx, hd⟩ := List.any_eq_true.mp e
    exact absurd (List.mem_map.mpr ⟨x, hx, of_decide_eq_true hd⟩) h
theorem valV_at : ∀ {kvs : List (Key × V)} {i : Nat} {k : Key} {v : V}, (kvs.map (·.1)).Nodup → kvs[i]? = some (k, v) → valV kvs k = some v
  | [], i, k, v, _, h => by simp at h
  | q :: kvs, 0, k, v, _, h => by
    cases Option.some.inj h
    exact valV_pos rfl
  | q :: kvs, i + 1, k, v, hn, h => by
    rw [List.map_cons, List.nodup_cons] at hn
    have h' : kvs[i]? = some (k, v) := h
    have : k ∈ kvs.map (·.1) := List.mem_map.mpr ⟨_, List.mem_of_getElem? h', rfl⟩
    rw [valV_neg (fun z => hn.1 (z ▸ this))]
    exact valV_at hn.2 h'
theorem NmAt.nodup {Z : List Addr} {H : Hp} {p : NetP} {kvs : List (Key × V)} {nm : List (Str × List Nat)} (h : NmAt Z H p kvs nm) : (kvs.map (·.1)).Nodup := by
  rw [h.keys]
  have := h.2.1
  rw [show (nm.map fun x => (Sum.inr x.1 : Key)) = (nm.map (·.1)).map Sum.inr from by rw [List.map_map]; rfl]
  exact List.Pairwise.map _ (fun a b n z => n (Sum.inr.inj z)) this
theorem NmAt.out {Z : List Addr} {H : Hp} {p : NetP} {kvs : List (Key × V)} {nm : List (Str × List Nat)} {n : Str} (h : NmAt Z H p kvs nm) (hn : n ∉ nm.map (·.1)) : valV kvs (.inr n) = none := by
  refine valV_out ?_
  rw [h.keys]
  intro z
  obtain ⟨x, hx, e⟩ := List.mem_map.mp z
  exact hn (List.mem_map.mpr ⟨x, hx, Sum.inr.inj e⟩)
theorem NmAt.in_ {Z : List Addr} {H : Hp} {p : NetP} {kvs : List (Key × V)} {nm : List (Str × List Nat)} {i : Nat} {n : Str} {ws : List Nat} (h : NmAt Z H p kvs nm) (hn : nm[i]? = some (n, ws)) : ∃ l, valV kvs (.inr n) = some (.ref l) ∧ H l = some (.lst (nts ws)) := by
  have c : i < kvs.length := by
    have := (List.getElem?_eq_some_iff.mp hn).1
    rw [h.1]
    exact this
  obtain ⟨ek, l, ev, _, _, _, el⟩ := h.2.2 i kvs[i].1 kvs[i].2 n ws (List.getElem?_eq_getElem c) hn
  refine ⟨l, ?_, el⟩
  rw [← ev, ← ek]
  exact valV_at h.nodup (List.getElem?_eq_getElem c)
def spGive (K : PySem.W.Frag) (C : Addr) : Sp := fun vs H Q _ => ∃ (Z : List Addr) (p : NetP) (m : Nat) (gs : List Gt) (nm : List (Str × List Nat)) (n : Str) (t : Addr) (ws : List Nat), vs = [.ref p.x, .str n, .ref t] ∧ NetAt C Z H p m gs nm ∧ n ∉ nm.map (·.1) ∧ (SqL K H t (nts ws) ∨ SqT K H t (nts ws)) ∧ (∀ a ∈ ws, a < m + gs.length) ∧ nm.length ≤ 900 ∧
  ∀ H', KeepS [p.dn] H H' → NetAt C Z H' p m gs (nm ++ [(n, ws)]) → Q .non H'
theorem ok_Net_give (B : Bl mg) (L : LL K mg C a1 a2 a3 a4 a5 a6 a7 a8 a9 a10 a11 a12 a13 a14 a15 a16 a17 a18 a19 a20 a21 a22 a23 a24 a25 a26 a27 a28 a29 a30 a31 a32 a33 a34 l1 l2 l3 l4 l5 l6 l7 l8 l9 l10 l11 l12 l13 l14 l15 l16 l17 l18 l19 l20 l21 l22 l23 l24 l25 l26 l27 l28 l29 l30 l31 l32 l33 l34) : FnOk P w K mg base CX0 2 a28 l28 ["self", "name", "wires"] (spGive K C) := by
  have G_Net_need : FnOk P w K mg base CX0 1 a27 l27 ["self", "wires"] (spNeed K C) := (ok_Net_need B L).mono (by decide)
  refine L.F_Net_give.ok sc_Net_give (fun vs H Q E h => ?_) (fun cdv A outer s H vs Q E hr h => ?_)
  · obtain ⟨Z, p, m, gs, nm, n, t, ws, rfl, _⟩ := h
    rfl
  obtain ⟨Z, p, m, gs, nm, n, t, ws, rfl, hN, hn, hT, hw, hl, q⟩ := h
  refine ⟨_, (pss_cons (ps_if (pt_cmp (pc_din (units1 hr) (pv 1) (pe_fld (pv 0) rfl)) (by rfl)) (pss_one ps_never) pss_nil)
    (pss_cons (ps_expr (pe_meth (pv 0) L.T.cl L.M_Net_need G_Net_need hr L.b_Net_need .nil pass0 (pa_cons (pv 2) pa_nil)))
    (pss_one (ps_dput (units1 hr) (pe_fld (pv 0) rfl) (pv 1) (pe_callTy call_list_of (by rfl) B.list PyProof.Rows.boot_list (pa_cons (pv 2) pa_nil)) rfl)))), ?_⟩
  obtain ⟨hz, hb, _, dx, ps, kvs, e1, e2, e3, e4, g0, n0⟩ := id hN
  refine ⟨_, rfl, _, rfl, p.x, C, dx, _, _, rfl, e1, L.T.cl, L.T.n_by_name, rfl, p.dn, _, rfl, DGet.k (k := .inr n) e4, ?_⟩
  rw [n0.out hn]
  refine ⟨_, rfl, iteF ?_⟩
  dsimp only [tNext]
  refine ⟨_, rfl, p.x, dx, _, rfl, e1, rfl, _, rfl, Z, p, m, gs, nm, t, ws, rfl, hN, hT, hw, fun H1 s1 => ?_⟩
  have N1 := hN.same s1
  obtain ⟨_, _, ⟨c1, c2, c3, c4⟩, dx1, ps1, kvs1, f1, f2, f3, f4, g1, n1⟩ := id N1
  have hT1 : SqL K H1 t (nts ws) ∨ SqT K H1 t (nts ws) := hT.elim (fun y => .inl (s1.seq y)) (fun y => .inr (Same.seqT s1 y))
  refine ⟨_, rfl, t, _, rfl, hT1, fun l nl => ?_⟩
  have sl := same_upd (o := .lst (nts ws)) nl
  refine ⟨_, rfl, p.x, C, dx1, _, _, rfl, sl _ _ f1, L.T.cl, L.T.n_by_name, rfl, _, rfl, p.dn, _, rfl, DPut.k (k := .inr n) (sl _ _ f4) (by rw [n1.1]; exact Nat.lt_of_le_of_lt hl (by decide)), ?_⟩
  rw [putK_new _ (n1.out hn)]
  have nlZ : l ∉ Z := fun z => N1.1 l z nl
  have nlm : l ≠ p.lm := (ne_of_none f2 nl).symm
  have nld : l ≠ p.ld := (ne_of_none f3 nl).symm
  have nln : l ≠ p.dn := (ne_of_none f4 nl).symm
  have N2 := N1.same sl
  have k2 : KeepS [p.dn] (upd H1 l (.lst (nts ws))) (upd (upd H1 l (.lst (nts ws))) p.dn (.dK (kvs1 ++ [(.inr n, .ref l)]))) := .upd (by simp)
  refine q _ ((KeepS.ofSame (s1.trans sl)).trans k2) ?_
  have fr : ∀ {y : Addr} {o : HO}, (upd H1 l (.lst (nts ws))) y = some o → y ≠ p.dn → (upd (upd H1 l (.lst (nts ws))) p.dn (.dK (kvs1 ++ [(.inr n, .ref l)]))) y = some o := fun e z => by
    rw [upd_ne z]
    exact e
  have g4 := sl _ _ f4
  refine ⟨fun z hz' => k2.2 z (N2.1 z hz'), hb, ⟨c1, c2, c3, c4⟩, dx1, ps1, kvs1 ++ [(.inr n, .ref l)], fr (sl _ _ f1) (fun z => by rw [z, f4] at f1; cases f1), fr (sl _ _ f2) (fun z => by rw [z, f4] at f2; cases f2), fr (sl _ _ f3) (fun z => by rw [z, f4] at f3; cases f3), upd_same, ⟨g1.1, fun i r g' hi hg => ?_⟩, ?_⟩
  · have := g1.2 i r g' hi hg
    exact ⟨this.1, fr (sl _ _ this.2) (fun z => by
      have := this.2
      rw [z, f4] at this
      cases this)⟩
  · refine ⟨by rw [List.length_append, List.length_append, n1.1]; rfl, ?_, fun i k v n' ws' hi hn' => ?_⟩
    · rw [List.map_append, List.nodup_append]
      refine ⟨n1.2.1, by simp, fun a ha b hb' => ?_⟩
      have hb' : b = n := by simpa using hb'
      rw [hb']
      exact fun z => hn (z ▸ ha)
    · by_cases c : i < kvs1.length
      · rw [List.getElem?_append_left c] at hi
        rw [List.getElem?_append_left (by rw [← n1.1]; exact c)] at hn'
        obtain ⟨ek, l', ev, l1, l2, l3, l4⟩ := n1.2.2 i k v n' ws' hi hn'
        exact ⟨ek, l', ev, l1, l2, l3, fr (sl _ _ l4) (fun z => by rw [z, f4] at l4; cases l4)⟩
      · have i0 : i = kvs1.length := by
          have := (List.getElem?_eq_some_iff.mp hi).1
          rw [List.length_append, List.length_cons, List.length_nil] at this
          omega
        rw [List.getElem?_append_right (by omega), i0, Nat.sub_self] at hi
        rw [List.getElem?_append_right (by rw [i0, n1.1]; exact Nat.le_refl _), i0, n1.1, Nat.sub_self] at hn'
        cases hi
        cases hn'
        exact ⟨rfl, l, rfl, nlZ, nlm, nld, fr upd_same nln⟩
def spGiven (C : Addr) : Sp := fun vs H Q _ => ∃ (Z : List Addr) (p : NetP) (m : Nat) (gs : List Gt) (nm : List (Str × List Nat)) (i : Nat) (n : Str) (ws : List Nat), vs = [.ref p.x, .str n] ∧ NetAt C Z H p m gs nm ∧ nm[i]? = some (n, ws) ∧
  ∀ t, H t = none → Q (.ref t) (upd H t (.lst (nts ws)))
theorem ok_Net_given (B : Bl mg) (L : LL K mg C a1 a2 a3 a4 a5 a6 a7 a8 a9 a10 a11 a12 a13 a14 a15 a16 a17 a18 a19 a20 a21 a22 a23 a24 a25 a26 a27 a28 a29 a30 a31 a32 a33 a34 l1 l2 l3 l4 l5 l6 l7 l8 l9 l10 l11 l12 l13 l14 l15 l16 l17 l18 l19 l20 l21 l22 l23 l24 l25 l26 l27 l28 l29 l30 l31 l32 l33 l34) : FnOk P w K mg base CX0 1 a29 l29 ["self", "name"] (spGiven C) := by
  refine L.F_Net_given.ok sc_Net_given (fun vs H Q E h => ?_) (fun cdv A outer s H vs Q E hr h => ?_)
  · obtain ⟨Z, p, m, gs, nm, i, n, ws, rfl, _⟩ := h
    rfl
  obtain ⟨Z, p, m, gs, nm, i, n, ws, rfl, hN, hn, q⟩ := h
  refine ⟨_, (pss_cons (ps_if (pt_cmp (pc_dnotin (units1 hr) (pv 1) (pe_fld (pv 0) rfl)) (by rfl)) (pss_one ps_never) pss_nil)
    (pss_one (ps_ret (pe_callTy call_list_of (by rfl) B.list PyProof.Rows.boot_list (pa_cons (pe_dget (units1 hr) (pe_fld (pv 0) rfl) (pv 1) (fun _ _ => rfl)) pa_nil))))), ?_⟩
  obtain ⟨hz, hb, _, dx, ps, kvs, e1, e2, e3, e4, g0, n0⟩ := id hN
  obtain ⟨l, ev, el⟩ := n0.in_ hn
  refine ⟨_, rfl, _, rfl, p.x, C, dx, _, _, rfl, e1, L.T.cl, L.T.n_by_name, rfl, p.dn, _, rfl, DGet.k (k := .inr n) e4, ?_⟩
  rw [ev]
  refine ⟨_, rfl, iteF ?_⟩
  dsimp only [tNext]
  refine ⟨_, rfl, p.x, C, dx, _, _, rfl, e1, L.T.cl, L.T.n_by_name, rfl, _, rfl, p.dn, .ref l, rfl, ?_, ?_⟩
  · rw [← ev]
    exact DGet.k (k := .inr n) e4
  exact ⟨l, _, rfl, .inl (SqL.of el), fun t nt => q t nt⟩
def spNames (C : Addr) : Sp := fun vs H Q _ => ∃ (Z : List Addr) (p : NetP) (m : Nat) (gs : List Gt) (nm : List (Str × List Nat)), vs = [.ref p.x] ∧ NetAt C Z H p m gs nm ∧ nm.length < 64 ∧
  ∀ (ys : List Str) (t : Addr) (H' : Hp), ys.Perm (nm.map (·.1)) → sortedS ys = true → Same H H' → H t = none → H' t = some (.lst (ys.map V.str)) → Q (.ref t) H'
theorem ok_Net_names (B : Bl mg) (L : LL K mg C a1 a2 a3 a4 a5 a6 a7 a8 a9 a10 a11 a12 a13 a14 a15 a16 a17 a18 a19 a20 a21 a22 a23 a24 a25 a26 a27 a28 a29 a30 a31 a32 a33 a34 l1 l2 l3 l4 l5 l6 l7 l8 l9 l10 l11 l12 l13 l14 l15 l16 l17 l18 l19 l20 l21 l22 l23 l24 l25 l26 l27 l28 l29 l30 l31 l32 l33 l34) : FnOk P w K mg base CX0 1 a30 l30 ["self"] (spNames C) := by
  refine L.F_Net_names.ok sc_Net_names (fun vs H Q E h => ?_) (fun cdv A outer s H vs Q E hr h => ?_)
  · obtain ⟨Z, p, m, gs, nm, rfl, _⟩ := h
    rfl
  obtain ⟨Z, p, m, gs, nm, rfl, hN, hl, q⟩ := h
  refine ⟨_, (pss_one (ps_ret (pe_callB cr_sortedS (by rfl) L.z_sorted boot_sorted (pa_cons (pe_callTy (call_listD rfl) (by rfl) B.list PyProof.Rows.boot_list (pa_cons (pe_fld (pv 0) rfl) pa_nil)) pa_nil)))), ?_⟩
  obtain ⟨hz, hb, _, dx, ps, kvs, e1, e2, e3, e4, g0, n0⟩ := id hN
  refine ⟨_, rfl, p.x, C, dx, _, _, rfl, e1, L.T.cl, L.T.n_by_name, rfl, p.dn, kvs, rfl, .inl e4, fun l nl => ?_⟩
  have ek : (kvs.map fun kv => kV kv.1) = (nm.map (·.1)).map V.str := by
    rw [show (kvs.map fun kv => kV kv.1) = (kvs.map (·.1)).map kV from by rw [List.map_map]; rfl, n0.keys, List.map_map, List.map_map]
    rfl
  rw [ek]
  have sl := same_upd (o := .lst ((nm.map (·.1)).map V.str)) nl
  refine ⟨l, _, rfl, SqL.of upd_same, by rw [List.length_map]; exact hl, fun ys t hp hs nt => ?_⟩
  refine q ys t _ hp hs (sl.trans (same_upd nt)) ?_ upd_same
  cases e : H t with
  | none => rfl
  | some o =>
    rw [sl _ _ e] at nt
    cases nt
def spInputs (C : Addr) : Sp := fun vs H Q _ => ∃ (Z : List Addr) (p : NetP) (m : Nat) (gs : List Gt) (nm : List (Str × List Nat)), vs = [.ref p.x] ∧ NetAt C Z H p m gs nm ∧ Q (.int (m : Int)) H
theorem ok_Net_inputs (B : Bl mg) (L : LL K mg C a1 a2 a3 a4 a5 a6 a7 a8 a9 a10 a11 a12 a13 a14 a15 a16 a17 a18 a19 a20 a21 a22 a23 a24 a25 a26 a27 a28 a29 a30 a31 a32 a33 a34 l1 l2 l3 l4 l5 l6 l7 l8 l9 l10 l11 l12 l13 l14 l15 l16 l17 l18 l19 l20 l21 l22 l23 l24 l25 l26 l27 l28 l29 l30 l31 l32 l33 l34) : FnOk P w K mg base CX0 1 a31 l31 ["self"] (spInputs C) := by
  refine L.F_Net_inputs.ok sc_Net_inputs (fun vs H Q E h => ?_) (fun cdv A outer s H vs Q E hr h => ?_)
  · obtain ⟨Z, p, m, gs, nm, rfl, _⟩ := h
    rfl
  obtain ⟨Z, p, m, gs, nm, rfl, hN, q⟩ := h
  refine ⟨_, (pss_one (ps_ret (pe_fld (pv 0) rfl))), ?_⟩
  obtain ⟨hz, hb, _, dx, ps, kvs, e1, _⟩ := id hN
  exact ⟨_, rfl, p.x, C, dx, _, _, rfl, e1, L.T.cl, L.T.n_input_count, rfl, q⟩
def spGates (C : Addr) : Sp := fun vs H Q _ => ∃ (Z : List Addr) (p : NetP) (m : Nat) (gs : List Gt) (nm : List (Str × List Nat)), vs = [.ref p.x] ∧ NetAt C Z H p m gs nm ∧
  ∀ (t : Addr) (ps : List Addr) , H t = none → ps.length = gs.length → (∀ (i : Nat) (r : Addr) (g : Gt), ps[i]? = some r → gs[i]? = some g → H r = some (.tup g.row)) → Q (.ref t) (upd H t (.lst (ps.map V.ref)))
theorem ok_Net_gates (B : Bl mg) (L : LL K mg C a1 a2 a3 a4 a5 a6 a7 a8 a9 a10 a11 a12 a13 a14 a15 a16 a17 a18 a19 a20 a21 a22 a23 a24 a25 a26 a27 a28 a29 a30 a31 a32 a33 a34 l1 l2 l3 l4 l5 l6 l7 l8 l9 l10 l11 l12 l13 l14 l15 l16 l17 l18 l19 l20 l21 l22 l23 l24 l25 l26 l27 l28 l29 l30 l31 l32 l33 l34) : FnOk P w K mg base CX0 1 a32 l32 ["self"] (spGates C) := by
  refine L.F_Net_gates.ok sc_Net_gates (fun vs H Q E h => ?_) (fun cdv A outer s H vs Q E hr h => ?_)
  · obtain ⟨Z, p, m, gs, nm, rfl, _⟩ := h
    rfl
  obtain ⟨Z, p, m, gs, nm, rfl, hN, q⟩ := h
  refine ⟨_, (pss_one (ps_ret (pe_callTy call_list_of (by rfl) B.list PyProof.Rows.boot_list (pa_cons (pe_fld (pv 0) rfl) pa_nil)))), ?_⟩
  obtain ⟨hz, hb, _, dx, ps, kvs, e1, e2, e3, e4, g0, n0⟩ := id hN
  exact ⟨_, rfl, p.x, C, dx, _, _, rfl, e1, L.T.cl, L.T.n_made, rfl, p.lm, _, rfl, .inl (SqL.of e2), fun t nt => q t ps nt g0.1 (fun i r g hi hg => (g0.2 i r g hi hg).2)⟩
end
section
variable {P : Program} {w : World} {K : PySem.W.Frag} {mg : Str → Option Value} {base : Heap}
variable {C : Addr} {a1 a2 a3 a4 a5 a6 a7 a8 a9 a10 a11 a12 a13 a14 a15 a16 a17 a18 a19 a20 a21 a22 a23 a24 a25 a26 a27 a28 a29 a30 a31 a32 a33 a34 : Addr} {l1 l2 l3 l4 l5 l6 l7 l8 l9 l10 l11 l12 l13 l14 l15 l16 l17 l18 l19 l20 l21 l22 l23 l24 l25 l26 l27 l28 l29 l30 l31 l32 l33 l34 : FuncData}
theorem big_lt0 {n : Nat} (h : n ≤ 500000) : n < sizeLine := Nat.lt_of_le_of_lt h (by decide)
/-! ### bits -/
def tb (x : Int) (k : Nat) : Int := x / 2 ^ k % 2
theorem tb_01 (x : Int) (k : Nat) : tb x k = 0 ∨ tb x k = 1 := by
  unfold tb
  omega
theorem tb_succ (x : Int) (k : Nat) : tb x (k + 1) = tb (x / 2) k := by
  unfold tb
  rw [Int.ediv_ediv_of_nonneg (by decide)]
  rw [show (2 : Int) * 2 ^ k = 2 ^ (k + 1) from by rw [GM.pow_s, Int.mul_comm]]
theorem tb_zero (x : Int) : tb x 0 = x % 2 := by
  unfold tb
  rw [Int.pow_zero, Int.ediv_one]
theorem and_bit {a b : Int} (ha : a = 0 ∨ a = 1) (hb : b = 0 ∨ b = 1) : Builtin.bitAnd a b = if a = 1 ∧ b = 1 then 1 else 0 := by
  rcases ha with rfl | rfl <;> rcases hb with rfl | rfl <;> decide
theorem tb_and : ∀ (k : Nat) (x y : Int), tb (Builtin.bitAnd x y) k = Builtin.bitAnd (tb x k) (tb y k)
  | 0, x, y => by
    rw [tb_zero, tb_zero, tb_zero, PySem.W.kbt_halves, and_bit (a := x % 2) (b := y % 2) (by omega) (by omega)]
    split <;> omega
  | k + 1, x, y => by
    rw [tb_succ, tb_succ, tb_succ, ← tb_and k]
    congr 1
    rw [PySem.W.kbt_halves]
    split <;> omega
theorem or_halves (x y : Int) : Builtin.bitOr x y = 2 * Builtin.bitOr (x / 2) (y / 2) + (if x % 2 = 1 ∨ y % 2 = 1 then 1 else 0) := by
  rw [PyProof.Rows.bitOr_and, PyProof.Rows.bitOr_and, PySem.W.kbt_halves]
  split <;> split <;> omega
theorem or_bit {a b : Int} (ha : a = 0 ∨ a = 1) (hb : b = 0 ∨ b = 1) : Builtin.bitOr a b = if a = 1 ∨ b = 1 then 1 else 0 := by
  rcases ha with rfl | rfl <;> rcases hb with rfl | rfl <;> decide
theorem tb_or : ∀ (k : Nat) (x y : Int), tb (Builtin.bitOr x y) k = Builtin.bitOr (tb x k) (tb y k)
  | 0, x, y => by
    rw [tb_zero, tb_zero, tb_zero, or_halves, or_bit (a := x % 2) (b := y % 2) (by omega) (by omega)]
    split <;> omega
  | k + 1, x, y => by
    rw [tb_succ, tb_succ, tb_succ, ← tb_or k]
    congr 1
    rw [or_halves]
    split <;> omega
theorem xor_halves (x y : Int) : Builtin.bitXor x y = 2 * Builtin.bitXor (x / 2) (y / 2) + (if x % 2 = y % 2 then 0 else 1) := by
  rw [bitXor_and, bitXor_and, PySem.W.kbt_halves]
  split <;> split <;> omega
theorem xor_bit {a b : Int} (ha : a = 0 ∨ a = 1) (hb : b = 0 ∨ b = 1) : Builtin.bitXor a b = if a = b then 0 else 1 := by
  rcases ha with rfl | rfl <;> rcases hb with rfl | rfl <;> decide
theorem tb_xor : ∀ (k : Nat) (x y : Int), tb (Builtin.bitXor x y) k = Builtin.bitXor (tb x k) (tb y k)
  | 0, x, y => by
    rw [tb_zero, tb_zero, tb_zero, xor_halves, xor_bit (a := x % 2) (b := y % 2) (by omega) (by omega)]
    split <;> omega
  | k + 1, x, y => by
    rw [tb_succ, tb_succ, tb_succ, ← tb_xor k]
    congr 1
    rw [xor_halves]
    split <;> omega
theorem tb_full : ∀ {n k : Nat}, k < n → tb (2 ^ n - 1) k = 1
  | n + 1, 0, _ => by
    rw [tb_zero, GM.pow_s]
    omega
  | n + 1, k + 1, h => by
    rw [tb_succ, show ((2 : Int) ^ (n + 1) - 1) / 2 = 2 ^ n - 1 from by rw [GM.pow_s]; omega]
    exact tb_full (by omega)
theorem tb_nul (k : Nat) : tb 0 k = 0 := by
  unfold tb
  rw [Int.zero_ediv]
  rfl
theorem tb_mod {n k : Nat} (x : Int) (h : k < n) : tb (x % 2 ^ n) k = tb x k := by
  rw [← PySem.W.kbt_mask, tb_and, tb_full h]
  rcases tb_01 x k with z | z <;> rw [z] <;> decide
/-! ### wires run -/
def gvw (full x y : Int) (k : Str) : Int := if k = "other" then Builtin.bitXor x full else if k = "both" then Builtin.bitAnd x y else if k = "either" then Builtin.bitOr x y else Builtin.bitXor x y
def gv (full : Int) (ws : List Int) : Gt → Int
  | .fi b => if b = 1 then full else 0
  | .w k l => gvw full (ws.getD (l.getD 0 0) 0) (ws.getD (l.getD 1 0) 0) k
def rv (full : Int) (vals : List Int) (gs : List Gt) : List Int := gs.foldl (fun ws g => ws ++ [gv full ws g]) vals
theorem rv_snoc (full : Int) (vals : List Int) (gs : List Gt) (g : Gt) : rv full vals (gs ++ [g]) = rv full vals gs ++ [gv full (rv full vals gs) g] := by
  unfold rv
  rw [List.foldl_append]
  rfl
theorem rv_len : ∀ (gs : List Gt) (full : Int) (vals : List Int), (rv full vals gs).length = vals.length + gs.length
  | [], _, _ => rfl
  | g :: gs, full, vals => by
    have := rv_len gs full (vals ++ [gv full vals g])
    unfold rv at this ⊢
    rw [List.foldl_cons, this, List.length_append, List.length_cons, List.length_cons, List.length_nil]
    omega
theorem getD_map (ws : List Int) (i k : Nat) : (ws.map (tb · k)).getD i 0 = tb (ws.getD i 0) k := by
  simp only [List.getD, List.getElem?_map]
  cases ws[i]? with
  | none => exact (tb_nul k).symm
  | some v => rfl
theorem gv_bit {n k : Nat} (h : k < n) (ws : List Int) (g : Gt) : tb (gv (2 ^ n - 1) ws g) k = gv 1 (ws.map (tb · k)) g := by
  cases g with
  | fi b =>
    show tb (if b = 1 then _ else _) k = if b = 1 then 1 else 0
    split
    · exact tb_full h
    · exact tb_nul k
  | w nm l =>
    show tb (gvw (2 ^ n - 1) _ _ nm) k = gvw 1 _ _ nm
    rw [getD_map, getD_map]
    unfold gvw
    split
    · rw [tb_xor, tb_full h]
    split
    · rw [tb_and]
    split
    · rw [tb_or]
    · rw [tb_xor]
theorem rv_bit {n k : Nat} (h : k < n) : ∀ (gs : List Gt) (vals : List Int), (rv (2 ^ n - 1) vals gs).map (tb · k) = rv 1 (vals.map (tb · k)) gs
  | [], _ => rfl
  | g :: gs, vals => by
    have := rv_bit h gs (vals ++ [gv (2 ^ n - 1) vals g])
    unfold rv at this ⊢
    rw [List.foldl_cons, List.foldl_cons, this, List.map_append, List.map_cons, List.map_nil, gv_bit h]
/-! ### nets run -/
def wf (ds : List Int) : Int := ds.foldl (fun w d => 2 * w + d) 0
theorem wf_snoc (ds : List Int) (d : Int) : wf (ds ++ [d]) = 2 * wf ds + d := by
  unfold wf
  rw [List.foldl_append]
  rfl
theorem at_int46 {xs : List Int} {i : Nat} {x : V} (h : (xs.map V.int)[i]? = some x) : ∃ v, xs[i]? = some v ∧ x = .int v := by
  rw [List.getElem?_map] at h
  cases q : xs[i]? with
  | none => rw [q] at h; cases h
  | some v => rw [q] at h; exact ⟨v, rfl, (Option.some.inj h).symm⟩
def spGateB : Sp := fun vs H Q _ => ∃ (g wl : Addr) (full : Int) (gt : Gt) (ws : List Int), vs = [.ref g, .ref wl, .int full] ∧ H g = some (.tup gt.row) ∧ H wl = some (.lst (ws.map V.int)) ∧ gt.ok ws.length ∧ Q (.int (gv full ws gt)) H
theorem at_getD {ws : List Int} {a : Nat} (h : a < ws.length) : atI (ws.map V.int) (a : Int) = some (.int (ws.getD a 0)) := atI_nat (by
  rw [List.getElem?_map, List.getElem?_eq_getElem h]
  simp [List.getD, List.getElem?_eq_getElem h])
theorem ok_gate_bits (B : Bl mg) (L : LL K mg C a1 a2 a3 a4 a5 a6 a7 a8 a9 a10 a11 a12 a13 a14 a15 a16 a17 a18 a19 a20 a21 a22 a23 a24 a25 a26 a27 a28 a29 a30 a31 a32 a33 a34 l1 l2 l3 l4 l5 l6 l7 l8 l9 l10 l11 l12 l13 l14 l15 l16 l17 l18 l19 l20 l21 l22 l23 l24 l25 l26 l27 l28 l29 l30 l31 l32 l33 l34) : FnOk P w K mg base CX0 1 a12 l12 ["gate", "wires", "full"] spGateB := by
  refine L.F_gate_bits.ok sc_gate_bits (fun vs H Q E h => ?_) (fun cdv A outer s H vs Q E hr h => ?_)
  · obtain ⟨g, wl, full, gt, ws, rfl, _⟩ := h
    rfl
  obtain ⟨g, wl, full, gt, ws, rfl, eg, ew, ok, q⟩ := h
  refine ⟨_, (pss_cons (ps_set (i := 3) sc_gate_bits.nd rfl (.inl rfl) (pe_ix ix_tup (pv 0) pe_int (fun _ _ => rfl)))
    (pss_cons (ps_if (pt_cmpR op_eq (pv 3) pe_str (nomark _)) (pss_one (ps_ret (pe_ifExp (pt_cmpR op_eq (pe_ix ix_tup (pv 0) pe_int (fun _ _ => rfl)) pe_int (nomark _)) (pv 2) pe_int))) pss_nil)
    (pss_cons (ps_set (i := 4) sc_gate_bits.nd rfl (.inl rfl) (pe_ix ix_list (pv 1) (pe_ix ix_tup (pv 0) pe_int (fun _ _ => rfl)) (fun _ _ => rfl)))
    (pss_cons (ps_if (pt_cmpR op_eq (pv 3) pe_str (nomark _)) (pss_one (ps_ret (pe_op op_xor (pv 4) (pv 2)))) pss_nil)
    (pss_cons (ps_set (i := 5) sc_gate_bits.nd rfl (.inl rfl) (pe_ix ix_list (pv 1) (pe_ix ix_tup (pv 0) pe_int (fun _ _ => rfl)) (fun _ _ => rfl)))
    (pss_cons (ps_if (pt_cmpR op_eq (pv 3) pe_str (nomark _)) (pss_one (ps_ret (pe_op op_and (pv 4) (pv 5)))) pss_nil)
    (pss_cons (ps_if (pt_cmpR op_eq (pv 3) pe_str (nomark _)) (pss_one (ps_ret (pe_op op_or (pv 4) (pv 5)))) pss_nil)
    (pss_one (ps_ret (pe_op op_xor (pv 4) (pv 5))))))))))), ?_⟩
  have nS : ∀ {x y : Str}, ¬ x = y → ¬ decide (V.str x = V.str y) = true := fun h z => h (V.str.inj (of_decide_eq_true z))
  cases gt with
  | fi b =>
    refine ⟨_, rfl, g, _, _, _, rfl, rfl, .inl (.inl eg), rfl, ?_⟩
    try simp only [L2.start, List.map_cons, List.map_nil, List.length_cons, List.length_nil, List.replicate_succ, List.replicate_zero, List.cons_append, List.nil_append, List.set_cons_succ, List.set_cons_zero, Nat.reduceAdd, Nat.reduceSub, Nat.zero_add]
    dsimp only [gName]
    try simp only [L2.start, List.map_cons, List.map_nil, List.length_cons, List.length_nil, List.replicate_succ, List.replicate_zero, List.cons_append, List.nil_append, List.set_cons_succ, List.set_cons_zero, Nat.reduceAdd, Nat.reduceSub, Nat.zero_add]
    refine ⟨_, rfl, rfl, _, rfl, ite2 (fun _ => ?_) (fun z => absurd (decide_eq_true rfl) z)⟩
    refine ⟨_, rfl, g, _, _, _, rfl, rfl, .inl (.inl eg), rfl, rfl, _, rfl, ite2 (fun z => ?_) (fun z => ?_)⟩
    · have e : (b : Int) = 1 := V.int.inj (of_decide_eq_true z)
      have q : Q (.int (if b = 1 then full else 0)) H := q
      rw [if_pos (by omega)] at q
      exact ⟨_, rfl, q⟩
    · have e : ¬ (b : Int) = 1 := fun y => z (decide_eq_true (congrArg V.int y))
      have q : Q (.int (if b = 1 then full else 0)) H := q
      rw [if_neg (by omega)] at q
      exact q
  | w k l =>
    have q : Q (.int (gvw full (ws.getD (l.getD 0 0) 0) (ws.getD (l.getD 1 0) 0) k)) H := q
    have nf : ¬ k = "fixed" := by
      rcases ok.1 with ⟨z | z | z, _⟩ | ⟨z, _⟩ <;> rw [z] <;> decide +kernel
    have l0 : 0 < l.length := by
      rcases ok.1 with ⟨_, z⟩ | ⟨_, z⟩ <;> omega
    have ea : (Gt.w k l).row[1]? = some (.int ((l.getD 0 0 : Nat) : Int)) := by
      match l, l0 with
      | a :: l, _ => rfl
    have la : l.getD 0 0 < ws.length := by
      match l, l0, ok with
      | a :: l, _, ok => exact ok.2 a (by simp)
    refine ⟨_, rfl, g, _, _, _, rfl, rfl, .inl (.inl eg), (show atI (Gt.w k l).row 0 = some (.str k) from atI_nat (j := 0) rfl), ?_⟩
    try simp only [L2.start, List.map_cons, List.map_nil, List.length_cons, List.length_nil, List.replicate_succ, List.replicate_zero, List.cons_append, List.nil_append, List.set_cons_succ, List.set_cons_zero, Nat.reduceAdd, Nat.reduceSub, Nat.zero_add]
    dsimp only [gName]
    try simp only [L2.start, List.map_cons, List.map_nil, List.length_cons, List.length_nil, List.replicate_succ, List.replicate_zero, List.cons_append, List.nil_append, List.set_cons_succ, List.set_cons_zero, Nat.reduceAdd, Nat.reduceSub, Nat.zero_add]
    refine ⟨_, rfl, rfl, _, rfl, ite2 (fun z => absurd z (nS nf)) (fun _ => ?_)⟩
    dsimp only [tNext]
    refine ⟨_, rfl, _, rfl, g, _, _, _, rfl, rfl, .inl (.inl eg), (atI_nat (j := 1) ea), wl, _, _, _, rfl, rfl, SqL.of ew, at_getD la, ?_⟩
    try simp only [L2.start, List.map_cons, List.map_nil, List.length_cons, List.length_nil, List.replicate_succ, List.replicate_zero, List.cons_append, List.nil_append, List.set_cons_succ, List.set_cons_zero, Nat.reduceAdd, Nat.reduceSub, Nat.zero_add]
    dsimp only [gName]
    try simp only [L2.start, List.map_cons, List.map_nil, List.length_cons, List.length_nil, List.replicate_succ, List.replicate_zero, List.cons_append, List.nil_append, List.set_cons_succ, List.set_cons_zero, Nat.reduceAdd, Nat.reduceSub, Nat.zero_add]
    unfold gvw at q
    refine ⟨_, rfl, rfl, _, rfl, ite2 (fun z => ?_) (fun z => ?_)⟩
    · rw [if_pos (V.str.inj (of_decide_eq_true z))] at q
      exact ⟨_, rfl, _, rfl, _, _, rfl, rfl, q⟩
    have no : ¬ k = "other" := fun y => z (decide_eq_true (congrArg V.str y))
    rw [if_neg no] at q
    dsimp only [tNext]
    have l2 : l.length = 2 := by
      rcases ok.1 with ⟨_, z⟩ | ⟨z, _⟩
      · exact z
      · exact absurd z no
    have eb : (Gt.w k l).row[2]? = some (.int ((l.getD 1 0 : Nat) : Int)) := by
      match l, l2 with
      | [a, b], _ => rfl
    have lb : l.getD 1 0 < ws.length := by
      match l, l2, ok with
      | [a, b], _, ok => exact ok.2 b (by simp)
    refine ⟨_, rfl, _, rfl, g, _, _, _, rfl, rfl, .inl (.inl eg), (atI_nat (j := 2) eb), wl, _, _, _, rfl, rfl, SqL.of ew, at_getD lb, ?_⟩
    try simp only [L2.start, List.map_cons, List.map_nil, List.length_cons, List.length_nil, List.replicate_succ, List.replicate_zero, List.cons_append, List.nil_append, List.set_cons_succ, List.set_cons_zero, Nat.reduceAdd, Nat.reduceSub, Nat.zero_add]
    dsimp only [gName]
    try simp only [L2.start, List.map_cons, List.map_nil, List.length_cons, List.length_nil, List.replicate_succ, List.replicate_zero, List.cons_append, List.nil_append, List.set_cons_succ, List.set_cons_zero, Nat.reduceAdd, Nat.reduceSub, Nat.zero_add]
    refine ⟨_, rfl, rfl, _, rfl, ite2 (fun z => ?_) (fun z => ?_)⟩
    · rw [if_pos (V.str.inj (of_decide_eq_true z))] at q
      exact ⟨_, rfl, _, rfl, _, _, rfl, rfl, q⟩
    rw [if_neg (fun y => z (decide_eq_true (congrArg V.str y)))] at q
    dsimp only [tNext]
    refine ⟨_, rfl, rfl, _, rfl, ite2 (fun z => ?_) (fun z => ?_)⟩
    · rw [if_pos (V.str.inj (of_decide_eq_true z))] at q
      exact ⟨_, rfl, _, rfl, _, _, rfl, rfl, q⟩
    rw [if_neg (fun y => z (decide_eq_true (congrArg V.str y)))] at q
    dsimp only [tNext]
    exact ⟨_, rfl, _, rfl, _, _, rfl, rfl, q⟩
/-- the rows that a run tells: by name, the wires' values -/
def RunAt (H0 H : Hp) (t : Addr) (ys : List Str) (nm : List (Str × List Nat)) (rs : List Int) : Prop := ∃ ts : List Addr, ts.length = ys.length ∧ H t = some (.lst (ts.map V.ref)) ∧
  ∀ (i : Nat) (u : Addr) (n : Str), ts[i]? = some u → ys[i]? = some n → ∃ (ws : List Nat) (l : Addr), (n, ws) ∈ nm ∧ H0 l = none ∧ H u = some (.tup [.str n, .ref l]) ∧ H l = some (.lst ((ws.map fun a => rs.getD a 0).map V.int))
def spRan (C : Addr) : Sp := fun vs H Q _ => ∃ (Z : List Addr) (p : NetP) (m : Nat) (gs : List Gt) (nm : List (Str × List Nat)) (vl : Addr) (vals : List Int) (n : Nat), vs = [.ref p.x, .ref vl, .int (n : Int)] ∧ NetAt C Z H p m gs nm ∧ H vl = some (.lst (vals.map V.int)) ∧ vals.length = m ∧ n ≤ 5000 ∧ m + gs.length ≤ 400000 ∧ nm.length < 64 ∧
  (∀ (i : Nat) (g : Gt), gs[i]? = some g → g.ok (m + i)) ∧ (∀ x ∈ nm, x.2.length ≤ 900 ∧ ∀ a ∈ x.2, a < m + gs.length) ∧
  ∀ (ys : List Str) (t : Addr) (H' : Hp), ys.Perm (nm.map (·.1)) → sortedS ys = true → Same H H' → RunAt H H' t ys nm (rv (2 ^ n - 1) (vals.map (· % 2 ^ n)) gs) → Q (.ref t) H'
theorem ok_ran (B : Bl mg) (L : LL K mg C a1 a2 a3 a4 a5 a6 a7 a8 a9 a10 a11 a12 a13 a14 a15 a16 a17 a18 a19 a20 a21 a22 a23 a24 a25 a26 a27 a28 a29 a30 a31 a32 a33 a34 l1 l2 l3 l4 l5 l6 l7 l8 l9 l10 l11 l12 l13 l14 l15 l16 l17 l18 l19 l20 l21 l22 l23 l24 l25 l26 l27 l28 l29 l30 l31 l32 l33 l34) : FnOk P w K mg base CX0 2 a11 l11 ["net", "values", "many"] (spRan C) := by
  have G_gate_bits : FnOk P w K mg base CX0 1 a12 l12 ["gate", "wires", "full"] spGateB := (ok_gate_bits B L).mono (by decide)
  have G_Net_gates : FnOk P w K mg base CX0 1 a32 l32 ["self"] (spGates C) := (ok_Net_gates B L).mono (by decide)
  have G_Net_given : FnOk P w K mg base CX0 1 a29 l29 ["self", "name"] (spGiven C) := (ok_Net_given B L).mono (by decide)
  have G_Net_names : FnOk P w K mg base CX0 1 a30 l30 ["self"] (spNames C) := (ok_Net_names B L).mono (by decide)
  refine L.F_ran.ok sc_ran (fun vs H Q E h => ?_) (fun cdv A outer s H vs Q E hr h => ?_)
  · obtain ⟨Z, p, m, gs, nm, vl, vals, n, rfl, _⟩ := h
    rfl
  obtain ⟨Z, p, m, gs, nm, vl, vals, n, rfl, hN, ev, lv, hn, hl, hm, hok, hnm, q⟩ := h
  refine ⟨_, (pss_cons (ps_set (i := 3) sc_ran.nd rfl (.inr rfl) (pe_op op_sub (pe_op op_oneShl pe_int (pv 2)) pe_int))
    (pss_cons (ps_set (i := 4) sc_ran.nd rfl (.inr rfl) (pe_lc (own := [("value", 6)]) (by rfl) sc_ran.nd (pi_list (pv 1)) (blkOk_by (own := [("value", 6)]) (N := ["net", "values", "many", "full", "wires", "gate", "value", "name", "wire"]) (sc := defScope s_ran) (by decide +kernel)) (fun _ _ _ _ _ => pg_name (i := 6) sc_ran.nd rfl (Or.inl rfl)) (fun _ _ _ _ _ => pts_nil) (fun _ _ _ _ _ => (pe_op op_andM (pv 6) (pv 3)))))
    (pss_cons (ps_for PassesOwn.never rfl (pi_list (pe_meth0 (pv 0) L.T.cl L.M_Net_gates G_Net_gates hr L.b_Net_gates .nil pass0)) (pg_name (i := 5) sc_ran.nd rfl (.inl rfl)) (pss_one (ps_expr (pe_bm PySem.F.plainAttrs_list PySem.F.slot_list_append PySem.F.type_list_append mt_append (pv 4) (pa_cons (pe_call G_gate_bits hr (by rfl) L.m_gate_bits L.F_gate_bits.kp L.b_gate_bits .nil pass0 (pa_cons (pv 5) (pa_cons (pv 4) (pa_cons (pv 3) pa_nil)))) pa_nil)))))
    (pss_one (ps_ret (pe_lc (own := [("name", 7)]) (by rfl) sc_ran.nd (pi_list (pe_meth0 (pv 0) L.T.cl L.M_Net_names G_Net_names hr L.b_Net_names .nil pass0)) (blkOk_by (own := [("name", 7)]) (N := ["net", "values", "many", "full", "wires", "gate", "value", "name", "wire"]) (sc := defScope s_ran) (by decide +kernel)) (fun _ _ _ _ _ => pg_name (i := 7) sc_ran.nd rfl (Or.inl rfl)) (fun _ _ _ _ _ => pts_nil) (fun _ _ _ _ _ => (pe_tup (pa_cons (pv 7) (pa_cons (pe_lc (own := [("wire", 8)]) (by rfl) sc_ran.nd (pi_listK (K := K) (pe_meth (pv 0) L.T.cl L.M_Net_given G_Net_given hr L.b_Net_given .nil pass0 (pa_cons (pv 7) pa_nil))) (blkOk_by (own := [("wire", 8)]) (N := ["net", "values", "many", "full", "wires", "gate", "value", "name", "wire"]) (sc := ({ kind := ScopeKind.function, names := [(".0", NameKind.local), ("name", NameKind.local), ("net", NameKind.cell), ("wires", NameKind.cell)], isGenerator := false, isCoroutine := false } : Scope)) (by decide +kernel)) (fun _ _ _ _ _ => pg_name (i := 8) sc_ran.nd rfl (Or.inl rfl)) (fun _ _ _ _ _ => pts_nil) (fun _ _ _ _ _ => (pe_ix (ix_listK (K := K)) (pv 4) (pv 8) (fun _ _ => rfl)))) pa_nil)))))))))), ?_⟩
  refine ⟨_, rfl, n, rfl, rfl, by omega, _, _, rfl, rfl, ?_⟩
  try simp only [L2.start, List.map_cons, List.map_nil, List.length_cons, List.length_nil, List.replicate_succ, List.replicate_zero, List.cons_append, List.nil_append, List.set_cons_succ, List.set_cons_zero, Nat.reduceAdd, Nat.reduceSub, Nat.zero_add]
  refine ⟨_, rfl, vl, rfl, ⟨_, SqL.of ev⟩, fun W nW => ?_⟩
  refine lc_it (walk_list (K := K) (a := vl) (xs := vals.map V.int)) (fun i H9 => Same H H9 ∧ H9 W = some (.lst (((vals.map (· % 2 ^ n)).take i).map V.int))) ⟨same_upd nW, upd_same⟩ (fun i H9 _ ⟨s9, _⟩ => SqL.of (s9 _ _ ev)) ?_ ?_
  · rintro j z H9 H10 hj ⟨s9, eW⟩ ⟨rfl, hz⟩
    obtain ⟨v, hv, rfl⟩ := at_int46 hz
    refine ⟨rfl, yesT ?_⟩
    refine ⟨_, rfl, _, rfl, _, n, rfl, rfl, ?_⟩
    refine ⟨_, eW, ?_, fun y u e => ?_, ?_⟩
    · rw [List.length_map, List.length_take, List.length_map]
      exact Nat.lt_of_le_of_lt (Nat.min_le_right _ _) (big_lt0 (by omega))
    · rw [upd_ne (ne_of_none e nW)]
      exact s9 _ _ e
    · rw [upd_same, List.take_add_one, List.getElem?_map, hv, List.map_append]
      rfl
  rintro H1 ⟨s1, eW⟩
  rw [List.length_map, List.take_of_length_le (by rw [List.length_map]; exact Nat.le_refl _)] at eW
  try simp only [L2.start, List.map_cons, List.map_nil, List.length_cons, List.length_nil, List.replicate_succ, List.replicate_zero, List.cons_append, List.nil_append, List.set_cons_succ, List.set_cons_zero, Nat.reduceAdd, Nat.reduceSub, Nat.zero_add]
  obtain ⟨_, _, _, dx, _, _, e1, _⟩ := id hN
  have nWx : ∀ y o, H y = some o → y ≠ W := fun y o e => ne_of_none e nW
  refine ⟨_, rfl, p.x, dx, _, rfl, s1 _ _ e1, rfl, Z, p, m, gs, nm, rfl, hN.same s1, fun G ps nG lps hps => ?_⟩
  have sG := same_upd (o := .lst (ps.map V.ref)) nG
  have eWG := sG _ _ eW
  have nGW : G ≠ W := (ne_of_none eW nG).symm
  have eG0 : (upd H1 G (.lst (ps.map V.ref))) G = some (.lst (ps.map V.ref)) := upd_same
  have w1 := s1.trans sG
  have hps1 : ∀ (i : Nat) (r : Addr) (g : Gt), ps[i]? = some r → gs[i]? = some g → (upd H1 G (.lst (ps.map V.ref))) r = some (.tup g.row) := fun i r g hi hg => sG _ _ (hps i r g hi hg)
  generalize upd H1 G (.lst (ps.map V.ref)) = H2 at *
  refine ⟨G, rfl, ⟨_, SqL.of eG0⟩, ?_⟩
  refine for_it (walk_list (K := K) (a := G) (xs := ps.map V.ref)) (fun j σ H9 => ∃ y : Option V, σ = [some (.ref p.x), some (.ref vl), some (.int (n : Int)), some (.int (2 ^ n - 1)), some (.ref W), y, none, none, none] ∧ Keep W H2 H9 ∧ H9 W = some (.lst ((rv (2 ^ n - 1) (vals.map (· % 2 ^ n)) (gs.take j)).map V.int))) ⟨_, rfl, Keep.refl _ _, eWG⟩ (fun j σ H9 _ ⟨_, _, k9, _⟩ => SqL.of (k9 _ _ eG0 nGW)) ?_ ?_
  · rintro j z σ H9 H10 hj ⟨y, rfl, k9, eW9⟩ ⟨rfl, hz⟩
    rw [List.getElem?_map] at hz
    have hj' : j < ps.length := by
      rw [List.length_map] at hj
      exact hj
    rw [List.getElem?_eq_getElem hj'] at hz
    cases hz
    have hg : gs[j]? = some gs[j] := List.getElem?_eq_getElem (by omega)
    have er : H10 ps[j] = some (.tup (gs[j]'(by omega)).row) := k9 _ _ (hps1 j _ _ (List.getElem?_eq_getElem hj') hg) (fun z => by
      have := hps1 j _ _ (List.getElem?_eq_getElem hj') hg
      rw [z, eWG] at this
      cases this)
    try simp only [L2.start, List.map_cons, List.map_nil, List.length_cons, List.length_nil, List.replicate_succ, List.replicate_zero, List.cons_append, List.nil_append, List.set_cons_succ, List.set_cons_zero, Nat.reduceAdd, Nat.reduceSub, Nat.zero_add]
    refine ⟨_, rfl, .inl ⟨rfl, _, SqL.of eW9⟩, _, rfl, _, rfl, _, rfl, ps[j], W, _, _, _, rfl, er, eW9, ?_, ?_⟩
    · rw [rv_len, List.length_map, List.length_take, lv, Nat.min_eq_left (by omega)]
      exact hok j _ hg
    refine ⟨W, _, _, rfl, rfl, eW9, ?_, ?_⟩
    · rw [List.length_map, rv_len, List.length_map, List.length_take]
      exact big_lt0 (by omega)
    refine ⟨_, rfl, fun y' u e ny => ?_, ?_⟩
    · rw [upd_ne ny]
      exact k9 _ _ e ny
    · rw [upd_same, List.take_add_one, hg]
      show _ = some (HO.lst ((rv (2 ^ n - 1) (vals.map (· % 2 ^ n)) (gs.take j ++ [gs[j]])).map V.int))
      rw [rv_snoc, List.map_append]
      rfl
  rintro σ H9 ⟨y, rfl, k9, eW9⟩
  rw [List.length_map, List.take_of_length_le (by omega)] at eW9
  have s9 : Same H H9 := fun y u e => k9 _ _ (w1 _ _ e) (nWx _ _ e)
  have N9 := hN.same s9
  obtain ⟨_, _, _, dx9, _, _, f1, _⟩ := id N9
  refine ⟨_, rfl, p.x, dx9, _, rfl, f1, rfl, Z, p, m, gs, nm, rfl, N9, hm, fun ys Y HY hp hs sY nY eY => ?_⟩
  have eWY := sY _ _ eW9
  have NY := N9.same sY
  have lys : ys.length < 64 := by
    have := hp.length_eq
    rw [List.length_map] at this
    omega
  have lrv : (rv (2 ^ n - 1) (vals.map (· % 2 ^ n)) gs).length = m + gs.length := by rw [rv_len, List.length_map, lv]
  refine ⟨Y, rfl, ⟨_, SqL.of eY⟩, fun T nT => ?_⟩
  refine lc_it (walk_list (K := K) (a := Y) (xs := ys.map V.str)) (fun i H5 => Same HY H5 ∧ ∃ ts : List Addr, ts.length = i ∧ H5 T = some (.lst (ts.map V.ref)) ∧ ∀ (k : Nat) (u : Addr) (x : Str), ts[k]? = some u → ys[k]? = some x → ∃ (ws : List Nat) (l : Addr), (x, ws) ∈ nm ∧ H l = none ∧ l ≠ T ∧ H5 u = some (.tup [.str x, .ref l]) ∧ H5 l = some (.lst ((ws.map fun a => (rv (2 ^ n - 1) (vals.map (· % 2 ^ n)) gs).getD a 0).map V.int))) ⟨same_upd nT, [], rfl, upd_same, fun k u x h => by simp at h⟩ (fun i H5 _ ⟨s5, _⟩ => SqL.of (s5 _ _ eY)) ?_ ?_
  · rintro j z H5 H6 hj ⟨s5, ts, lt, eT, hts⟩ ⟨rfl, hz⟩
    rw [List.getElem?_map] at hz
    have hj' : j < ys.length := by
      rw [List.length_map] at hj
      exact hj
    have hy : ys[j]? = some ys[j] := List.getElem?_eq_getElem hj'
    rw [hy] at hz
    cases hz
    have N5 := NY.same s5
    obtain ⟨_, _, _, dx5, _, _, g1, _⟩ := id N5
    obtain ⟨⟨x, ws⟩, hx, ex⟩ := List.mem_map.mp (hp.mem_iff.mp (List.mem_of_getElem? hy))
    obtain ⟨i0, hi0, ei0⟩ := List.getElem_of_mem hx
    have hn0 : nm[i0]? = some (ys[j], ws) := by
      rw [List.getElem?_eq_getElem hi0, ei0, ← ex]
    have hws := hnm _ hx
    have hw1 : ws.length ≤ 900 := hws.1
    refine ⟨rfl, yesT ?_⟩
    refine ⟨_, rfl, _, rfl, p.x, dx5, _, rfl, g1, rfl, _, rfl, Z, p, m, gs, nm, i0, ys[j], ws, rfl, N5, hn0, fun g ng => ?_⟩
    have sg := same_upd (o := .lst (nts ws)) ng
    have eWg := sg _ _ (s5 _ _ eWY)
    have egg : (upd H6 g (.lst (nts ws))) g = some (.lst (nts ws)) := upd_same
    have eTg := sg _ _ eT
    generalize upd H6 g (.lst (nts ws)) = H7 at *
    refine ⟨g, rfl, ⟨_, SqL.of egg⟩, fun D nD => ?_⟩
    refine lc_it (walk_list (K := K) (a := g) (xs := nts ws)) (fun i H8 => Same H7 H8 ∧ H8 D = some (.lst (((ws.map fun a => (rv (2 ^ n - 1) (vals.map (· % 2 ^ n)) gs).getD a 0).take i).map V.int))) ⟨same_upd nD, upd_same⟩ (fun i H8 _ ⟨s8, _⟩ => SqL.of (s8 _ _ egg)) ?_ ?_
    · rintro k z H8 H8' hk ⟨s8, eD⟩ ⟨rfl, hz⟩
      obtain ⟨a, ha, rfl⟩ := nts_at hz
      have la := hws.2 a (List.mem_of_getElem? ha)
      refine ⟨rfl, yesT ?_⟩
      refine ⟨_, rfl, _, rfl, W, _, _, _, rfl, rfl, SqL.of (s8 _ _ eWg), at_getD (by rw [lrv]; exact la), ?_⟩
      refine ⟨_, eD, ?_, fun y u e => ?_, ?_⟩
      · rw [List.length_map, List.length_take, List.length_map]
        exact Nat.lt_of_le_of_lt (Nat.min_le_right _ _) (big_lt0 (by omega))
      · rw [upd_ne (ne_of_none e nD)]
        exact s8 _ _ e
      · rw [upd_same, List.take_add_one, List.getElem?_map, ha, List.map_append]
        rfl
    rintro H8 ⟨s8, eD⟩
    rw [nts_len, List.take_of_length_le (by rw [List.length_map]; exact Nat.le_refl _)] at eD
    have eT8 := s8 _ _ eTg
    have nD0 : H D = none := by
      cases e : H D with
      | none => rfl
      | some o =>
        have := sg _ _ (s5 _ _ (sY _ _ (s9 _ _ e)))
        rw [nD] at this
        cases this
    have nDT : D ≠ T := fun z => by
      rw [z, eTg] at nD
      cases nD
    refine ⟨(by show 2 ≤ sizeLine; decide), fun u nu => ?_⟩
    have su := same_upd (o := .tup [.str ys[j], .ref D]) nu
    have nuT : u ≠ T := fun z => by
      rw [z, eT8] at nu
      cases nu
    have sA : Same H6 (upd H8 u (.tup [.str ys[j], .ref D])) := fun y o e => su _ _ (s8 _ _ (sg _ _ e))
    refine ⟨_, su _ _ eT8, ?_, fun y o e => ?_, ts ++ [u], by rw [List.length_append, lt]; rfl, ?_, fun k u' x' hu hx' => ?_⟩
    · rw [List.length_map, lt]
      exact big_lt0 (by omega)
    · rw [upd_ne (ne_of_none e nT)]
      exact sA _ _ (s5 _ _ e)
    · rw [upd_same, List.map_append]
      rfl
    · by_cases c : k < ts.length
      · rw [List.getElem?_append_left c] at hu
        obtain ⟨ws', l', q1, q0, q2, q3, q4⟩ := hts k u' x' hu hx'
        refine ⟨ws', l', q1, q0, q2, ?_, ?_⟩
        · rw [upd_ne (fun z => by rw [z, eT] at q3; cases q3)]
          exact sA _ _ q3
        · rw [upd_ne q2]
          exact sA _ _ q4
      · have k0 : k = ts.length := by
          have := (List.getElem?_eq_some_iff.mp hu).1
          rw [List.length_append, List.length_cons, List.length_nil] at this
          omega
        rw [List.getElem?_append_right (by omega), k0, Nat.sub_self] at hu
        rw [k0, lt, hy] at hx'
        cases hu
        cases hx'
        refine ⟨ws, D, ?_, nD0, nDT, ?_, ?_⟩
        · rw [← ex]
          exact hx
        · rw [upd_ne nuT]
          exact upd_same
        · rw [upd_ne nDT]
          exact su _ _ eD
  · rintro H5 ⟨s5, ts, lt, eT, hts⟩
    refine q ys T H5 hp hs ((s9.trans sY).trans s5) ⟨ts, by rw [lt, List.length_map], eT, fun k u x hu hx => ?_⟩
    obtain ⟨ws, l, q1, q0, _, q3, q4⟩ := hts k u x hu hx
    exact ⟨ws, l, q1, q0, q3, q4⟩
end
/-! ### one case of a run, in truths -/
def bi (b : Bool) : Int := if b = true then 1 else 0
theorem bi_01 (b : Bool) : bi b = 0 ∨ bi b = 1 := by cases b <;> simp [bi]
def gbw (x y : Bool) (k : Str) : Bool := if k = "other" then !x else if k = "both" then x && y else if k = "either" then x || y else xor x y
def gb (ws : List Bool) : Gt → Bool
  | .fi b => decide (b = 1)
  | .w k l => gbw (ws.getD (l.getD 0 0) false) (ws.getD (l.getD 1 0) false) k
def rb (vals : List Bool) (gs : List Gt) : List Bool := gs.foldl (fun ws g => ws ++ [gb ws g]) vals
theorem rb_app (vals : List Bool) (gs es : List Gt) : rb vals (gs ++ es) = rb (rb vals gs) es := by
  unfold rb
  rw [List.foldl_append]
theorem rb_pre : ∀ (gs : List Gt) (vals : List Bool), ∃ r, rb vals gs = vals ++ r ∧ r.length = gs.length
  | [], vals => ⟨[], (List.append_nil _).symm, rfl⟩
  | g :: gs, vals => by
    obtain ⟨r, e, l⟩ := rb_pre gs (vals ++ [gb vals g])
    refine ⟨gb vals g :: r, ?_, by rw [List.length_cons, List.length_cons, l]⟩
    unfold rb at e ⊢
    rw [List.foldl_cons, e, List.append_assoc]
    rfl
theorem rb_len (gs : List Gt) (vals : List Bool) : (rb vals gs).length = vals.length + gs.length := by
  obtain ⟨r, e, l⟩ := rb_pre gs vals
  rw [e, List.length_append, l]
def wb (vals : List Bool) (gs : List Gt) (a : Nat) : Bool := (rb vals gs).getD a false
theorem getD_app {α : Type} {xs ys : List α} {a : Nat} {d : α} (h : a < xs.length) : (xs ++ ys).getD a d = xs.getD a d := by
  simp only [List.getD, List.getElem?_append_left h]
theorem wb_app {vals : List Bool} {gs es : List Gt} {a : Nat} (h : a < vals.length + gs.length) : wb vals (gs ++ es) a = wb vals gs a := by
  unfold wb
  rw [rb_app]
  obtain ⟨r, e, _⟩ := rb_pre es (rb vals gs)
  rw [e]
  exact getD_app (by rw [rb_len]; exact h)
theorem wb_new {vals : List Bool} {gs : List Gt} {g : Gt} {n : Nat} (h : n = vals.length + gs.length) : wb vals (gs ++ [g]) n = gb (rb vals gs) g := by
  unfold wb
  rw [rb_app]
  show (rb vals gs ++ [gb (rb vals gs) g]).getD n false = _
  have : n = (rb vals gs).length := by rw [rb_len]; exact h
  subst this
  simp [List.getD]
theorem wb_both {vals : List Bool} {gs : List Gt} {a b n : Nat} (h : n = vals.length + gs.length) : wb vals (gs ++ [.w "both" [a, b]]) n = (wb vals gs a && wb vals gs b) := by
  rw [wb_new h]
  show gbw _ _ "both" = _
  unfold gbw
  rw [if_neg (by decide), if_pos rfl]
  rfl
theorem wb_either {vals : List Bool} {gs : List Gt} {a b n : Nat} (h : n = vals.length + gs.length) : wb vals (gs ++ [.w "either" [a, b]]) n = (wb vals gs a || wb vals gs b) := by
  rw [wb_new h]
  show gbw _ _ "either" = _
  unfold gbw
  rw [if_neg (by decide), if_neg (by decide), if_pos rfl]
  rfl
theorem wb_unlike {vals : List Bool} {gs : List Gt} {a b n : Nat} (h : n = vals.length + gs.length) : wb vals (gs ++ [.w "unlike" [a, b]]) n = (xor (wb vals gs a) (wb vals gs b)) := by
  rw [wb_new h]
  show gbw _ _ "unlike" = _
  unfold gbw
  rw [if_neg (by decide), if_neg (by decide), if_neg (by decide)]
  rfl
theorem wb_other {vals : List Bool} {gs : List Gt} {a n : Nat} (h : n = vals.length + gs.length) : wb vals (gs ++ [.w "other" [a]]) n = !(wb vals gs a) := by
  rw [wb_new h]
  show gbw _ _ "other" = _
  unfold gbw
  rw [if_pos rfl]
  rfl
theorem wb_fixed {vals : List Bool} {gs : List Gt} {b n : Nat} (h : n = vals.length + gs.length) : wb vals (gs ++ [.fi b]) n = decide (b = 1) := wb_new h
/-! ### nets that grow -/
def GsOk (m : Nat) (gs : List Gt) : Prop := ∀ (i : Nat) (g : Gt), gs[i]? = some g → g.ok (m + i)
def Ext (m : Nat) (gs gs' : List Gt) (n : Nat) : Prop := (∃ e, gs' = gs ++ e ∧ e.length ≤ n) ∧ (GsOk m gs → GsOk m gs')
theorem Ext.refl {m : Nat} {gs : List Gt} : Ext m gs gs 0 := ⟨⟨[], (List.append_nil _).symm, Nat.le_refl _⟩, id⟩
theorem Ext.trans {m : Nat} {gs g1 g2 : List Gt} {a b : Nat} (h : Ext m gs g1 a) (k : Ext m g1 g2 b) : Ext m gs g2 (a + b) := by
  obtain ⟨⟨e1, rfl, l1⟩, o1⟩ := h
  obtain ⟨⟨e2, rfl, l2⟩, o2⟩ := k
  exact ⟨⟨e1 ++ e2, List.append_assoc .., by rw [List.length_append]; omega⟩, fun o => o2 (o1 o)⟩
theorem Ext.mono {m : Nat} {gs g1 : List Gt} {a b : Nat} (h : Ext m gs g1 a) (k : a ≤ b) : Ext m gs g1 b := ⟨h.1.imp fun _ x => ⟨x.1, Nat.le_trans x.2 k⟩, h.2⟩
theorem Ext.one {m : Nat} {gs : List Gt} {g : Gt} (h : g.ok (m + gs.length)) : Ext m gs (gs ++ [g]) 1 := by
  refine ⟨⟨[g], rfl, Nat.le_refl _⟩, fun o i g' hi => ?_⟩
  by_cases c : i < gs.length
  · rw [List.getElem?_append_left c] at hi
    exact o i g' hi
  · rw [List.getElem?_append_right (by omega)] at hi
    have : i - gs.length = 0 := by
      have := (List.getElem?_eq_some_iff.mp hi).1
      rw [List.length_singleton] at this
      omega
    rw [this] at hi
    cases hi
    rw [show i = gs.length by omega]
    exact h
theorem Ext.len {m : Nat} {gs g1 : List Gt} {a : Nat} (h : Ext m gs g1 a) : gs.length ≤ g1.length ∧ g1.length ≤ gs.length + a := by
  obtain ⟨⟨e1, rfl, l1⟩, o1⟩ := h
  rw [List.length_append]
  omega
theorem Ext.wb {m : Nat} {gs g1 : List Gt} {a : Nat} (h : Ext m gs g1 a) {vals : List Bool} (hv : vals.length = m) {w : Nat} (hw : w < m + gs.length) : GZ.wb vals g1 w = GZ.wb vals gs w := by
  obtain ⟨⟨e1, rfl, l1⟩, o1⟩ := h
  exact wb_app (by rw [hv]; exact hw)
theorem Ext.wbs {m : Nat} {gs g1 : List Gt} {a : Nat} (h : Ext m gs g1 a) {vals : List Bool} (hv : vals.length = m) {ws : List Nat} (hw : ∀ w ∈ ws, w < m + gs.length) : ws.map (GZ.wb vals g1) = ws.map (GZ.wb vals gs) := List.map_congr_left fun w m' => h.wb hv (hw w m')
theorem Ext.both {m : Nat} {gs : List Gt} {a b : Nat} (ha : a < m + gs.length) (hb : b < m + gs.length) : Ext m gs (gs ++ [.w "both" [a, b]]) 1 := .one ⟨.inl ⟨.inl rfl, rfl⟩, by simp only [List.mem_cons, List.not_mem_nil, or_false]; rintro x (rfl | rfl) <;> assumption⟩
theorem Ext.either {m : Nat} {gs : List Gt} {a b : Nat} (ha : a < m + gs.length) (hb : b < m + gs.length) : Ext m gs (gs ++ [.w "either" [a, b]]) 1 := .one ⟨.inl ⟨.inr (.inl rfl), rfl⟩, by simp only [List.mem_cons, List.not_mem_nil, or_false]; rintro x (rfl | rfl) <;> assumption⟩
theorem Ext.unlike {m : Nat} {gs : List Gt} {a b : Nat} (ha : a < m + gs.length) (hb : b < m + gs.length) : Ext m gs (gs ++ [.w "unlike" [a, b]]) 1 := .one ⟨.inl ⟨.inr (.inr rfl), rfl⟩, by simp only [List.mem_cons, List.not_mem_nil, or_false]; rintro x (rfl | rfl) <;> assumption⟩
theorem Ext.other {m : Nat} {gs : List Gt} {a : Nat} (ha : a < m + gs.length) : Ext m gs (gs ++ [.w "other" [a]]) 1 := .one ⟨.inr ⟨rfl, rfl⟩, by simp only [List.mem_cons, List.not_mem_nil, or_false]; rintro x rfl; assumption⟩
theorem Ext.fixed {m : Nat} {gs : List Gt} {b : Nat} (hb : b ≤ 1) : Ext m gs (gs ++ [.fi b]) 1 := .one hb
theorem fold_inv {α β : Type} (P : Nat → β → Prop) (step : β → α → β) : ∀ (l : List α) (b : β), P 0 b → (∀ (i : Nat) (x : α) (b : β), l[i]? = some x → P i b → P (i + 1) (step b x)) → P l.length (l.foldl step b)
  | [], b, h, _ => h
  | x :: l, b, h, hs => fold_inv (fun i => P (i + 1)) step l (step b x) (hs 0 x b rfl h) fun i y b hi => hs (i + 1) y b hi
theorem fold_take {α β : Type} (step : β → α → β) {l : List α} {i : Nat} {x : α} (h : l[i]? = some x) (b : β) : (l.take (i + 1)).foldl step b = step ((l.take i).foldl step b) x := by
  rw [List.take_add_one, h, List.foldl_append]
  rfl
/-! ### numbers of bits, the greatest ahead -/
def numB (bs : List Bool) : Nat := bs.foldl (fun n b => 2 * n + b.toNat) 0
theorem numB_fold : ∀ (bs : List Bool) (k : Nat), bs.foldl (fun n b => 2 * n + b.toNat) k = k * 2 ^ bs.length + numB bs
  | [], k => by simp [numB]
  | b :: bs, k => by
    unfold numB
    rw [List.foldl_cons, List.foldl_cons, numB_fold bs, numB_fold bs (2 * 0 + b.toNat), List.length_cons, Nat.pow_succ, Nat.mul_comm (2 ^ bs.length) 2, ← Nat.mul_assoc, Nat.add_mul, Nat.add_mul, Nat.mul_comm k 2]
    omega
theorem numB_nil : numB [] = 0 := rfl
theorem numB_app (xs ys : List Bool) : numB (xs ++ ys) = numB xs * 2 ^ ys.length + numB ys := by
  unfold numB
  rw [List.foldl_append, numB_fold]
  rfl
theorem numB_cons (b : Bool) (bs : List Bool) : numB (b :: bs) = b.toNat * 2 ^ bs.length + numB bs := numB_app [b] bs |>.trans (by cases b <;> simp [numB])
theorem numB_snoc (bs : List Bool) (b : Bool) : numB (bs ++ [b]) = 2 * numB bs + b.toNat := by
  rw [numB_app]
  cases b <;> simp [numB] <;> omega
theorem numB_lt : ∀ bs : List Bool, numB bs < 2 ^ bs.length
  | [] => by decide
  | b :: bs => by
    have := numB_lt bs
    rw [numB_cons, List.length_cons, Nat.pow_succ]
    cases b <;> simp <;> omega
theorem numB_rep (n : Nat) : numB (List.replicate n false) = 0 := by
  induction n with
  | zero => rfl
  | succ k ih => rw [List.replicate_succ, numB_cons, ih]; simp
theorem numB_zero : ∀ {bs : List Bool}, numB bs = 0 → ∀ b ∈ bs, b = false
  | [], _, b, h => nomatch h
  | x :: bs, e, b, h => by
    rw [numB_cons] at e
    have hp : 0 < 2 ^ bs.length := Nat.pow_pos (by decide)
    cases x with
    | true => simp at e
    | false =>
      rcases List.mem_cons.mp h with rfl | h
      · rfl
      · exact numB_zero (by simpa using e) b h
theorem wf_num (bs : List Bool) : wf (bs.map bi) = (numB bs : Int) := by
  have key : ∀ (bs : List Bool) (n : Nat), (bs.map bi).foldl (fun w d => 2 * w + d) (n : Int) = ((bs.foldl (fun n b => 2 * n + b.toNat) n : Nat) : Int) := by
    intro bs
    induction bs with
    | nil => intro n; rfl
    | cons b bs ih =>
      intro n
      rw [List.map_cons, List.foldl_cons, List.foldl_cons, ← ih]
      congr 1
      cases b <;> simp [bi]
  exact key bs 0
/-! ### many cases at once -/
theorem tb_bi (x : Int) (k : Nat) : tb x k = bi (decide (tb x k = 1)) := by
  rcases tb_01 x k with h | h <;> rw [h] <;> decide
theorem gv_gb (ws : List Bool) (g : Gt) : gv 1 (ws.map bi) g = bi (gb ws g) := by
  have hg : ∀ i, (ws.map bi).getD i 0 = bi (ws.getD i false) := fun i => by
    simp only [List.getD, List.getElem?_map]
    cases ws[i]? <;> rfl
  cases g with
  | fi b =>
    show (if b = 1 then (1 : Int) else 0) = bi (decide (b = 1))
    by_cases c : b = 1 <;> simp [c, bi]
  | w k l =>
    show gvw 1 _ _ k = bi (gbw _ _ k)
    rw [hg, hg]
    generalize ws.getD (l.getD 0 0) false = x
    generalize ws.getD (l.getD 1 0) false = y
    unfold gvw gbw
    by_cases c1 : k = "other"
    · rw [if_pos c1, if_pos c1]; cases x <;> decide
    rw [if_neg c1, if_neg c1]
    by_cases c2 : k = "both"
    · rw [if_pos c2, if_pos c2]; cases x <;> cases y <;> decide
    rw [if_neg c2, if_neg c2]
    by_cases c3 : k = "either"
    · rw [if_pos c3, if_pos c3]; cases x <;> cases y <;> decide
    rw [if_neg c3, if_neg c3]
    cases x <;> cases y <;> decide
theorem rv_rb : ∀ (gs : List Gt) (vals : List Bool), rv 1 (vals.map bi) gs = (rb vals gs).map bi
  | [], _ => rfl
  | g :: gs, vals => by
    have := rv_rb gs (vals ++ [gb vals g])
    unfold rv rb at this ⊢
    rw [List.foldl_cons, List.foldl_cons, ← this, List.map_append, List.map_cons, List.map_nil, gv_gb]
def bitsOf (vals : List Int) (k : Nat) : List Bool := vals.map fun v => decide (tb v k = 1)
theorem bitsOf_len (vals : List Int) (k : Nat) : (bitsOf vals k).length = vals.length := by
  unfold bitsOf
  rw [List.length_map]
theorem rv_case {n k : Nat} (h : k < n) (gs : List Gt) (vals : List Int) (a : Nat) : tb ((rv (2 ^ n - 1) (vals.map (· % 2 ^ n)) gs).getD a 0) k = bi (wb (bitsOf vals k) gs a) := by
  rw [← getD_map, rv_bit h, List.map_map, show (vals.map ((tb · k) ∘ (· % 2 ^ n))) = (bitsOf vals k).map bi from by
    unfold bitsOf
    rw [List.map_map]
    exact List.map_congr_left fun v _ => (tb_mod v h).trans (tb_bi v k), rv_rb]
  unfold wb
  simp only [List.getD, List.getElem?_map]
  cases (rb (bitsOf vals k) gs)[a]? <;> rfl
/-! ### wires of parts, what they come to -/
structure W1 (m : Nat) (gs : List Gt) (n : Nat) (s : List Gt × Nat) (f : (Nat → Bool) → Bool) : Prop where
  ext : Ext m gs s.1 n
  lt : s.2 < m + s.1.length
  val : ∀ vals : List Bool, vals.length = m → wb vals s.1 s.2 = f (wb vals gs)
structure WL (m : Nat) (gs : List Gt) (n : Nat) (s : List Gt × List Nat) (f : (Nat → Bool) → List Bool) : Prop where
  ext : Ext m gs s.1 n
  lt : ∀ w ∈ s.2, w < m + s.1.length
  val : ∀ vals : List Bool, vals.length = m → s.2.map (wb vals s.1) = f (wb vals gs)
def anyW (m : Nat) (gs : List Gt) : List Nat → List Gt × Nat
  | [] => (gs ++ [.fi 0], m + gs.length)
  | w :: ws => ws.foldl (fun s x => (s.1 ++ [.w "either" [s.2, x]], m + s.1.length)) (gs, w)
theorem len1 {m : Nat} {gs : List Gt} {g : Gt} : m + gs.length < m + (gs ++ [g]).length := by
  rw [List.length_append, List.length_singleton]
  omega
theorem lt1 {m a : Nat} {gs : List Gt} {g : Gt} (h : a < m + gs.length) : a < m + (gs ++ [g]).length := Nat.lt_trans h len1
theorem anyW_ok {m : Nat} {gs : List Gt} {ws : List Nat} (hw : ∀ w ∈ ws, w < m + gs.length) : W1 m gs (ws.length + 1) (anyW m gs ws) (fun e => ws.any e) := by
  cases ws with
  | nil => exact ⟨(Ext.fixed (Nat.zero_le _)).mono (Nat.le_refl _), len1, fun vals hv => wb_fixed (hv ▸ rfl)⟩
  | cons w ws =>
    have h := fold_inv (fun i (s : List Gt × Nat) => Ext m gs s.1 i ∧ s.2 < m + s.1.length ∧ ∀ vals : List Bool, vals.length = m → wb vals s.1 s.2 = ((w :: ws).take (i + 1)).any (wb vals gs)) (fun s x => (s.1 ++ [Gt.w "either" [s.2, x]], m + s.1.length)) ws (gs, w) ⟨.refl, hw w (by simp), fun vals _ => by simp⟩ (fun i x s hx ⟨h1, h2, h3⟩ => by
      have lx : x < m + s.1.length := by
        have := hw x (List.mem_cons_of_mem _ (List.mem_of_getElem? hx))
        have := h1.len
        omega
      refine ⟨h1.trans (.either h2 lx), len1, fun vals hv => ?_⟩
      rw [wb_either (hv ▸ rfl), h3 vals hv, h1.wb hv (hw x (List.mem_cons_of_mem _ (List.mem_of_getElem? hx))), List.take_add_one (i := i + 1), List.getElem?_cons_succ, hx, List.any_append]
      simp)
    obtain ⟨h1, h2, h3⟩ := h
    refine ⟨h1.mono (by rw [List.length_cons]; omega), h2, fun vals hv => ?_⟩
    rw [show (w :: ws).any (wb vals gs) = ((w :: ws).take (ws.length + 1)).any (wb vals gs) from by rw [List.take_of_length_le (by simp)]]
    exact h3 vals hv
def chS (m w st : Nat) (s : List Gt × List Nat) (p : Nat × Nat) : List Gt × List Nat := (s.1 ++ [.w "both" [w, p.1]] ++ [.w "both" [st, p.2]] ++ [.w "either" [m + s.1.length, m + (s.1 ++ [Gt.w "both" [w, p.1]]).length]], s.2 ++ [m + (s.1 ++ [Gt.w "both" [w, p.1]] ++ [Gt.w "both" [st, p.2]]).length])
def chosenW (m : Nat) (gs : List Gt) (w : Nat) (ps : List (Nat × Nat)) : List Gt × List Nat := ps.foldl (chS m w (m + gs.length)) (gs ++ [.w "other" [w]], [])
theorem chosenW_ok {m w : Nat} {gs : List Gt} {ps : List (Nat × Nat)} (h0 : w < m + gs.length) (hw : ∀ p ∈ ps, p.1 < m + gs.length ∧ p.2 < m + gs.length) : WL m gs (3 * ps.length + 1) (chosenW m gs w ps) (fun e => ps.map fun p => if e w = true then e p.1 else e p.2) := by
  have h := fold_inv (fun i (s : List Gt × List Nat) => Ext m gs s.1 (3 * i + 1) ∧ (∀ w ∈ s.2, w < m + s.1.length) ∧ (∀ vals : List Bool, vals.length = m → wb vals s.1 (m + gs.length) = !(wb vals gs w)) ∧ m + gs.length < m + s.1.length ∧ ∀ vals : List Bool, vals.length = m → s.2.map (wb vals s.1) = (ps.take i).map fun p => if wb vals gs w = true then wb vals gs p.1 else wb vals gs p.2) (chS m w (m + gs.length)) ps (gs ++ [.w "other" [w]], []) ⟨(Ext.other h0).mono (by omega), (fun _ z => nomatch z), fun vals hv => wb_other (hv ▸ rfl), len1, fun _ _ => rfl⟩ (fun i p s hp ⟨h1, h2, h4, h5, h3⟩ => by
    obtain ⟨q1, q2⟩ := hw p (List.mem_of_getElem? hp)
    have l := h1.len
    have e1 : Ext m s.1 (s.1 ++ [.w "both" [w, p.1]]) 1 := .both (by omega) (by omega)
    have e2 : Ext m (s.1 ++ [.w "both" [w, p.1]]) (s.1 ++ [.w "both" [w, p.1]] ++ [.w "both" [m + gs.length, p.2]]) 1 := .both (lt1 h5) (lt1 (by omega))
    have e3 : Ext m (s.1 ++ [.w "both" [w, p.1]] ++ [.w "both" [m + gs.length, p.2]]) (s.1 ++ [.w "both" [w, p.1]] ++ [.w "both" [m + gs.length, p.2]] ++ [.w "either" [m + s.1.length, m + (s.1 ++ [Gt.w "both" [w, p.1]]).length]]) 1 := .either (lt1 len1) len1
    have e := (e1.trans e2).trans e3
    have l' := e.len
    refine ⟨(h1.trans e).mono (by omega), fun a ha => ?_, fun vals hv => ?_, Nat.lt_of_lt_of_le h5 (by show _ ≤ m + List.length (s.1 ++ _ ++ _ ++ _); omega), fun vals hv => ?_⟩
    · rcases List.mem_append.mp ha with z | z
      · exact lt1 (lt1 (lt1 (h2 a z)))
      · rw [List.mem_singleton.mp z]
        exact len1
    · exact (e.wb hv h5).trans (h4 vals hv)
    · show (s.2 ++ [_]).map _ = _
      rw [List.map_append, List.take_add_one, hp, List.map_append]
      congr 1
      · exact (e.wbs hv h2).trans (h3 vals hv)
      · show [_] = [_]
        congr 1
        show wb vals (s.1 ++ [.w "both" [w, p.1]] ++ [.w "both" [m + gs.length, p.2]] ++ [.w "either" [m + s.1.length, m + (s.1 ++ [Gt.w "both" [w, p.1]]).length]]) _ = _
        rw [wb_either (hv ▸ rfl), e2.wb hv len1, wb_both (hv ▸ rfl), wb_both (hv ▸ rfl), e1.wb hv h5, e1.wb hv (by omega), h4 vals hv, h1.wb hv h0, h1.wb hv q1, h1.wb hv q2]
        cases wb vals gs w <;> simp)
  obtain ⟨h1, h2, _, _, h3⟩ := h
  refine ⟨h1, h2, fun vals hv => ?_⟩
  rw [show chosenW m gs w ps = ps.foldl (chS m w (m + gs.length)) (gs ++ [.w "other" [w]], []) from rfl]
  rw [h3 vals hv, List.take_of_length_le (Nat.le_refl _)]
theorem chW_len (m w st : Nat) : ∀ (ps : List (Nat × Nat)) (s : List Gt × List Nat), s.1.length ≤ (ps.foldl (chS m w st) s).1.length
  | [], _ => Nat.le_refl _
  | p :: ps, s => Nat.le_trans (by unfold chS; simp only [List.length_append]; omega) (chW_len m w st ps (chS m w st s p))
/-! ### the first one, noughts ahead -/
def firstB : Bool → List Bool → List Bool
  | c, [] => [c]
  | c, b :: bs => (c && b) :: firstB (c && !b) bs
def fiS (m : Nat) (s : List Gt × List Nat × Nat) (a : Nat) : List Gt × List Nat × Nat := (s.1 ++ [.w "both" [s.2.2, a]] ++ [.w "other" [a]] ++ [.w "both" [s.2.2, m + (s.1 ++ [Gt.w "both" [s.2.2, a]]).length]], s.2.1 ++ [m + s.1.length], m + (s.1 ++ [Gt.w "both" [s.2.2, a]] ++ [Gt.w "other" [a]]).length)
def firstF (m : Nat) (gs : List Gt) (ws : List Nat) : List Gt × List Nat × Nat := ws.foldl (fiS m) (gs ++ [.fi 1], [], m + gs.length)
def firstW (m : Nat) (gs : List Gt) (ws : List Nat) : List Gt × List Nat := ((firstF m gs ws).1, (firstF m gs ws).2.1 ++ [(firstF m gs ws).2.2])
def clr : List Bool → Bool
  | [] => true
  | b :: bs => !b && clr bs
theorem clr_snoc : ∀ (xs : List Bool) (b : Bool), clr (xs ++ [b]) = (clr xs && !b)
  | [], b => by cases b <;> rfl
  | x :: xs, b => by
    rw [List.cons_append]
    show (!x && clr (xs ++ [b])) = ((!x && clr xs) && !b)
    rw [clr_snoc xs b, Bool.and_assoc]
def heads : List Bool → List Bool → List Bool
  | _, [] => []
  | pre, b :: bs => (clr pre && b) :: heads (pre ++ [b]) bs
theorem firstB_heads : ∀ (bs pre : List Bool), firstB (clr pre) bs = heads pre bs ++ [clr (pre ++ bs)]
  | [], pre => by
    rw [List.append_nil]
    rfl
  | b :: bs, pre => by
    show (clr pre && b) :: firstB (clr pre && !b) bs = (clr pre && b) :: (heads (pre ++ [b]) bs ++ [clr (pre ++ b :: bs)])
    rw [← clr_snoc, firstB_heads bs (pre ++ [b]), List.append_assoc]
    rfl
theorem heads_snoc : ∀ (bs pre : List Bool) (b : Bool), heads pre (bs ++ [b]) = heads pre bs ++ [clr (pre ++ bs) && b]
  | [], pre, b => by
    rw [List.append_nil]
    rfl
  | x :: bs, pre, b => by
    show (clr pre && x) :: heads (pre ++ [x]) (bs ++ [b]) = (clr pre && x) :: (heads (pre ++ [x]) bs ++ _)
    rw [heads_snoc bs, List.append_assoc]
    rfl
theorem firstW_ok {m : Nat} {gs : List Gt} {ws : List Nat} (hw : ∀ w ∈ ws, w < m + gs.length) : WL m gs (3 * ws.length + 1) (firstW m gs ws) (fun e => firstB true (ws.map e)) := by
  have h := fold_inv (fun i (s : List Gt × List Nat × Nat) => Ext m gs s.1 (3 * i + 1) ∧ (∀ w ∈ s.2.1, w < m + s.1.length) ∧ s.2.2 < m + s.1.length ∧ ∀ vals : List Bool, vals.length = m → wb vals s.1 s.2.2 = clr ((ws.take i).map (wb vals gs)) ∧ s.2.1.map (wb vals s.1) = heads [] ((ws.take i).map (wb vals gs))) (fiS m) ws (gs ++ [.fi 1], [], m + gs.length) ⟨(Ext.fixed (Nat.le_refl _)).mono (by omega), (fun _ z => nomatch z), len1, fun vals hv => ⟨wb_fixed (hv ▸ rfl), rfl⟩⟩ (fun i a s hp ⟨h1, h2, h4, h3⟩ => by
    have q := hw a (List.mem_of_getElem? hp)
    have l := h1.len
    have la : a < m + s.1.length := by omega
    have e1 : Ext m s.1 (s.1 ++ [.w "both" [s.2.2, a]]) 1 := .both h4 la
    have e2 : Ext m (s.1 ++ [.w "both" [s.2.2, a]]) (s.1 ++ [.w "both" [s.2.2, a]] ++ [.w "other" [a]]) 1 := .other (lt1 la)
    have e3 : Ext m (s.1 ++ [.w "both" [s.2.2, a]] ++ [.w "other" [a]]) (s.1 ++ [.w "both" [s.2.2, a]] ++ [.w "other" [a]] ++ [.w "both" [s.2.2, m + (s.1 ++ [Gt.w "both" [s.2.2, a]]).length]]) 1 := .both (lt1 (lt1 h4)) len1
    have e := (e1.trans e2).trans e3
    refine ⟨(h1.trans e).mono (by omega), fun b hb => ?_, len1, fun vals hv => ⟨?_, ?_⟩⟩
    · rcases List.mem_append.mp hb with z | z
      · exact lt1 (lt1 (lt1 (h2 b z)))
      · rw [List.mem_singleton.mp z]
        exact lt1 (lt1 len1)
    · show wb vals (s.1 ++ [.w "both" [s.2.2, a]] ++ [.w "other" [a]] ++ [.w "both" [s.2.2, m + (s.1 ++ [Gt.w "both" [s.2.2, a]]).length]]) _ = _
      rw [wb_both (hv ▸ rfl), (e1.trans e2).wb hv h4, wb_other (hv ▸ rfl), e1.wb hv la, (h3 vals hv).1, h1.wb hv q, List.take_add_one, hp, List.map_append]
      exact (clr_snoc _ _).symm
    · show (s.2.1 ++ [_]).map (wb vals (s.1 ++ [Gt.w "both" [s.2.2, a]] ++ [Gt.w "other" [a]] ++ [Gt.w "both" [s.2.2, m + (s.1 ++ [Gt.w "both" [s.2.2, a]]).length]])) = _
      rw [List.map_append, e.wbs hv h2, (h3 vals hv).2, List.take_add_one, hp, List.map_append]
      show _ = heads [] (_ ++ [_])
      rw [heads_snoc]
      congr 1
      show [_] = [_]
      congr 1
      rw [(e2.trans e3).wb hv len1, wb_both (hv ▸ rfl), (h3 vals hv).1, h1.wb hv q]
      rfl)
  obtain ⟨h1, h2, h4, h3⟩ := h
  refine ⟨h1, fun w hw' => ?_, fun vals hv => ?_⟩
  · rcases List.mem_append.mp hw' with z | z
    · exact h2 w z
    · rw [List.mem_singleton.mp z]
      exact h4
  · obtain ⟨e1, e2⟩ := h3 vals hv
    show List.map (wb vals _) (_ ++ [_]) = firstB (clr []) _
    rw [firstB_heads, List.map_append]
    rw [List.take_of_length_le (Nat.le_refl _)] at e1 e2
    exact congr (congrArg HAppend.hAppend e2) (congrArg (fun b => [b]) e1)
/-- the place of the first one, or how many there are -/
def fst1 : List Bool → Nat
  | [] => 0
  | true :: _ => 0
  | false :: bs => fst1 bs + 1
theorem fst1_le : ∀ bs : List Bool, fst1 bs ≤ bs.length
  | [] => Nat.le_refl _
  | true :: _ => Nat.zero_le _
  | false :: bs => Nat.succ_le_succ (fst1_le bs)
theorem firstB_len : ∀ (bs : List Bool) (c : Bool), (firstB c bs).length = bs.length + 1
  | [], _ => rfl
  | _ :: bs, c => congrArg (· + 1) (firstB_len bs _)
theorem firstB_false : ∀ (bs : List Bool) (j : Nat), (firstB false bs).getD j false = false
  | [], 0 => rfl
  | [], j + 1 => rfl
  | b :: bs, 0 => rfl
  | b :: bs, j + 1 => firstB_false bs j
theorem firstB_at : ∀ (bs : List Bool) (j : Nat), (firstB true bs).getD j false = decide (j = fst1 bs)
  | [], 0 => rfl
  | [], j + 1 => by show false = decide (j + 1 = 0); simp
  | true :: bs, 0 => rfl
  | true :: bs, j + 1 => (firstB_false bs j).trans (by show false = decide (j + 1 = 0); simp)
  | false :: bs, 0 => by show false = decide (0 = fst1 bs + 1); simp
  | false :: bs, j + 1 => (firstB_at bs j).trans (by show decide (j = fst1 bs) = decide (j + 1 = fst1 bs + 1); simp)
def selN (place : Nat) (l : List Nat) : List Nat := ((List.range l.length).filter (·.testBit place)).map fun i => l.getD i 0
theorem selN_mem {place : Nat} {l : List Nat} {x : Nat} (h : x ∈ selN place l) : x ∈ l := by
  obtain ⟨i, hi, rfl⟩ := List.mem_map.mp h
  have := List.mem_range.mp (List.mem_filter.mp hi).1
  simp only [List.getD, List.getElem?_eq_getElem this, Option.getD_some]
  exact List.getElem_mem _
theorem selN_len (place : Nat) (l : List Nat) : (selN place l).length ≤ l.length := by
  unfold selN
  rw [List.length_map]
  exact Nat.le_trans (List.length_filter_le _ _) (by rw [List.length_range]; exact Nat.le_refl _)
def downs (k : Nat) : List Nat := (List.range k).reverse
def zeS (m : Nat) (fs : List Nat) (s : List Gt × List Nat) (place : Nat) : List Gt × List Nat := ((anyW m s.1 (selN place fs)).1, s.2 ++ [(anyW m s.1 (selN place fs)).2])
def zeroW (m : Nat) (gs : List Gt) (ws : List Nat) (k : Nat) : List Gt × List Nat := (downs k).foldl (zeS m (firstW m gs ws).2) ((firstW m gs ws).1, [])
theorem any_sel {α : Type} (e : Nat → Bool) (place : Nat) (l : List Nat) : (selN place l).any e = (List.range l.length).any fun i => i.testBit place && e (l.getD i 0) := by
  unfold selN
  rw [List.any_map, List.any_filter]
  rfl
theorem numB_downs (J : Nat) : ∀ k : Nat, numB ((downs k).map fun p => J.testBit p) = J % 2 ^ k
  | 0 => by
    rw [Nat.pow_zero, Nat.mod_one]
    rfl
  | k + 1 => by
    show numB (((List.range (k + 1)).reverse).map _) = _
    rw [List.range_succ, List.reverse_append, List.reverse_singleton, List.singleton_append, List.map_cons, numB_cons]
    have := numB_downs J k
    unfold downs at this
    rw [this, List.length_map, List.length_reverse, List.length_range, Nat.pow_succ, Nat.mod_mul, Nat.testBit_eq_decide_div_mod_eq, Nat.add_comm, Nat.mul_comm]
    congr 2
    rcases Nat.mod_two_eq_zero_or_one (J / 2 ^ k) with z | z <;> rw [z] <;> rfl
theorem zeroW_ok {m k : Nat} {gs : List Gt} {ws : List Nat} (hw : ∀ w ∈ ws, w < m + gs.length) : WL m gs (3 * ws.length + 1 + k * (ws.length + 2)) (zeroW m gs ws k) (fun e => (downs k).map fun p => (fst1 (ws.map e)).testBit p) := by
  have F := firstW_ok hw
  generalize hfs : firstW m gs ws = F0 at F
  have lf : F0.2.length = ws.length + 1 := by
    have := congrArg List.length (F.val (List.replicate m false) (by simp))
    rw [List.length_map, firstB_len, List.length_map] at this
    exact this
  have h := fold_inv (fun i (s : List Gt × List Nat) => Ext m F0.1 s.1 (i * (ws.length + 2)) ∧ (∀ w ∈ s.2, w < m + s.1.length) ∧ ∀ vals : List Bool, vals.length = m → s.2.map (wb vals s.1) = ((downs k).take i).map fun p => (fst1 (ws.map (wb vals gs))).testBit p) (zeS m F0.2) (downs k) (F0.1, []) ⟨Ext.refl.mono (Nat.zero_le _), (fun _ z => nomatch z), fun _ _ => rfl⟩ (fun i p s hp ⟨h1, h2, h3⟩ => by
    have l := h1.len
    have hs : ∀ w ∈ selN p F0.2, w < m + s.1.length := fun w hw' => by
      have := F.lt w (selN_mem hw')
      omega
    have A := anyW_ok hs
    refine ⟨(h1.trans A.ext).mono ?_, fun w hw' => ?_, fun vals hv => ?_⟩
    · have := selN_len p F0.2
      rw [Nat.succ_mul]
      omega
    · have := A.ext.len
      rcases List.mem_append.mp hw' with z | z
      · exact Nat.lt_of_lt_of_le (h2 w z) (by show m + s.1.length ≤ m + (anyW m s.1 (selN p F0.2)).1.length; omega)
      · rw [List.mem_singleton.mp z]
        exact A.lt
    · show List.map (wb vals (anyW m s.1 (selN p F0.2)).1) (_ ++ [_]) = _
      rw [List.map_append, A.ext.wbs hv h2, h3 vals hv, List.take_add_one, hp, List.map_append]
      congr 1
      show [_] = [_]
      congr 1
      rw [A.val vals hv, any_sel (α := Nat), lf, Bool.eq_iff_iff, List.any_eq_true]
      have at' : ∀ j, j < ws.length + 1 → wb vals s.1 (F0.2.getD j 0) = decide (j = fst1 (ws.map (wb vals gs))) := fun j hj => by
        rw [← firstB_at, ← F.val vals hv]
        have e : F0.2.getD j 0 ∈ F0.2 := by
          simp only [List.getD, List.getElem?_eq_getElem (show j < F0.2.length by omega), Option.getD_some]
          exact List.getElem_mem _
        rw [h1.wb hv (F.lt _ e)]
        simp only [List.getD, List.getElem?_map, List.getElem?_eq_getElem (show j < F0.2.length by omega), Option.getD_some, Option.map_some]
      have lJ := fst1_le (ws.map (wb vals gs))
      rw [List.length_map] at lJ
      constructor
      · rintro ⟨j, hj, e⟩
        rw [at' j (List.mem_range.mp hj)] at e
        have e := Bool.and_eq_true_iff.mp e
        rw [← of_decide_eq_true e.2]
        exact e.1
      · intro e
        refine ⟨fst1 (ws.map (wb vals gs)), List.mem_range.mpr (by omega), ?_⟩
        exact Bool.and_eq_true_iff.mpr ⟨e, (at' _ (by omega)).trans (decide_eq_true rfl)⟩)
  obtain ⟨h1, h2, h3⟩ := h
  have lk : (downs k).length = k := by
    unfold downs
    rw [List.length_reverse, List.length_range]
  have ez : zeroW m gs ws k = (downs k).foldl (zeS m F0.2) (F0.1, []) := by
    unfold zeroW
    rw [hfs]
  rw [ez]
  refine ⟨(F.ext.trans h1).mono (by rw [lk]; omega), h2, fun vals hv => ?_⟩
  rw [h3 vals hv, List.take_of_length_le (Nat.le_refl _)]
theorem numB_fst1 : ∀ bs : List Bool, (numB bs = 0 ∧ fst1 bs = bs.length) ∨ (fst1 bs < bs.length ∧ 2 ^ (bs.length - 1 - fst1 bs) ≤ numB bs ∧ numB bs < 2 ^ (bs.length - fst1 bs))
  | [] => .inl ⟨rfl, rfl⟩
  | true :: bs => by
    have h := numB_lt bs
    refine .inr ⟨by simp [fst1], ?_, ?_⟩
    · rw [numB_cons]
      simp [fst1]
    · rw [numB_cons]
      simp only [fst1, List.length_cons, Nat.sub_zero, Nat.pow_succ, Bool.toNat_true]
      omega
  | false :: bs => by
    have e : numB (false :: bs) = numB bs := by rw [numB_cons]; simp
    rw [e, List.length_cons]
    rcases numB_fst1 bs with ⟨a, b⟩ | ⟨a, b, c⟩
    · exact .inl ⟨a, by show fst1 bs + 1 = _; omega⟩
    · refine .inr ⟨by show fst1 bs + 1 < _; omega, ?_, ?_⟩
      · rw [show bs.length + 1 - 1 - fst1 (false :: bs) = bs.length - 1 - fst1 bs from by show _ - (fst1 bs + 1) = _; omega]
        exact b
      · rw [show bs.length + 1 - fst1 (false :: bs) = bs.length - fst1 bs from by show _ - (fst1 bs + 1) = _; omega]
        exact c
/-! ### marks of two rows of wires -/
def dgS (m : Nat) (s : List Gt × List Nat) (p : Nat × Nat) : List Gt × List Nat := (s.1 ++ [.w "unlike" [p.1, p.2]], s.2 ++ [m + s.1.length])
theorem digW_ok {m : Nat} {gs : List Gt} {ps : List (Nat × Nat)} (hw : ∀ p ∈ ps, p.1 < m + gs.length ∧ p.2 < m + gs.length) : WL m gs ps.length (ps.foldl (dgS m) (gs, [])) (fun e => ps.map fun p => xor (e p.1) (e p.2)) := by
  have h := fold_inv (fun i (s : List Gt × List Nat) => Ext m gs s.1 i ∧ (∀ w ∈ s.2, w < m + s.1.length) ∧ ∀ vals : List Bool, vals.length = m → s.2.map (wb vals s.1) = (ps.take i).map fun p => xor (wb vals gs p.1) (wb vals gs p.2)) (dgS m) ps (gs, []) ⟨.refl, (fun _ z => nomatch z), fun _ _ => rfl⟩ (fun i p s hp ⟨h1, h2, h3⟩ => by
    obtain ⟨q1, q2⟩ := hw p (List.mem_of_getElem? hp)
    have l := h1.len
    have e : Ext m s.1 (s.1 ++ [.w "unlike" [p.1, p.2]]) 1 := .unlike (by omega) (by omega)
    refine ⟨h1.trans e, fun a ha => ?_, fun vals hv => ?_⟩
    · rcases List.mem_append.mp ha with z | z
      · exact lt1 (h2 a z)
      · rw [List.mem_singleton.mp z]
        exact len1
    · show (s.2 ++ [_]).map (wb vals (s.1 ++ [Gt.w "unlike" [p.1, p.2]])) = _
      rw [List.map_append, e.wbs hv h2, h3 vals hv, List.take_add_one, hp, List.map_append]
      congr 1
      show [_] = [_]
      congr 1
      rw [wb_unlike (hv ▸ rfl), h1.wb hv q1, h1.wb hv q2])
  obtain ⟨h1, h2, h3⟩ := h
  exact ⟨h1, h2, fun vals hv => by rw [h3 vals hv, List.take_of_length_le (Nat.le_refl _)]⟩
def barW (m : Nat) (os ds : List Nat) (gs : List Gt) (p : Nat) : List Gt × Nat := if p = 0 then (gs ++ [.w "unlike" [os.getD p 0, os.getD (p + 1) 0]], m + gs.length) else (gs ++ [.w "unlike" [os.getD p 0, os.getD (p + 1) 0]] ++ [.w "unlike" [m + gs.length, ds.getD (p - 1) 0]], m + (gs ++ [Gt.w "unlike" [os.getD p 0, os.getD (p + 1) 0]]).length)
theorem barW_ok {m p : Nat} {os ds : List Nat} {gs : List Gt} (h0 : os.getD p 0 < m + gs.length) (h1 : os.getD (p + 1) 0 < m + gs.length) (h2 : p ≠ 0 → ds.getD (p - 1) 0 < m + gs.length) : W1 m gs 2 (barW m os ds gs p) (fun e => xor (xor (e (os.getD p 0)) (e (os.getD (p + 1) 0))) (if p = 0 then false else e (ds.getD (p - 1) 0))) := by
  have e1 : Ext m gs (gs ++ [.w "unlike" [os.getD p 0, os.getD (p + 1) 0]]) 1 := .unlike h0 h1
  unfold barW
  by_cases c : p = 0
  · rw [if_pos c]
    refine ⟨e1.mono (by decide), len1, fun vals hv => ?_⟩
    show wb vals (gs ++ [.w "unlike" [os.getD p 0, os.getD (p + 1) 0]]) (m + gs.length) = _
    rw [wb_unlike (hv ▸ rfl), if_pos c]
    simp
  · rw [if_neg c]
    have e2 : Ext m (gs ++ [.w "unlike" [os.getD p 0, os.getD (p + 1) 0]]) (gs ++ [.w "unlike" [os.getD p 0, os.getD (p + 1) 0]] ++ [.w "unlike" [m + gs.length, ds.getD (p - 1) 0]]) 1 := .unlike len1 (lt1 (h2 c))
    refine ⟨e1.trans e2, len1, fun vals hv => ?_⟩
    show wb vals (gs ++ [.w "unlike" [os.getD p 0, os.getD (p + 1) 0]] ++ [.w "unlike" [m + gs.length, ds.getD (p - 1) 0]]) (m + (gs ++ [Gt.w "unlike" [os.getD p 0, os.getD (p + 1) 0]]).length) = _
    rw [wb_unlike (hv ▸ rfl), wb_unlike (hv ▸ rfl), e1.wb hv (h2 c), if_neg c]
def maS (m : Nat) (os ds : List Nat) (s : List Gt × List Nat) (p : Nat) : List Gt × List Nat :=
  ((barW m os ds s.1 p).1 ++ [.w "both" [ds.getD (p + 1) 0, (barW m os ds s.1 p).2]] ++ [.w "other" [m + (barW m os ds s.1 p).1.length]] ++ [.w "both" [ds.getD p 0, m + ((barW m os ds s.1 p).1 ++ [Gt.w "both" [ds.getD (p + 1) 0, (barW m os ds s.1 p).2]]).length]],
    s.2 ++ [m + ((barW m os ds s.1 p).1 ++ [Gt.w "both" [ds.getD (p + 1) 0, (barW m os ds s.1 p).2]] ++ [Gt.w "other" [m + (barW m os ds s.1 p).1.length]]).length])
def markD (m : Nat) (gs : List Gt) (os ts : List Nat) : List Gt × List Nat := (os.zip ts).foldl (dgS m) (gs, [])
def markM (m : Nat) (gs : List Gt) (os ts : List Nat) : List Gt × List Nat := (List.range (os.length - 1)).foldl (maS m os (markD m gs os ts).2) ((markD m gs os ts).1, [])
def markW (m : Nat) (gs : List Gt) (os ts : List Nat) : List Gt × List Nat := ((markM m gs os ts).1, (markM m gs os ts).2 ++ (markD m gs os ts).2.drop (os.length - 1))
def dB (os ts : List Bool) (p : Nat) : Bool := xor (os.getD p false) (ts.getD p false)
def mkB (os ts : List Bool) (p : Nat) : Bool := dB os ts p && !(dB os ts (p + 1) && xor (xor (os.getD p false) (os.getD (p + 1) false)) (if p = 0 then false else dB os ts (p - 1)))
def markB (os ts : List Bool) : List Bool := (List.range os.length).map (mkB os ts)
theorem getD_mapB {l : List Nat} {e : Nat → Bool} {p : Nat} (h : p < l.length) : (l.map e).getD p false = e (l.getD p 0) := by
  simp only [List.getD, List.getElem?_map, List.getElem?_eq_getElem h, Option.map_some, Option.getD_some]
theorem getD_in {l : List Nat} {p : Nat} (h : p < l.length) : l.getD p 0 ∈ l := by
  simp only [List.getD, List.getElem?_eq_getElem h, Option.getD_some]
  exact List.getElem_mem _
theorem markW_ok {m : Nat} {gs : List Gt} {os ts : List Nat} (hl : os.length = ts.length) (h0 : 0 < os.length) (ho : ∀ w ∈ os, w < m + gs.length) (ht : ∀ w ∈ ts, w < m + gs.length) : WL m gs (6 * os.length) (markW m gs os ts) (fun e => markB (os.map e) (ts.map e)) := by
  have D := digW_ok (m := m) (gs := gs) (ps := os.zip ts) (fun p hp => ⟨ho _ (List.of_mem_zip hp).1, ht _ (List.of_mem_zip hp).2⟩)
  have lz : (os.zip ts).length = os.length := by rw [List.length_zip]; omega
  rw [lz] at D
  have ed : (os.zip ts).foldl (dgS m) (gs, []) = markD m gs os ts := rfl
  rw [ed] at D
  have eM : markM m gs os ts = (List.range (os.length - 1)).foldl (maS m os (markD m gs os ts).2) ((markD m gs os ts).1, []) := rfl
  have eW : markW m gs os ts = ((markM m gs os ts).1, (markM m gs os ts).2 ++ (markD m gs os ts).2.drop (os.length - 1)) := rfl
  generalize markD m gs os ts = S0 at *
  have ld : S0.2.length = os.length := by
    have := congrArg List.length (D.val (List.replicate m false) (by simp))
    rw [List.length_map, List.length_map, lz] at this
    exact this
  have dv : ∀ (vals : List Bool), vals.length = m → ∀ p, p < os.length → wb vals S0.1 (S0.2.getD p 0) = dB (os.map (wb vals gs)) (ts.map (wb vals gs)) p := fun vals hv p hp => by
    rw [← getD_mapB (e := wb vals S0.1) (by omega), D.val vals hv]
    unfold dB
    rw [getD_mapB hp, getD_mapB (by omega)]
    simp only [List.getD, List.getElem?_map, List.getElem?_zip_eq_some, List.getElem?_eq_getElem (show p < (os.zip ts).length by omega), List.getElem_zip, Option.map_some, Option.getD_some, List.getElem?_eq_getElem hp, List.getElem?_eq_getElem (show p < ts.length by omega)]
  have h := fold_inv (fun i (s : List Gt × List Nat) => Ext m S0.1 s.1 (5 * i) ∧ (∀ w ∈ s.2, w < m + s.1.length) ∧ ∀ vals : List Bool, vals.length = m → s.2.map (wb vals s.1) = (List.range i).map (mkB (os.map (wb vals gs)) (ts.map (wb vals gs)))) (maS m os S0.2) (List.range (os.length - 1)) (S0.1, []) ⟨.refl, (fun _ z => nomatch z), fun _ _ => rfl⟩ (fun i p s hp ⟨h1, h2, h3⟩ => by
    obtain ⟨hi, rfl⟩ := List.getElem?_eq_some_iff.mp hp
    rw [List.length_range] at hi
    rw [List.getElem_range] at hp ⊢
    have l := h1.len
    have lD := D.ext.len
    have dlt : ∀ q, q < os.length → S0.2.getD q 0 < m + S0.1.length := fun q hq => D.lt _ (getD_in (by omega))
    have olt : ∀ q, q < os.length → os.getD q 0 < m + gs.length := fun q hq => ho _ (getD_in hq)
    have B := barW_ok (m := m) (p := i) (os := os) (ds := S0.2) (gs := s.1) (by have := olt i (by omega); omega) (by have := olt (i + 1) (by omega); omega) (fun _ => by have := dlt (i - 1) (by omega); omega)
    have hms : maS m os S0.2 s i = ((barW m os S0.2 s.1 i).1 ++ [.w "both" [S0.2.getD (i + 1) 0, (barW m os S0.2 s.1 i).2]] ++ [.w "other" [m + (barW m os S0.2 s.1 i).1.length]] ++ [.w "both" [S0.2.getD i 0, m + ((barW m os S0.2 s.1 i).1 ++ [Gt.w "both" [S0.2.getD (i + 1) 0, (barW m os S0.2 s.1 i).2]]).length]],
      s.2 ++ [m + ((barW m os S0.2 s.1 i).1 ++ [Gt.w "both" [S0.2.getD (i + 1) 0, (barW m os S0.2 s.1 i).2]] ++ [Gt.w "other" [m + (barW m os S0.2 s.1 i).1.length]]).length]) := rfl
    rw [hms]
    clear hms
    generalize barW m os S0.2 s.1 i = b at *
    have lb := B.ext.len
    have d0 := dlt i (by omega)
    have d1 := dlt (i + 1) (by omega)
    have e1 : Ext m b.1 (b.1 ++ [.w "both" [S0.2.getD (i + 1) 0, b.2]]) 1 := .both (by omega) B.lt
    have e2 : Ext m (b.1 ++ [.w "both" [S0.2.getD (i + 1) 0, b.2]]) (b.1 ++ [.w "both" [S0.2.getD (i + 1) 0, b.2]] ++ [.w "other" [m + b.1.length]]) 1 := .other len1
    have e3 : Ext m (b.1 ++ [.w "both" [S0.2.getD (i + 1) 0, b.2]] ++ [.w "other" [m + b.1.length]]) (b.1 ++ [.w "both" [S0.2.getD (i + 1) 0, b.2]] ++ [.w "other" [m + b.1.length]] ++ [.w "both" [S0.2.getD i 0, m + (b.1 ++ [Gt.w "both" [S0.2.getD (i + 1) 0, b.2]]).length]]) 1 := .both (lt1 (lt1 (by omega))) len1
    have e := (e1.trans e2).trans e3
    have E := B.ext.trans e
    refine ⟨(h1.trans E).mono (by omega), fun a ha => ?_, fun vals hv => ?_⟩
    · rcases List.mem_append.mp ha with z | z
      · have := h2 a z
        have := E.len
        show a < m + (b.1 ++ [Gt.w "both" [S0.2.getD (i + 1) 0, b.2]] ++ [Gt.w "other" [m + b.1.length]] ++ [Gt.w "both" [S0.2.getD i 0, m + (b.1 ++ [Gt.w "both" [S0.2.getD (i + 1) 0, b.2]]).length]]).length
        omega
      · rw [List.mem_singleton.mp z]
        exact len1
    · show (s.2 ++ [_]).map (wb vals (b.1 ++ [Gt.w "both" [S0.2.getD (i + 1) 0, b.2]] ++ [Gt.w "other" [m + b.1.length]] ++ [Gt.w "both" [S0.2.getD i 0, m + (b.1 ++ [Gt.w "both" [S0.2.getD (i + 1) 0, b.2]]).length]])) = _
      rw [List.map_append, E.wbs hv h2, h3 vals hv, List.range_succ, List.map_append]
      congr 1
      show [_] = [_]
      congr 1
      rw [wb_both (hv ▸ rfl), (e1.trans e2).wb hv (by omega), wb_other (hv ▸ rfl), wb_both (hv ▸ rfl), B.ext.wb hv (by omega), B.ext.wb hv (by omega), B.val vals hv, h1.wb hv d0, h1.wb hv d1, dv vals hv i (by omega), dv vals hv (i + 1) (by omega)]
      unfold mkB
      rw [getD_mapB (by omega), getD_mapB (by omega), (D.ext.trans h1).wb hv (olt i (by omega)), (D.ext.trans h1).wb hv (olt (i + 1) (by omega))]
      by_cases c : i = 0
      · rw [if_pos c, if_pos c]
      · rw [if_neg c, if_neg c, h1.wb hv (dlt (i - 1) (by omega)), dv vals hv (i - 1) (by omega)])
  rw [← eM] at h
  generalize markM m gs os ts = S1 at *
  obtain ⟨h1, h2, h3⟩ := h
  rw [List.length_range] at h1 h3
  rw [eW]
  have l1 := h1.len
  refine ⟨(D.ext.trans h1).mono (by omega), fun w hw => ?_, fun vals hv => ?_⟩
  · rcases List.mem_append.mp hw with z | z
    · exact h2 w z
    · have := D.lt w (List.mem_of_mem_drop z)
      show w < m + S1.1.length
      omega
  · show (S1.2 ++ S0.2.drop (os.length - 1)).map (wb vals S1.1) = _
    unfold markB
    rw [List.map_append, h3 vals hv, List.length_map]
    conv => rhs; rw [show os.length = os.length - 1 + 1 from by omega, List.range_succ, List.map_append]
    congr 1
    have es : S0.2.drop (os.length - 1) = [S0.2.getD (os.length - 1) 0] := by
      rw [List.drop_eq_getElem_cons (by omega), List.drop_eq_nil_of_le (by omega)]
      simp only [List.getD, List.getElem?_eq_getElem (show os.length - 1 < S0.2.length by omega), Option.getD_some]
    rw [es]
    show [_] = [_]
    congr 1
    rw [h1.wb hv (D.lt _ (getD_in (by omega))), dv vals hv _ (by omega)]
    unfold mkB
    have e0 : dB (os.map (wb vals gs)) (ts.map (wb vals gs)) (os.length - 1 + 1) = false := by
      unfold dB
      rw [show os.length - 1 + 1 = os.length from by omega]
      simp [List.getD, hl]
    rw [e0]
    simp
/-! ### sums, products, orders of wires -/
theorem mem_zipR {os ts : List Nat} {p : Nat × Nat} (h : p ∈ os.reverse.zip ts.reverse) : p.1 ∈ os ∧ p.2 ∈ ts := ⟨List.mem_reverse.mp (List.of_mem_zip h).1, List.mem_reverse.mp (List.of_mem_zip h).2⟩
theorem zipR_len {os ts : List Nat} (h : os.length = ts.length) : (os.reverse.zip ts.reverse).length = os.length := by
  rw [List.length_zip, List.length_reverse, List.length_reverse]
  omega
theorem zipR_map (e : Nat → Bool) (os ts : List Nat) : (os.reverse.zip ts.reverse).map (fun p => (e p.1, e p.2)) = (os.map e).reverse.zip (ts.map e).reverse := by
  rw [← List.map_reverse, ← List.map_reverse, List.zip_map]
  rfl
theorem numB_rev_snoc (xs : List Bool) (b : Bool) : numB (xs ++ [b]).reverse = b.toNat * 2 ^ xs.length + numB xs.reverse := by
  rw [List.reverse_append, List.reverse_singleton, List.singleton_append, numB_cons, List.length_reverse]
theorem fst_zip' {α β : Type} : ∀ {l : List α} {r : List β}, l.length = r.length → (l.zip r).map (·.1) = l
  | [], [], _ => rfl
  | a :: l, b :: r, h => congrArg (a :: ·) (fst_zip' (Nat.succ.inj h))
theorem snd_zip' {α β : Type} : ∀ {l : List α} {r : List β}, l.length = r.length → (l.zip r).map (·.2) = r
  | [], [], _ => rfl
  | a :: l, b :: r, h => congrArg (b :: ·) (snd_zip' (Nat.succ.inj h))
def adF (s : List Bool × Bool) (p : Bool × Bool) : List Bool × Bool := (s.1 ++ [xor (xor p.1 p.2) s.2], (p.1 && p.2) || (xor p.1 p.2 && s.2))
def sumB (os ts : List Bool) (c : Bool) : List Bool := ((os.reverse.zip ts.reverse).foldl adF ([], c)).2 :: ((os.reverse.zip ts.reverse).foldl adF ([], c)).1.reverse
theorem adF_num (c : Bool) (ps : List (Bool × Bool)) : (ps.foldl adF ([], c)).1.length = ps.length ∧ numB (ps.foldl adF ([], c)).1.reverse + 2 ^ ps.length * (ps.foldl adF ([], c)).2.toNat = numB (ps.map (·.1)).reverse + numB (ps.map (·.2)).reverse + c.toNat := by
  have h := fold_inv (fun i (s : List Bool × Bool) => s.1.length = i ∧ numB s.1.reverse + 2 ^ i * s.2.toNat = numB ((ps.take i).map (·.1)).reverse + numB ((ps.take i).map (·.2)).reverse + c.toNat) adF ps ([], c) ⟨rfl, by simp [numB]⟩ (fun i p s hp ⟨h1, h2⟩ => by
    obtain ⟨hi, e⟩ := List.getElem?_eq_some_iff.mp hp
    have lt : (ps.take i).length = i := by rw [List.length_take]; omega
    refine ⟨by show (s.1 ++ [_]).length = _; rw [List.length_append, h1]; rfl, ?_⟩
    rw [List.take_add_one, hp]
    show numB (s.1 ++ [_]).reverse + 2 ^ (i + 1) * ((p.1 && p.2) || (xor p.1 p.2 && s.2)).toNat = numB ((ps.take i ++ [p]).map (·.1)).reverse + numB ((ps.take i ++ [p]).map (·.2)).reverse + c.toNat
    rw [List.map_append, List.map_append]
    show numB (s.1 ++ [_]).reverse + _ = numB ((ps.take i).map (·.1) ++ [p.1]).reverse + numB ((ps.take i).map (·.2) ++ [p.2]).reverse + _
    rw [numB_rev_snoc, numB_rev_snoc, numB_rev_snoc, h1, List.length_map, List.length_map, lt, Nat.pow_succ]
    generalize numB ((ps.take i).map (·.1)).reverse = A at *
    generalize numB ((ps.take i).map (·.2)).reverse = B at *
    generalize numB s.1.reverse = D at *
    generalize 2 ^ i = K at *
    generalize s.2 = d at *
    generalize p.1 = a
    generalize p.2 = b
    cases a <;> cases b <;> cases d <;> simp at h2 ⊢ <;> omega)
  rw [List.take_of_length_le (Nat.le_refl _)] at h
  exact h
theorem sumB_num {os ts : List Bool} {c : Bool} (h : os.length = ts.length) : numB (sumB os ts c) = numB os + numB ts + c.toNat := by
  have hz : (os.reverse.zip ts.reverse).length = os.length := by rw [List.length_zip, List.length_reverse, List.length_reverse]; omega
  obtain ⟨h1, h2⟩ := adF_num c (os.reverse.zip ts.reverse)
  rw [fst_zip' (by simpa using h), snd_zip' (by simpa using h), List.reverse_reverse, List.reverse_reverse] at h2
  unfold sumB
  rw [numB_cons, List.length_reverse, h1]
  rw [Nat.mul_comm] at h2
  omega
theorem sumB_len {os ts : List Bool} {c : Bool} (h : os.length = ts.length) : (sumB os ts c).length = os.length + 1 := by
  have hz : (os.reverse.zip ts.reverse).length = os.length := by rw [List.length_zip, List.length_reverse, List.length_reverse]; omega
  obtain ⟨h1, _⟩ := adF_num c (os.reverse.zip ts.reverse)
  unfold sumB
  rw [List.length_cons, List.length_reverse, h1, hz]
def suS (m : Nat) (s : List Gt × List Nat × Nat) (p : Nat × Nat) : List Gt × List Nat × Nat :=
  let g1 := s.1 ++ [.w "unlike" [p.1, p.2]]
  let g2 := g1 ++ [.w "unlike" [m + s.1.length, s.2.2]]
  let g3 := g2 ++ [.w "both" [p.1, p.2]]
  let g4 := g3 ++ [.w "both" [m + s.1.length, s.2.2]]
  let g5 := g4 ++ [.w "either" [m + g2.length, m + g3.length]]
  (g5, s.2.1 ++ [m + g1.length], m + g4.length)
def sumF (m : Nat) (gs : List Gt) (ps : List (Nat × Nat)) (c : Nat) : List Gt × List Nat × Nat := ps.foldl (suS m) (gs, [], c)
def sumW (m : Nat) (gs : List Gt) (os ts : List Nat) (c : Nat) : List Gt × List Nat := ((sumF m gs (os.reverse.zip ts.reverse) c).1, (sumF m gs (os.reverse.zip ts.reverse) c).2.2 :: (sumF m gs (os.reverse.zip ts.reverse) c).2.1.reverse)
theorem sumF_ok {m : Nat} {gs : List Gt} {ps : List (Nat × Nat)} {c : Nat} (hw : ∀ p ∈ ps, p.1 < m + gs.length ∧ p.2 < m + gs.length) (hc : c < m + gs.length) : ∀ i, i ≤ ps.length → ∀ s, s = sumF m gs (ps.take i) c → Ext m gs s.1 (5 * i) ∧ s.1.length = gs.length + 5 * i ∧ s.2.1.length = i ∧ (∀ w ∈ s.2.1, w < m + s.1.length) ∧ s.2.2 < m + s.1.length ∧ ∀ vals : List Bool, vals.length = m → (s.2.1.map (wb vals s.1), wb vals s.1 s.2.2) = ((ps.take i).map fun p => (wb vals gs p.1, wb vals gs p.2)).foldl adF ([], wb vals gs c) := by
  intro i
  induction i with
  | zero => exact fun _ s e => by subst e; exact ⟨.refl, rfl, rfl, (fun _ z => nomatch z), hc, fun vals _ => rfl⟩
  | succ i ih =>
    intro hi s e
    obtain ⟨p, hp⟩ : ∃ p, ps[i]? = some p := ⟨ps[i], List.getElem?_eq_getElem (by omega)⟩
    have es : sumF m gs (ps.take (i + 1)) c = suS m (sumF m gs (ps.take i) c) p := fold_take _ hp _
    obtain ⟨h1, hl, ht, h2, h4, h3⟩ := ih (by omega) _ rfl
    rw [e, es]
    clear e es
    generalize sumF m gs (ps.take i) c = s at *
    obtain ⟨q1, q2⟩ := hw p (List.mem_of_getElem? hp)
    have l := h1.len
    obtain ⟨g1, eg1⟩ : ∃ g, g = s.1 ++ [.w "unlike" [p.1, p.2]] := ⟨_, rfl⟩
    obtain ⟨g2, eg2⟩ : ∃ g, g = g1 ++ [.w "unlike" [m + s.1.length, s.2.2]] := ⟨_, rfl⟩
    obtain ⟨g3, eg3⟩ : ∃ g, g = g2 ++ [.w "both" [p.1, p.2]] := ⟨_, rfl⟩
    obtain ⟨g4, eg4⟩ : ∃ g, g = g3 ++ [.w "both" [m + s.1.length, s.2.2]] := ⟨_, rfl⟩
    obtain ⟨g5, eg5⟩ : ∃ g, g = g4 ++ [.w "either" [m + g2.length, m + g3.length]] := ⟨_, rfl⟩
    have hs : suS m s p = (g5, s.2.1 ++ [m + g1.length], m + g4.length) := by rw [eg5, eg4, eg3, eg2, eg1]; rfl
    have l1 : g1.length = s.1.length + 1 := by rw [eg1]; simp
    have l2 : g2.length = s.1.length + 2 := by rw [eg2]; simp [l1]
    have l3 : g3.length = s.1.length + 3 := by rw [eg3]; simp [l2]
    have l4 : g4.length = s.1.length + 4 := by rw [eg4]; simp [l3]
    have l5 : g5.length = s.1.length + 5 := by rw [eg5]; simp [l4]
    have e1 : Ext m s.1 g1 1 := eg1 ▸ .unlike (by omega) (by omega)
    have e2 : Ext m g1 g2 1 := eg2 ▸ .unlike (by omega) (by omega)
    have e3 : Ext m g2 g3 1 := eg3 ▸ .both (by omega) (by omega)
    have e4 : Ext m g3 g4 1 := eg4 ▸ .both (by omega) (by omega)
    have e5 : Ext m g4 g5 1 := eg5 ▸ .either (by omega) (by omega)
    have e35 := (e3.trans e4).trans e5
    have e25 := e2.trans e35
    have e := e1.trans e25
    rw [hs]
    refine ⟨(h1.trans e).mono (by omega), by show g5.length = _; omega, by show (s.2.1 ++ [_]).length = _; rw [List.length_append, ht]; rfl, fun a ha => ?_, by show m + g4.length < m + g5.length; omega, fun vals hv => ?_⟩
    · rcases List.mem_append.mp ha with z | z
      · have := h2 a z
        show a < m + g5.length
        omega
      · rw [List.mem_singleton.mp z]
        show m + g1.length < m + g5.length
        omega
    · have ef : ((ps.take (i + 1)).map (fun p => (wb vals gs p.1, wb vals gs p.2))).foldl adF ([], wb vals gs c) = adF (((ps.take i).map (fun p => (wb vals gs p.1, wb vals gs p.2))).foldl adF ([], wb vals gs c)) (wb vals gs p.1, wb vals gs p.2) := by
        rw [List.take_add_one, hp, List.map_append, List.foldl_append]
        rfl
      rw [ef, ← h3 vals hv]
      have v1 : wb vals g1 (m + s.1.length) = xor (wb vals gs p.1) (wb vals gs p.2) := by
        rw [eg1, wb_unlike (hv ▸ rfl), h1.wb hv q1, h1.wb hv q2]
      have v2 : wb vals g2 (m + g1.length) = xor (xor (wb vals gs p.1) (wb vals gs p.2)) (wb vals s.1 s.2.2) := by
        rw [eg2, wb_unlike (hv ▸ rfl), v1, e1.wb hv h4]
      have v3 : wb vals g3 (m + g2.length) = (wb vals gs p.1 && wb vals gs p.2) := by
        rw [eg3, wb_both (hv ▸ rfl), (e1.trans e2).wb hv (by omega), (e1.trans e2).wb hv (by omega), h1.wb hv q1, h1.wb hv q2]
      have v4 : wb vals g4 (m + g3.length) = (xor (wb vals gs p.1) (wb vals gs p.2) && wb vals s.1 s.2.2) := by
        rw [eg4, wb_both (hv ▸ rfl), (e2.trans e3).wb hv (by omega), ((e1.trans e2).trans e3).wb hv h4, v1]
      have v5 : wb vals g5 (m + g4.length) = ((wb vals gs p.1 && wb vals gs p.2) || (xor (wb vals gs p.1) (wb vals gs p.2) && wb vals s.1 s.2.2)) := by
        rw [eg5, wb_either (hv ▸ rfl), e4.wb hv (by omega), v3, v4]
      show ((s.2.1 ++ [m + g1.length]).map (wb vals g5), wb vals g5 (m + g4.length)) = (s.2.1.map (wb vals s.1) ++ [_], _)
      rw [List.map_append, e.wbs hv h2, v5]
      congr 1
      congr 1
      show [_] = [_]
      congr 1
      rw [e35.wb hv (by omega), v2]
theorem sumW_ok {m : Nat} {gs : List Gt} {os ts : List Nat} {c : Nat} (hl : os.length = ts.length) (ho : ∀ w ∈ os, w < m + gs.length) (ht : ∀ w ∈ ts, w < m + gs.length) (hc : c < m + gs.length) : WL m gs (5 * os.length) (sumW m gs os ts c) (fun e => sumB (os.map e) (ts.map e) (e c)) := by
  obtain ⟨h1, _, _, h2, h4, h3⟩ := sumF_ok (ps := os.reverse.zip ts.reverse) (fun p hp => ⟨ho _ (mem_zipR hp).1, ht _ (mem_zipR hp).2⟩) hc _ (Nat.le_refl _) _ rfl
  rw [List.take_length] at h1 h2 h4 h3
  rw [zipR_len hl] at h1
  unfold sumW
  generalize sumF m gs (os.reverse.zip ts.reverse) c = s at *
  refine ⟨h1, fun w hw => ?_, fun vals hv => ?_⟩
  · rcases List.mem_cons.mp hw with z | z
    · exact z ▸ h4
    · exact h2 w (List.mem_reverse.mp z)
  · show (s.2.2 :: s.2.1.reverse).map (wb vals s.1) = _
    have h := h3 vals hv
    unfold sumB
    rw [← zipR_map, ← h, List.map_cons, List.map_reverse]
theorem sumW_len {m : Nat} {gs : List Gt} {os ts : List Nat} {c : Nat} (hl : os.length = ts.length) (ho : ∀ w ∈ os, w < m + gs.length) (ht : ∀ w ∈ ts, w < m + gs.length) (hc : c < m + gs.length) : (sumW m gs os ts c).2.length = os.length + 1 := by
  have := congrArg List.length ((sumW_ok hl ho ht hc).val (List.replicate m false) (by simp))
  rw [List.length_map, sumB_len (by rw [List.length_map, List.length_map, hl]), List.length_map] at this
  exact this
/-! ### less -/
def leF (l : Bool) (p : Bool × Bool) : Bool := (!p.1 && p.2) || ((!p.1 || p.2) && l)
def lessB (os ts : List Bool) : Bool := (os.reverse.zip ts.reverse).foldl leF false
theorem leF_num (ps : List (Bool × Bool)) : ps.foldl leF false = decide (numB (ps.map (·.1)).reverse < numB (ps.map (·.2)).reverse) := by
  have h := fold_inv (fun i (s : Bool) => s = decide (numB ((ps.take i).map (·.1)).reverse < numB ((ps.take i).map (·.2)).reverse)) leF ps false (by simp [numB]) (fun i p s hp h2 => by
    obtain ⟨hi, e⟩ := List.getElem?_eq_some_iff.mp hp
    have lt : (ps.take i).length = i := by rw [List.length_take]; omega
    rw [List.take_add_one, hp]
    show leF s p = decide (numB ((ps.take i ++ [p]).map (·.1)).reverse < numB ((ps.take i ++ [p]).map (·.2)).reverse)
    rw [List.map_append, List.map_append]
    show _ = decide (numB ((ps.take i).map (·.1) ++ [p.1]).reverse < numB ((ps.take i).map (·.2) ++ [p.2]).reverse)
    have b1 := numB_lt ((ps.take i).map (·.1)).reverse
    have b2 := numB_lt ((ps.take i).map (·.2)).reverse
    rw [List.length_reverse, List.length_map, lt] at b1 b2
    rw [numB_rev_snoc, numB_rev_snoc, List.length_map, List.length_map, lt, h2]
    generalize numB ((ps.take i).map (·.1)).reverse = A at *
    generalize numB ((ps.take i).map (·.2)).reverse = B at *
    generalize 2 ^ i = K at *
    unfold leF
    generalize p.1 = a
    generalize p.2 = b
    cases a <;> cases b <;> simp <;> omega)
  rw [List.take_of_length_le (Nat.le_refl _)] at h
  exact h
theorem lessB_num {os ts : List Bool} (h : os.length = ts.length) : lessB os ts = decide (numB os < numB ts) := by
  unfold lessB
  rw [leF_num, fst_zip' (by simpa using h), snd_zip' (by simpa using h), List.reverse_reverse, List.reverse_reverse]
def leS (m : Nat) (s : List Gt × Nat) (p : Nat × Nat) : List Gt × Nat :=
  let g1 := s.1 ++ [.w "other" [p.1]]
  let g2 := g1 ++ [.w "both" [m + s.1.length, p.2]]
  let g3 := g2 ++ [.w "either" [m + s.1.length, p.2]]
  let g4 := g3 ++ [.w "both" [m + g2.length, s.2]]
  let g5 := g4 ++ [.w "either" [m + g1.length, m + g3.length]]
  (g5, m + g4.length)
def lessF (m : Nat) (gs : List Gt) (ps : List (Nat × Nat)) : List Gt × Nat := ps.foldl (leS m) (gs ++ [.fi 0], m + gs.length)
def lessW (m : Nat) (gs : List Gt) (os ts : List Nat) : List Gt × Nat := lessF m gs (os.reverse.zip ts.reverse)
theorem lessF_ok {m : Nat} {gs : List Gt} {ps : List (Nat × Nat)} (hw : ∀ p ∈ ps, p.1 < m + gs.length ∧ p.2 < m + gs.length) : ∀ i, i ≤ ps.length → ∀ s, s = lessF m gs (ps.take i) → Ext m gs s.1 (5 * i + 1) ∧ s.1.length = gs.length + 5 * i + 1 ∧ s.2 < m + s.1.length ∧ ∀ vals : List Bool, vals.length = m → wb vals s.1 s.2 = ((ps.take i).map fun p => (wb vals gs p.1, wb vals gs p.2)).foldl leF false := by
  intro i
  induction i with
  | zero =>
    intro _ s e
    subst e
    refine ⟨(Ext.fixed (Nat.zero_le _)).mono (Nat.le_refl _), by show (gs ++ [_]).length = _; simp, len1, fun vals hv => ?_⟩
    show wb vals (gs ++ [.fi 0]) (m + gs.length) = false
    rw [wb_fixed (hv ▸ rfl)]
    rfl
  | succ i ih =>
    intro hi s e
    obtain ⟨p, hp⟩ : ∃ p, ps[i]? = some p := ⟨ps[i], List.getElem?_eq_getElem (by omega)⟩
    have es : lessF m gs (ps.take (i + 1)) = leS m (lessF m gs (ps.take i)) p := fold_take _ hp _
    obtain ⟨h1, hl, h4, h3⟩ := ih (by omega) _ rfl
    rw [e, es]
    clear e es
    generalize lessF m gs (ps.take i) = s at *
    obtain ⟨q1, q2⟩ := hw p (List.mem_of_getElem? hp)
    have l := h1.len
    obtain ⟨g1, eg1⟩ : ∃ g, g = s.1 ++ [.w "other" [p.1]] := ⟨_, rfl⟩
    obtain ⟨g2, eg2⟩ : ∃ g, g = g1 ++ [.w "both" [m + s.1.length, p.2]] := ⟨_, rfl⟩
    obtain ⟨g3, eg3⟩ : ∃ g, g = g2 ++ [.w "either" [m + s.1.length, p.2]] := ⟨_, rfl⟩
    obtain ⟨g4, eg4⟩ : ∃ g, g = g3 ++ [.w "both" [m + g2.length, s.2]] := ⟨_, rfl⟩
    obtain ⟨g5, eg5⟩ : ∃ g, g = g4 ++ [.w "either" [m + g1.length, m + g3.length]] := ⟨_, rfl⟩
    have hs : leS m s p = (g5, m + g4.length) := by rw [eg5, eg4, eg3, eg2, eg1]; rfl
    have l1 : g1.length = s.1.length + 1 := by rw [eg1]; simp
    have l2 : g2.length = s.1.length + 2 := by rw [eg2]; simp [l1]
    have l3 : g3.length = s.1.length + 3 := by rw [eg3]; simp [l2]
    have l4 : g4.length = s.1.length + 4 := by rw [eg4]; simp [l3]
    have l5 : g5.length = s.1.length + 5 := by rw [eg5]; simp [l4]
    have e1 : Ext m s.1 g1 1 := eg1 ▸ .other (by omega)
    have e2 : Ext m g1 g2 1 := eg2 ▸ .both (by omega) (by omega)
    have e3 : Ext m g2 g3 1 := eg3 ▸ .either (by omega) (by omega)
    have e4 : Ext m g3 g4 1 := eg4 ▸ .both (by omega) (by omega)
    have e5 : Ext m g4 g5 1 := eg5 ▸ .either (by omega) (by omega)
    have e12 := e1.trans e2
    have e13 := e12.trans e3
    have e := (e13.trans e4).trans e5
    rw [hs]
    refine ⟨(h1.trans e).mono (by omega), by show g5.length = _; omega, by show m + g4.length < m + g5.length; omega, fun vals hv => ?_⟩
    · have ef : ((ps.take (i + 1)).map (fun p => (wb vals gs p.1, wb vals gs p.2))).foldl leF false = leF (((ps.take i).map (fun p => (wb vals gs p.1, wb vals gs p.2))).foldl leF false) (wb vals gs p.1, wb vals gs p.2) := by
        rw [List.take_add_one, hp, List.map_append, List.foldl_append]
        rfl
      rw [ef, ← h3 vals hv]
      have v1 : wb vals g1 (m + s.1.length) = !(wb vals gs p.1) := by
        rw [eg1, wb_other (hv ▸ rfl), h1.wb hv q1]
      have v2 : wb vals g2 (m + g1.length) = (!(wb vals gs p.1) && wb vals gs p.2) := by
        rw [eg2, wb_both (hv ▸ rfl), v1, e1.wb hv (by omega), h1.wb hv q2]
      have v3 : wb vals g3 (m + g2.length) = (!(wb vals gs p.1) || wb vals gs p.2) := by
        rw [eg3, wb_either (hv ▸ rfl), e2.wb hv (by omega), v1, e12.wb hv (by omega), h1.wb hv q2]
      have v4 : wb vals g4 (m + g3.length) = ((!(wb vals gs p.1) || wb vals gs p.2) && wb vals s.1 s.2) := by
        rw [eg4, wb_both (hv ▸ rfl), v3, e13.wb hv h4]
      show wb vals g5 (m + g4.length) = leF (wb vals s.1 s.2) (wb vals gs p.1, wb vals gs p.2)
      rw [eg5, wb_either (hv ▸ rfl), (e3.trans e4).wb hv (by omega), v2, v4]
      rfl
theorem lessW_ok {m : Nat} {gs : List Gt} {os ts : List Nat} (hl : os.length = ts.length) (ho : ∀ w ∈ os, w < m + gs.length) (ht : ∀ w ∈ ts, w < m + gs.length) : W1 m gs (5 * os.length + 1) (lessW m gs os ts) (fun e => lessB (os.map e) (ts.map e)) := by
  obtain ⟨h1, _, h4, h3⟩ := lessF_ok (ps := os.reverse.zip ts.reverse) (fun p hp => ⟨ho _ (mem_zipR hp).1, ht _ (mem_zipR hp).2⟩) _ (Nat.le_refl _) _ rfl
  rw [List.take_length] at h1 h4 h3
  rw [zipR_len hl] at h1
  unfold lessW
  refine ⟨h1, h4, fun vals hv => ?_⟩
  have h := h3 vals hv
  unfold lessB
  rw [← zipR_map, ← h]
/-! ### one more by a bit -/
def raS (m : Nat) (s : List Gt × List Nat × Nat) (a : Nat) : List Gt × List Nat × Nat :=
  let g1 := s.1 ++ [.w "unlike" [a, s.2.2]]
  let g2 := g1 ++ [.w "both" [a, s.2.2]]
  (g2, s.2.1 ++ [m + s.1.length], m + g1.length)
def raiF (m : Nat) (gs : List Gt) (os : List Nat) (w : Nat) : List Gt × List Nat × Nat := os.foldl (raS m) (gs, [], w)
def raiW (m : Nat) (gs : List Gt) (os : List Nat) (w : Nat) : List Gt × List Nat := ((raiF m gs os.reverse w).1, (raiF m gs os.reverse w).2.2 :: (raiF m gs os.reverse w).2.1.reverse)
def raF (s : List Bool × Bool) (a : Bool) : List Bool × Bool := (s.1 ++ [xor a s.2], a && s.2)
def raiB (os : List Bool) (w : Bool) : List Bool := (os.reverse.foldl raF ([], w)).2 :: (os.reverse.foldl raF ([], w)).1.reverse
theorem raF_num (c : Bool) (ps : List Bool) : (ps.foldl raF ([], c)).1.length = ps.length ∧ numB (ps.foldl raF ([], c)).1.reverse + 2 ^ ps.length * (ps.foldl raF ([], c)).2.toNat = numB ps.reverse + c.toNat := by
  have h := fold_inv (fun i (s : List Bool × Bool) => s.1.length = i ∧ numB s.1.reverse + 2 ^ i * s.2.toNat = numB (ps.take i).reverse + c.toNat) raF ps ([], c) ⟨rfl, by simp [numB]⟩ (fun i p s hp ⟨h1, h2⟩ => by
    obtain ⟨hi, e⟩ := List.getElem?_eq_some_iff.mp hp
    have lt : (ps.take i).length = i := by rw [List.length_take]; omega
    refine ⟨by show (s.1 ++ [_]).length = _; rw [List.length_append, h1]; rfl, ?_⟩
    rw [List.take_add_one, hp]
    show numB (s.1 ++ [_]).reverse + 2 ^ (i + 1) * (p && s.2).toNat = numB (ps.take i ++ [p]).reverse + c.toNat
    rw [numB_rev_snoc, numB_rev_snoc, h1, lt, Nat.pow_succ]
    generalize numB (ps.take i).reverse = A at *
    generalize numB s.1.reverse = D at *
    generalize 2 ^ i = K at *
    generalize s.2 = d at *
    cases p <;> cases d <;> simp at h2 ⊢ <;> omega)
  rw [List.take_of_length_le (Nat.le_refl _)] at h
  exact h
theorem raiB_num {os : List Bool} {c : Bool} : numB (raiB os c) = numB os + c.toNat := by
  obtain ⟨h1, h2⟩ := raF_num c os.reverse
  rw [List.reverse_reverse, Nat.mul_comm] at h2
  unfold raiB
  rw [numB_cons, List.length_reverse, h1]
  omega
theorem raiB_len {os : List Bool} {c : Bool} : (raiB os c).length = os.length + 1 := by
  obtain ⟨h1, _⟩ := raF_num c os.reverse
  unfold raiB
  rw [List.length_cons, List.length_reverse, h1, List.length_reverse]
theorem raiF_ok {m : Nat} {gs : List Gt} {ps : List Nat} {c : Nat} (hw : ∀ p ∈ ps, p < m + gs.length) (hc : c < m + gs.length) : ∀ i, i ≤ ps.length → ∀ s, s = raiF m gs (ps.take i) c → Ext m gs s.1 (2 * i) ∧ s.1.length = gs.length + 2 * i ∧ s.2.1.length = i ∧ (∀ w ∈ s.2.1, w < m + s.1.length) ∧ s.2.2 < m + s.1.length ∧ ∀ vals : List Bool, vals.length = m → (s.2.1.map (wb vals s.1), wb vals s.1 s.2.2) = ((ps.take i).map (wb vals gs)).foldl raF ([], wb vals gs c) := by
  intro i
  induction i with
  | zero => exact fun _ s e => by subst e; exact ⟨.refl, rfl, rfl, (fun _ z => nomatch z), hc, fun vals _ => rfl⟩
  | succ i ih =>
    intro hi s e
    obtain ⟨p, hp⟩ : ∃ p, ps[i]? = some p := ⟨ps[i], List.getElem?_eq_getElem (by omega)⟩
    have es : raiF m gs (ps.take (i + 1)) c = raS m (raiF m gs (ps.take i) c) p := fold_take _ hp _
    obtain ⟨h1, hl, ht, h2, h4, h3⟩ := ih (by omega) _ rfl
    rw [e, es]
    clear e es
    generalize raiF m gs (ps.take i) c = s at *
    have q1 := hw p (List.mem_of_getElem? hp)
    have l := h1.len
    obtain ⟨g1, eg1⟩ : ∃ g, g = s.1 ++ [.w "unlike" [p, s.2.2]] := ⟨_, rfl⟩
    obtain ⟨g2, eg2⟩ : ∃ g, g = g1 ++ [.w "both" [p, s.2.2]] := ⟨_, rfl⟩
    have hs : raS m s p = (g2, s.2.1 ++ [m + s.1.length], m + g1.length) := by rw [eg2, eg1]; rfl
    have l1 : g1.length = s.1.length + 1 := by rw [eg1]; simp
    have l2 : g2.length = s.1.length + 2 := by rw [eg2]; simp [l1]
    have e1 : Ext m s.1 g1 1 := eg1 ▸ .unlike (by omega) (by omega)
    have e2 : Ext m g1 g2 1 := eg2 ▸ .both (by omega) (by omega)
    have e := e1.trans e2
    rw [hs]
    refine ⟨(h1.trans e).mono (by omega), by show g2.length = _; omega, by show (s.2.1 ++ [_]).length = _; rw [List.length_append, ht]; rfl, fun a ha => ?_, by show m + g1.length < m + g2.length; omega, fun vals hv => ?_⟩
    · rcases List.mem_append.mp ha with z | z
      · have := h2 a z
        show a < m + g2.length
        omega
      · rw [List.mem_singleton.mp z]
        show m + s.1.length < m + g2.length
        omega
    · have ef : ((ps.take (i + 1)).map (wb vals gs)).foldl raF ([], wb vals gs c) = raF (((ps.take i).map (wb vals gs)).foldl raF ([], wb vals gs c)) (wb vals gs p) := by
        rw [List.take_add_one, hp, List.map_append, List.foldl_append]
        rfl
      rw [ef, ← h3 vals hv]
      have v1 : wb vals g1 (m + s.1.length) = xor (wb vals gs p) (wb vals s.1 s.2.2) := by
        rw [eg1, wb_unlike (hv ▸ rfl), h1.wb hv q1]
      have v2 : wb vals g2 (m + g1.length) = (wb vals gs p && wb vals s.1 s.2.2) := by
        rw [eg2, wb_both (hv ▸ rfl), e1.wb hv (by omega), e1.wb hv h4, h1.wb hv q1]
      show ((s.2.1 ++ [m + s.1.length]).map (wb vals g2), wb vals g2 (m + g1.length)) = (s.2.1.map (wb vals s.1) ++ [_], _)
      rw [List.map_append, e.wbs hv h2, v2]
      congr 1
      congr 1
      show [_] = [_]
      congr 1
      rw [e2.wb hv (by omega), v1]
theorem raiW_ok {m : Nat} {gs : List Gt} {os : List Nat} {c : Nat} (ho : ∀ w ∈ os, w < m + gs.length) (hc : c < m + gs.length) : WL m gs (2 * os.length) (raiW m gs os c) (fun e => raiB (os.map e) (e c)) := by
  obtain ⟨h1, _, _, h2, h4, h3⟩ := raiF_ok (ps := os.reverse) (fun p hp => ho _ (List.mem_reverse.mp hp)) hc _ (Nat.le_refl _) _ rfl
  rw [List.take_length] at h1 h2 h4 h3
  rw [List.length_reverse] at h1
  unfold raiW
  generalize raiF m gs os.reverse c = s at *
  refine ⟨h1, fun w hw => ?_, fun vals hv => ?_⟩
  · rcases List.mem_cons.mp hw with z | z
    · exact z ▸ h4
    · exact h2 w (List.mem_reverse.mp z)
  · show (s.2.2 :: s.2.1.reverse).map (wb vals s.1) = _
    have h := h3 vals hv
    unfold raiB
    rw [← List.map_reverse, ← h, List.map_cons, List.map_reverse]
theorem raiW_len {m : Nat} {gs : List Gt} {os : List Nat} {c : Nat} (ho : ∀ w ∈ os, w < m + gs.length) (hc : c < m + gs.length) : (raiW m gs os c).2.length = os.length + 1 := by
  have := congrArg List.length ((raiW_ok ho hc).val (List.replicate m false) (by simp))
  rw [List.length_map, raiB_len, List.length_map] at this
  exact this
/-! ### products -/
def rwS (m o : Nat) (s : List Gt × List Nat) (a : Nat) : List Gt × List Nat := (s.1 ++ [.w "both" [a, o]], s.2 ++ [m + s.1.length])
def rowW (m : Nat) (gs : List Gt) (os : List Nat) (o : Nat) : List Gt × List Nat := os.foldl (rwS m o) (gs, [])
theorem rowW_at {m o : Nat} {gs : List Gt} : ∀ (os : List Nat) (s : List Gt × List Nat), (os.foldl (rwS m o) s).1.length = s.1.length + os.length ∧ (os.foldl (rwS m o) s).2.length = s.2.length + os.length
  | [], s => ⟨rfl, rfl⟩
  | a :: l, s => by
    obtain ⟨h1, h2⟩ := rowW_at (gs := gs) l (rwS m o s a)
    rw [List.foldl_cons, h1, h2]
    unfold rwS
    simp only [List.length_append, List.length_cons, List.length_nil]
    omega
theorem rowW_ok {m o : Nat} {gs : List Gt} {os : List Nat} (hw : ∀ p ∈ os, p < m + gs.length) (hO : o < m + gs.length) : WL m gs os.length (rowW m gs os o) (fun e => os.map fun p => (e p && e o)) := by
  have h := fold_inv (fun i (s : List Gt × List Nat) => Ext m gs s.1 i ∧ (∀ w ∈ s.2, w < m + s.1.length) ∧ ∀ vals : List Bool, vals.length = m → s.2.map (wb vals s.1) = (os.take i).map fun p => (wb vals gs p && wb vals gs o)) (rwS m o) os (gs, []) ⟨.refl, (fun _ z => nomatch z), fun _ _ => rfl⟩ (fun i p s hp ⟨h1, h2, h3⟩ => by
    have q1 := hw p (List.mem_of_getElem? hp)
    have l := h1.len
    have e : Ext m s.1 (s.1 ++ [.w "both" [p, o]]) 1 := .both (by omega) (by omega)
    refine ⟨h1.trans e, fun a ha => ?_, fun vals hv => ?_⟩
    · rcases List.mem_append.mp ha with z | z
      · exact lt1 (h2 a z)
      · rw [List.mem_singleton.mp z]
        exact len1
    · show (s.2 ++ [_]).map (wb vals (s.1 ++ [Gt.w "both" [p, o]])) = _
      rw [List.map_append, e.wbs hv h2, h3 vals hv, List.take_add_one, hp, List.map_append]
      congr 1
      show [_] = [_]
      congr 1
      rw [wb_both (hv ▸ rfl), h1.wb hv q1, h1.wb hv hO])
  obtain ⟨h1, h2, h3⟩ := h
  exact ⟨h1, h2, fun vals hv => by
    rw [List.take_of_length_le (Nat.le_refl _)] at h3
    exact h3 vals hv⟩
theorem rowB_num (b : Bool) : ∀ os : List Bool, numB (os.map (· && b)) = numB os * b.toNat
  | [] => by simp [numB]
  | a :: os => by
    rw [List.map_cons, numB_cons, numB_cons, List.length_map, rowB_num b os]
    cases a <;> cases b <;> simp
def tiS (m : Nat) (os : List Nat) (z : Nat) (s : List Gt × List Nat × List Nat) (o : Nat) : List Gt × List Nat × List Nat :=
  let R := rowW m s.1 os o
  let S := sumW m R.1 s.2.1 R.2 z
  (S.1, S.2.dropLast, s.2.2 ++ [S.2.getLastD 0])
def timF (m : Nat) (gs : List Gt) (os ts : List Nat) : List Gt × List Nat × List Nat := ts.foldl (tiS m os (m + gs.length)) (gs ++ [.fi 0], List.replicate os.length (m + gs.length), [])
def timW (m : Nat) (gs : List Gt) (os ts : List Nat) : List Gt × List Nat := ((timF m gs os ts.reverse).1, (timF m gs os ts.reverse).2.1 ++ (timF m gs os ts.reverse).2.2.reverse)
theorem dl_last {α : Type} {l : List α} {d : α} (h : l ≠ []) : l = l.dropLast ++ [l.getLastD d] := by
  have := (List.dropLast_concat_getLast h).symm
  rw [List.getLastD_eq_getLast?, List.getLast?_eq_some_getLast h]
  exact this
theorem timF_ok {m : Nat} {gs : List Gt} {os ts : List Nat} (ho : ∀ p ∈ os, p < m + gs.length) (ht : ∀ p ∈ ts, p < m + gs.length) (h0 : 0 < os.length) : ∀ i, i ≤ ts.length → ∀ s, s = timF m gs os (ts.take i) → Ext m gs s.1 (6 * os.length * i + 1) ∧ gs.length < s.1.length ∧ s.2.1.length = os.length ∧ s.2.2.length = i ∧ (∀ w ∈ s.2.1, w < m + s.1.length) ∧ (∀ w ∈ s.2.2, w < m + s.1.length) ∧ (∀ vals : List Bool, vals.length = m → wb vals s.1 (m + gs.length) = false) ∧ ∀ vals : List Bool, vals.length = m → numB (s.2.1.map (wb vals s.1)) * 2 ^ i + numB (s.2.2.map (wb vals s.1)).reverse = numB (os.map (wb vals gs)) * numB ((ts.take i).map (wb vals gs)).reverse := by
  intro i
  induction i with
  | zero =>
    intro _ s e
    subst e
    have e0 : Ext m gs (gs ++ [.fi 0]) 1 := .fixed (Nat.zero_le _)
    have v0 : ∀ vals : List Bool, vals.length = m → wb vals (gs ++ [.fi 0]) (m + gs.length) = false := fun vals hv => by
      rw [wb_fixed (hv ▸ rfl)]
      rfl
    refine ⟨e0.mono (Nat.le_add_left _ _), by show _ < (gs ++ [_]).length; simp, by show (List.replicate _ _).length = _; simp, rfl, fun w hw => ?_, (fun _ z => nomatch z), v0, fun vals hv => ?_⟩
    · have : w = m + gs.length := (List.mem_replicate.mp hw).2
      rw [this]
      exact len1
    · show numB ((List.replicate os.length (m + gs.length)).map (wb vals (gs ++ [.fi 0]))) * 2 ^ 0 + 0 = numB _ * 0
      rw [List.map_replicate, v0 vals hv, numB_rep]
      simp
  | succ i ih =>
    intro hi s e
    obtain ⟨p, hp⟩ : ∃ p, ts[i]? = some p := ⟨ts[i], List.getElem?_eq_getElem (by omega)⟩
    have es : timF m gs os (ts.take (i + 1)) = tiS m os (m + gs.length) (timF m gs os (ts.take i)) p := fold_take _ hp _
    obtain ⟨h1, hl, ht1, ht2, h2, h2', h4, h3⟩ := ih (by omega) _ rfl
    rw [e, es]
    clear e es
    generalize timF m gs os (ts.take i) = s at *
    have q1 := ht p (List.mem_of_getElem? hp)
    have l := h1.len
    have R := rowW_ok (m := m) (o := p) (gs := s.1) (os := os) (fun a ha => by have := ho a ha; omega) (by omega)
    have hs : tiS m os (m + gs.length) s p = ((sumW m (rowW m s.1 os p).1 s.2.1 (rowW m s.1 os p).2 (m + gs.length)).1, (sumW m (rowW m s.1 os p).1 s.2.1 (rowW m s.1 os p).2 (m + gs.length)).2.dropLast, s.2.2 ++ [(sumW m (rowW m s.1 os p).1 s.2.1 (rowW m s.1 os p).2 (m + gs.length)).2.getLastD 0]) := rfl
    rw [hs]
    clear hs
    have lR : (rowW m s.1 os p).2.length = os.length := by
      have := (rowW_at (m := m) (o := p) (gs := gs) os (s.1, [])).2
      rw [List.length_nil, Nat.zero_add] at this
      exact this
    have lRe := R.ext.len
    generalize rowW m s.1 os p = R0 at *
    have hl2 : s.2.1.length = R0.2.length := by omega
    have S := sumW_ok (m := m) (gs := R0.1) (os := s.2.1) (ts := R0.2) (c := m + gs.length) hl2 (fun a ha => by have := h2 a ha; omega) R.lt (by omega)
    have lS := sumW_len (m := m) (gs := R0.1) (os := s.2.1) (ts := R0.2) (c := m + gs.length) hl2 (fun a ha => by have := h2 a ha; omega) R.lt (by omega)
    generalize sumW m R0.1 s.2.1 R0.2 (m + gs.length) = S0 at *
    have lSe := S.ext.len
    have hne : S0.2 ≠ [] := fun z => by rw [z] at lS; cases lS
    have dl := dl_last (d := 0) hne
    have lD : S0.2.dropLast.length = os.length := by rw [List.length_dropLast]; omega
    have eRS := R.ext.trans S.ext
    refine ⟨((h1.trans R.ext).trans S.ext).mono ?_, by show _ < S0.1.length; omega, lD, by show (s.2.2 ++ [_]).length = _; rw [List.length_append, ht2]; rfl, fun w hw => S.lt w (List.dropLast_subset _ hw), fun w hw => ?_, fun vals hv => ?_, fun vals hv => ?_⟩
    · rw [ht1, Nat.mul_succ, show 6 * os.length = 5 * os.length + os.length by omega]
      omega
    · show w < m + S0.1.length
      rcases List.mem_append.mp hw with z | z
      · have := h2' w z
        omega
      · rw [List.mem_singleton.mp z]
        refine S.lt _ ?_
        have t : S0.2.getLastD 0 ∈ S0.2.dropLast ++ [S0.2.getLastD 0] := List.mem_append.mpr (.inr (List.mem_singleton.mpr rfl))
        rw [← dl] at t
        exact t
    · exact (eRS.wb hv (by omega)).trans (h4 vals hv)
    · have v := S.val vals hv
      rw [dl, List.map_append] at v
      have vn := congrArg numB v
      rw [sumB_num (by simpa using hl2)] at vn
      rw [R.ext.wbs hv h2, R.val vals hv] at vn
      have z0 : wb vals R0.1 (m + gs.length) = false := (R.ext.wb hv (by omega)).trans (h4 vals hv)
      rw [z0] at vn
      have er : (os.map fun q => (wb vals s.1 q && wb vals s.1 p)) = (os.map (wb vals gs)).map (· && wb vals gs p) := by
        rw [List.map_map]
        refine List.map_congr_left fun q hq => ?_
        show _ = (wb vals gs q && wb vals gs p)
        rw [h1.wb hv (ho q hq), h1.wb hv q1]
      rw [er, rowB_num] at vn
      have e1 : numB (List.map (wb vals S0.1) S0.2.dropLast ++ List.map (wb vals S0.1) [S0.2.getLastD 0]) = 2 * numB (S0.2.dropLast.map (wb vals S0.1)) + (wb vals S0.1 (S0.2.getLastD 0)).toNat := numB_snoc _ _
      rw [e1] at vn
      have h := h3 vals hv
      show numB (S0.2.dropLast.map (wb vals S0.1)) * 2 ^ (i + 1) + numB ((s.2.2 ++ [S0.2.getLastD 0]).map (wb vals S0.1)).reverse = _
      rw [List.map_append, eRS.wbs hv h2']
      show _ + numB (List.map (wb vals s.1) s.2.2 ++ [_]).reverse = _
      rw [numB_rev_snoc, List.length_map, ht2, List.take_add_one, hp, List.map_append]
      show _ = numB _ * numB ((ts.take i).map (wb vals gs) ++ [_]).reverse
      rw [numB_rev_snoc, List.length_map, show (ts.take i).length = i by rw [List.length_take]; omega, Nat.mul_add, ← h]
      generalize numB (S0.2.dropLast.map (wb vals S0.1)) = D at *
      generalize (wb vals S0.1 (S0.2.getLastD 0)).toNat = L at *
      generalize numB (s.2.1.map (wb vals s.1)) = T at *
      generalize numB (os.map (wb vals gs)) = O at *
      generalize (wb vals gs p).toNat = B at *
      generalize numB (s.2.2.map (wb vals s.1)).reverse = F at *
      have vn' : (2 * D + L) * 2 ^ i = (T + O * B) * 2 ^ i := by
        rw [vn]
        simp
      rw [Nat.add_mul, Nat.add_mul, Nat.mul_assoc O, Nat.mul_comm 2 D, Nat.mul_assoc D 2] at vn'
      rw [Nat.pow_succ, Nat.mul_comm (2 ^ i) 2]
      omega
theorem timW_ok {m : Nat} {gs : List Gt} {os ts : List Nat} (ho : ∀ p ∈ os, p < m + gs.length) (ht : ∀ p ∈ ts, p < m + gs.length) (h0 : 0 < os.length) : Ext m gs (timW m gs os ts).1 (6 * os.length * ts.length + 1) ∧ (timW m gs os ts).2.length = os.length + ts.length ∧ (∀ w ∈ (timW m gs os ts).2, w < m + (timW m gs os ts).1.length) ∧ ∀ vals : List Bool, vals.length = m → numB ((timW m gs os ts).2.map (wb vals (timW m gs os ts).1)) = numB (os.map (wb vals gs)) * numB (ts.map (wb vals gs)) := by
  obtain ⟨h1, _, ht1, ht2, h2, h2', _, h3⟩ := timF_ok (ts := ts.reverse) ho (fun p hp => ht p (List.mem_reverse.mp hp)) h0 _ (Nat.le_refl _) _ rfl
  rw [List.take_length] at h1 ht1 ht2 h2 h2' h3
  rw [List.length_reverse] at h1 ht2 h3
  unfold timW
  generalize timF m gs os ts.reverse = s at *
  refine ⟨h1, by rw [List.length_append, List.length_reverse, ht1, ht2], fun w hw => ?_, fun vals hv => ?_⟩
  · rcases List.mem_append.mp hw with z | z
    · exact h2 w z
    · exact h2' w (List.mem_reverse.mp z)
  · have h := h3 vals hv
    show numB ((s.2.1 ++ s.2.2.reverse).map (wb vals s.1)) = _
    rw [List.map_append, numB_app, List.length_map, List.length_reverse, ht2, List.map_reverse, h, List.map_reverse, List.reverse_reverse]
/-! ### shifts of wires -/
def nearL (n : Nat) (ws : List Nat) : List (Nat × Nat) := (ws.zipIdx.filter fun p => decide (2 ^ p.2 < n)).map fun p => (2 ^ p.2, p.1)
def farL (n : Nat) (ws : List Nat) : List Nat := (ws.zipIdx.filter fun p => !decide (2 ^ p.2 < n)).map (·.1)
theorem idx_step {ws : List Nat} {i w : Nat} (h : ws[i]? = some w) : (ws.take (i + 1)).zipIdx = (ws.take i).zipIdx ++ [(w, i)] := by
  have hi := (List.getElem?_eq_some_iff.mp h).1
  rw [List.take_add_one, h, List.zipIdx_append]
  show _ ++ [(w, _)] = _
  rw [List.length_take, Nat.min_eq_left (Nat.le_of_lt hi), Nat.zero_add]
theorem near_step {n : Nat} {ws : List Nat} {i w : Nat} (h : ws[i]? = some w) : nearL n (ws.take (i + 1)) = nearL n (ws.take i) ++ (if 2 ^ i < n then [(2 ^ i, w)] else []) := by
  unfold nearL
  rw [idx_step h, List.filter_append, List.map_append]
  congr 1
  by_cases c : 2 ^ i < n <;> simp [c]
theorem far_step {n : Nat} {ws : List Nat} {i w : Nat} (h : ws[i]? = some w) : farL n (ws.take (i + 1)) = farL n (ws.take i) ++ (if 2 ^ i < n then [] else [w]) := by
  unfold farL
  rw [idx_step h, List.filter_append, List.map_append]
  congr 1
  by_cases c : 2 ^ i < n <;> simp [c]
theorem near_mem {n : Nat} {ws : List Nat} {p : Nat × Nat} (h : p ∈ nearL n ws) : p.1 < n ∧ p.2 ∈ ws := by
  obtain ⟨q, hq, rfl⟩ := List.mem_map.mp h
  obtain ⟨a, b⟩ := List.mem_filter.mp hq
  refine ⟨of_decide_eq_true b, ?_⟩
  obtain ⟨c, d⟩ := q
  exact (List.mem_zipIdx a).2.2 ▸ List.getElem_mem _
theorem far_mem {n : Nat} {ws : List Nat} {w : Nat} (h : w ∈ farL n ws) : w ∈ ws := by
  obtain ⟨q, hq, rfl⟩ := List.mem_map.mp h
  obtain ⟨a, b⟩ := List.mem_filter.mp hq
  obtain ⟨c, d⟩ := q
  exact (List.mem_zipIdx a).2.2 ▸ List.getElem_mem _
theorem near_far_len (n : Nat) (ws : List Nat) : (nearL n ws).length + (farL n ws).length = ws.length := by
  unfold nearL farL
  rw [List.length_map, List.length_map]
  have key : ∀ l : List (Nat × Nat), (l.filter fun p => decide (2 ^ p.2 < n)).length + (l.filter fun p => !decide (2 ^ p.2 < n)).length = l.length := by
    intro l
    induction l with
    | nil => rfl
    | cons a l ih =>
      rw [List.filter_cons, List.filter_cons]
      cases decide (2 ^ a.2 < n) <;> simp <;> omega
  rw [key, List.length_zipIdx]
/-- how far the near ones shift -/
def amT (e : Nat → Bool) (ps : List (Nat × Nat)) : Nat := (ps.map fun p => if e p.2 = true then p.1 else 0).sum
theorem amT_app (e : Nat → Bool) (a b : List (Nat × Nat)) : amT e (a ++ b) = amT e a + amT e b := by
  unfold amT
  rw [List.map_append, List.sum_append]
theorem or_rest {v u M : Nat} (h : 0 < M) : (decide (v ≠ 0) || decide (u ≠ 0)) = decide (v + M * u ≠ 0) := by
  rw [Bool.eq_iff_iff, Bool.or_eq_true, decide_eq_true_iff, decide_eq_true_iff, decide_eq_true_iff]
  constructor
  · rintro (a | a) e
    · exact a (Nat.add_eq_zero_iff.mp e).1
    · rcases Nat.mul_eq_zero.mp (Nat.add_eq_zero_iff.mp e).2 with z | z
      · omega
      · exact a z
  · intro e
    by_cases c : v = 0
    · refine .inr fun z => e ?_
      rw [c, z]
      rfl
    · exact .inl c
theorem am_by (e : Nat → Bool) (n : Nat) (ws : List Nat) : ∀ i, i ≤ ws.length → ((farL n (ws.take i)).any e = false → amT e (nearL n (ws.take i)) = numB ((ws.take i).map e).reverse) ∧ ((farL n (ws.take i)).any e = true → n ≤ numB ((ws.take i).map e).reverse) := by
  intro i
  induction i with
  | zero => exact fun _ => ⟨fun _ => rfl, fun z => nomatch z⟩
  | succ i ih =>
    intro hi
    obtain ⟨w, hw⟩ : ∃ w, ws[i]? = some w := ⟨ws[i], List.getElem?_eq_getElem (by omega)⟩
    obtain ⟨h1, h2⟩ := ih (by omega)
    rw [near_step hw, far_step hw, amT_app, List.any_append, List.take_add_one, hw, List.map_append]
    show (_ → _ = numB (_ ++ [e w]).reverse) ∧ (_ → n ≤ numB (_ ++ [e w]).reverse)
    rw [numB_rev_snoc, List.length_map, List.length_take, Nat.min_eq_left (show i ≤ ws.length by omega)]
    by_cases c : 2 ^ i < n
    · rw [if_pos c, if_pos c]
      show ((_ || false) = false → _) ∧ ((_ || false) = true → _)
      rw [Bool.or_false]
      refine ⟨fun z => ?_, fun z => ?_⟩
      · have e3 : amT e [(2 ^ i, w)] = (e w).toNat * 2 ^ i := by
          show (if e w = true then 2 ^ i else 0) + 0 = _
          cases e w <;> simp
        rw [h1 z, e3, Nat.add_comm]
      · have := h2 z
        exact Nat.le_trans this (Nat.le_add_left _ _)
    · rw [if_neg c, if_neg c]
      have e1 : [w].any e = e w := by simp
      rw [e1]
      have e2 : amT e [] = 0 := rfl
      rw [e2]
      cases hb : e w with
      | false =>
        rw [Bool.or_false, Nat.add_zero, Bool.toNat_false, Nat.zero_mul, Nat.zero_add]
        exact ⟨h1, h2⟩
      | true =>
        rw [Bool.or_true]
        refine ⟨(fun z => nomatch z), fun _ => ?_⟩
        show n ≤ 1 * 2 ^ i + _
        omega
def shaW (m : Nat) (gs : List Gt) (n : Nat) (ws : List Nat) : List Gt × List (Nat × Nat) := if farL n ws = [] then (gs, nearL n ws) else ((anyW m gs (farL n ws)).1, nearL n ws ++ [(n, (anyW m gs (farL n ws)).2)])
theorem shaW_ok {m n : Nat} {gs : List Gt} {ws : List Nat} (hw : ∀ w ∈ ws, w < m + gs.length) : Ext m gs (shaW m gs n ws).1 (ws.length + 1) ∧ (∀ p ∈ (shaW m gs n ws).2, p.1 ≤ n ∧ p.2 < m + (shaW m gs n ws).1.length) ∧ (shaW m gs n ws).2.length ≤ ws.length + 1 ∧
    ∀ vals : List Bool, vals.length = m → amT (wb vals (shaW m gs n ws).1) (shaW m gs n ws).2 = numB (ws.map (wb vals gs)).reverse ∨ (n ≤ amT (wb vals (shaW m gs n ws).1) (shaW m gs n ws).2 ∧ n ≤ numB (ws.map (wb vals gs)).reverse) := by
  have ll := near_far_len n ws
  have ha := fun vals => am_by (wb vals gs) n ws _ (Nat.le_refl _)
  rw [List.take_length] at ha
  unfold shaW
  by_cases c : farL n ws = []
  · rw [if_pos c]
    refine ⟨Ext.refl.mono (Nat.zero_le _), fun p hp => ⟨Nat.le_of_lt (near_mem hp).1, hw _ (near_mem hp).2⟩, by show (nearL n ws).length ≤ _; omega, fun vals hv => .inl ?_⟩
    exact (ha vals).1 (by rw [c]; rfl)
  · rw [if_neg c]
    have A := anyW_ok (m := m) (gs := gs) (ws := farL n ws) (fun w h => hw w (far_mem h))
    have l := A.ext.len
    refine ⟨A.ext.mono (by omega), fun p hp => ?_, by show (nearL n ws ++ [_]).length ≤ _; rw [List.length_append]; show _ + 1 ≤ _; omega, fun vals hv => ?_⟩
    · rcases List.mem_append.mp hp with z | z
      · have := hw _ (near_mem z).2
        exact ⟨Nat.le_of_lt (near_mem z).1, by show p.2 < m + (anyW m gs (farL n ws)).1.length; omega⟩
      · rw [List.mem_singleton.mp z]
        exact ⟨Nat.le_refl _, A.lt⟩
    · show amT (wb vals (anyW m gs (farL n ws)).1) (nearL n ws ++ [(n, (anyW m gs (farL n ws)).2)]) = _ ∨ n ≤ amT (wb vals (anyW m gs (farL n ws)).1) (nearL n ws ++ [(n, (anyW m gs (farL n ws)).2)]) ∧ _
      rw [amT_app]
      have e1 : amT (wb vals (anyW m gs (farL n ws)).1) (nearL n ws) = amT (wb vals gs) (nearL n ws) := by
        unfold amT
        congr 1
        refine List.map_congr_left fun p hp => ?_
        rw [A.ext.wb hv (hw _ (near_mem hp).2)]
      have e2 : amT (wb vals (anyW m gs (farL n ws)).1) [(n, (anyW m gs (farL n ws)).2)] = if (farL n ws).any (wb vals gs) = true then n else 0 := by
        unfold amT
        show (if wb vals (anyW m gs (farL n ws)).1 (anyW m gs (farL n ws)).2 = true then n else 0) + 0 = _
        rw [A.val vals hv, Nat.add_zero]
      rw [e1, e2]
      cases hf : (farL n ws).any (wb vals gs) with
      | false => exact .inl (((ha vals).1 hf).trans (Nat.add_zero _).symm ▸ rfl)
      | true =>
        refine .inr ⟨?_, (ha vals).2 hf⟩
        rw [if_pos rfl]
        omega
/-! ### numbers shifted -/
theorem numB_cut (bs : List Bool) (k : Nat) (h : k ≤ bs.length) : numB bs = numB (bs.take (bs.length - k)) * 2 ^ k + numB (bs.drop (bs.length - k)) ∧ numB (bs.drop (bs.length - k)) < 2 ^ k := by
  have l : (bs.drop (bs.length - k)).length = k := by rw [List.length_drop]; omega
  refine ⟨?_, by have := numB_lt (bs.drop (bs.length - k)); rw [l] at this; exact this⟩
  conv => lhs; rw [← List.take_append_drop (bs.length - k) bs, numB_app, l]
theorem numB_shr {bs : List Bool} {k : Nat} (h : k ≤ bs.length) : numB (List.replicate k false ++ bs.take (bs.length - k)) = numB bs / 2 ^ k := by
  obtain ⟨h1, h2⟩ := numB_cut bs k h
  rw [numB_app, numB_rep, h1, Nat.mul_comm (numB (bs.take _)), Nat.mul_add_div (Nat.pow_pos (by decide)), Nat.div_eq_of_lt h2]
  omega
theorem any_num : ∀ bs : List Bool, bs.any id = decide (numB bs ≠ 0)
  | [] => by simp [numB]
  | b :: bs => by
    have p : 0 < 2 ^ bs.length := Nat.pow_pos (by decide)
    rw [List.any_cons, any_num bs, numB_cons]
    cases b <;> simp
theorem numB_lost {bs : List Bool} {k : Nat} (h : k ≤ bs.length) : (bs.drop (bs.length - k)).any id = decide (numB bs % 2 ^ k ≠ 0) := by
  obtain ⟨h1, h2⟩ := numB_cut bs k h
  rw [any_num, h1, Nat.mul_comm (numB (bs.take _)), Nat.mul_add_mod, Nat.mod_eq_of_lt h2]
theorem numB_shl {bs : List Bool} {k : Nat} (h : k ≤ bs.length) : numB (bs.drop k ++ List.replicate k false) = numB bs * 2 ^ k % 2 ^ bs.length := by
  have l : (bs.drop k).length = bs.length - k := List.length_drop
  have h2 := numB_lt (bs.drop k)
  rw [l] at h2
  have e : numB bs = numB (bs.take k) * 2 ^ (bs.length - k) + numB (bs.drop k) := by
    conv => lhs; rw [← List.take_append_drop k bs, numB_app, l]
  have ep : 2 ^ bs.length = 2 ^ (bs.length - k) * 2 ^ k := by rw [← Nat.pow_add]; congr 1; omega
  rw [numB_app, numB_rep, List.length_replicate, Nat.add_zero, ep, Nat.mul_mod_mul_right]
  congr 1
  rw [e, Nat.mul_comm (numB (bs.take k)), Nat.mul_add_mod, Nat.mod_eq_of_lt h2]
theorem sh_same {X n T B : Nat} (hX : X < 2 ^ n) (h : T = B ∨ (n ≤ T ∧ n ≤ B)) : X / 2 ^ T = X / 2 ^ B ∧ X % 2 ^ T = X % 2 ^ B ∧ X * 2 ^ T % 2 ^ n = X * 2 ^ B % 2 ^ n := by
  rcases h with rfl | ⟨h1, h2⟩
  · exact ⟨rfl, rfl, rfl⟩
  · have a : X < 2 ^ T := Nat.lt_of_lt_of_le hX (Nat.pow_le_pow_right (by decide) h1)
    have b : X < 2 ^ B := Nat.lt_of_lt_of_le hX (Nat.pow_le_pow_right (by decide) h2)
    have c : ∀ S, n ≤ S → X * 2 ^ S % 2 ^ n = 0 := fun S hS => by
      rw [show S = n + (S - n) by omega, Nat.pow_add, ← Nat.mul_assoc, Nat.mul_comm X, Nat.mul_assoc, Nat.mul_mod_right]
    rw [Nat.div_eq_of_lt a, Nat.div_eq_of_lt b, Nat.mod_eq_of_lt a, Nat.mod_eq_of_lt b, c T h1, c B h2]
    exact ⟨rfl, rfl, rfl⟩
/-! ### to the right -/
def shS (m z n : Nat) (s : List Gt × List Nat × Nat) (p : Nat × Nat) : List Gt × List Nat × Nat :=
  let L := anyW m s.1 (s.2.1.drop (n - p.1))
  let g2 := L.1 ++ [.w "both" [p.2, L.2]]
  let g3 := g2 ++ [.w "either" [s.2.2, m + L.1.length]]
  let C := chosenW m g3 p.2 ((List.replicate p.1 z ++ s.2.1.take (n - p.1)).zip s.2.1)
  (C.1, C.2, m + g2.length)
def shF (m z n : Nat) (gs : List Gt) (os : List Nat) (ps : List (Nat × Nat)) : List Gt × List Nat × Nat := ps.foldl (shS m z n) (gs, os, z)
theorem map_zipC (e : Nat → Bool) (c : Bool) : ∀ (xs ys : List Nat), xs.length = ys.length → ((xs.zip ys).map fun p => if c = true then e p.1 else e p.2) = if c = true then xs.map e else ys.map e
  | [], [], _ => by cases c <;> rfl
  | x :: xs, y :: ys, h => by
    rw [List.zip_cons_cons, List.map_cons, map_zipC e c xs ys (Nat.succ.inj h)]
    cases c <;> rfl
theorem shF_ok {m z n : Nat} {gs : List Gt} {os : List Nat} {ps : List (Nat × Nat)} (hn : os.length = n) (hz : z < m + gs.length) (hzv : ∀ vals : List Bool, vals.length = m → wb vals gs z = false) (ho : ∀ w ∈ os, w < m + gs.length) (hp : ∀ p ∈ ps, p.1 ≤ n ∧ p.2 < m + gs.length) : ∀ i, i ≤ ps.length → ∀ s, s = shF m z n gs os (ps.take i) → Ext m gs s.1 ((4 * n + 4) * i) ∧ s.2.1.length = n ∧ (∀ w ∈ s.2.1, w < m + s.1.length) ∧ s.2.2 < m + s.1.length ∧
    ∀ vals : List Bool, vals.length = m → numB (s.2.1.map (wb vals s.1)) = numB (os.map (wb vals gs)) / 2 ^ amT (wb vals gs) (ps.take i) ∧ wb vals s.1 s.2.2 = decide (numB (os.map (wb vals gs)) % 2 ^ amT (wb vals gs) (ps.take i) ≠ 0) := by
  intro i
  induction i with
  | zero =>
    intro _ s e
    subst e
    refine ⟨Ext.refl.mono (Nat.zero_le _), hn, ho, hz, fun vals hv => ⟨?_, ?_⟩⟩
    · show numB (os.map (wb vals gs)) = _ / 2 ^ 0
      simp
    · show wb vals gs z = decide (_ % 2 ^ 0 ≠ 0)
      rw [hzv vals hv]
      simp [Nat.mod_one]
  | succ i ih =>
    intro hi s e
    obtain ⟨p, hpi⟩ : ∃ p, ps[i]? = some p := ⟨ps[i], List.getElem?_eq_getElem (by omega)⟩
    have es : shF m z n gs os (ps.take (i + 1)) = shS m z n (shF m z n gs os (ps.take i)) p := fold_take _ hpi _
    obtain ⟨h1, hl, h2, h4, h3⟩ := ih (by omega) _ rfl
    rw [e, es]
    clear e es
    generalize shF m z n gs os (ps.take i) = s at *
    obtain ⟨q1, q2⟩ := hp p (List.mem_of_getElem? hpi)
    have l := h1.len
    have A := anyW_ok (m := m) (gs := s.1) (ws := s.2.1.drop (n - p.1)) (fun w hw => h2 w (List.mem_of_mem_drop hw))
    have ld : (s.2.1.drop (n - p.1)).length = p.1 := by rw [List.length_drop]; omega
    rw [ld] at A
    obtain ⟨L, eL⟩ : ∃ L, L = anyW m s.1 (s.2.1.drop (n - p.1)) := ⟨_, rfl⟩
    rw [← eL] at A
    have lA := A.ext.len
    have ltA := A.lt
    obtain ⟨g2, eg2⟩ : ∃ g, g = L.1 ++ [.w "both" [p.2, L.2]] := ⟨_, rfl⟩
    obtain ⟨g3, eg3⟩ : ∃ g, g = g2 ++ [.w "either" [s.2.2, m + L.1.length]] := ⟨_, rfl⟩
    have l2 : g2.length = L.1.length + 1 := by rw [eg2]; simp
    have l3 : g3.length = L.1.length + 2 := by rw [eg3]; simp [l2]
    have e2 : Ext m L.1 g2 1 := eg2 ▸ .both (by omega) ltA
    have e3 : Ext m g2 g3 1 := eg3 ▸ .either (by omega) (by omega)
    have lt' : (s.2.1.take (n - p.1)).length = n - p.1 := by rw [List.length_take]; omega
    have lx : (List.replicate p.1 z ++ s.2.1.take (n - p.1)).length = s.2.1.length := by rw [List.length_append, List.length_replicate, lt']; omega
    have hx : ∀ w ∈ List.replicate p.1 z ++ s.2.1.take (n - p.1), w < m + g3.length := fun w hw => by
      rcases List.mem_append.mp hw with y | y
      · rw [(List.mem_replicate.mp y).2]
        omega
      · have := h2 w (List.mem_of_mem_take y)
        omega
    have C := chosenW_ok (m := m) (w := p.2) (gs := g3) (ps := (List.replicate p.1 z ++ s.2.1.take (n - p.1)).zip s.2.1) (by omega) (fun q hq => ⟨hx _ (List.of_mem_zip hq).1, by have := h2 _ (List.of_mem_zip hq).2; omega⟩)
    have lz : ((List.replicate p.1 z ++ s.2.1.take (n - p.1)).zip s.2.1).length = n := by rw [List.length_zip, lx, hl]; omega
    rw [lz] at C
    have hs : shS m z n s p = ((chosenW m g3 p.2 ((List.replicate p.1 z ++ s.2.1.take (n - p.1)).zip s.2.1)).1, (chosenW m g3 p.2 ((List.replicate p.1 z ++ s.2.1.take (n - p.1)).zip s.2.1)).2, m + g2.length) := by rw [eg3, eg2, eL]; rfl
    rw [hs]
    have lC : (chosenW m g3 p.2 ((List.replicate p.1 z ++ s.2.1.take (n - p.1)).zip s.2.1)).2.length = n := by
      have := congrArg List.length (C.val (List.replicate m false) (by simp))
      rw [List.length_map, List.length_map, lz] at this
      exact this
    have e13 := (A.ext.trans e2).trans e3
    have eC := C.ext
    have vC := C.val
    have ltC := C.lt
    clear C hs
    generalize chosenW m g3 p.2 ((List.replicate p.1 z ++ s.2.1.take (n - p.1)).zip s.2.1) = C0 at *
    have lCe := eC.len
    refine ⟨((h1.trans e13).trans eC).mono (by rw [Nat.mul_succ]; omega), lC, ltC, by show m + g2.length < m + C0.1.length; omega, fun vals hv => ?_⟩
    obtain ⟨v1, v2⟩ := h3 vals hv
    have eb : wb vals g3 p.2 = wb vals gs p.2 := ((h1.trans e13).wb hv q2)
    have ez : wb vals g3 z = false := ((h1.trans e13).wb hv hz).trans (hzv vals hv)
    have ek : s.2.1.map (wb vals g3) = s.2.1.map (wb vals s.1) := e13.wbs hv h2
    have vc := vC vals hv
    rw [map_zipC _ _ _ _ lx] at vc
    rw [eb, List.map_append, List.map_replicate, ez, List.map_take, ek] at vc
    have hbl : (s.2.1.map (wb vals s.1)).length = n := by rw [List.length_map, hl]
    have sa : amT (wb vals gs) (ps.take (i + 1)) = amT (wb vals gs) (ps.take i) + if wb vals gs p.2 = true then p.1 else 0 := by
      rw [List.take_add_one, hpi, amT_app]
      rfl
    have w2 : wb vals g2 (m + L.1.length) = (wb vals gs p.2 && decide (numB (s.2.1.map (wb vals s.1)) % 2 ^ p.1 ≠ 0)) := by
      rw [eg2, wb_both (hv ▸ rfl), A.val vals hv, (h1.trans A.ext).wb hv q2]
      congr 1
      have hd := numB_lost (bs := s.2.1.map (wb vals s.1)) (k := p.1) (by omega)
      rw [hbl, ← List.map_drop, List.any_map] at hd
      exact hd
    have w3 : wb vals g3 (m + g2.length) = (wb vals s.1 s.2.2 || (wb vals gs p.2 && decide (numB (s.2.1.map (wb vals s.1)) % 2 ^ p.1 ≠ 0))) := by
      rw [eg3, wb_either (hv ▸ rfl), (A.ext.trans e2).wb hv h4, w2]
    refine ⟨?_, ?_⟩
    · dsimp only
      rw [vc, sa]
      cases hb : wb vals gs p.2 with
      | false => simpa using v1
      | true =>
        rw [if_pos rfl, if_pos rfl, ← hbl, numB_shr (by omega), v1, Nat.div_div_eq_div_mul, ← Nat.pow_add]
    · dsimp only
      rw [eC.wb hv (by omega), w3, v2, sa, v1]
      cases hb : wb vals gs p.2 with
      | false => simp
      | true =>
        rw [if_pos rfl, Bool.true_and]
        generalize numB (os.map (wb vals gs)) = X
        generalize amT (wb vals gs) (ps.take i) = T
        rw [Nat.pow_add, Nat.mod_mul]
        have pT : 0 < 2 ^ T := Nat.pow_pos (by decide)
        exact or_rest pT
def shiW (m : Nat) (gs : List Gt) (os bs : List Nat) : List Gt × List Nat × Nat := shF m (m + gs.length) os.length (shaW m (gs ++ [.fi 0]) os.length bs.reverse).1 os (shaW m (gs ++ [.fi 0]) os.length bs.reverse).2
theorem shiW_ok {m : Nat} {gs : List Gt} {os bs : List Nat} (ho : ∀ w ∈ os, w < m + gs.length) (hb : ∀ w ∈ bs, w < m + gs.length) : Ext m gs (shiW m gs os bs).1 ((4 * os.length + 4) * (bs.length + 1) + bs.length + 2) ∧ (shiW m gs os bs).2.1.length = os.length ∧ (∀ w ∈ (shiW m gs os bs).2.1, w < m + (shiW m gs os bs).1.length) ∧ (shiW m gs os bs).2.2 < m + (shiW m gs os bs).1.length ∧
    ∀ vals : List Bool, vals.length = m → numB ((shiW m gs os bs).2.1.map (wb vals (shiW m gs os bs).1)) = numB (os.map (wb vals gs)) / 2 ^ numB (bs.map (wb vals gs)) ∧ wb vals (shiW m gs os bs).1 (shiW m gs os bs).2.2 = decide (numB (os.map (wb vals gs)) % 2 ^ numB (bs.map (wb vals gs)) ≠ 0) := by
  have e0 : Ext m gs (gs ++ [.fi 0]) 1 := .fixed (Nat.zero_le _)
  obtain ⟨a1, a2, a3, a4⟩ := shaW_ok (m := m) (n := os.length) (gs := gs ++ [.fi 0]) (ws := bs.reverse) (fun w h => lt1 (hb w (List.mem_reverse.mp h)))
  rw [List.length_reverse] at a1 a3
  unfold shiW
  have z0 : ∀ vals : List Bool, vals.length = m → wb vals (gs ++ [.fi 0]) (m + gs.length) = false := fun vals hv => by
    rw [wb_fixed (hv ▸ rfl)]
    rfl
  have ebs : ∀ vals : List Bool, vals.length = m → numB (bs.reverse.map (wb vals (gs ++ [.fi 0]))).reverse = numB (bs.map (wb vals gs)) := fun vals hv => by
    rw [List.map_reverse, List.reverse_reverse, e0.wbs hv hb]
  generalize shaW m (gs ++ [.fi 0]) os.length bs.reverse = S at *
  have la := a1.len
  have l0 : (gs ++ [Gt.fi 0]).length = gs.length + 1 := by simp
  have e01 := e0.trans a1
  have H := shF_ok (m := m) (z := m + gs.length) (n := os.length) (gs := S.1) (os := os) (ps := S.2) rfl (by omega) (fun vals hv => (a1.wb hv len1).trans (z0 vals hv)) (fun w h => by have := ho w h; omega) a2 _ (Nat.le_refl _) _ rfl
  rw [List.take_length] at H
  obtain ⟨h1, h2, h3, h4, h5⟩ := H
  generalize shF m (m + gs.length) os.length S.1 os S.2 = F at *
  refine ⟨(e01.trans h1).mono ?_, h2, h3, h4, fun vals hv => ?_⟩
  · have := Nat.mul_le_mul_left (4 * os.length + 4) a3
    omega
  · obtain ⟨v1, v2⟩ := h5 vals hv
    have hX : numB (os.map (wb vals gs)) < 2 ^ os.length := by
      have := numB_lt (os.map (wb vals gs))
      rwa [List.length_map] at this
    have hs := a4 vals hv
    rw [ebs vals hv] at hs
    obtain ⟨s1, s2, _⟩ := sh_same hX hs
    rw [e01.wbs hv ho] at v1 v2
    rw [v1, v2, s1, s2]
    exact ⟨rfl, rfl⟩
/-! ### to the left -/
def lfS (m z : Nat) (s : List Gt × List Nat) (p : Nat × Nat) : List Gt × List Nat := chosenW m s.1 p.2 ((s.2.drop p.1 ++ List.replicate p.1 z).zip s.2)
def lfF (m z : Nat) (gs : List Gt) (os : List Nat) (ps : List (Nat × Nat)) : List Gt × List Nat := ps.foldl (lfS m z) (gs, os)
theorem lfF_ok {m z n : Nat} {gs : List Gt} {os : List Nat} {ps : List (Nat × Nat)} (hn : os.length = n) (hz : z < m + gs.length) (hzv : ∀ vals : List Bool, vals.length = m → wb vals gs z = false) (ho : ∀ w ∈ os, w < m + gs.length) (hp : ∀ p ∈ ps, p.1 ≤ n ∧ p.2 < m + gs.length) : ∀ i, i ≤ ps.length → ∀ s, s = lfF m z gs os (ps.take i) → Ext m gs s.1 ((3 * n + 1) * i) ∧ s.2.length = n ∧ (∀ w ∈ s.2, w < m + s.1.length) ∧
    ∀ vals : List Bool, vals.length = m → numB (s.2.map (wb vals s.1)) = numB (os.map (wb vals gs)) * 2 ^ amT (wb vals gs) (ps.take i) % 2 ^ n := by
  intro i
  induction i with
  | zero =>
    intro _ s e
    subst e
    refine ⟨Ext.refl.mono (Nat.zero_le _), hn, ho, fun vals hv => ?_⟩
    show numB (os.map (wb vals gs)) = numB (os.map (wb vals gs)) * 2 ^ 0 % 2 ^ n
    have := numB_lt (os.map (wb vals gs))
    rw [List.length_map, hn] at this
    rw [Nat.pow_zero, Nat.mul_one, Nat.mod_eq_of_lt this]
  | succ i ih =>
    intro hi s e
    obtain ⟨p, hpi⟩ : ∃ p, ps[i]? = some p := ⟨ps[i], List.getElem?_eq_getElem (by omega)⟩
    have es : lfF m z gs os (ps.take (i + 1)) = lfS m z (lfF m z gs os (ps.take i)) p := fold_take _ hpi _
    obtain ⟨h1, hl, h2, h3⟩ := ih (by omega) _ rfl
    rw [e, es]
    clear e es
    generalize lfF m z gs os (ps.take i) = s at *
    obtain ⟨q1, q2⟩ := hp p (List.mem_of_getElem? hpi)
    have l := h1.len
    have ld : (s.2.drop p.1).length = n - p.1 := by rw [List.length_drop]; omega
    have lx : (s.2.drop p.1 ++ List.replicate p.1 z).length = s.2.length := by rw [List.length_append, List.length_replicate, ld]; omega
    have hx : ∀ w ∈ s.2.drop p.1 ++ List.replicate p.1 z, w < m + s.1.length := fun w hw => by
      rcases List.mem_append.mp hw with y | y
      · exact h2 w (List.mem_of_mem_drop y)
      · rw [(List.mem_replicate.mp y).2]
        omega
    have C := chosenW_ok (m := m) (w := p.2) (gs := s.1) (ps := (s.2.drop p.1 ++ List.replicate p.1 z).zip s.2) (by omega) (fun q hq => ⟨hx _ (List.of_mem_zip hq).1, h2 _ (List.of_mem_zip hq).2⟩)
    have lz : ((s.2.drop p.1 ++ List.replicate p.1 z).zip s.2).length = n := by rw [List.length_zip, lx, hl]; omega
    rw [lz] at C
    have hs : lfS m z s p = chosenW m s.1 p.2 ((s.2.drop p.1 ++ List.replicate p.1 z).zip s.2) := rfl
    rw [hs]
    have lC : (chosenW m s.1 p.2 ((s.2.drop p.1 ++ List.replicate p.1 z).zip s.2)).2.length = n := by
      have := congrArg List.length (C.val (List.replicate m false) (by simp))
      rw [List.length_map, List.length_map, lz] at this
      exact this
    refine ⟨(h1.trans C.ext).mono (by rw [Nat.mul_succ]; omega), lC, C.lt, fun vals hv => ?_⟩
    have v1 := h3 vals hv
    rw [C.val vals hv, map_zipC _ _ _ _ lx]
    have eb : wb vals s.1 p.2 = wb vals gs p.2 := h1.wb hv q2
    have ez : wb vals s.1 z = false := (h1.wb hv hz).trans (hzv vals hv)
    have sa : amT (wb vals gs) (ps.take (i + 1)) = amT (wb vals gs) (ps.take i) + if wb vals gs p.2 = true then p.1 else 0 := by
      rw [List.take_add_one, hpi, amT_app]
      rfl
    have hbl : (s.2.map (wb vals s.1)).length = n := by rw [List.length_map, hl]
    rw [eb, List.map_append, List.map_replicate, ez, List.map_drop, sa]
    cases hb : wb vals gs p.2 with
    | false => simpa using v1
    | true =>
      rw [if_pos rfl, if_pos rfl]
      have := numB_shl (bs := s.2.map (wb vals s.1)) (k := p.1) (by omega)
      rw [hbl] at this
      rw [this, v1, Nat.mod_mul_mod, Nat.mul_assoc, ← Nat.pow_add]
def lefW (m : Nat) (gs : List Gt) (os bs : List Nat) : List Gt × List Nat := lfF m (m + gs.length) (shaW m (gs ++ [.fi 0]) os.length bs.reverse).1 os (shaW m (gs ++ [.fi 0]) os.length bs.reverse).2
theorem lefW_ok {m : Nat} {gs : List Gt} {os bs : List Nat} (ho : ∀ w ∈ os, w < m + gs.length) (hb : ∀ w ∈ bs, w < m + gs.length) : Ext m gs (lefW m gs os bs).1 ((3 * os.length + 1) * (bs.length + 1) + bs.length + 2) ∧ (lefW m gs os bs).2.length = os.length ∧ (∀ w ∈ (lefW m gs os bs).2, w < m + (lefW m gs os bs).1.length) ∧
    ∀ vals : List Bool, vals.length = m → numB ((lefW m gs os bs).2.map (wb vals (lefW m gs os bs).1)) = numB (os.map (wb vals gs)) * 2 ^ numB (bs.map (wb vals gs)) % 2 ^ os.length := by
  have e0 : Ext m gs (gs ++ [.fi 0]) 1 := .fixed (Nat.zero_le _)
  obtain ⟨a1, a2, a3, a4⟩ := shaW_ok (m := m) (n := os.length) (gs := gs ++ [.fi 0]) (ws := bs.reverse) (fun w h => lt1 (hb w (List.mem_reverse.mp h)))
  rw [List.length_reverse] at a1 a3
  unfold lefW
  have z0 : ∀ vals : List Bool, vals.length = m → wb vals (gs ++ [.fi 0]) (m + gs.length) = false := fun vals hv => by
    rw [wb_fixed (hv ▸ rfl)]
    rfl
  have ebs : ∀ vals : List Bool, vals.length = m → numB (bs.reverse.map (wb vals (gs ++ [.fi 0]))).reverse = numB (bs.map (wb vals gs)) := fun vals hv => by
    rw [List.map_reverse, List.reverse_reverse, e0.wbs hv hb]
  generalize shaW m (gs ++ [.fi 0]) os.length bs.reverse = S at *
  have la := a1.len
  have l0 : (gs ++ [Gt.fi 0]).length = gs.length + 1 := by simp
  have e01 := e0.trans a1
  have H := lfF_ok (m := m) (z := m + gs.length) (n := os.length) (gs := S.1) (os := os) (ps := S.2) rfl (by omega) (fun vals hv => (a1.wb hv len1).trans (z0 vals hv)) (fun w h => by have := ho w h; omega) a2 _ (Nat.le_refl _) _ rfl
  rw [List.take_length] at H
  obtain ⟨h1, h2, h3, h5⟩ := H
  generalize lfF m (m + gs.length) S.1 os S.2 = F at *
  refine ⟨(e01.trans h1).mono ?_, h2, h3, fun vals hv => ?_⟩
  · have := Nat.mul_le_mul_left (3 * os.length + 1) a3
    omega
  · have v1 := h5 vals hv
    have hX : numB (os.map (wb vals gs)) < 2 ^ os.length := by
      have := numB_lt (os.map (wb vals gs))
      rwa [List.length_map] at this
    have hs := a4 vals hv
    rw [ebs vals hv] at hs
    obtain ⟨_, _, s3⟩ := sh_same hX hs
    rw [e01.wbs hv ho] at v1
    rw [v1, s3]
section
variable {P : Program} {w : World} {K : PySem.W.Frag} {mg : Str → Option Value} {base : Heap}
variable {C : Addr} {a1 a2 a3 a4 a5 a6 a7 a8 a9 a10 a11 a12 a13 a14 a15 a16 a17 a18 a19 a20 a21 a22 a23 a24 a25 a26 a27 a28 a29 a30 a31 a32 a33 a34 : Addr} {l1 l2 l3 l4 l5 l6 l7 l8 l9 l10 l11 l12 l13 l14 l15 l16 l17 l18 l19 l20 l21 l22 l23 l24 l25 l26 l27 l28 l29 l30 l31 l32 l33 l34 : FuncData}
/-! ### wires of parts: the program's own -/
theorem at_nts {ws : List Nat} {a : Nat} (h : a < ws.length) : atI (nts ws) (a : Int) = some (.int ((ws.getD a 0 : Nat) : Int)) := atI_nat (by
  unfold nts
  rw [List.getElem?_map, List.getElem?_eq_getElem h]
  simp [List.getD, List.getElem?_eq_getElem h])
theorem cutN_to (ws : List Nat) (p : Nat) (h : p ≤ ws.length) : cutV (nts ws) none (some (p : Int)) = nts (ws.take p) := by
  unfold cutV nts
  rw [HT.sIx_none, HT.sIx_nat, List.drop_zero, List.length_map, Nat.sub_zero, Nat.min_eq_left h, List.map_take]
theorem cutN_from (ws : List Nat) (p : Nat) (h : p ≤ ws.length) : cutV (nts ws) (some (p : Int)) none = nts (ws.drop p) := by
  unfold cutV nts
  rw [HT.sIx_none, HT.sIx_nat, List.length_map, Nat.min_eq_left h, ← List.map_drop, List.take_of_length_le (by rw [List.length_map, List.length_drop]; exact Nat.le_refl _)]
theorem nts_app (a b : List Nat) : nts (a ++ b) = nts a ++ nts b := List.map_append
theorem big_lt {n : Nat} (h : n ≤ 500000) : n < sizeLine := Nat.lt_of_le_of_lt h (by decide)
theorem ks_none {S : List Addr} {H H' : Hp} (k : KeepS S H H') {a : Addr} (h : H' a = none) : H a = none := by
  cases e : H a with
  | none => rfl
  | some o => exact absurd h (k.2 a (some_ne e))
theorem ks_updN {S : List Addr} {H H' : Hp} (k : KeepS S H H') {D : Addr} {o : HO} (n : H D = none) : KeepS S H (upd H' D o) := ⟨fun y u e z => by
  rw [upd_ne (ne_of_none e n)]
  exact k.1 y u e z, fun y e => by
  rw [upd_ne (show y ≠ D from fun z => e (by rw [z]; exact n))]
  exact k.2 y e⟩
theorem NetAt.nin {C : Addr} {Z : List Addr} {H : Hp} {p : NetP} {m : Nat} {gs : List Gt} {nm : List (Str × List Nat)} (h : NetAt C Z H p m gs nm) {a : Addr} (n : H a = none) : a ∉ [p.lm, p.ld] := by
  obtain ⟨_, _, _, dx, ps, kvs, e1, e2, e3, _⟩ := h
  intro z
  rcases List.mem_cons.mp z with rfl | z
  · rw [e2] at n; cases n
  · rw [List.mem_singleton.mp z, e3] at n; cases n
theorem NetAt.add {C : Addr} {Z : List Addr} {H : Hp} {p : NetP} {m : Nat} {gs : List Gt} {nm : List (Str × List Nat)} {D : Addr} {o : HO} (h : NetAt C Z H p m gs nm) (n : H D = none) : NetAt C (D :: Z) (upd H D o) p m gs nm := by
  have k := same_upd (o := o) n
  obtain ⟨a, b, ⟨c1, c2, c3, c4⟩, dx, ps, kvs, e1, e2, e3, e4, ⟨g1, g2⟩, n1, n2, n3⟩ := h
  have ne : ∀ {y : Addr} {u : HO}, H y = some u → y ≠ D := fun e z => by rw [z, n] at e; cases e
  have ni : ∀ {y : Addr} {u : HO}, H y = some u → y ∉ Z → y ∉ D :: Z := fun e z y => by
    rcases List.mem_cons.mp y with w | w
    · exact ne e w
    · exact z w
  refine ⟨fun z hz => ?_, b, ⟨ni e1 c1, ni e2 c2, ni e3 c3, ni e4 c4⟩, dx, ps, kvs, k _ _ e1, k _ _ e2, k _ _ e3, k _ _ e4, ⟨g1, fun i q g hi hg => ?_⟩, n1, n2, fun i k' v n' ws hi hn => ?_⟩
  · rcases List.mem_cons.mp hz with w | w
    · rw [w, upd_same]
      exact fun z => nomatch z
    · exact (KeepS.ofSame (S := []) k).2 z (a z w)
  · have := g2 i q g hi hg
    exact ⟨ni this.2 this.1, k _ _ this.2⟩
  · obtain ⟨ek, l, ev, l1, l2, l3, l4⟩ := n3 i k' v n' ws hi hn
    exact ⟨ek, l, ev, ni l4 l1, l2, l3, k _ _ l4⟩
theorem NetAt.less {C : Addr} {Z : List Addr} {H : Hp} {p : NetP} {m : Nat} {gs : List Gt} {nm : List (Str × List Nat)} {D : Addr} (h : NetAt C (D :: Z) H p m gs nm) : NetAt C Z H p m gs nm := by
  obtain ⟨a, b, ⟨c1, c2, c3, c4⟩, dx, ps, kvs, e1, e2, e3, e4, ⟨g1, g2⟩, n1, n2, n3⟩ := h
  have ni : ∀ {y : Addr}, y ∉ D :: Z → y ∉ Z := fun z y => z (List.mem_cons_of_mem _ y)
  refine ⟨fun z hz => a z (List.mem_cons_of_mem _ hz), b, ⟨ni c1, ni c2, ni c3, ni c4⟩, dx, ps, kvs, e1, e2, e3, e4, ⟨g1, fun i q g hi hg => ?_⟩, n1, n2, fun i k' v n' ws hi hn => ?_⟩
  · have := g2 i q g hi hg
    exact ⟨ni this.1, this.2⟩
  · obtain ⟨ek, l, ev, l1, l2, l3, l4⟩ := n3 i k' v n' ws hi hn
    exact ⟨ek, l, ev, ni l1, l2, l3, l4⟩
theorem NetAt.put {C : Addr} {Z : List Addr} {H : Hp} {p : NetP} {m : Nat} {gs : List Gt} {nm : List (Str × List Nat)} {D : Addr} {o : HO} (h : NetAt C Z H p m gs nm) (hD : D ∈ Z) : NetAt C Z (upd H D o) p m gs nm := h.keep (S := [D]) (.upd (List.mem_singleton.mpr rfl)) (fun y hy => by rw [List.mem_singleton.mp hy]; exact hD)
theorem Sq2.keepS {t : Bool} {K : PySem.W.Frag} {S : List Addr} {a : Addr} {H H' : Hp} {xs : List V} (h : Sq2 t K H a xs) (e : KeepS S H H') (n : a ∉ S) : Sq2 t K H' a xs := by
  cases t
  · exact e.seq n h
  · exact e.seqT n h
theorem nts_zip {os ts : List Nat} {i : Nat} {x y : V} (hx : (nts os)[i]? = some x) (hy : (nts ts)[i]? = some y) : ∃ a b, (os.zip ts)[i]? = some (a, b) ∧ x = .int ((a : Nat) : Int) ∧ y = .int ((b : Nat) : Int) := by
  obtain ⟨a, ha, rfl⟩ := nts_at hx
  obtain ⟨b, hb, rfl⟩ := nts_at hy
  exact ⟨a, b, List.getElem?_zip_eq_some.mpr ⟨ha, hb⟩, rfl, rfl⟩
theorem Sq2.at {t : Bool} {K : PySem.W.Frag} {H : Hp} {a : Addr} {xs : List V} {i : Int} {v : V} {y : Str → Prop} {Q : VK} (h : Sq2 t K H a xs) (e : atI xs i = some v) (q : Q v H) : rIx K (.ref a) (.int i) H Q := by
  cases t
  · exact .inl ⟨a, xs, i, v, rfl, rfl, h, e, q⟩
  · exact .inr (.inl ⟨a, xs, i, v, rfl, rfl, h, e, q⟩)
/-! ### sums of wires, walked -/
theorem ks_drop {S : List Addr} {H H2 H9 : Hp} {R : Addr} (a : KeepS S H H2) (b : KeepS (R :: S) H2 H9) (n : H R = none) : KeepS S H H9 := ⟨fun y o e ny => b.1 y o (a.1 y o e ny) (fun z => by
  rcases List.mem_cons.mp z with z | z
  · rw [z, n] at e
    cases e
  · exact ny z), fun y e => b.2 y (a.2 y e)⟩
theorem nts_rev (ws : List Nat) : (nts ws).reverse = nts ws.reverse := List.map_reverse.symm
theorem ninR {R a : Addr} {S : List Addr} (h : a ∉ S) (n : a ≠ R) : a ∉ R :: S := fun z => by
  rcases List.mem_cons.mp z with z | z
  · exact n z
  · exact h z
def spSum (K : PySem.W.Frag) (C : Addr) : Sp := fun vs H Q _ => ∃ (Z : List Addr) (p : NetP) (m : Nat) (gs : List Gt) (nm : List (Str × List Nat)) (t u : Addr) (b1 b2 : Bool) (os ts : List Nat) (c : Nat), vs = [.ref p.x, .ref t, .ref u, .int (c : Int)] ∧ NetAt C Z H p m gs nm ∧ Sq2 b1 K H t (nts os) ∧ Sq2 b2 K H u (nts ts) ∧ os.length = ts.length ∧ (∀ w ∈ os, w < m + gs.length) ∧ (∀ w ∈ ts, w < m + gs.length) ∧ c < m + gs.length ∧ os.length ≤ 2000 ∧ m + gs.length ≤ 300000 ∧
  ∀ D H', KeepS [p.lm, p.ld] H H' → NetAt C Z H' p m (sumW m gs os ts c).1 nm → H D = none → H' D = some (.lst (nts (sumW m gs os ts c).2)) → Q (.ref D) H'
theorem ok_sum_wires (B : Bl mg) (L : LL K mg C a1 a2 a3 a4 a5 a6 a7 a8 a9 a10 a11 a12 a13 a14 a15 a16 a17 a18 a19 a20 a21 a22 a23 a24 a25 a26 a27 a28 a29 a30 a31 a32 a33 a34 l1 l2 l3 l4 l5 l6 l7 l8 l9 l10 l11 l12 l13 l14 l15 l16 l17 l18 l19 l20 l21 l22 l23 l24 l25 l26 l27 l28 l29 l30 l31 l32 l33 l34) : FnOk P w K mg base CX0 5 a1 l1 ["net", "ones", "others", "carry"] (spSum K C) := by
  have G_Net_unlike : FnOk P w K mg base CX0 4 a22 l22 ["self", "a", "b"] (spG2 C "unlike") := (ok_Net_unlike B L).mono (by decide)
  have G_Net_both : FnOk P w K mg base CX0 4 a20 l20 ["self", "a", "b"] (spG2 C "both") := (ok_Net_both B L).mono (by decide)
  have G_Net_either : FnOk P w K mg base CX0 4 a21 l21 ["self", "a", "b"] (spG2 C "either") := (ok_Net_either B L).mono (by decide)
  refine L.F_sum_wires.ok sc_sum_wires (fun vs H Q E h => ?_) (fun cdv A outer s H vs Q E hr h => ?_)
  · obtain ⟨Z, p, m, gs, nm, t, u, b1, b2, os, ts, c, rfl, _⟩ := h
    rfl
  obtain ⟨Z, p, m, gs, nm, t, u, b1, b2, os, ts, c, rfl, hN, hT, hU, hlen, ho, hs, hc, hl, hl2, q⟩ := h
  refine ⟨_, (pss_cons (ps_set (i := 4) sc_sum_wires.nd rfl (.inl rfl) (pe_lst pa_nil))
    (pss_cons (ps_for PassesOwn.never rfl (pi_zb (by rfl) B.zip (pa_cons (pe_revS (pv 1)) (pa_cons (pe_revS (pv 2)) pa_nil))) (pg_tup (by rfl) (pgs_cons (pg_name (i := 5) sc_sum_wires.nd rfl (.inl rfl)) (pgs_cons (pg_name (i := 6) sc_sum_wires.nd rfl (.inl rfl)) pgs_nil))) (pss_cons (ps_set (i := 7) sc_sum_wires.nd rfl (.inl rfl) (pe_meth (pv 0) L.T.cl L.M_Net_unlike G_Net_unlike hr L.b_Net_unlike .nil pass0 (pa_cons (pv 5) (pa_cons (pv 6) pa_nil))))
    (pss_cons (ps_expr (pe_bm PySem.F.plainAttrs_list PySem.F.slot_list_append PySem.F.type_list_append mt_append (pv 4) (pa_cons (pe_meth (pv 0) L.T.cl L.M_Net_unlike G_Net_unlike hr L.b_Net_unlike .nil pass0 (pa_cons (pv 7) (pa_cons (pv 3) pa_nil))) pa_nil)))
    (pss_one (ps_set (i := 3) sc_sum_wires.nd rfl (.inl rfl) (pe_meth (pv 0) L.T.cl L.M_Net_either G_Net_either hr L.b_Net_either .nil pass0 (pa_cons (pe_meth (pv 0) L.T.cl L.M_Net_both G_Net_both hr L.b_Net_both .nil pass0 (pa_cons (pv 5) (pa_cons (pv 6) pa_nil))) (pa_cons (pe_meth (pv 0) L.T.cl L.M_Net_both G_Net_both hr L.b_Net_both .nil pass0 (pa_cons (pv 7) (pa_cons (pv 3) pa_nil))) pa_nil))))))))
    (pss_one (ps_ret (pe_lst (pa_cons (pv 3) (StX.pa_star (pe_revL (pv 4)) pa_nil))))))), ?_⟩
  refine ⟨Nat.zero_le _, fun R nR => ?_⟩
  have nR2 := hN.nin nR
  have N0 := hN.add (o := .lst []) nR
  have k0 : KeepS [p.lm, p.ld] H (upd H R (.lst [])) := KeepS.new nR
  have eR0 : (upd H R (.lst [])) R = some (.lst []) := upd_same
  have hT0 := hT.keepS (S := []) (KeepS.new (o := .lst []) nR) (fun z => nomatch z)
  have hU0 := hU.keepS (S := []) (KeepS.new (o := .lst []) nR) (fun z => nomatch z)
  generalize upd H R (.lst []) = H0 at *
  try simp only [L2.start, List.map_cons, List.map_nil, List.length_cons, List.length_nil, List.replicate_succ, List.replicate_zero, List.cons_append, List.nil_append, List.set_cons_succ, List.set_cons_zero, Nat.reduceAdd, Nat.reduceSub, Nat.zero_add]
  dsimp only [gName]
  try simp only [L2.start, List.map_cons, List.map_nil, List.length_cons, List.length_nil, List.replicate_succ, List.replicate_zero, List.cons_append, List.nil_append, List.set_cons_succ, List.set_cons_zero, Nat.reduceAdd, Nat.reduceSub, Nat.zero_add]
  refine ⟨_, rfl, b1, t, _, rfl, hT0, fun A1 nA1 => ?_⟩
  rw [nts_rev]
  have sA1 := same_upd (o := sqO b1 (nts os.reverse)) nA1
  have eA1 : Sq2 b1 K (upd H0 A1 (sqO b1 (nts os.reverse))) A1 (nts os.reverse) := Sq2.new
  have nA12 := N0.nin nA1
  have nA1R : A1 ≠ R := fun z => by rw [z, eR0] at nA1; cases nA1
  have N1 := N0.same sA1
  have hU1 := hU0.keepS (S := []) (.ofSame sA1) (fun z => nomatch z)
  have eR1 := sA1 _ _ eR0
  have k1 := k0.trans (.ofSame sA1)
  generalize upd H0 A1 (sqO b1 (nts os.reverse)) = H1 at *
  refine ⟨_, rfl, b2, u, _, rfl, hU1, fun A2 nA2 => ?_⟩
  rw [nts_rev]
  have sA2 := same_upd (o := sqO b2 (nts ts.reverse)) nA2
  have eA2 : Sq2 b2 K (upd H1 A2 (sqO b2 (nts ts.reverse))) A2 (nts ts.reverse) := Sq2.new
  have nA22 := N1.nin nA2
  have nA2R : A2 ≠ R := fun z => by rw [z, eR1] at nA2; cases nA2
  have N2 := N1.same sA2
  have eA1' := eA1.keepS (S := []) (.ofSame sA2) (fun z => nomatch z)
  have eR2 := sA2 _ _ eR1
  have k2 := k1.trans (.ofSame sA2)
  generalize upd H1 A2 (sqO b2 (nts ts.reverse)) = H2 at *
  refine ⟨b1, b2, A1, A2, _, _, rfl, eA1', eA2, ?_⟩
  have hF := fun i hi => sumF_ok (m := m) (gs := gs) (ps := os.reverse.zip ts.reverse) (c := c) (fun p hp => ⟨ho _ (mem_zipR hp).1, hs _ (mem_zipR hp).2⟩) hc i hi _ rfl
  have lz := zipR_len hlen
  rw [lz] at hF
  refine for_it (walk_zb (K := K) (t1 := b1) (t2 := b2) (a := A1) (b := A2) (xs := nts os.reverse) (ys := nts ts.reverse) (n := os.length) (by rw [nts_len, List.length_reverse]) (by rw [nts_len, List.length_reverse, hlen])) (fun j σ H9 => ∃ y5 y6 y7 : Option V, σ = [some (.ref p.x), some (.ref t), some (.ref u), some (.int ((sumF m gs ((os.reverse.zip ts.reverse).take j) c).2.2 : Nat)), some (.ref R), y5, y6, y7] ∧ KeepS [R, p.lm, p.ld] H2 H9 ∧ NetAt C (R :: Z) H9 p m (sumF m gs ((os.reverse.zip ts.reverse).take j) c).1 nm ∧ H9 R = some (.lst (nts (sumF m gs ((os.reverse.zip ts.reverse).take j) c).2.1))) ⟨_, _, _, rfl, KeepS.refl _ _, N2, eR2⟩ (fun j σ H9 _ ⟨_, _, _, _, k9, _⟩ => ⟨eA1'.keepS k9 (ninR nA12 nA1R), eA2.keepS k9 (ninR nA22 nA2R)⟩) ?_ ?_
  · rintro j v σ H9 H10 hj ⟨y5, y6, y7, rfl, k9, N9, eR⟩ ⟨T, x, y, rfl, nT, rfl, hx, hy⟩
    obtain ⟨a, b, hab, rfl, rfl⟩ := nts_zip hx hy
    have hp := List.mem_of_getElem? hab
    have la := ho _ (mem_zipR hp).1
    have lb := hs _ (mem_zipR hp).2
    have estep : sumF m gs ((os.reverse.zip ts.reverse).take (j + 1)) c = suS m (sumF m gs ((os.reverse.zip ts.reverse).take j) c) (a, b) := fold_take _ hab _
    rw [estep]
    obtain ⟨_, lg, lt', _, l4, _⟩ := hF j (by omega)
    generalize sumF m gs ((os.reverse.zip ts.reverse).take j) c = S at *
    have sT := same_upd (o := .tup [.int (a : Int), .int (b : Int)]) nT
    have N10 := N9.same sT
    have eT : (upd H9 T (.tup [.int (a : Int), .int (b : Int)])) T = some (.tup [.int (a : Int), .int (b : Int)]) := upd_same
    have eR10 := sT _ _ eR
    have k10 := k9.trans (.ofSame sT)
    generalize upd H9 T (.tup [.int (a : Int), .int (b : Int)]) = H10 at *
    refine ⟨T, _, rfl, .inl (.inl eT), rfl, _, _, rfl, _, _, rfl, rfl, ?_⟩
    try simp only [L2.start, List.map_cons, List.map_nil, List.length_cons, List.length_nil, List.replicate_succ, List.replicate_zero, List.cons_append, List.nil_append, List.set_cons_succ, List.set_cons_zero, Nat.reduceAdd, Nat.reduceSub, Nat.zero_add]
    obtain ⟨_, _, _, dx2, _, _, f1, _⟩ := id N10
    refine ⟨_, rfl, p.x, dx2, _, rfl, f1, rfl, _, rfl, _, rfl, R :: Z, p, m, S.1, nm, a, b, rfl, N10, by omega, by omega, by omega, fun H3 k3 N3 => ?_⟩
    have l1 : (S.1 ++ [Gt.w "unlike" [a, b]]).length = S.1.length + 1 := by simp
    have eR3 := k3.1 _ _ eR10 nR2
    dsimp only [gName]
    try simp only [L2.start, List.map_cons, List.map_nil, List.length_cons, List.length_nil, List.replicate_succ, List.replicate_zero, List.cons_append, List.nil_append, List.set_cons_succ, List.set_cons_zero, Nat.reduceAdd, Nat.reduceSub, Nat.zero_add]
    obtain ⟨_, _, _, dx3, _, _, f3, _⟩ := id N3
    refine ⟨_, rfl, .inl ⟨rfl, _, SqL.of eR3⟩, _, rfl, p.x, dx3, _, rfl, f3, rfl, _, rfl, _, rfl, R :: Z, p, m, _, nm, m + S.1.length, S.2.2, rfl, N3, by omega, by omega, by omega, fun H4 k4 N4 => ?_⟩
    have l2 : (S.1 ++ [Gt.w "unlike" [a, b]] ++ [Gt.w "unlike" [m + S.1.length, S.2.2]]).length = S.1.length + 2 := by simp
    have eR4 := k4.1 _ _ eR3 nR2
    have k34 := k3.trans k4
    refine ⟨R, _, _, rfl, rfl, eR4, by rw [nts_len]; exact big_lt (by omega), ?_⟩
    have N5 := N4.put (D := R) (o := .lst (nts S.2.1 ++ [.int ((m + (S.1 ++ [Gt.w "unlike" [a, b]]).length : Nat) : Int)])) (by simp)
    have k5 : KeepS [R, p.lm, p.ld] H2 (upd H4 R (.lst (nts S.2.1 ++ [.int ((m + (S.1 ++ [Gt.w "unlike" [a, b]]).length : Nat) : Int)]))) := (k10.trans (k34.mono fun y hy => List.mem_cons_of_mem _ hy)).trans (KeepS.upd (by simp))
    have eR5 : (upd H4 R (.lst (nts S.2.1 ++ [.int ((m + (S.1 ++ [Gt.w "unlike" [a, b]]).length : Nat) : Int)]))) R = some (.lst (nts (S.2.1 ++ [m + (S.1 ++ [Gt.w "unlike" [a, b]]).length]))) := by
      rw [upd_same, nts_app]
      rfl
    generalize upd H4 R (.lst (nts S.2.1 ++ [.int ((m + (S.1 ++ [Gt.w "unlike" [a, b]]).length : Nat) : Int)])) = H5 at *
    obtain ⟨_, _, _, dx5, _, _, f5, _⟩ := id N5
    refine ⟨_, rfl, p.x, dx5, _, rfl, f5, rfl, ?_⟩
    refine ⟨_, rfl, p.x, dx5, _, rfl, f5, rfl, _, rfl, _, rfl, R :: Z, p, m, _, nm, a, b, rfl, N5, by omega, by omega, by omega, fun H6 k6 N6 => ?_⟩
    have l3 : (S.1 ++ [Gt.w "unlike" [a, b]] ++ [Gt.w "unlike" [m + S.1.length, S.2.2]] ++ [Gt.w "both" [a, b]]).length = S.1.length + 3 := by simp
    obtain ⟨_, _, _, dx6, _, _, f6, _⟩ := id N6
    refine ⟨_, rfl, p.x, dx6, _, rfl, f6, rfl, _, rfl, _, rfl, R :: Z, p, m, _, nm, m + S.1.length, S.2.2, rfl, N6, by omega, by omega, by omega, fun H7 k7 N7 => ?_⟩
    have l4' : (S.1 ++ [Gt.w "unlike" [a, b]] ++ [Gt.w "unlike" [m + S.1.length, S.2.2]] ++ [Gt.w "both" [a, b]] ++ [Gt.w "both" [m + S.1.length, S.2.2]]).length = S.1.length + 4 := by simp
    refine ⟨R :: Z, p, m, _, nm, _, _, rfl, N7, by omega, by omega, by omega, fun H8 k8 N8 => ?_⟩
    have k68 := (k6.trans k7).trans k8
    exact ⟨_, _, _, rfl, k5.trans (k68.mono fun y hy => List.mem_cons_of_mem _ hy), N8, k68.1 _ _ eR5 nR2⟩
  · rintro σ H9 ⟨y5, y6, y7, rfl, k9, N9, eR⟩
    rw [← lz, List.take_length] at N9 eR
    have eW : sumW m gs os ts c = ((sumF m gs (os.reverse.zip ts.reverse) c).1, (sumF m gs (os.reverse.zip ts.reverse) c).2.2 :: (sumF m gs (os.reverse.zip ts.reverse) c).2.1.reverse) := rfl
    have hF' := hF _ (Nat.le_refl _)
    rw [← lz, List.take_length] at hF' ⊢
    rw [eW] at q
    obtain ⟨_, _, lt', _, _, _⟩ := hF'
    generalize sumF m gs (os.reverse.zip ts.reverse) c = S at *
    dsimp only at q
    try simp only [L2.start, List.map_cons, List.map_nil, List.length_cons, List.length_nil, List.replicate_succ, List.replicate_zero, List.cons_append, List.nil_append, List.set_cons_succ, List.set_cons_zero, Nat.reduceAdd, Nat.reduceSub, Nat.zero_add]
    refine ⟨_, rfl, _, rfl, R, _, rfl, SqL.of eR, fun B nB => ?_⟩
    rw [nts_rev]
    have sB := same_upd (o := .lst (nts S.2.1.reverse)) nB
    have eB : (upd H9 B (.lst (nts S.2.1.reverse))) B = some (.lst (nts S.2.1.reverse)) := upd_same
    generalize upd H9 B (.lst (nts S.2.1.reverse)) = H10 at *
    refine ⟨B, _, rfl, .inr (SqL.of eB), ?_⟩
    have k9' := ks_drop k2 k9 nR
    refine ⟨by
      rw [List.append_nil, List.length_cons, nts_len, List.length_reverse]
      exact Nat.le_of_lt (big_lt (by omega)), fun D nD => ?_⟩
    rw [List.append_nil]
    have sD := same_upd (o := .lst (.int (S.2.2 : Int) :: nts S.2.1.reverse)) nD
    exact q D _ (k9'.trans (.ofSame (sB.trans sD))) (N9.less.same (sB.trans sD)) (ks_none (k9'.trans (.ofSame sB)) nD) upd_same
def spAny (K : PySem.W.Frag) (C : Addr) : Sp := fun vs H Q _ => ∃ (Z : List Addr) (p : NetP) (m : Nat) (gs : List Gt) (nm : List (Str × List Nat)) (t : Addr) (ws : List Nat), vs = [.ref p.x, .ref t] ∧ NetAt C Z H p m gs nm ∧ SqL K H t (nts ws) ∧ t ∉ [p.lm, p.ld] ∧ (∀ w ∈ ws, w < m + gs.length) ∧ m + gs.length + ws.length ≤ 400000 ∧
  ∀ H', KeepS [p.lm, p.ld] H H' → NetAt C Z H' p m (anyW m gs ws).1 nm → Q (.int ((anyW m gs ws).2 : Nat)) H'
theorem ok_any_wire (B : Bl mg) (L : LL K mg C a1 a2 a3 a4 a5 a6 a7 a8 a9 a10 a11 a12 a13 a14 a15 a16 a17 a18 a19 a20 a21 a22 a23 a24 a25 a26 a27 a28 a29 a30 a31 a32 a33 a34 l1 l2 l3 l4 l5 l6 l7 l8 l9 l10 l11 l12 l13 l14 l15 l16 l17 l18 l19 l20 l21 l22 l23 l24 l25 l26 l27 l28 l29 l30 l31 l32 l33 l34) : FnOk P w K mg base CX0 5 a5 l5 ["net", "wires"] (spAny K C) := by
  have G_Net_fixed : FnOk P w K mg base CX0 4 a24 l24 ["self", "bit"] (spFixed C) := (ok_Net_fixed B L).mono (by decide)
  have G_Net_either : FnOk P w K mg base CX0 4 a21 l21 ["self", "a", "b"] (spG2 C "either") := (ok_Net_either B L).mono (by decide)
  refine L.F_any_wire.ok sc_any_wire (fun vs H Q E h => ?_) (fun cdv A outer s H vs Q E hr h => ?_)
  · obtain ⟨Z, p, m, gs, nm, t, ws, rfl, _⟩ := h
    rfl
  obtain ⟨Z, p, m, gs, nm, t, ws, rfl, hN, hT, nt, hw, hl, q⟩ := h
  refine ⟨_, (pss_cons (ps_if (pt_cmpR op_eq (pe_callB call_len_seq (by rfl) B.len PySem.boot_len (pa_cons (pv 1) pa_nil)) pe_int (nomark _)) (pss_one (ps_ret (pe_meth (pv 0) L.T.cl L.M_Net_fixed G_Net_fixed hr L.b_Net_fixed .nil pass0 (pa_cons pe_int pa_nil)))) pss_nil)
    (pss_cons (ps_set (i := 2) sc_any_wire.nd rfl (.inl rfl) (pe_ix ix_list (pv 1) pe_int (fun _ _ => rfl)))
    (pss_cons (ps_for PassesOwn.never rfl (pi_list (pe_slice sl_list (pv 1) (po_some pe_int) po_none)) (pg_name (i := 3) sc_any_wire.nd rfl (.inl rfl)) (pss_one (ps_set (i := 2) sc_any_wire.nd rfl (.inl rfl) (pe_meth (pv 0) L.T.cl L.M_Net_either G_Net_either hr L.b_Net_either .nil pass0 (pa_cons (pv 2) (pa_cons (pv 3) pa_nil))))))
    (pss_one (ps_ret (pv 2)))))), ?_⟩
  obtain ⟨_, _, _, dx, _, _, e1, _⟩ := id hN
  refine ⟨_, rfl, t, _, rfl, .inl hT, rfl, _, rfl, ?_⟩
  cases ws with
  | nil =>
    refine iteT ?_
    exact ⟨_, rfl, p.x, dx, _, rfl, e1, rfl, Z, p, m, gs, nm, 0, rfl, hN, by omega, fun H' k N' => q H' k N'⟩
  | cons w ws =>
    refine iteF ?_
    dsimp only [tNext]
    refine ⟨_, rfl, t, _, _, _, rfl, rfl, hT, atI_nat (j := 0) rfl, ?_⟩
    try simp only [L2.start, List.map_cons, List.map_nil, List.length_cons, List.length_nil, List.replicate_succ, List.replicate_zero, List.cons_append, List.nil_append, List.set_cons_succ, List.set_cons_zero, Nat.reduceAdd, Nat.reduceSub, Nat.zero_add]
    dsimp only [gName]
    try simp only [L2.start, List.map_cons, List.map_nil, List.length_cons, List.length_nil, List.replicate_succ, List.replicate_zero, List.cons_append, List.nil_append, List.set_cons_succ, List.set_cons_zero, Nat.reduceAdd, Nat.reduceSub, Nat.zero_add]
    refine ⟨_, rfl, _, rfl, t, _, rfl, hT, fun u nu => ?_⟩
    rw [show cutV (nts (w :: ws)) (some 1) none = nts ws from cutN_from (w :: ws) 1 (by rw [List.length_cons]; omega)]
    have su := same_upd (o := .lst (nts ws)) nu
    have nU := hN.nin nu
    have N1 := hN.same su
    have eu : (upd H u (.lst (nts ws))) u = some (.lst (nts ws)) := upd_same
    generalize upd H u (.lst (nts ws)) = H1 at *
    refine ⟨u, rfl, ⟨_, SqL.of eu⟩, ?_⟩
    refine for_it (walk_list (K := K) (a := u) (xs := nts ws)) (fun j σ H9 => ∃ y : Option V, σ = [some (.ref p.x), some (.ref t), some (.int ((anyW m gs (w :: ws.take j)).2 : Nat)), y] ∧ KeepS [p.lm, p.ld] H1 H9 ∧ NetAt C Z H9 p m (anyW m gs (w :: ws.take j)).1 nm) ⟨_, rfl, KeepS.refl _ _, N1⟩ (fun j σ H9 _ ⟨_, _, k9, _⟩ => k9.seq nU (SqL.of eu)) ?_ ?_
    · rintro j v σ H9 H10 hj ⟨y, rfl, k9, N9⟩ ⟨rfl, hz⟩
      obtain ⟨a, ha, rfl⟩ := nts_at hz
      have A := anyW_ok (m := m) (gs := gs) (ws := w :: ws.take j) (fun x hx => by
        rcases List.mem_cons.mp hx with z | z
        · exact hw x (by rw [z]; simp)
        · exact hw x (List.mem_cons_of_mem _ (List.mem_of_mem_take z)))
      have lA := A.ext.len
      have ltA := A.lt
      have la := hw a (List.mem_cons_of_mem _ (List.mem_of_getElem? ha))
      have lt' : (ws.take j).length ≤ ws.length := by rw [List.length_take]; exact Nat.min_le_right _ _
      simp only [List.length_cons] at lA hl
      have estep : anyW m gs (w :: ws.take (j + 1)) = ((anyW m gs (w :: ws.take j)).1 ++ [.w "either" [(anyW m gs (w :: ws.take j)).2, a]], m + (anyW m gs (w :: ws.take j)).1.length) := fold_take _ ha (gs, w)
      generalize anyW m gs (w :: ws.take j) = S at *
      obtain ⟨_, _, _, dx9, _, _, f1, _⟩ := id N9
      dsimp only [gName]
      try simp only [L2.start, List.map_cons, List.map_nil, List.length_cons, List.length_nil, List.replicate_succ, List.replicate_zero, List.cons_append, List.nil_append, List.set_cons_succ, List.set_cons_zero, Nat.reduceAdd, Nat.reduceSub, Nat.zero_add]
      refine ⟨_, rfl, p.x, dx9, _, rfl, f1, rfl, _, rfl, _, rfl, Z, p, m, S.1, nm, S.2, a, rfl, N9, ltA, by omega, by omega, fun H' k' N' => ?_⟩
      refine ⟨some (.int (a : Int)), ?_, k9.trans k', ?_⟩
      · rw [estep]
        rfl
      · rw [estep]
        exact N'
    · rintro σ H9 ⟨y, rfl, k9, N9⟩
      rw [nts_len, List.take_of_length_le (Nat.le_refl _)] at N9 ⊢
      exact ⟨_, rfl, q H9 ((KeepS.ofSame su).trans k9) N9⟩
def spChosen (K : PySem.W.Frag) (C : Addr) : Sp := fun vs H Q _ => ∃ (Z : List Addr) (p : NetP) (m : Nat) (gs : List Gt) (nm : List (Str × List Nat)) (t u : Addr) (w : Nat) (os ts : List Nat) (b1 b2 : Bool), vs = [.ref p.x, .int (w : Int), .ref t, .ref u] ∧ NetAt C Z H p m gs nm ∧ Sq2 b1 K H t (nts os) ∧ Sq2 b2 K H u (nts ts) ∧ t ∉ [p.lm, p.ld] ∧ u ∉ [p.lm, p.ld] ∧ os.length = ts.length ∧ w < m + gs.length ∧ (∀ w ∈ os, w < m + gs.length) ∧ (∀ w ∈ ts, w < m + gs.length) ∧ m + gs.length + 3 * os.length ≤ 400000 ∧
  ∀ D H', KeepS [p.lm, p.ld] H H' → NetAt C Z H' p m (chosenW m gs w (os.zip ts)).1 nm → H D = none → H' D = some (.lst (nts (chosenW m gs w (os.zip ts)).2)) → Q (.ref D) H'
theorem ok_chosen_wires (B : Bl mg) (L : LL K mg C a1 a2 a3 a4 a5 a6 a7 a8 a9 a10 a11 a12 a13 a14 a15 a16 a17 a18 a19 a20 a21 a22 a23 a24 a25 a26 a27 a28 a29 a30 a31 a32 a33 a34 l1 l2 l3 l4 l5 l6 l7 l8 l9 l10 l11 l12 l13 l14 l15 l16 l17 l18 l19 l20 l21 l22 l23 l24 l25 l26 l27 l28 l29 l30 l31 l32 l33 l34) : FnOk P w K mg base CX0 5 a9 l9 ["net", "wire", "ones", "others"] (spChosen K C) := by
  have G_Net_other : FnOk P w K mg base CX0 4 a23 l23 ["self", "a"] (spG1 C) := (ok_Net_other B L).mono (by decide)
  have G_Net_either : FnOk P w K mg base CX0 4 a21 l21 ["self", "a", "b"] (spG2 C "either") := (ok_Net_either B L).mono (by decide)
  have G_Net_both : FnOk P w K mg base CX0 4 a20 l20 ["self", "a", "b"] (spG2 C "both") := (ok_Net_both B L).mono (by decide)
  refine L.F_chosen_wires.ok sc_chosen_wires (fun vs H Q E h => ?_) (fun cdv A outer s H vs Q E hr h => ?_)
  · obtain ⟨Z, p, m, gs, nm, t, u, w, os, ts, b1, b2, rfl, _⟩ := h
    rfl
  obtain ⟨Z, p, m, gs, nm, t, u, w, os, ts, b1, b2, rfl, hN, hT, hU, nt, nu, hlen, hw, ho, hs, hl, q⟩ := h
  refine ⟨_, (pss_cons (ps_set (i := 4) sc_chosen_wires.nd rfl (.inr rfl) (pe_meth (pv 0) L.T.cl L.M_Net_other G_Net_other hr L.b_Net_other .nil pass0 (pa_cons (pv 1) pa_nil)))
    (pss_one (ps_ret (pe_lc (own := [("one", 5), ("other", 6)]) (g := gTup K 2 (gCons (gName 5) (gCons (gName 6) gNil))) (by rfl) sc_chosen_wires.nd (pi_zb (by rfl) B.zip (pa_cons (pv 2) (pa_cons (pv 3) pa_nil))) (blkOk_by (own := [("one", 5), ("other", 6)]) (N := ["net", "wire", "ones", "others", "stays", "one", "other"]) (sc := defScope s_chosen_wires) (by decide +kernel)) (fun _ _ _ _ _ => pg_tup rfl (pgs_cons (pg_name (i := 5) sc_chosen_wires.nd rfl (Or.inl rfl) (.inr rfl)) (pgs_cons (pg_name (i := 6) sc_chosen_wires.nd rfl (Or.inl rfl) (.inr rfl)) pgs_nil))) (fun _ _ _ _ _ => pts_nil) (fun _ _ _ _ _ => (pe_meth (pv 0) L.T.cl L.M_Net_either G_Net_either hr L.b_Net_either .nil pass0 (pa_cons (pe_meth (pv 0) L.T.cl L.M_Net_both G_Net_both hr L.b_Net_both .nil pass0 (pa_cons (pv 1) (pa_cons (pv 5) pa_nil))) (pa_cons (pe_meth (pv 0) L.T.cl L.M_Net_both G_Net_both hr L.b_Net_both .nil pass0 (pa_cons (pv 4) (pa_cons (pv 6) pa_nil))) pa_nil)))))))), ?_⟩
  obtain ⟨_, _, _, dx, _, _, e1, _⟩ := id hN
  refine ⟨_, rfl, p.x, dx, _, rfl, e1, rfl, _, rfl, Z, p, m, gs, nm, w, rfl, hN, hw, by omega, fun H1 k1 N1 => ?_⟩
  try simp only [L2.start, List.map_cons, List.map_nil, List.length_cons, List.length_nil, List.replicate_succ, List.replicate_zero, List.cons_append, List.nil_append, List.set_cons_succ, List.set_cons_zero, Nat.reduceAdd, Nat.reduceSub, Nat.zero_add]
  dsimp only [gName]
  try simp only [L2.start, List.map_cons, List.map_nil, List.length_cons, List.length_nil, List.replicate_succ, List.replicate_zero, List.cons_append, List.nil_append, List.set_cons_succ, List.set_cons_zero, Nat.reduceAdd, Nat.reduceSub, Nat.zero_add]
  refine ⟨_, rfl, _, rfl, b1, b2, t, u, _, _, rfl, hT.keepS k1 nt, hU.keepS k1 nu, fun D nD => ?_⟩
  have nD1 := N1.nin nD
  have N2 := N1.add (o := .lst []) nD
  refine lc_it (walk_zb (K := K) (t1 := b1) (t2 := b2) (a := t) (b := u) (xs := nts os) (ys := nts ts) (n := os.length) (nts_len os) (by rw [nts_len, hlen])) (fun j H9 => KeepS [p.lm, p.ld] H1 H9 ∧ NetAt C (D :: Z) H9 p m (((os.zip ts).take j).foldl (chS m w (m + gs.length)) (gs ++ [Gt.w "other" [w]], [])).1 nm ∧ H9 D = some (.lst (nts (((os.zip ts).take j).foldl (chS m w (m + gs.length)) (gs ++ [Gt.w "other" [w]], [])).2))) ⟨KeepS.new nD, N2, upd_same⟩ (fun j H9 _ ⟨k9, _⟩ => ⟨(hT.keepS k1 nt).keepS k9 nt, (hU.keepS k1 nu).keepS k9 nu⟩) ?_ ?_
  · rintro j v H9 H10 hj ⟨k9, N9, eD⟩ ⟨T, x, y, rfl, nT, rfl, hx, hy⟩
    obtain ⟨a, b, hab, rfl, rfl⟩ := nts_zip hx hy
    have sT := same_upd (o := .tup [.int (a : Int), .int (b : Int)]) nT
    have N10 := N9.same sT
    have hp := List.mem_of_getElem? hab
    have la := ho _ (List.of_mem_zip hp).1
    have lb := hs _ (List.of_mem_zip hp).2
    have W := chosenW_ok (m := m) (w := w) (gs := gs) (ps := (os.zip ts).take j) hw (fun p hp => ⟨ho _ (List.of_mem_zip (List.mem_of_mem_take hp)).1, hs _ (List.of_mem_zip (List.mem_of_mem_take hp)).2⟩)
    have lW := W.ext.len
    have lz : ((os.zip ts).take j).length ≤ os.length := by
      rw [List.length_take, List.length_zip]
      omega
    have st : m + gs.length < m + (chosenW m gs w ((os.zip ts).take j)).1.length := by
      have := chW_len m w (m + gs.length) ((os.zip ts).take j) (gs ++ [Gt.w "other" [w]], [])
      simp only [List.length_append, List.length_singleton] at this
      unfold chosenW
      omega
    have wlt : w < m + (chosenW m gs w ((os.zip ts).take j)).1.length := by omega
    have estep : ((os.zip ts).take (j + 1)).foldl (chS m w (m + gs.length)) (gs ++ [Gt.w "other" [w]], []) = chS m w (m + gs.length) (chosenW m gs w ((os.zip ts).take j)) (a, b) := fold_take _ hab _
    have eS : ((os.zip ts).take j).foldl (chS m w (m + gs.length)) (gs ++ [Gt.w "other" [w]], []) = chosenW m gs w ((os.zip ts).take j) := rfl
    rw [eS] at N10 eD
    rw [estep]
    have nw := W.lt
    generalize chosenW m gs w ((os.zip ts).take j) = S at *
    have eD10 := sT _ _ eD
    refine ⟨T, _, rfl, .inl (.inl upd_same), rfl, _, _, rfl, _, _, rfl, rfl, rfl, ?_⟩
    refine yesT ?_
    try simp only [L2.start, List.map_cons, List.map_nil, List.length_cons, List.length_nil, List.replicate_succ, List.replicate_zero, List.cons_append, List.nil_append, List.set_cons_succ, List.set_cons_zero, Nat.reduceAdd, Nat.reduceSub, Nat.zero_add]
    obtain ⟨_, _, _, dx2, _, _, f1, _⟩ := id N10
    refine ⟨_, rfl, p.x, dx2, _, rfl, f1, rfl, ?_⟩
    refine ⟨_, rfl, p.x, dx2, _, rfl, f1, rfl, _, rfl, _, rfl, D :: Z, p, m, S.1, nm, w, a, rfl, N10, wlt, by omega, by omega, fun H3 k3 N3 => ?_⟩
    have l0 := len1 (m := m) (gs := S.1) (g := Gt.w "both" [w, a])
    obtain ⟨_, _, _, dx3, _, _, f3, _⟩ := id N3
    have lS1 : (S.1 ++ [Gt.w "both" [w, a]]).length = S.1.length + 1 := by simp
    refine ⟨_, rfl, p.x, dx3, _, rfl, f3, rfl, _, rfl, _, rfl, D :: Z, p, m, _, nm, m + gs.length, b, rfl, N3, by omega, by omega, by omega, fun H4 k4 N4 => ?_⟩
    have lS2 : (S.1 ++ [Gt.w "both" [w, a]] ++ [Gt.w "both" [m + gs.length, b]]).length = S.1.length + 2 := by simp
    refine ⟨D :: Z, p, m, _, nm, _, _, rfl, N4, by omega, by omega, by omega, fun H5 k5 N5 => ?_⟩
    have kk : KeepS [p.lm, p.ld] H9 H5 := (((KeepS.ofSame sT).trans k3).trans k4).trans k5
    have eD5 := kk.1 _ _ eD nD1
    have lS : S.2.length ≤ 3 * os.length + 1 := by
      have := congrArg List.length (W.val (List.replicate m false) (by simp))
      rw [List.length_map, List.length_map] at this
      omega
    refine ⟨_, eD5, by rw [nts_len]; exact big_lt (by omega), ks_updN (k9.trans kk) nD, N5.put (by simp), ?_⟩
    rw [upd_same]
    show _ = some (HO.lst (nts (S.2 ++ [_])))
    rw [nts_app]
    rfl
  · rintro H9 ⟨k9, N9, eD⟩
    rw [List.take_of_length_le (by rw [List.length_zip]; omega)] at N9 eD
    exact q D H9 (k1.trans k9) N9.less (ks_none k1 nD) eD
def spFirst (K : PySem.W.Frag) (C : Addr) : Sp := fun vs H Q _ => ∃ (Z : List Addr) (p : NetP) (m : Nat) (gs : List Gt) (nm : List (Str × List Nat)) (t : Addr) (b : Bool) (ws : List Nat), vs = [.ref p.x, .ref t] ∧ NetAt C Z H p m gs nm ∧ Sq2 b K H t (nts ws) ∧ t ∉ [p.lm, p.ld] ∧ (∀ w ∈ ws, w < m + gs.length) ∧ m + gs.length + 3 * ws.length ≤ 400000 ∧
  ∀ D H', KeepS [p.lm, p.ld] H H' → NetAt C Z H' p m (firstW m gs ws).1 nm → H D = none → H' D = some (.lst (nts (firstW m gs ws).2)) → Q (.ref D) H'
theorem firstF_lt {m : Nat} : ∀ (ws : List Nat) (s : List Gt × List Nat × Nat), s.2.2 < m + s.1.length → (ws.foldl (fiS m) s).2.2 < m + (ws.foldl (fiS m) s).1.length
  | [], s, h => h
  | a :: ws, s, h => firstF_lt ws (fiS m s a) len1
theorem firstF_len {m : Nat} : ∀ (ws : List Nat) (s : List Gt × List Nat × Nat), (ws.foldl (fiS m) s).1.length = s.1.length + 3 * ws.length ∧ (ws.foldl (fiS m) s).2.1.length = s.2.1.length + ws.length
  | [], s => ⟨rfl, rfl⟩
  | a :: ws, s => by
    obtain ⟨h1, h2⟩ := firstF_len ws (fiS m s a)
    rw [List.foldl_cons, h1, h2]
    unfold fiS
    simp only [List.length_append, List.length_cons, List.length_nil]
    omega
theorem ok_first_wires (B : Bl mg) (L : LL K mg C a1 a2 a3 a4 a5 a6 a7 a8 a9 a10 a11 a12 a13 a14 a15 a16 a17 a18 a19 a20 a21 a22 a23 a24 a25 a26 a27 a28 a29 a30 a31 a32 a33 a34 l1 l2 l3 l4 l5 l6 l7 l8 l9 l10 l11 l12 l13 l14 l15 l16 l17 l18 l19 l20 l21 l22 l23 l24 l25 l26 l27 l28 l29 l30 l31 l32 l33 l34) : FnOk P w K mg base CX0 5 a7 l7 ["net", "ones"] (spFirst K C) := by
  have G_Net_fixed : FnOk P w K mg base CX0 4 a24 l24 ["self", "bit"] (spFixed C) := (ok_Net_fixed B L).mono (by decide)
  have G_Net_both : FnOk P w K mg base CX0 4 a20 l20 ["self", "a", "b"] (spG2 C "both") := (ok_Net_both B L).mono (by decide)
  have G_Net_other : FnOk P w K mg base CX0 4 a23 l23 ["self", "a"] (spG1 C) := (ok_Net_other B L).mono (by decide)
  refine L.F_first_wires.ok sc_first_wires (fun vs H Q E h => ?_) (fun cdv A outer s H vs Q E hr h => ?_)
  · obtain ⟨Z, p, m, gs, nm, t, b, ws, rfl, _⟩ := h
    rfl
  obtain ⟨Z, p, m, gs, nm, t, b, ws, rfl, hN, hT, nt, hw, hl, q⟩ := h
  refine ⟨_, (pss_cons (ps_set (i := 2) sc_first_wires.nd rfl (.inl rfl) (pe_lst pa_nil))
    (pss_cons (ps_set (i := 3) sc_first_wires.nd rfl (.inl rfl) (pe_meth (pv 0) L.T.cl L.M_Net_fixed G_Net_fixed hr L.b_Net_fixed .nil pass0 (pa_cons pe_int pa_nil)))
    (pss_cons (ps_for PassesOwn.never rfl (pi_sq (pv 1)) (pg_name (i := 4) sc_first_wires.nd rfl (.inl rfl)) (pss_cons (ps_expr (pe_bm PySem.F.plainAttrs_list PySem.F.slot_list_append PySem.F.type_list_append mt_append (pv 2) (pa_cons (pe_meth (pv 0) L.T.cl L.M_Net_both G_Net_both hr L.b_Net_both .nil pass0 (pa_cons (pv 3) (pa_cons (pv 4) pa_nil))) pa_nil)))
    (pss_one (ps_set (i := 3) sc_first_wires.nd rfl (.inl rfl) (pe_meth (pv 0) L.T.cl L.M_Net_both G_Net_both hr L.b_Net_both .nil pass0 (pa_cons (pv 3) (pa_cons (pe_meth (pv 0) L.T.cl L.M_Net_other G_Net_other hr L.b_Net_other .nil pass0 (pa_cons (pv 4) pa_nil)) pa_nil)))))))
    (pss_one (ps_ret (pe_lst (StX.pa_star (pv 2) (pa_cons (pv 3) pa_nil)))))))), ?_⟩
  refine ⟨Nat.zero_le _, fun F nF => ?_⟩
  have nF2 := hN.nin nF
  have N0 := hN.add (o := .lst []) nF
  have T0 : Sq2 b K (upd H F (.lst [])) t (nts ws) := hT.keepS (KeepS.new (S := []) nF) (fun z => nomatch z)
  obtain ⟨_, _, _, dx, _, _, e1, _⟩ := id N0
  try simp only [L2.start, List.map_cons, List.map_nil, List.length_cons, List.length_nil, List.replicate_succ, List.replicate_zero, List.cons_append, List.nil_append, List.set_cons_succ, List.set_cons_zero, Nat.reduceAdd, Nat.reduceSub, Nat.zero_add]
  dsimp only [gName]
  try simp only [L2.start, List.map_cons, List.map_nil, List.length_cons, List.length_nil, List.replicate_succ, List.replicate_zero, List.cons_append, List.nil_append, List.set_cons_succ, List.set_cons_zero, Nat.reduceAdd, Nat.reduceSub, Nat.zero_add]
  refine ⟨_, rfl, p.x, dx, _, rfl, e1, rfl, F :: Z, p, m, gs, nm, 1, rfl, N0, by omega, fun H1 k1 N1 => ?_⟩
  have T1 := T0.keepS k1 nt
  have eF1 := k1.1 _ _ upd_same nF2
  have k01 : KeepS [p.lm, p.ld] H H1 := (KeepS.new nF).trans k1
  try simp only [L2.start, List.map_cons, List.map_nil, List.length_cons, List.length_nil, List.replicate_succ, List.replicate_zero, List.cons_append, List.nil_append, List.set_cons_succ, List.set_cons_zero, Nat.reduceAdd, Nat.reduceSub, Nat.zero_add]
  dsimp only [gName]
  try simp only [L2.start, List.map_cons, List.map_nil, List.length_cons, List.length_nil, List.replicate_succ, List.replicate_zero, List.cons_append, List.nil_append, List.set_cons_succ, List.set_cons_zero, Nat.reduceAdd, Nat.reduceSub, Nat.zero_add]
  refine ⟨_, rfl, b, t, _, rfl, T1, ?_⟩
  refine for_it (walk_q (K := K) (t := b) (a := t) (xs := nts ws)) (fun j σ H9 => ∃ y : Option V, σ = [some (.ref p.x), some (.ref t), some (.ref F), some (.int ((firstF m gs (ws.take j)).2.2 : Nat)), y] ∧ KeepS [p.lm, p.ld] H H9 ∧ Sq2 b K H9 t (nts ws) ∧ NetAt C (F :: Z) H9 p m (firstF m gs (ws.take j)).1 nm ∧ H9 F = some (.lst (nts (firstF m gs (ws.take j)).2.1))) ⟨_, rfl, k01, T1, N1, eF1⟩ (fun j σ H9 _ ⟨_, _, _, T9, _⟩ => T9) ?_ ?_
  · rintro j v σ H9 H10 hj ⟨y, rfl, k9, T9, N9, eF⟩ ⟨rfl, hz⟩
    obtain ⟨a, ha, rfl⟩ := nts_at hz
    have la := hw a (List.mem_of_getElem? ha)
    obtain ⟨l1, l2⟩ := firstF_len (m := m) (ws.take j) (gs ++ [.fi 1], [], m + gs.length)
    have lc := firstF_lt (m := m) (ws.take j) (gs ++ [.fi 1], [], m + gs.length) len1
    have lj : (ws.take j).length ≤ ws.length := by rw [List.length_take]; omega
    simp only [List.length_append, List.length_cons, List.length_nil] at l1 l2
    have estep : firstF m gs (ws.take (j + 1)) = fiS m (firstF m gs (ws.take j)) a := fold_take _ ha _
    rw [show (ws.take j).foldl (fiS m) (gs ++ [.fi 1], [], m + gs.length) = firstF m gs (ws.take j) from rfl] at l1 l2 lc
    rw [estep]
    generalize firstF m gs (ws.take j) = S at *
    obtain ⟨_, _, _, dx9, _, _, f1, _⟩ := id N9
    dsimp only [gName]
    try simp only [L2.start, List.map_cons, List.map_nil, List.length_cons, List.length_nil, List.replicate_succ, List.replicate_zero, List.cons_append, List.nil_append, List.set_cons_succ, List.set_cons_zero, Nat.reduceAdd, Nat.reduceSub, Nat.zero_add]
    refine ⟨_, rfl, .inl ⟨rfl, _, SqL.of eF⟩, _, rfl, p.x, dx9, _, rfl, f1, rfl, _, rfl, _, rfl, F :: Z, p, m, S.1, nm, S.2.2, a, rfl, N9, lc, by omega, by omega, fun H3 k3 N3 => ?_⟩
    have eF3 := k3.1 _ _ eF nF2
    refine ⟨F, _, _, rfl, rfl, eF3, by rw [nts_len]; exact big_lt (by omega), ?_⟩
    have k4 := ks_updN (k9.trans k3) (D := F) (o := .lst (nts S.2.1 ++ [.int ((m + S.1.length : Nat) : Int)])) nF
    have N4 := N3.put (D := F) (o := .lst (nts S.2.1 ++ [.int ((m + S.1.length : Nat) : Int)])) (by simp)
    have T4 : Sq2 b K (upd H3 F (.lst (nts S.2.1 ++ [.int ((m + S.1.length : Nat) : Int)]))) t (nts ws) := hT.keepS k4 nt
    have eF4 : (upd H3 F (.lst (nts S.2.1 ++ [.int ((m + S.1.length : Nat) : Int)]))) F = some (.lst (nts S.2.1 ++ [.int ((m + S.1.length : Nat) : Int)])) := upd_same
    generalize upd H3 F (.lst (nts S.2.1 ++ [.int ((m + S.1.length : Nat) : Int)])) = H4 at *
    dsimp only
    obtain ⟨_, _, _, dx4, _, _, f4, _⟩ := id N4
    have lS1 : (S.1 ++ [Gt.w "both" [S.2.2, a]]).length = S.1.length + 1 := by simp
    have l0 := len1 (m := m) (gs := S.1) (g := Gt.w "both" [S.2.2, a])
    refine ⟨_, rfl, p.x, dx4, _, rfl, f4, rfl, _, rfl, ?_⟩
    refine ⟨_, rfl, p.x, dx4, _, rfl, f4, rfl, _, rfl, F :: Z, p, m, _, nm, a, rfl, N4, by omega, by omega, fun H5 k5 N5 => ?_⟩
    have lS2 : (S.1 ++ [Gt.w "both" [S.2.2, a]] ++ [Gt.w "other" [a]]).length = S.1.length + 2 := by simp
    refine ⟨F :: Z, p, m, _, nm, S.2.2, _, rfl, N5, by omega, by omega, by omega, fun H6 k6 N6 => ?_⟩
    refine ⟨some (.int (a : Int)), rfl, (k4.trans k5).trans k6, (T4.keepS k5 nt).keepS k6 nt, N6, ?_⟩
    rw [k6.1 _ _ (k5.1 _ _ eF4 nF2) nF2]
    show _ = some (HO.lst (nts (S.2.1 ++ [_])))
    rw [nts_app]
    rfl
  · rintro σ H9 ⟨y, rfl, k9, T9, N9, eF⟩
    rw [nts_len, List.take_of_length_le (Nat.le_refl _)] at N9 eF ⊢
    obtain ⟨l1, l2⟩ := firstF_len (m := m) ws (gs ++ [.fi 1], [], m + gs.length)
    simp only [List.length_append, List.length_cons, List.length_nil] at l1 l2
    refine ⟨_, rfl, F, _, rfl, .inr (SqL.of eF), _, rfl, ?_⟩
    dsimp only [tNil]
    rw [show nts (firstF m gs ws).2.1 ++ [V.int ((firstF m gs ws).2.2 : Nat)] = nts (firstW m gs ws).2 from by
      show _ = nts ((firstF m gs ws).2.1 ++ [(firstF m gs ws).2.2])
      rw [nts_app]
      rfl]
    have hlen : (nts (firstW m gs ws).2).length ≤ sizeLine := by
      rw [nts_len]
      show ((firstF m gs ws).2.1 ++ [_]).length ≤ _
      rw [List.length_append, show (firstF m gs ws).2.1.length = 0 + ws.length from l2]
      exact Nat.le_of_lt (big_lt (by show 0 + ws.length + 1 ≤ 500000; omega))
    refine ⟨hlen, fun D nD => ?_⟩
    have sD := same_upd (o := .lst (nts (firstW m gs ws).2)) nD
    exact q D _ (k9.trans (.ofSame sD)) (N9.less.same sD) (ks_none k9 nD) upd_same
def spZero (K : PySem.W.Frag) (C : Addr) : Sp := fun vs H Q _ => ∃ (Z : List Addr) (p : NetP) (m : Nat) (gs : List Gt) (nm : List (Str × List Nat)) (t : Addr) (b : Bool) (ws : List Nat), vs = [.ref p.x, .ref t] ∧ NetAt C Z H p m gs nm ∧ Sq2 b K H t (nts ws) ∧ t ∉ [p.lm, p.ld] ∧ (∀ w ∈ ws, w < m + gs.length) ∧ ws.length ≤ 2000 ∧ m + gs.length ≤ 300000 ∧
  ∀ D H', KeepS [p.lm, p.ld] H H' → NetAt C Z H' p m (zeroW m gs ws (Builtin.Int.intBits (ws.length : Int))).1 nm → H D = none → H' D = some (.lst (nts (zeroW m gs ws (Builtin.Int.intBits (ws.length : Int))).2)) → Q (.ref D) H'
theorem and_pow : ∀ (b : Nat) (x : Nat), Builtin.bitAnd (x : Int) (2 ^ b) = if x.testBit b = true then 2 ^ b else 0
  | 0, x => by
    rw [PySem.W.kbt_halves, Int.pow_zero, show (1 : Int) / 2 = 0 from rfl]
    have e : Builtin.bitAnd ((x : Int) / 2) 0 = 0 := by
      have := PySem.W.kbt_mask ((x : Int) / 2) 0
      rw [Int.pow_zero, Int.sub_self, Int.emod_one] at this
      exact this
    rw [e, Nat.testBit_zero]
    by_cases c : x % 2 = 1
    · rw [if_pos (by omega), if_pos (decide_eq_true c)]
      rfl
    · rw [if_neg (by omega), if_neg (by rw [decide_eq_true_eq]; exact c)]
      rfl
  | b + 1, x => by
    have p := GM.pow_pos' b
    rw [PySem.W.kbt_halves, GM.pow_s, show (2 ^ b * 2 : Int) / 2 = 2 ^ b from by omega, show ((x : Int) / 2) = ((x / 2 : Nat) : Int) from by omega, and_pow b (x / 2), Nat.testBit_succ, if_neg (show ¬ ((x : Int) % 2 = 1 ∧ (2 ^ b * 2 : Int) % 2 = 1) from by omega)]
    split <;> omega
theorem and_test (b x : Nat) : (!decide (V.int (Builtin.bitAnd (x : Int) (2 ^ b)) = V.int 0)) = x.testBit b := by
  have p := GM.pow_pos' b
  rw [and_pow]
  cases x.testBit b
  · rfl
  · show (!decide (V.int (2 ^ b) = V.int 0)) = true
    rw [decide_eq_false (fun z => by have := V.int.inj z; omega)]
    rfl
theorem downs_at {k j : Nat} (h : j < k) : (downs k)[j]? = some (k - 1 - j) := by
  unfold downs
  rw [List.getElem?_reverse (by rw [List.length_range]; exact h), List.length_range, List.getElem?_range (by omega)]
theorem selN_snoc {place : Nat} {l : List Nat} {i : Nat} (h : i < l.length) : selN place (l.take (i + 1)) = if i.testBit place = true then selN place (l.take i) ++ [l.getD i 0] else selN place (l.take i) := by
  have l1 : (l.take (i + 1)).length = i + 1 := by rw [List.length_take]; omega
  have l0 : (l.take i).length = i := by rw [List.length_take]; omega
  have key : ∀ j ∈ (List.range i).filter (·.testBit place), (l.take (i + 1)).getD j 0 = (l.take i).getD j 0 := fun j hj => by
    have := List.mem_range.mp (List.mem_filter.mp hj).1
    simp only [List.getD, List.getElem?_take, if_pos (show j < i + 1 by omega), if_pos this]
  have last : (l.take (i + 1)).getD i 0 = l.getD i 0 := by
    simp only [List.getD, List.getElem?_take, if_pos (show i < i + 1 by omega)]
  unfold selN
  rw [l1, l0, List.range_succ, List.filter_append, List.map_append]
  split
  · rename_i c
    rw [show [i].filter (·.testBit place) = [i] from by simp [c]]
    rw [List.map_congr_left key]
    show _ ++ [(l.take (i + 1)).getD i 0] = _
    rw [last]
  · rename_i c
    rw [show [i].filter (·.testBit place) = [] from by simp [c]]
    rw [List.map_congr_left key, List.map_nil, List.append_nil]
theorem anyW_len {m : Nat} {gs : List Gt} : ∀ ws : List Nat, gs.length ≤ (anyW m gs ws).1.length ∧ (anyW m gs ws).1.length ≤ gs.length + ws.length + 1
  | [] => by show gs.length ≤ (gs ++ [_]).length ∧ _; rw [List.length_append, List.length_singleton]; exact ⟨by omega, by show (gs ++ [_]).length ≤ _; rw [List.length_append, List.length_singleton]; exact Nat.le_refl _⟩
  | w :: ws => by
    have key : ∀ (ws : List Nat) (s : List Gt × Nat), (ws.foldl (fun s x => (s.1 ++ [Gt.w "either" [s.2, x]], m + s.1.length)) s).1.length = s.1.length + ws.length := by
      intro ws
      induction ws with
      | nil => exact fun _ => rfl
      | cons a ws ih =>
        intro s
        rw [List.foldl_cons, ih, List.length_append, List.length_singleton, List.length_cons]
        omega
    have := key ws (gs, w)
    show gs.length ≤ (ws.foldl _ (gs, w)).1.length ∧ (ws.foldl _ (gs, w)).1.length ≤ _
    rw [this, List.length_cons]
    dsimp only
    omega
theorem zeS_len {m : Nat} {fs : List Nat} : ∀ (l : List Nat) (s : List Gt × List Nat), s.1.length ≤ (l.foldl (zeS m fs) s).1.length ∧ (l.foldl (zeS m fs) s).1.length ≤ s.1.length + l.length * (fs.length + 1) ∧ (l.foldl (zeS m fs) s).2.length = s.2.length + l.length
  | [], s => by simp
  | p :: l, s => by
    obtain ⟨h1, h2, h3⟩ := zeS_len (m := m) (fs := fs) l (zeS m fs s p)
    have a := anyW_len (m := m) (gs := s.1) (selN p fs)
    have b := selN_len p fs
    rw [List.foldl_cons, List.length_cons, Nat.succ_mul, h3]
    have e1 : (zeS m fs s p).1 = (anyW m s.1 (selN p fs)).1 := rfl
    have e2 : (zeS m fs s p).2.length = s.2.length + 1 := by show (s.2 ++ [_]).length = _; rw [List.length_append]; rfl
    rw [e1] at h1 h2
    rw [e2]
    omega
theorem ok_zero_wires (B : Bl mg) (L : LL K mg C a1 a2 a3 a4 a5 a6 a7 a8 a9 a10 a11 a12 a13 a14 a15 a16 a17 a18 a19 a20 a21 a22 a23 a24 a25 a26 a27 a28 a29 a30 a31 a32 a33 a34 l1 l2 l3 l4 l5 l6 l7 l8 l9 l10 l11 l12 l13 l14 l15 l16 l17 l18 l19 l20 l21 l22 l23 l24 l25 l26 l27 l28 l29 l30 l31 l32 l33 l34) : FnOk P w K mg base CX0 7 a6 l6 ["net", "ones"] (spZero K C) := by
  have G_first_wires : FnOk P w K mg base CX0 6 a7 l7 ["net", "ones"] (spFirst K C) := (ok_first_wires B L).mono (by decide)
  have G_any_wire : FnOk P w K mg base CX0 6 a5 l5 ["net", "wires"] (spAny K C) := (ok_any_wire B L).mono (by decide)
  refine L.F_zero_wires.ok sc_zero_wires (fun vs H Q E h => ?_) (fun cdv A outer s H vs Q E hr h => ?_)
  · obtain ⟨Z, p, m, gs, nm, t, b, ws, rfl, _⟩ := h
    rfl
  obtain ⟨Z, p, m, gs, nm, t, b, ws, rfl, hN, hT, nt, hw, hl, hl2, q⟩ := h
  refine ⟨_, (pss_cons (ps_set (i := 2) sc_zero_wires.nd rfl (.inl rfl) (pe_call G_first_wires hr (by rfl) L.m_first_wires L.F_first_wires.kp L.b_first_wires .nil pass0 (pa_cons (pv 0) (pa_cons (pv 1) pa_nil))))
    (pss_cons (ps_set (i := 3) sc_zero_wires.nd rfl (.inl rfl) (pe_lst pa_nil))
    (pss_cons (ps_for PassesOwn.never rfl (pi_range3 (by rfl) B.range (pa_cons (pe_op op_sub (pe_bits (pe_callB call_len_seq (by rfl) B.len PySem.boot_len (pa_cons (pv 1) pa_nil))) pe_int) (pa_cons (pe_un un_neg pe_int) (pa_cons (pe_un un_neg pe_int) pa_nil)))) (pg_name (i := 4) sc_zero_wires.nd rfl (.inr rfl)) (pss_one (ps_expr (pe_bm PySem.F.plainAttrs_list PySem.F.slot_list_append PySem.F.type_list_append mt_append (pv 3) (pa_cons (pe_call G_any_wire hr (by rfl) L.m_any_wire L.F_any_wire.kp L.b_any_wire .nil pass0 (pa_cons (pv 0) (pa_cons (pe_lc (own := [("zeros", 5), ("wire", 6)]) (g := gTup K 2 (gCons (gName 5) (gCons (gName 6) gNil))) (by rfl) sc_zero_wires.nd (pi_enum (by rfl) B.enumerate (pa_cons (pv 2) pa_nil)) (blkOk_by (own := [("zeros", 5), ("wire", 6)]) (N := ["net", "ones", "firsts", "bits", "place", "zeros", "wire"]) (sc := defScope s_zero_wires) (by decide +kernel)) (fun _ _ _ _ _ => pg_tup rfl (pgs_cons (pg_name (i := 5) sc_zero_wires.nd rfl (Or.inl rfl) (.inr rfl)) (pgs_cons (pg_name (i := 6) sc_zero_wires.nd rfl (Or.inl rfl) (.inr rfl)) pgs_nil))) (fun _ _ _ _ _ => pts_one (pt_cmpR op_ne (pe_op op_and (pv 5) (pe_op op_oneShl pe_int (pv 4))) pe_int (nomark _))) (fun _ _ _ _ _ => (pv 6))) pa_nil))) pa_nil)))))
    (pss_one (ps_ret (pv 3)))))), ?_⟩
  refine ⟨_, rfl, _, rfl, Z, p, m, gs, nm, t, b, ws, rfl, hN, hT, nt, hw, by omega, fun F H1 k1 N1 nF eF => ?_⟩
  have nF2 := hN.nin nF
  have W := firstW_ok hw
  have lW := W.ext.len
  have lF : (firstW m gs ws).2.length = ws.length + 1 := by
    have := congrArg List.length (W.val (List.replicate m false) (by simp))
    rw [List.length_map, firstB_len, List.length_map] at this
    exact this
  have nf : (nts (firstW m gs ws).2).length = ws.length + 1 := by rw [nts_len, lF]
  have T1 := hT.keepS k1 nt
  try simp only [L2.start, List.map_cons, List.map_nil, List.length_cons, List.length_nil, List.replicate_succ, List.replicate_zero, List.cons_append, List.nil_append, List.set_cons_succ, List.set_cons_zero, Nat.reduceAdd, Nat.reduceSub, Nat.zero_add]
  dsimp only [gName]
  try simp only [L2.start, List.map_cons, List.map_nil, List.length_cons, List.length_nil, List.replicate_succ, List.replicate_zero, List.cons_append, List.nil_append, List.set_cons_succ, List.set_cons_zero, Nat.reduceAdd, Nat.reduceSub, Nat.zero_add]
  refine ⟨Nat.zero_le _, fun R nR => ?_⟩
  have nR2 := N1.nin nR
  have N2 := N1.add (o := .lst []) nR
  have nRH := ks_none k1 nR
  have k2 := ks_updN k1 (o := .lst []) nRH
  have nFR : F ≠ R := ne_of_none eF nR
  have eF2 : (upd H1 R (.lst [])) F = _ := (upd_ne nFR).trans eF
  have eR2 : (upd H1 R (.lst [])) R = some (.lst []) := upd_same
  have T2 : Sq2 b K (upd H1 R (.lst [])) t (nts ws) := hT.keepS k2 nt
  generalize upd H1 R (.lst []) = H2 at *
  dsimp only
  try simp only [L2.start, List.map_cons, List.map_nil, List.length_cons, List.length_nil, List.replicate_succ, List.replicate_zero, List.cons_append, List.nil_append, List.set_cons_succ, List.set_cons_zero, Nat.reduceAdd, Nat.reduceSub, Nat.zero_add]
  dsimp only [gName]
  try simp only [L2.start, List.map_cons, List.map_nil, List.length_cons, List.length_nil, List.replicate_succ, List.replicate_zero, List.cons_append, List.nil_append, List.set_cons_succ, List.set_cons_zero, Nat.reduceAdd, Nat.reduceSub, Nat.zero_add]
  refine ⟨_, rfl, t, _, rfl, T2.to, ?_⟩
  rw [nts_len]
  have kb : Builtin.Int.intBits (ws.length : Int) ≤ 11 := PyProof.Rows.intBits_le (by
    show ((ws.length : Int)).natAbs < 2 ^ 11
    rw [Int.natAbs_natCast]
    omega)
  obtain ⟨k, hk⟩ : ∃ k, k = Builtin.Int.intBits (ws.length : Int) := ⟨_, rfl⟩
  rw [← hk] at q kb
  refine ⟨_, rfl, _, _, rfl, rfl, _, rfl, _, rfl, ((k : Int) - 1), (-1), (-1), ((k : Int) - 1 - -1).toNat, by rw [hk], RgC.neg (by omega) (by omega) (by decide) (by decide), ?_⟩
  rw [show ((k : Int) - 1 - -1).toNat = k by omega]
  refine for_it walk_rangeC (fun j σ H9 => ∃ y : Option V, σ = [some (.ref p.x), some (.ref t), some (.ref F), some (.ref R), y, none, none] ∧ KeepS [p.lm, p.ld] H H9 ∧ H9 F = some (.lst (nts (firstW m gs ws).2)) ∧ NetAt C (R :: Z) H9 p m (((downs k).take j).foldl (zeS m (firstW m gs ws).2) ((firstW m gs ws).1, [])).1 nm ∧ H9 R = some (.lst (nts (((downs k).take j).foldl (zeS m (firstW m gs ws).2) ((firstW m gs ws).1, [])).2))) ⟨_, rfl, k2, eF2, N2, eR2⟩ (fun _ _ _ _ _ => trivial) ?_ ?_
  · rintro j v σ H9 H10 hj ⟨y, rfl, k9, eF9, N9, eR9⟩ ⟨rfl, rfl⟩
    have dj := downs_at hj
    dsimp only
    rw [show (k : Int) - 1 + (j : Nat) * (-1) = ((k - 1 - j : Nat) : Int) from by omega]
    have estep : ((downs k).take (j + 1)).foldl (zeS m (firstW m gs ws).2) ((firstW m gs ws).1, []) = zeS m (firstW m gs ws).2 (((downs k).take j).foldl (zeS m (firstW m gs ws).2) ((firstW m gs ws).1, [])) (k - 1 - j) := fold_take _ dj _
    rw [estep]
    have hpl : k - 1 - j < 11 := by omega
    generalize k - 1 - j = place at *
    dsimp only [gName]
    try simp only [L2.start, List.map_cons, List.map_nil, List.length_cons, List.length_nil, List.replicate_succ, List.replicate_zero, List.cons_append, List.nil_append, List.set_cons_succ, List.set_cons_zero, Nat.reduceAdd, Nat.reduceSub, Nat.zero_add]
    refine ⟨_, rfl, .inl ⟨rfl, _, SqL.of eR9⟩, _, rfl, _, rfl, F, _, rfl, SqL.of eF9, fun D nD => ?_⟩
    have nD2 := N9.nin nD
    have fRD : R ≠ D := ne_of_none eR9 nD
    refine lc_it (walk_enum (K := K) (a := F) (xs := nts (firstW m gs ws).2)) (fun i H8 => Same H10 H8 ∧ H8 D = some (.lst (nts (selN place ((firstW m gs ws).2.take i))))) ⟨same_upd nD, upd_same⟩ (fun i H8 _ ⟨s8, _⟩ => SqL.of (s8 _ _ eF9)) ?_ ?_
    · rintro i v H8 H7 hi ⟨s8, eD⟩ ⟨T, x, z, rfl, nT, rfl, hx, hz⟩
      cases hx
      obtain ⟨a, ha, rfl⟩ := nts_at hz
      have hi' := (List.getElem?_eq_some_iff.mp ha).1
      have ea : a = (firstW m gs ws).2.getD i 0 := by
        simp only [List.getD, ha, Option.getD_some]
      have sT := same_upd (o := .tup [.int (i : Int), .int (a : Int)]) nT
      refine ⟨T, _, rfl, .inl (.inl upd_same), rfl, _, _, rfl, _, _, rfl, rfl, rfl, ?_⟩
      try simp only [L2.start, List.map_cons, List.map_nil, List.length_cons, List.length_nil, List.replicate_succ, List.replicate_zero, List.cons_append, List.nil_append, List.set_cons_succ, List.set_cons_zero, Nat.reduceAdd, Nat.reduceSub, Nat.zero_add]
      dsimp only [tTest, tOp, tVar, tC, rNe]
      refine ⟨_, rfl, _, rfl, place, rfl, rfl, by omega, _, _, rfl, rfl, rfl, _, rfl, ?_⟩
      rw [and_test, selN_snoc hi']
      have s7 := s8.trans sT
      have eD7 := sT _ _ eD
      cases hb : i.testBit place with
      | false => exact ⟨s7, eD7⟩
      | true =>
        refine ⟨_, rfl, _, eD7, ?_, fun y u e => ?_, ?_⟩
        · rw [nts_len]
          have := selN_len place ((firstW m gs ws).2.take i)
          rw [List.length_take] at this
          exact big_lt (by omega)
        · rw [upd_ne (ne_of_none e nD)]
          exact s7 _ _ e
        · rw [upd_same, if_pos rfl, ea, nts_app]
          rfl
    rintro H8 ⟨s8, eD⟩
    rw [nf, List.take_of_length_le (by rw [lF]; exact Nat.le_refl _)] at eD
    have N8 := N9.same s8
    obtain ⟨z1, z2, z3⟩ := zeS_len (m := m) (fs := (firstW m gs ws).2) ((downs k).take j) ((firstW m gs ws).1, [])
    have lt' : ((downs k).take j).length ≤ 11 := by
      rw [List.length_take]
      omega
    have z4 : ((downs k).take j).length * ((firstW m gs ws).2.length + 1) ≤ 11 * 2002 := Nat.mul_le_mul lt' (by omega)
    generalize ((downs k).take j).foldl (zeS m (firstW m gs ws).2) ((firstW m gs ws).1, []) = S at *
    dsimp only at z1 z2
    have hsel := selN_len place (firstW m gs ws).2
    refine ⟨R :: Z, p, m, S.1, nm, D, selN place (firstW m gs ws).2, rfl, N8, SqL.of eD, nD2, fun w hw' => ?_, by omega, fun H5 k5 N5 => ?_⟩
    · have := W.lt w (selN_mem hw')
      omega
    have eR5 := k5.1 _ _ (s8 _ _ eR9) nR2
    have eF5 := k5.1 _ _ (s8 _ _ eF9) nF2
    refine ⟨R, _, _, rfl, rfl, eR5, by rw [nts_len]; simp only [List.length_nil] at z3; exact big_lt (by omega), some (.int (place : Int)), rfl, ks_updN ((k9.trans (.ofSame s8)).trans k5) nRH, ?_, N5.put (by simp), ?_⟩
    · rw [upd_ne nFR]
      exact eF5
    · rw [upd_same]
      show _ = some (HO.lst (nts (S.2 ++ [_])))
      rw [nts_app]
      rfl
  · rintro σ H9 ⟨y, rfl, k9, eF9, N9, eR9⟩
    rw [List.take_of_length_le (by unfold downs; rw [List.length_reverse, List.length_range]; exact Nat.le_refl _)] at N9 eR9
    exact ⟨_, rfl, q R H9 k9 N9.less nRH eR9⟩
theorem dgS_len {m : Nat} : ∀ (l : List (Nat × Nat)) (s : List Gt × List Nat), (l.foldl (dgS m) s).1.length = s.1.length + l.length ∧ (l.foldl (dgS m) s).2.length = s.2.length + l.length
  | [], s => ⟨rfl, rfl⟩
  | a :: l, s => by
    obtain ⟨h1, h2⟩ := dgS_len l (dgS m s a)
    rw [List.foldl_cons, h1, h2]
    unfold dgS
    simp only [List.length_append, List.length_cons, List.length_nil]
    omega
theorem barW_len {m : Nat} {os ds : List Nat} {gs : List Gt} {p : Nat} : (barW m os ds gs p).1.length = gs.length + (if p = 0 then 1 else 2) := by
  unfold barW
  split <;> simp
theorem maS_len {m : Nat} {os ds : List Nat} : ∀ (l : List Nat) (s : List Gt × List Nat), s.1.length ≤ (l.foldl (maS m os ds) s).1.length ∧ (l.foldl (maS m os ds) s).1.length ≤ s.1.length + 5 * l.length ∧ (l.foldl (maS m os ds) s).2.length = s.2.length + l.length
  | [], s => by simp
  | p :: l, s => by
    obtain ⟨h1, h2, h3⟩ := maS_len (m := m) (os := os) (ds := ds) l (maS m os ds s p)
    have a := barW_len (m := m) (os := os) (ds := ds) (gs := s.1) (p := p)
    have e1 : (maS m os ds s p).1.length = (barW m os ds s.1 p).1.length + 3 := by unfold maS; simp only [List.length_append, List.length_cons, List.length_nil]
    have e2 : (maS m os ds s p).2.length = s.2.length + 1 := by unfold maS; simp only [List.length_append, List.length_cons, List.length_nil]
    rw [List.foldl_cons, List.length_cons]
    split at a <;> omega
def spMark (K : PySem.W.Frag) (C : Addr) : Sp := fun vs H Q _ => ∃ (Z : List Addr) (p : NetP) (m : Nat) (gs : List Gt) (nm : List (Str × List Nat)) (t u : Addr) (b1 b2 : Bool) (os ts : List Nat), vs = [.ref p.x, .ref t, .ref u] ∧ NetAt C Z H p m gs nm ∧ Sq2 b1 K H t (nts os) ∧ Sq2 b2 K H u (nts ts) ∧ t ∉ [p.lm, p.ld] ∧ u ∉ [p.lm, p.ld] ∧ os.length = ts.length ∧ 0 < os.length ∧ (∀ w ∈ os, w < m + gs.length) ∧ (∀ w ∈ ts, w < m + gs.length) ∧ os.length ≤ 2000 ∧ m + gs.length ≤ 300000 ∧
  ∀ D H', KeepS [p.lm, p.ld] H H' → NetAt C Z H' p m (markW m gs os ts).1 nm → H D = none → H' D = some (.lst (nts (markW m gs os ts).2)) → Q (.ref D) H'
theorem ok_mark_wires (B : Bl mg) (L : LL K mg C a1 a2 a3 a4 a5 a6 a7 a8 a9 a10 a11 a12 a13 a14 a15 a16 a17 a18 a19 a20 a21 a22 a23 a24 a25 a26 a27 a28 a29 a30 a31 a32 a33 a34 l1 l2 l3 l4 l5 l6 l7 l8 l9 l10 l11 l12 l13 l14 l15 l16 l17 l18 l19 l20 l21 l22 l23 l24 l25 l26 l27 l28 l29 l30 l31 l32 l33 l34) : FnOk P w K mg base CX0 5 a8 l8 ["net", "ones", "others"] (spMark K C) := by
  have G_Net_unlike : FnOk P w K mg base CX0 4 a22 l22 ["self", "a", "b"] (spG2 C "unlike") := (ok_Net_unlike B L).mono (by decide)
  have G_Net_both : FnOk P w K mg base CX0 4 a20 l20 ["self", "a", "b"] (spG2 C "both") := (ok_Net_both B L).mono (by decide)
  have G_Net_other : FnOk P w K mg base CX0 4 a23 l23 ["self", "a"] (spG1 C) := (ok_Net_other B L).mono (by decide)
  refine L.F_mark_wires.ok sc_mark_wires (fun vs H Q E h => ?_) (fun cdv A outer s H vs Q E hr h => ?_)
  · obtain ⟨Z, p, m, gs, nm, t, u, b1, b2, os, ts, rfl, _⟩ := h
    rfl
  obtain ⟨Z, p, m, gs, nm, t, u, b1, b2, os, ts, rfl, hN, hT, hU, nt, nu, hlen, h0, ho, hs, hl, hl2, q⟩ := h
  refine ⟨_, (pss_cons (ps_setLc (i := 3) (own := [("one", 7), ("other", 8)]) (g := gTup K 2 (gCons (gName 7) (gCons (gName 8) gNil))) (by rfl) sc_mark_wires.nd rfl rfl (sw_true rfl rfl rfl (by decide +kernel)) (pi_zb (by rfl) B.zip (pa_cons (pv 1) (pa_cons (pv 2) pa_nil))) (blkOk_by (own := [("one", 7), ("other", 8)]) (N := ["net", "ones", "others", "digits", "marks", "place", "bars", "one", "other"]) (sc := defScope s_mark_wires) (by decide +kernel)) (fun _ _ _ _ _ => pg_tup rfl (pgs_cons (pg_name (i := 7) sc_mark_wires.nd rfl (Or.inl rfl) (.inr rfl)) (pgs_cons (pg_name (i := 8) sc_mark_wires.nd rfl (Or.inl rfl) (.inr rfl)) pgs_nil))) (fun _ _ _ _ _ => pts_nil) (fun _ _ _ _ _ => (pe_meth (pv 0) L.T.cl L.M_Net_unlike G_Net_unlike hr L.b_Net_unlike .nil pass0 (pa_cons (pv 7) (pa_cons (pv 8) pa_nil)))))
    (pss_cons (ps_set (i := 4) sc_mark_wires.nd rfl (.inl rfl) (pe_lst pa_nil))
    (pss_cons (ps_for PassesOwn.never rfl (pi_range1 (by rfl) B.range (pa_cons (pe_op op_sub (pe_callB call_len_seq (by rfl) B.len PySem.boot_len (pa_cons (pv 3) pa_nil)) pe_int) pa_nil)) (pg_name (i := 5) sc_mark_wires.nd rfl (.inl rfl)) (pss_cons (ps_set (i := 6) sc_mark_wires.nd rfl (.inl rfl) (pe_meth (pv 0) L.T.cl L.M_Net_unlike G_Net_unlike hr L.b_Net_unlike .nil pass0 (pa_cons (pe_ix ix_seq (pv 1) (pv 5) (fun _ _ => rfl)) (pa_cons (pe_ix ix_seq (pv 1) (pe_op op_add (pv 5) pe_int) (fun _ _ => rfl)) pa_nil))))
    (pss_cons (ps_if (pt_cmpR op_gt (pv 5) pe_int (nomark _)) (pss_one (ps_set (i := 6) sc_mark_wires.nd rfl (.inl rfl) (pe_meth (pv 0) L.T.cl L.M_Net_unlike G_Net_unlike hr L.b_Net_unlike .nil pass0 (pa_cons (pv 6) (pa_cons (pe_ix ix_list (pv 3) (pe_op op_sub (pv 5) pe_int) (fun _ _ => rfl)) pa_nil))))) pss_nil)
    (pss_one (ps_expr (pe_bm PySem.F.plainAttrs_list PySem.F.slot_list_append PySem.F.type_list_append mt_append (pv 4) (pa_cons (pe_meth (pv 0) L.T.cl L.M_Net_both G_Net_both hr L.b_Net_both .nil pass0 (pa_cons (pe_ix ix_list (pv 3) (pv 5) (fun _ _ => rfl)) (pa_cons (pe_meth (pv 0) L.T.cl L.M_Net_other G_Net_other hr L.b_Net_other .nil pass0 (pa_cons (pe_meth (pv 0) L.T.cl L.M_Net_both G_Net_both hr L.b_Net_both .nil pass0 (pa_cons (pe_ix ix_list (pv 3) (pe_op op_add (pv 5) pe_int) (fun _ _ => rfl)) (pa_cons (pv 6) pa_nil))) pa_nil)) pa_nil))) pa_nil)))))))
    (pss_one (ps_ret (pe_op op_cat (pv 4) (pe_slice sl_list (pv 3) (po_some (pe_un un_neg pe_int)) po_none))))))), ?_⟩
  refine ⟨_, rfl, _, rfl, b1, b2, t, u, _, _, rfl, hT, hU, fun W nW => ?_⟩
  have nW2 := hN.nin nW
  have N0 := hN.add (o := .lst []) nW
  have lz : (os.zip ts).length = os.length := by rw [List.length_zip]; omega
  refine lc_it (walk_zb (K := K) (t1 := b1) (t2 := b2) (a := t) (b := u) (xs := nts os) (ys := nts ts) (n := os.length) (nts_len os) (by rw [nts_len, hlen])) (fun j H9 => KeepS [p.lm, p.ld] H H9 ∧ NetAt C (W :: Z) H9 p m (((os.zip ts).take j).foldl (dgS m) (gs, [])).1 nm ∧ H9 W = some (.lst (nts (((os.zip ts).take j).foldl (dgS m) (gs, [])).2))) ⟨KeepS.new nW, N0, upd_same⟩ (fun j H9 _ ⟨k9, _⟩ => ⟨hT.keepS k9 nt, hU.keepS k9 nu⟩) ?_ ?_
  · rintro j v H9 H10 hj ⟨k9, N9, eD⟩ ⟨T, x, y, rfl, nT, rfl, hx, hy⟩
    obtain ⟨a, b, hab, rfl, rfl⟩ := nts_zip hx hy
    have sT := same_upd (o := .tup [.int (a : Int), .int (b : Int)]) nT
    have N10 := N9.same sT
    have hp := List.mem_of_getElem? hab
    have la := ho _ (List.of_mem_zip hp).1
    have lb := hs _ (List.of_mem_zip hp).2
    have estep : ((os.zip ts).take (j + 1)).foldl (dgS m) (gs, []) = dgS m (((os.zip ts).take j).foldl (dgS m) (gs, [])) (a, b) := fold_take _ hab _
    rw [estep]
    obtain ⟨l1, l2⟩ := dgS_len (m := m) ((os.zip ts).take j) (gs, [])
    have lj : ((os.zip ts).take j).length ≤ os.length := by rw [List.length_take]; omega
    generalize ((os.zip ts).take j).foldl (dgS m) (gs, []) = S at *
    dsimp only [List.length_nil] at l1 l2
    obtain ⟨_, _, _, dx2, _, _, f1, _⟩ := id N10
    refine ⟨T, _, rfl, .inl (.inl upd_same), rfl, _, _, rfl, _, _, rfl, rfl, rfl, ?_⟩
    refine yesT ?_
    try simp only [L2.start, List.map_cons, List.map_nil, List.length_cons, List.length_nil, List.replicate_succ, List.replicate_zero, List.cons_append, List.nil_append, List.set_cons_succ, List.set_cons_zero, Nat.reduceAdd, Nat.reduceSub, Nat.zero_add]
    refine ⟨_, rfl, p.x, dx2, _, rfl, f1, rfl, _, rfl, _, rfl, W :: Z, p, m, S.1, nm, a, b, rfl, N10, by omega, by omega, by omega, fun H3 k3 N3 => ?_⟩
    have kk : KeepS [p.lm, p.ld] H H3 := (k9.trans (.ofSame sT)).trans k3
    refine ⟨_, k3.1 _ _ (sT _ _ eD) nW2, by rw [nts_len]; exact big_lt (by omega), ks_updN kk nW, N3.put (by simp), ?_⟩
    rw [upd_same]
    show _ = some (HO.lst (nts (S.2 ++ [_])))
    rw [nts_app]
    rfl
  rintro H1 ⟨k1, N1, eW⟩
  rw [List.take_of_length_le (by omega)] at N1 eW
  try simp only [L2.start, List.map_cons, List.map_nil, List.length_cons, List.length_nil, List.replicate_succ, List.replicate_zero, List.cons_append, List.nil_append, List.set_cons_succ, List.set_cons_zero, Nat.reduceAdd, Nat.reduceSub, Nat.zero_add]
  have DW := digW_ok (m := m) (gs := gs) (ps := os.zip ts) (fun p hp => ⟨ho _ (List.of_mem_zip hp).1, hs _ (List.of_mem_zip hp).2⟩)
  rw [show (os.zip ts).foldl (dgS m) (gs, []) = markD m gs os ts from rfl] at N1 eW DW
  have ld : (markD m gs os ts).2.length = os.length := by
    have := congrArg List.length (DW.val (List.replicate m false) (by simp))
    rw [List.length_map, List.length_map, lz] at this
    exact this
  have eq2 : markW m gs os ts = ((markM m gs os ts).1, (markM m gs os ts).2 ++ (markD m gs os ts).2.drop (os.length - 1)) := rfl
  have eq1 : markM m gs os ts = (List.range (os.length - 1)).foldl (maS m os (markD m gs os ts).2) ((markD m gs os ts).1, []) := rfl
  rw [eq2] at q
  rw [eq1] at q
  have lD := DW.ext.len
  rw [lz] at lD
  have Dlt := DW.lt
  generalize markD m gs os ts = S0 at *
  refine ⟨Nat.zero_le _, fun R nR => ?_⟩
  have nRH := ks_none k1 nR
  have nR2 := hN.nin nRH
  have nRW : W ≠ R := ne_of_none eW nR
  have N2 := N1.add (o := .lst []) nR
  have k2 := ks_updN k1 (o := .lst []) nRH
  have eW2 : (upd H1 R (.lst [])) W = _ := (upd_ne nRW).trans eW
  have eR2 : (upd H1 R (.lst [])) R = some (.lst []) := upd_same
  have nf : (nts S0.2).length = os.length := by rw [nts_len, ld]
  generalize upd H1 R (.lst []) = H2 at *
  dsimp only [gName]
  try simp only [L2.start, List.map_cons, List.map_nil, List.length_cons, List.length_nil, List.replicate_succ, List.replicate_zero, List.cons_append, List.nil_append, List.set_cons_succ, List.set_cons_zero, Nat.reduceAdd, Nat.reduceSub, Nat.zero_add]
  refine ⟨_, rfl, W, _, rfl, .inl (SqL.of eW2), _, _, rfl, rfl, ?_⟩
  rw [nf]
  refine ⟨(os.length : Int) - 1, rfl, by omega, by omega, ?_⟩
  rw [show ((os.length : Int) - 1).toNat = os.length - 1 by omega]
  refine for_range (n := os.length - 1) (fun j σ H9 => ∃ y z : Option V, σ = [some (.ref p.x), some (.ref t), some (.ref u), some (.ref W), some (.ref R), y, z, none, none] ∧ KeepS [p.lm, p.ld] H H9 ∧ H9 W = some (.lst (nts S0.2)) ∧ NetAt C (R :: W :: Z) H9 p m ((List.range j).foldl (maS m os S0.2) (S0.1, [])).1 nm ∧ H9 R = some (.lst (nts ((List.range j).foldl (maS m os S0.2) (S0.1, [])).2))) ⟨_, _, rfl, k2, eW2, N2, eR2⟩ ?_ ?_
  · rintro j σ H9 hj ⟨y, z, rfl, k9, eW9, N9, eR9⟩
    rw [show (0 : Int) + (j : Nat) = ((j : Nat) : Int) from by omega]
    have estep : (List.range (j + 1)).foldl (maS m os S0.2) (S0.1, []) = maS m os S0.2 ((List.range j).foldl (maS m os S0.2) (S0.1, [])) j := by rw [List.range_succ, List.foldl_append]; rfl
    rw [estep]
    obtain ⟨lM, lM2⟩ : S0.1.length ≤ ((List.range j).foldl (maS m os S0.2) (S0.1, [])).1.length ∧ ((List.range j).foldl (maS m os S0.2) (S0.1, [])).1.length ≤ S0.1.length + 5 * j ∧ ((List.range j).foldl (maS m os S0.2) (S0.1, [])).2.length = j := by
      have := maS_len (m := m) (os := os) (ds := S0.2) (List.range j) (S0.1, [])
      rw [List.length_range] at this
      simpa using this
    generalize (List.range j).foldl (maS m os S0.2) (S0.1, []) = S at *
    have oj := getD_in (l := os) (p := j) (by omega)
    have oj1 := getD_in (l := os) (p := j + 1) (by omega)
    have dj := getD_in (l := S0.2) (p := j) (by omega)
    have dj1 := getD_in (l := S0.2) (p := j + 1) (by omega)
    have T9 := hT.keepS k9 nt
    dsimp only [gName]
    try simp only [L2.start, List.map_cons, List.map_nil, List.length_cons, List.length_nil, List.replicate_succ, List.replicate_zero, List.cons_append, List.nil_append, List.set_cons_succ, List.set_cons_zero, Nat.reduceAdd, Nat.reduceSub, Nat.zero_add]
    obtain ⟨_, _, _, dx2, _, _, f1, _⟩ := id N9
    refine ⟨_, rfl, p.x, dx2, _, rfl, f1, rfl, _, rfl, _, rfl, ?_⟩
    refine T9.at (y := fun _ => True) (at_nts (by omega)) ?_
    refine ⟨_, rfl, _, rfl, _, _, rfl, rfl, ?_⟩
    refine T9.at (y := fun _ => True) (at_nts (a := j + 1) (by omega)) ?_
    refine ⟨R :: W :: Z, p, m, S.1, nm, _, _, rfl, N9, ?_, ?_, by omega, fun H3 k3 N3 => ?_⟩
    · have := ho _ oj
      omega
    · have := ho _ oj1
      omega
    have kA := k9.trans k3
    have eW3 := k3.1 _ _ eW9 nW2
    have eR3 := k3.1 _ _ eR9 nR2
    dsimp only [gName]
    try simp only [L2.start, List.map_cons, List.map_nil, List.length_cons, List.length_nil, List.replicate_succ, List.replicate_zero, List.cons_append, List.nil_append, List.set_cons_succ, List.set_cons_zero, Nat.reduceAdd, Nat.reduceSub, Nat.zero_add]
    refine gset_if (ifS_cut (fun σ' H' => σ' = [some (.ref p.x), some (.ref t), some (.ref u), some (.ref W), some (.ref R), some (.int (j : Int)), some (.int ((barW m os S0.2 S.1 j).2 : Nat)), none, none] ∧ KeepS [p.lm, p.ld] H H' ∧ H' W = some (.lst (nts S0.2)) ∧ NetAt C (R :: W :: Z) H' p m (barW m os S0.2 S.1 j).1 nm ∧ H' R = some (.lst (nts S.2))) (fun D' q' => ?_) ?_)
    · refine ⟨_, rfl, _, _, rfl, rfl, _, rfl, ite2 (fun z => ?_) (fun z => ?_)⟩
      · have hj0 : j ≠ 0 := by
          have := of_decide_eq_true z
          omega
        have eb : barW m os S0.2 S.1 j = (S.1 ++ [.w "unlike" [os.getD j 0, os.getD (j + 1) 0]] ++ [.w "unlike" [m + S.1.length, S0.2.getD (j - 1) 0]], m + (S.1 ++ [Gt.w "unlike" [os.getD j 0, os.getD (j + 1) 0]]).length) := if_neg hj0
        rw [eb] at q'
        have dm := Dlt _ (getD_in (l := S0.2) (p := j - 1) (by omega))
        have lS1 : (S.1 ++ [Gt.w "unlike" [os.getD j 0, os.getD (j + 1) 0]]).length = S.1.length + 1 := by simp
        obtain ⟨_, _, _, dx3, _, _, f3, _⟩ := id N3
        refine ⟨_, rfl, p.x, dx3, _, rfl, f3, rfl, _, rfl, _, rfl, _, rfl, _, _, rfl, rfl, W, _, _, _, rfl, rfl, SqL.of eW3, (by rw [show (j : Int) - 1 = ((j - 1 : Nat) : Int) by omega]; exact at_nts (by omega)), R :: W :: Z, p, m, _, nm, _, _, rfl, N3, by omega, by omega, by omega, fun H4 k4 N4 => ?_⟩
        exact q' _ _ ⟨rfl, kA.trans k4, k4.1 _ _ eW3 nW2, N4, k4.1 _ _ eR3 nR2⟩
      · have hj0 : j = 0 := by
          by_cases c : j = 0
          · exact c
          · exact absurd (decide_eq_true (show (j : Int) > 0 by omega)) z
        have eb : barW m os S0.2 S.1 j = (S.1 ++ [.w "unlike" [os.getD j 0, os.getD (j + 1) 0]], m + S.1.length) := if_pos hj0
        rw [eb] at q'
        exact q' _ _ ⟨rfl, kA, eW3, N3, eR3⟩
    · rintro σ' H4 ⟨rfl, k4, eW4, N4, eR4⟩
      have lb := barW_len (m := m) (os := os) (ds := S0.2) (gs := S.1) (p := j)
      have Bk := barW_ok (m := m) (p := j) (os := os) (ds := S0.2) (gs := S.1) (by have := ho _ oj; omega) (by have := ho _ oj1; omega) (fun _ => by have := Dlt _ (getD_in (l := S0.2) (p := j - 1) (by omega)); omega)
      have blt := Bk.lt
      have hms : maS m os S0.2 S j = ((barW m os S0.2 S.1 j).1 ++ [.w "both" [S0.2.getD (j + 1) 0, (barW m os S0.2 S.1 j).2]] ++ [.w "other" [m + (barW m os S0.2 S.1 j).1.length]] ++ [.w "both" [S0.2.getD j 0, m + ((barW m os S0.2 S.1 j).1 ++ [Gt.w "both" [S0.2.getD (j + 1) 0, (barW m os S0.2 S.1 j).2]]).length]],
        S.2 ++ [m + ((barW m os S0.2 S.1 j).1 ++ [Gt.w "both" [S0.2.getD (j + 1) 0, (barW m os S0.2 S.1 j).2]] ++ [Gt.w "other" [m + (barW m os S0.2 S.1 j).1.length]]).length]) := rfl
      rw [hms]
      clear hms Bk
      have lb2 : (barW m os S0.2 S.1 j).1.length ≤ S.1.length + 2 ∧ S.1.length ≤ (barW m os S0.2 S.1 j).1.length := by split at lb <;> omega
      generalize barW m os S0.2 S.1 j = bb at *
      have d0 := Dlt _ dj
      have d1 := Dlt _ dj1
      obtain ⟨_, _, _, dx4, _, _, f4, _⟩ := id N4
      dsimp only
      refine ⟨_, rfl, .inl ⟨rfl, _, SqL.of eR4⟩, _, rfl, p.x, dx4, _, rfl, f4, rfl, _, rfl, _, rfl, W, _, _, _, rfl, rfl, SqL.of eW4, at_nts (by omega), ?_⟩
      refine ⟨_, rfl, p.x, dx4, _, rfl, f4, rfl, ?_⟩
      refine ⟨_, rfl, p.x, dx4, _, rfl, f4, rfl, _, rfl, _, rfl, _, _, rfl, rfl, W, _, _, _, rfl, rfl, SqL.of eW4, at_nts (a := j + 1) (by omega), _, rfl, R :: W :: Z, p, m, _, nm, _, _, rfl, N4, by omega, by omega, by omega, fun H5 k5 N5 => ?_⟩
      have lB1 : (bb.1 ++ [Gt.w "both" [S0.2.getD (j + 1) 0, bb.2]]).length = bb.1.length + 1 := by simp
      refine ⟨R :: W :: Z, p, m, _, nm, _, rfl, N5, by omega, by omega, fun H6 k6 N6 => ?_⟩
      have lB2 : (bb.1 ++ [Gt.w "both" [S0.2.getD (j + 1) 0, bb.2]] ++ [Gt.w "other" [m + bb.1.length]]).length = bb.1.length + 2 := by simp
      refine ⟨R :: W :: Z, p, m, _, nm, _, _, rfl, N6, by omega, by omega, by omega, fun H7 k7 N7 => ?_⟩
      have k567 := (k5.trans k6).trans k7
      have eR7 := k567.1 _ _ eR4 nR2
      have eW7 := k567.1 _ _ eW4 nW2
      refine ⟨R, _, _, rfl, rfl, eR7, by rw [nts_len]; exact big_lt (by omega), _, _, rfl, ks_updN (k4.trans k567) nRH, ?_, N7.put (by simp), ?_⟩
      · rw [upd_ne nRW]
        exact eW7
      · rw [upd_same]
        show _ = some (HO.lst (nts (S.2 ++ [_])))
        rw [nts_app]
        rfl
  · rintro σ H9 ⟨y, z, rfl, k9, eW9, N9, eR9⟩
    have lM := maS_len (m := m) (os := os) (ds := S0.2) (List.range (os.length - 1)) (S0.1, [])
    rw [List.length_range] at lM
    generalize (List.range (os.length - 1)).foldl (maS m os S0.2) (S0.1, []) = S at *
    dsimp only [List.length_nil] at lM
    refine ⟨_, rfl, _, rfl, _, rfl, _, rfl, W, _, rfl, SqL.of eW9, fun D1 nD1 => ?_⟩
    have ec : cutV (nts S0.2) (some (-1)) none = nts (S0.2.drop (os.length - 1)) := by
      unfold cutV nts
      rw [List.length_map, ld, show HT.sIx os.length 0 (some (-1)) = os.length - 1 from by
        show (if (-1 : Int) < 0 then ((-1 : Int) + (os.length : Int)).toNat else min (-1 : Int).toNat os.length) = _
        rw [if_pos (by decide)]
        omega, HT.sIx_none, ← List.map_drop, List.take_of_length_le (by rw [List.length_map, List.length_drop]; omega)]
    rw [ec]
    have s1 := same_upd (o := .lst (nts (S0.2.drop (os.length - 1)))) nD1
    have eD1 : (upd H9 D1 (.lst (nts (S0.2.drop (os.length - 1))))) D1 = some (.lst (nts (S0.2.drop (os.length - 1)))) := upd_same
    generalize upd H9 D1 (.lst (nts (S0.2.drop (os.length - 1)))) = HA at *
    refine ⟨R, D1, _, _, rfl, rfl, s1 _ _ eR9, eD1, by rw [nts_len, nts_len, List.length_drop]; exact Nat.le_of_lt (big_lt (by omega)), fun D nD => ?_⟩
    rw [← nts_app]
    have sD := same_upd (o := .lst (nts (S.2 ++ S0.2.drop (os.length - 1)))) nD
    exact q D _ ((k9.trans (.ofSame s1)).trans (.ofSame sD)) ((N9.less.less.same s1).same sD) (ks_none (k9.trans (.ofSame s1)) nD) upd_same
end
section
variable {P : Program} {w : World} {K : PySem.W.Frag} {mg : Str → Option Value} {base : Heap}
variable {C : Addr} {a1 a2 a3 a4 a5 a6 a7 a8 a9 a10 a11 a12 a13 a14 a15 a16 a17 a18 a19 a20 a21 a22 a23 a24 a25 a26 a27 a28 a29 a30 a31 a32 a33 a34 : Addr} {l1 l2 l3 l4 l5 l6 l7 l8 l9 l10 l11 l12 l13 l14 l15 l16 l17 l18 l19 l20 l21 l22 l23 l24 l25 l26 l27 l28 l29 l30 l31 l32 l33 l34 : FuncData}
/-! ### products, walked -/
theorem rep_flat (x : V) : ∀ n : Nat, (List.replicate n [x]).flatten = List.replicate n x
  | 0 => rfl
  | n + 1 => by rw [List.replicate_succ, List.flatten_cons, rep_flat x n]; rfl
theorem nts_repl (n w : Nat) : List.replicate n (V.int (w : Int)) = nts (List.replicate n w) := by
  unfold nts
  rw [List.map_replicate]
def spTim (K : PySem.W.Frag) (C : Addr) : Sp := fun vs H Q _ => ∃ (Z : List Addr) (p : NetP) (m : Nat) (gs : List Gt) (nm : List (Str × List Nat)) (t u : Addr) (b1 b2 : Bool) (os ts : List Nat), vs = [.ref p.x, .ref t, .ref u] ∧ NetAt C Z H p m gs nm ∧ Sq2 b1 K H t (nts os) ∧ Sq2 b2 K H u (nts ts) ∧ t ∉ [p.lm, p.ld] ∧ u ∉ [p.lm, p.ld] ∧ 0 < os.length ∧ (∀ w ∈ os, w < m + gs.length) ∧ (∀ w ∈ ts, w < m + gs.length) ∧ os.length ≤ 40 ∧ ts.length ≤ 40 ∧ m + gs.length ≤ 200000 ∧
  ∀ D H', KeepS [p.lm, p.ld] H H' → NetAt C Z H' p m (timW m gs os ts).1 nm → H D = none → H' D = some (.lst (nts (timW m gs os ts).2)) → Q (.ref D) H'
theorem ok_times_wires (B : Bl mg) (L : LL K mg C a1 a2 a3 a4 a5 a6 a7 a8 a9 a10 a11 a12 a13 a14 a15 a16 a17 a18 a19 a20 a21 a22 a23 a24 a25 a26 a27 a28 a29 a30 a31 a32 a33 a34 l1 l2 l3 l4 l5 l6 l7 l8 l9 l10 l11 l12 l13 l14 l15 l16 l17 l18 l19 l20 l21 l22 l23 l24 l25 l26 l27 l28 l29 l30 l31 l32 l33 l34) : FnOk P w K mg base CX0 7 a10 l10 ["net", "ones", "others"] (spTim K C) := by
  have G_Net_both : FnOk P w K mg base CX0 6 a20 l20 ["self", "a", "b"] (spG2 C "both") := (ok_Net_both B L).mono (by decide)
  have G_Net_fixed : FnOk P w K mg base CX0 6 a24 l24 ["self", "bit"] (spFixed C) := (ok_Net_fixed B L).mono (by decide)
  have G_sum_wires : FnOk P w K mg base CX0 6 a1 l1 ["net", "ones", "others", "carry"] (spSum K C) := (ok_sum_wires B L).mono (by decide)
  refine L.F_times_wires.ok sc_times_wires (fun vs H Q E h => ?_) (fun cdv A outer s H vs Q E hr h => ?_)
  · obtain ⟨Z, p, m, gs, nm, t, u, b1, b2, os, ts, rfl, _⟩ := h
    rfl
  obtain ⟨Z, p, m, gs, nm, t, u, b1, b2, os, ts, rfl, hN, hT, hU, nt, nu, h0, ho, hs, hl, hl2, hm, q⟩ := h
  refine ⟨_, (pss_cons (ps_set (i := 3) sc_times_wires.nd rfl (.inl rfl) (pe_meth (pv 0) L.T.cl L.M_Net_fixed G_Net_fixed hr L.b_Net_fixed .nil pass0 (pa_cons pe_int pa_nil)))
    (pss_cons (ps_set (i := 4) sc_times_wires.nd rfl (.inl rfl) (pe_op op_rep (pe_lst (pa_cons (pv 3) pa_nil)) (pe_callB call_len_seq (by rfl) B.len PySem.boot_len (pa_cons (pv 1) pa_nil))))
    (pss_cons (ps_set (i := 5) sc_times_wires.nd rfl (.inl rfl) (pe_lst pa_nil))
    (pss_cons (ps_for PassesOwn.never rfl (pi_sq (pe_revS (pv 2))) (pg_name (i := 6) sc_times_wires.nd rfl (.inr rfl)) (pss_cons (ps_setLc (i := 7) (own := [("one", 9)]) (by rfl) sc_times_wires.nd rfl rfl (sw_true rfl rfl rfl (by decide +kernel)) (pi_sq (pv 1)) (blkOk_by (own := [("one", 9)]) (N := ["net", "ones", "others", "nought", "total", "ended", "other", "row", "last", "one"]) (sc := defScope s_times_wires) (by decide +kernel)) (fun _ _ _ _ _ => pg_name (i := 9) sc_times_wires.nd rfl (Or.inl rfl)) (fun _ _ _ _ _ => pts_nil) (fun _ _ _ _ _ => (pe_meth (pv 0) L.T.cl L.M_Net_both G_Net_both hr L.b_Net_both .nil pass0 (pa_cons (pv 9) (pa_cons (pv 6) pa_nil)))))
    (pss_cons (ps_asg (pe_call G_sum_wires hr (by rfl) L.m_sum_wires L.F_sum_wires.kp L.b_sum_wires .nil pass0 (pa_cons (pv 0) (pa_cons (pv 4) (pa_cons (pv 7) (pa_cons (pv 3) pa_nil))))) (pg_star1 rfl (pgs_star (pg_name (i := 4) sc_times_wires.nd rfl (.inl rfl)) (pgs_cons (pg_name (i := 8) sc_times_wires.nd rfl (.inl rfl)) pgs_nil))))
    (pss_one (ps_expr (pe_bm PySem.F.plainAttrs_list PySem.F.slot_list_append PySem.F.type_list_append mt_append (pv 5) (pa_cons (pv 8) pa_nil)))))))
    (pss_one (ps_ret (pe_op op_cat (pv 4) (pe_revL (pv 5))))))))), ?_⟩
  obtain ⟨_, _, _, dx, _, _, f0, _⟩ := id hN
  refine ⟨_, rfl, p.x, dx, _, rfl, f0, rfl, Z, p, m, gs, nm, 0, rfl, hN, by omega, fun H1 k1 N1 => ?_⟩
  have hT1 := hT.keepS k1 nt
  have hU1 := hU.keepS k1 nu
  dsimp only [gName]
  try simp only [L2.start, List.map_cons, List.map_nil, List.length_cons, List.length_nil, List.replicate_succ, List.replicate_zero, List.cons_append, List.nil_append, List.set_cons_succ, List.set_cons_zero, Nat.reduceAdd, Nat.reduceSub, Nat.zero_add]
  refine ⟨_, rfl, (by show 1 ≤ sizeLine; decide), fun L1 nL1 => ?_⟩
  have s1 := same_upd (o := .lst [.int ((m + gs.length : Nat) : Int)]) nL1
  have e1 : (upd H1 L1 (.lst [.int ((m + gs.length : Nat) : Int)])) L1 = some (.lst [.int ((m + gs.length : Nat) : Int)]) := upd_same
  have hT2 := hT1.keepS (S := []) (.ofSame s1) (fun z => nomatch z)
  have k2 := k1.trans (.ofSame s1)
  have N2 := N1.same s1
  have hU2 := hU1.keepS (S := []) (.ofSame s1) (fun z => nomatch z)
  generalize upd H1 L1 (.lst [.int ((m + gs.length : Nat) : Int)]) = H2 at *
  refine ⟨_, rfl, t, _, rfl, hT2.to, ?_⟩
  rw [nts_len]
  refine ⟨L1, _, _, rfl, rfl, e1, by omega, by omega, by rw [Int.toNat_natCast, List.length_singleton]; exact Nat.le_of_lt (big_lt (by omega)), fun TL nTL => ?_⟩
  rw [Int.toNat_natCast, rep_flat, nts_repl]
  have s2 := same_upd (o := .lst (nts (List.replicate os.length (m + gs.length)))) nTL
  have eTL : (upd H2 TL (.lst (nts (List.replicate os.length (m + gs.length))))) TL = some (.lst (nts (List.replicate os.length (m + gs.length)))) := upd_same
  have hU3 := hU2.keepS (S := []) (.ofSame s2) (fun z => nomatch z)
  have hT3 := hT2.keepS (S := []) (.ofSame s2) (fun z => nomatch z)
  have k3 := k2.trans (.ofSame s2)
  have N3 := N2.same s2
  have nTL2 := N2.nin nTL
  generalize upd H2 TL (.lst (nts (List.replicate os.length (m + gs.length)))) = H3 at *
  dsimp only [gName]
  try simp only [L2.start, List.map_cons, List.map_nil, List.length_cons, List.length_nil, List.replicate_succ, List.replicate_zero, List.cons_append, List.nil_append, List.set_cons_succ, List.set_cons_zero, Nat.reduceAdd, Nat.reduceSub, Nat.zero_add]
  refine ⟨Nat.zero_le _, fun R nR => ?_⟩
  have nR2 := N3.nin nR
  have N4 := N3.add (o := .lst []) nR
  have k4 := k3.trans (KeepS.new (o := .lst []) nR)
  have eR4 : (upd H3 R (.lst [])) R = some (.lst []) := upd_same
  have sR := same_upd (o := .lst []) nR
  have eTL4 := sR _ _ eTL
  have hU4 := hU3.keepS (S := []) (.ofSame sR) (fun z => nomatch z)
  have hT4 := hT3.keepS (S := []) (.ofSame sR) (fun z => nomatch z)
  have nTLR : TL ≠ R := fun z => by rw [z, nR] at eTL; cases eTL
  have nRH : H R = none := ks_none k3 nR
  generalize upd H3 R (.lst []) = H4 at *
  dsimp only [gName]
  try simp only [L2.start, List.map_cons, List.map_nil, List.length_cons, List.length_nil, List.replicate_succ, List.replicate_zero, List.cons_append, List.nil_append, List.set_cons_succ, List.set_cons_zero, Nat.reduceAdd, Nat.reduceSub, Nat.zero_add]
  refine ⟨_, rfl, b2, u, _, rfl, hU4, fun A2 nA2 => ?_⟩
  rw [nts_rev]
  have sA2 := same_upd (o := sqO b2 (nts ts.reverse)) nA2
  have eA2 : Sq2 b2 K (upd H4 A2 (sqO b2 (nts ts.reverse))) A2 (nts ts.reverse) := Sq2.new
  have nA22 := N4.nin nA2
  have nA2R : A2 ≠ R := fun z => by rw [z, eR4] at nA2; cases nA2
  have N5 := N4.same sA2
  have eR5 := sA2 _ _ eR4
  have eTL5 := sA2 _ _ eTL4
  have k5 := k4.trans (.ofSame sA2)
  generalize upd H4 A2 (sqO b2 (nts ts.reverse)) = H5 at *
  refine ⟨b2, A2, _, rfl, eA2, ?_⟩
  have hF := fun i hi => timF_ok (m := m) (gs := gs) (os := os) (ts := ts.reverse) ho (fun p hp => hs _ (List.mem_reverse.mp hp)) h0 i hi _ rfl
  refine for_it (walk_q (K := K) (t := b2) (a := A2) (xs := nts ts.reverse)) (fun j σ H9 => ∃ (TL : Addr) (y6 y7 y8 : Option V), σ = [some (.ref p.x), some (.ref t), some (.ref u), some (.int ((m + gs.length : Nat) : Int)), some (.ref TL), some (.ref R), y6, y7, y8, none] ∧ KeepS [R, p.lm, p.ld] H5 H9 ∧ NetAt C (R :: Z) H9 p m (timF m gs os (ts.reverse.take j)).1 nm ∧ H9 R = some (.lst (nts (timF m gs os (ts.reverse.take j)).2.2)) ∧ H9 TL = some (.lst (nts (timF m gs os (ts.reverse.take j)).2.1)) ∧ TL ∉ [R, p.lm, p.ld]) ⟨TL, _, _, _, rfl, KeepS.refl _ _, N5, eR5, eTL5, ninR nTL2 nTLR⟩ (fun j σ H9 _ ⟨_, _, _, _, _, k9, _⟩ => eA2.keepS k9 (ninR nA22 nA2R)) ?_ ?_
  · rintro j v σ H10 H9 hj ⟨TL, y6, y7, y8, rfl, k9, N9, eR, eT9, nT9⟩ ⟨rfl, hx⟩
    obtain ⟨a, hab, rfl⟩ := nts_at hx
    rw [nts_len, List.length_reverse] at hj
    have la := hs _ (List.mem_reverse.mp (List.mem_of_getElem? hab))
    have estep : timF m gs os (ts.reverse.take (j + 1)) = tiS m os (m + gs.length) (timF m gs os (ts.reverse.take j)) a := fold_take _ hab _
    rw [estep]
    obtain ⟨x1, lg, lt1', lt2, hb1, hb2, _⟩ := hF j (by rw [List.length_reverse]; omega)
    have hm1 : 6 * os.length * j ≤ 6 * 40 * 40 := Nat.mul_le_mul (by omega) (by omega)
    have xl := x1.len
    clear estep x1
    generalize 6 * os.length * j = big at *
    generalize timF m gs os (ts.reverse.take j) = S at *
    have kH9 := ks_drop k5 k9 nRH
    have hT9 := hT.keepS kH9 nt
    try simp only [L2.start, List.map_cons, List.map_nil, List.length_cons, List.length_nil, List.replicate_succ, List.replicate_zero, List.cons_append, List.nil_append, List.set_cons_succ, List.set_cons_zero, Nat.reduceAdd, Nat.reduceSub, Nat.zero_add]
    dsimp only [gName]
    try simp only [L2.start, List.map_cons, List.map_nil, List.length_cons, List.length_nil, List.replicate_succ, List.replicate_zero, List.cons_append, List.nil_append, List.set_cons_succ, List.set_cons_zero, Nat.reduceAdd, Nat.reduceSub, Nat.zero_add]
    refine ⟨_, rfl, b1, t, _, rfl, hT9, fun W nW => ?_⟩
    have nW2 := N9.nin nW
    have nWH := ks_none kH9 nW
    have nWR : W ≠ R := fun z => by rw [z, eR] at nW; cases nW
    have nWT : TL ≠ W := fun z => by rw [← z, eT9] at nW; cases nW
    have NW := N9.add (o := .lst []) nW
    refine lc_it (walk_q (K := K) (t := b1) (a := t) (xs := nts os)) (fun i H7 => KeepS [p.lm, p.ld] H9 H7 ∧ NetAt C (W :: R :: Z) H7 p m ((os.take i).foldl (rwS m a) (S.1, [])).1 nm ∧ H7 W = some (.lst (nts ((os.take i).foldl (rwS m a) (S.1, [])).2))) ⟨KeepS.new nW, NW, upd_same⟩ (fun i H7 _ ⟨k7, _⟩ => hT9.keepS k7 nt) ?_ ?_
    · rintro i v H8 H7 hi ⟨k7, N7, eW⟩ ⟨rfl, hz⟩
      obtain ⟨o, ho', rfl⟩ := nts_at hz
      rw [nts_len] at hi
      have lo := ho _ (List.mem_of_getElem? ho')
      have estep : (os.take (i + 1)).foldl (rwS m a) (S.1, []) = rwS m a ((os.take i).foldl (rwS m a) (S.1, [])) o := fold_take _ ho' _
      rw [estep]
      obtain ⟨r1, r2⟩ := rowW_at (m := m) (o := a) (gs := gs) (os.take i) (S.1, [])
      rw [List.length_take] at r1 r2
      dsimp only [List.length_nil] at r1 r2
      generalize (os.take i).foldl (rwS m a) (S.1, []) = U at *
      refine ⟨rfl, yesT ?_⟩
      try simp only [L2.start, List.map_cons, List.map_nil, List.length_cons, List.length_nil, List.replicate_succ, List.replicate_zero, List.cons_append, List.nil_append, List.set_cons_succ, List.set_cons_zero, Nat.reduceAdd, Nat.reduceSub, Nat.zero_add]
      obtain ⟨_, _, _, dx2, _, _, f1, _⟩ := id N7
      refine ⟨_, rfl, p.x, dx2, _, rfl, f1, rfl, _, rfl, _, rfl, W :: R :: Z, p, m, U.1, nm, o, a, rfl, N7, by omega, by omega, by omega, fun H3 k3 N3 => ?_⟩
      refine ⟨_, k3.1 _ _ eW nW2, by rw [nts_len]; exact big_lt (by omega), ks_updN (k7.trans k3) nW, N3.put (by simp), ?_⟩
      rw [upd_same]
      show _ = some (HO.lst (nts (U.2 ++ [_])))
      rw [nts_app]
      rfl
    rintro H7 ⟨k7, N7, eW⟩
    have er : (os.take (nts os).length).foldl (rwS m a) (S.1, []) = rowW m S.1 os a := by
      rw [nts_len, List.take_length]
      rfl
    rw [er] at N7 eW
    have Ro := rowW_ok (m := m) (o := a) (gs := S.1) (os := os) (fun x hx => by have := ho x hx; omega) (by omega)
    have hrw : tiS m os (m + gs.length) S a = ((sumW m (rowW m S.1 os a).1 S.2.1 (rowW m S.1 os a).2 (m + gs.length)).1, (sumW m (rowW m S.1 os a).1 S.2.1 (rowW m S.1 os a).2 (m + gs.length)).2.dropLast, S.2.2 ++ [(sumW m (rowW m S.1 os a).1 S.2.1 (rowW m S.1 os a).2 (m + gs.length)).2.getLastD 0]) := rfl
    rw [hrw]
    clear hrw er
    have lR := (rowW_at (m := m) (o := a) (gs := gs) os (S.1, [])).2
    rw [show (os.foldl (rwS m a) (S.1, [])) = rowW m S.1 os a from rfl] at lR
    dsimp only [List.length_nil] at lR
    generalize rowW m S.1 os a = U at *
    have lU := Ro.ext.len
    have eR7 := k7.1 _ _ eR nR2
    have nT92 : TL ∉ [p.lm, p.ld] := fun z => nT9 (List.mem_cons_of_mem _ z)
    have eT7 := k7.1 _ _ eT9 nT92
    dsimp only [gName]
    try simp only [L2.start, List.map_cons, List.map_nil, List.length_cons, List.length_nil, List.replicate_succ, List.replicate_zero, List.cons_append, List.nil_append, List.set_cons_succ, List.set_cons_zero, Nat.reduceAdd, Nat.reduceSub, Nat.zero_add]
    refine ⟨_, rfl, _, rfl, _, rfl, _, rfl, R :: Z, p, m, U.1, nm, TL, W, false, false, S.2.1, U.2, m + gs.length, rfl, N7.less, SqL.of eT7, SqL.of eW, by omega, (fun x hx => by have := hb1 x hx; omega), Ro.lt, by omega, by omega, by omega, fun D H8 k8 N8 nD eD => ?_⟩
    have Sm := sumW_len (m := m) (gs := U.1) (os := S.2.1) (ts := U.2) (c := m + gs.length) (by omega) (fun x hx => by have := hb1 x hx; omega) Ro.lt (by omega)
    generalize sumW m U.1 S.2.1 U.2 (m + gs.length) = X at *
    have hne : X.2 ≠ [] := fun z => by rw [z] at Sm; cases Sm
    have dl := dl_last (d := 0) hne
    have eD' : H8 D = some (.lst (nts X.2.dropLast ++ [.int (X.2.getLastD 0 : Nat)])) := by
      rw [eD]
      conv => lhs; rw [dl, nts_app]
      rfl
    refine ⟨D, _, _, rfl, SqL.of eD', by rw [nts_len, List.length_dropLast]; omega, fun TM nTM => ?_⟩
    have sM := same_upd (o := .lst (nts X.2.dropLast)) nTM
    have eM : (upd H8 TM (.lst (nts X.2.dropLast))) TM = some (.lst (nts X.2.dropLast)) := upd_same
    have eR8 := k8.1 _ _ eR7 nR2
    have nTM2 := N8.nin nTM
    have nTMR : TM ≠ R := fun z => by rw [z, eR8] at nTM; cases nTM
    have N9' := N8.same sM
    have eR9 := sM _ _ eR8
    have k79 := (k7.trans k8).trans (.ofSame sM)
    generalize upd H8 TM (.lst (nts X.2.dropLast)) = HA at *
    refine ⟨_, _, rfl, _, _, rfl, rfl, ?_⟩
    dsimp only [gName]
    try simp only [L2.start, List.map_cons, List.map_nil, List.length_cons, List.length_nil, List.replicate_succ, List.replicate_zero, List.cons_append, List.nil_append, List.set_cons_succ, List.set_cons_zero, Nat.reduceAdd, Nat.reduceSub, Nat.zero_add]
    refine ⟨_, rfl, .inl ⟨rfl, _, SqL.of eR9⟩, _, rfl, R, _, _, rfl, rfl, eR9, by rw [nts_len]; exact big_lt (by omega), ?_⟩
    refine ⟨TM, _, _, _, rfl, (k9.trans (k79.mono fun y hy => List.mem_cons_of_mem _ hy)).trans (KeepS.upd (by simp)), N9'.put (by simp), ?_, ?_, ninR nTM2 nTMR⟩
    · rw [upd_same, nts_app]
      rfl
    · rw [upd_ne nTMR]
      exact eM
  · rintro σ H9 ⟨TL, y6, y7, y8, rfl, k9, N9, eR, eT9, nT9⟩
    rw [nts_len, List.take_length] at N9 eR eT9
    have eW : timW m gs os ts = ((timF m gs os ts.reverse).1, (timF m gs os ts.reverse).2.1 ++ (timF m gs os ts.reverse).2.2.reverse) := rfl
    have hF' := hF _ (Nat.le_refl _)
    rw [List.take_length, List.length_reverse] at hF'
    rw [eW] at q
    obtain ⟨_, _, lt1', lt2, _⟩ := hF'
    generalize timF m gs os ts.reverse = S at *
    dsimp only at q
    try simp only [L2.start, List.map_cons, List.map_nil, List.length_cons, List.length_nil, List.replicate_succ, List.replicate_zero, List.cons_append, List.nil_append, List.set_cons_succ, List.set_cons_zero, Nat.reduceAdd, Nat.reduceSub, Nat.zero_add]
    refine ⟨_, rfl, _, rfl, R, _, rfl, SqL.of eR, fun B nB => ?_⟩
    rw [nts_rev]
    have sB := same_upd (o := .lst (nts S.2.2.reverse)) nB
    have eB : (upd H9 B (.lst (nts S.2.2.reverse))) B = some (.lst (nts S.2.2.reverse)) := upd_same
    have eT10 := sB _ _ eT9
    generalize upd H9 B (.lst (nts S.2.2.reverse)) = H10 at *
    have k9' := ks_drop k5 k9 nRH
    refine ⟨TL, B, _, _, rfl, rfl, eT10, eB, by
      rw [nts_len, nts_len, List.length_reverse]
      exact Nat.le_of_lt (big_lt (by omega)), fun D nD => ?_⟩
    rw [← nts_app]
    have sD := same_upd (o := .lst (nts (S.2.1 ++ S.2.2.reverse))) nD
    exact q D _ (k9'.trans (.ofSame (sB.trans sD))) (N9.less.same (sB.trans sD)) (ks_none (k9'.trans (.ofSame sB)) nD) upd_same
/-! ### shifts, walked -/
def PrL (H0 H : Hp) (D : Addr) (ps : List (Nat × Nat)) : Prop := ∃ ts : List Addr, ts.length = ps.length ∧ H D = some (.lst (ts.map V.ref)) ∧ H0 D = none ∧ ∀ (i : Nat) (t : Addr) (p : Nat × Nat), ts[i]? = some t → ps[i]? = some p → H0 t = none ∧ H t = some (.tup [.int (p.1 : Int), .int (p.2 : Int)])
theorem PrL.keepS {S : List Addr} {H0 H H' : Hp} {D : Addr} {ps : List (Nat × Nat)} (h : PrL H0 H D ps) (k : KeepS S H H') (n : ∀ y ∈ S, H0 y ≠ none) : PrL H0 H' D ps := by
  obtain ⟨ts, l, e, d, f⟩ := h
  have nn : ∀ {y : Addr}, H0 y = none → y ∉ S := fun e z => n _ z e
  refine ⟨ts, l, k.1 _ _ e (nn d), d, fun i t p h1 h2 => ?_⟩
  obtain ⟨a, b⟩ := f i t p h1 h2
  exact ⟨a, k.1 _ _ b (nn a)⟩
theorem PrL.same {H0 H H' : Hp} {D : Addr} {ps : List (Nat × Nat)} (h : PrL H0 H D ps) (k : Same H H') : PrL H0 H' D ps := h.keepS (S := []) (.ofSame k) (fun _ z => nomatch z)
def spAmt (K : PySem.W.Frag) (C : Addr) : Sp := fun vs H Q _ => ∃ (Z : List Addr) (p : NetP) (m : Nat) (gs : List Gt) (nm : List (Str × List Nat)) (u : Addr) (b2 : Bool) (n : Nat) (bs : List Nat), vs = [.ref p.x, .int (n : Int), .ref u] ∧ NetAt C Z H p m gs nm ∧ Sq2 b2 K H u (nts bs) ∧ (∀ w ∈ bs, w < m + gs.length) ∧ bs.length ≤ 60 ∧ n ≤ 1000 ∧ m + gs.length ≤ 300000 ∧
  ∀ D H', KeepS [p.lm, p.ld] H H' → NetAt C Z H' p m (shaW m gs n bs.reverse).1 nm → PrL H H' D (shaW m gs n bs.reverse).2 → Q (.ref D) H'
theorem ok_shift_amounts (B : Bl mg) (L : LL K mg C a1 a2 a3 a4 a5 a6 a7 a8 a9 a10 a11 a12 a13 a14 a15 a16 a17 a18 a19 a20 a21 a22 a23 a24 a25 a26 a27 a28 a29 a30 a31 a32 a33 a34 l1 l2 l3 l4 l5 l6 l7 l8 l9 l10 l11 l12 l13 l14 l15 l16 l17 l18 l19 l20 l21 l22 l23 l24 l25 l26 l27 l28 l29 l30 l31 l32 l33 l34) : FnOk P w K mg base CX0 6 a4 l4 ["net", "many", "by"] (spAmt K C) := by
  have G_any_wire : FnOk P w K mg base CX0 5 a5 l5 ["net", "wires"] (spAny K C) := (ok_any_wire B L).mono (by decide)
  refine L.F_shift_amounts.ok sc_shift_amounts (fun vs H Q E h => ?_) (fun cdv A outer s H vs Q E hr h => ?_)
  · obtain ⟨Z, p, m, gs, nm, u, b2, n, bs, rfl, _⟩ := h
    rfl
  obtain ⟨Z, p, m, gs, nm, u, b2, n, bs, rfl, hN, hU, hb, hl, hn, hm, q⟩ := h
  refine ⟨_, (pss_cons (ps_set (i := 3) sc_shift_amounts.nd rfl (.inl rfl) (pe_lst pa_nil))
    (pss_cons (ps_set (i := 4) sc_shift_amounts.nd rfl (.inl rfl) (pe_lst pa_nil))
    (pss_cons (ps_for PassesOwn.never rfl (pi_eq (by rfl) B.enumerate (pa_cons (pe_revS (pv 2)) pa_nil)) (pg_tup (by rfl) (pgs_cons (pg_name (i := 5) sc_shift_amounts.nd rfl (.inl rfl)) (pgs_cons (pg_name (i := 6) sc_shift_amounts.nd rfl (.inl rfl)) pgs_nil))) (pss_one (ps_if (pt_cmpR op_lt (pe_op op_oneShl pe_int (pv 5)) (pv 1) (nomark _)) (pss_one (ps_expr (pe_bm PySem.F.plainAttrs_list PySem.F.slot_list_append PySem.F.type_list_append mt_append (pv 3) (pa_cons (pe_tup (pa_cons (pe_op op_oneShl pe_int (pv 5)) (pa_cons (pv 6) pa_nil))) pa_nil)))) (pss_one (ps_expr (pe_bm PySem.F.plainAttrs_list PySem.F.slot_list_append PySem.F.type_list_append mt_append (pv 4) (pa_cons (pv 6) pa_nil)))))))
    (pss_one (ps_ret (pe_ifExp (pt_cmpR (op_eqD hr.units) (pv 4) (pe_lst pa_nil) (nomark _)) (pv 3) (pe_lst (StX.pa_star (pv 3) (pa_cons (pe_tup (pa_cons (pv 1) (pa_cons (pe_call G_any_wire hr (by rfl) L.m_any_wire L.F_any_wire.kp L.b_any_wire .nil pass0 (pa_cons (pv 0) (pa_cons (pv 4) pa_nil))) pa_nil))) pa_nil))))))))), ?_⟩
  refine ⟨Nat.zero_le _, fun R1 nR1 => ?_⟩
  have nR12 := hN.nin nR1
  have N1 := hN.add (o := .lst []) nR1
  have s1 := same_upd (o := .lst []) nR1
  have hU1 := hU.keepS (S := []) (.ofSame s1) (fun z => nomatch z)
  have e1 : (upd H R1 (.lst [])) R1 = some (.lst []) := upd_same
  generalize upd H R1 (.lst []) = H1 at *
  try simp only [L2.start, List.map_cons, List.map_nil, List.length_cons, List.length_nil, List.replicate_succ, List.replicate_zero, List.cons_append, List.nil_append, List.set_cons_succ, List.set_cons_zero, Nat.reduceAdd, Nat.reduceSub, Nat.zero_add]
  dsimp only [gName]
  try simp only [L2.start, List.map_cons, List.map_nil, List.length_cons, List.length_nil, List.replicate_succ, List.replicate_zero, List.cons_append, List.nil_append, List.set_cons_succ, List.set_cons_zero, Nat.reduceAdd, Nat.reduceSub, Nat.zero_add]
  refine ⟨Nat.zero_le _, fun R2 nR2 => ?_⟩
  have nR22 := N1.nin nR2
  have N2 := N1.add (o := .lst []) nR2
  have s2 := same_upd (o := .lst []) nR2
  have hU2 := hU1.keepS (S := []) (.ofSame s2) (fun z => nomatch z)
  have e2 : (upd H1 R2 (.lst [])) R2 = some (.lst []) := upd_same
  have e12 := s2 _ _ e1
  have n21 : R2 ≠ R1 := fun z => by rw [z, e1] at nR2; cases nR2
  have nR2H : H R2 = none := ks_none (S := []) (.ofSame s1) nR2
  have s02 := s1.trans s2
  generalize upd H1 R2 (.lst []) = H2 at *
  try simp only [L2.start, List.map_cons, List.map_nil, List.length_cons, List.length_nil, List.replicate_succ, List.replicate_zero, List.cons_append, List.nil_append, List.set_cons_succ, List.set_cons_zero, Nat.reduceAdd, Nat.reduceSub, Nat.zero_add]
  dsimp only [gName]
  try simp only [L2.start, List.map_cons, List.map_nil, List.length_cons, List.length_nil, List.replicate_succ, List.replicate_zero, List.cons_append, List.nil_append, List.set_cons_succ, List.set_cons_zero, Nat.reduceAdd, Nat.reduceSub, Nat.zero_add]
  refine ⟨_, rfl, b2, u, _, rfl, hU2, fun A nA => ?_⟩
  rw [nts_rev]
  have sA := same_upd (o := sqO b2 (nts bs.reverse)) nA
  have eA : Sq2 b2 K (upd H2 A (sqO b2 (nts bs.reverse))) A (nts bs.reverse) := Sq2.new
  have nAR1 : A ≠ R1 := fun z => by rw [z, e12] at nA; cases nA
  have nAR2 : A ≠ R2 := fun z => by rw [z, e2] at nA; cases nA
  have N3 := N2.same sA
  have e13 := sA _ _ e12
  have e23 := sA _ _ e2
  have s03 := s02.trans sA
  generalize upd H2 A (sqO b2 (nts bs.reverse)) = H3 at *
  refine ⟨b2, A, _, rfl, eA, ?_⟩
  have nAS : A ∉ [R1, R2] := fun z => by
    simp only [List.mem_cons, List.not_mem_nil, or_false] at z
    rcases z with z | z
    · exact nAR1 z
    · exact nAR2 z
  refine for_it (walk_eq (K := K) (t := b2) (a := A) (xs := nts bs.reverse) (n := bs.length) (by rw [nts_len, List.length_reverse])) (fun j σ H9 => ∃ y5 y6 : Option V, σ = [some (.ref p.x), some (.int (n : Int)), some (.ref u), some (.ref R1), some (.ref R2), y5, y6] ∧ KeepS [R1, R2] H3 H9 ∧ NetAt C (R2 :: R1 :: Z) H9 p m gs nm ∧ PrL H H9 R1 (nearL n (bs.reverse.take j)) ∧ H9 R2 = some (.lst (nts (farL n (bs.reverse.take j))))) ⟨_, _, rfl, KeepS.refl _ _, N3, ⟨[], rfl, e13, nR1, fun i t p h => by simp at h⟩, e23⟩ (fun j σ H9 _ ⟨_, _, _, k9, _⟩ => eA.keepS k9 nAS) ?_ ?_
  · rintro j v σ H9 H10 hj ⟨y5, y6, rfl, k9, N9, P9, e9⟩ ⟨T, x, y, rfl, nT, rfl, hx, hy⟩
    cases hx
    obtain ⟨a, hab, rfl⟩ := nts_at hy
    have la := hb _ (List.mem_reverse.mp (List.mem_of_getElem? hab))
    have sT := same_upd (o := .tup [.int (j : Int), .int (a : Int)]) nT
    have N10 := N9.same sT
    have eT : (upd H9 T (.tup [.int (j : Int), .int (a : Int)])) T = some (.tup [.int (j : Int), .int (a : Int)]) := upd_same
    have P10 := P9.same sT
    have e10 := sT _ _ e9
    have k10 := k9.trans (.ofSame sT)
    generalize upd H9 T (.tup [.int (j : Int), .int (a : Int)]) = H10 at *
    refine ⟨T, _, rfl, .inl (.inl eT), rfl, _, _, rfl, _, _, rfl, rfl, ?_⟩
    try simp only [L2.start, List.map_cons, List.map_nil, List.length_cons, List.length_nil, List.replicate_succ, List.replicate_zero, List.cons_append, List.nil_append, List.set_cons_succ, List.set_cons_zero, Nat.reduceAdd, Nat.reduceSub, Nat.zero_add]
    rw [near_step hab, far_step hab]
    have ll := near_far_len n (bs.reverse.take j)
    rw [List.length_take, List.length_reverse, Nat.min_eq_left (Nat.le_of_lt hj)] at ll
    have cj : ((2 ^ j : Nat) : Int) = 2 ^ j := PySem.W.kbt_cast j
    refine ⟨_, rfl, j, rfl, rfl, by omega, _, rfl, _, _, rfl, rfl, _, rfl, ite2 (fun z => ?_) (fun z => ?_)⟩
    · have hlt : 2 ^ j < n := by
        have := of_decide_eq_true z
        omega
      rw [if_pos hlt, if_pos hlt, List.append_nil]
      obtain ⟨ts, lt, et, eH, ft⟩ := id P10
      refine ⟨_, rfl, .inl ⟨rfl, _, SqL.of et⟩, _, rfl, j, rfl, rfl, by omega, _, rfl, (by show 2 ≤ sizeLine; decide), fun TT nTT => ?_⟩
      have sTT := same_upd (o := .tup [.int (2 ^ j), .int (a : Int)]) nTT
      have N11 := N10.same sTT
      have eTT : (upd H10 TT (.tup [.int (2 ^ j), .int (a : Int)])) TT = some (.tup [.int (2 ^ j), .int (a : Int)]) := upd_same
      have et' := sTT _ _ et
      have e11 := sTT _ _ e10
      have k11 := k10.trans (.ofSame sTT)
      have nTTH : H TT = none := ks_none (S := [R1, R2]) ((KeepS.ofSame s03).trans k10) nTT
      have nTR : TT ≠ R1 := fun z => by rw [z, et] at nTT; cases nTT
      have f11 : ∀ (i : Nat) (t : Addr) (p : Nat × Nat), ts[i]? = some t → (nearL n (bs.reverse.take j))[i]? = some p → H t = none ∧ t ≠ R1 ∧ (upd H10 TT (.tup [.int (2 ^ j), .int (a : Int)])) t = some (.tup [.int (p.1 : Int), .int (p.2 : Int)]) := fun i t p h1 h2 => by
        obtain ⟨a1, a2⟩ := ft i t p h1 h2
        exact ⟨a1, (fun z => by rw [z, et] at a2; cases a2), sTT _ _ a2⟩
      generalize upd H10 TT (.tup [.int (2 ^ j), .int (a : Int)]) = H11 at *
      refine ⟨R1, _, _, rfl, rfl, et', by rw [List.length_map, lt]; exact big_lt (by omega), ?_⟩
      refine ⟨_, _, rfl, k11.trans (KeepS.upd (by simp)), N11.put (by simp), ⟨ts ++ [TT], by rw [List.length_append, List.length_append, lt]; rfl, by rw [upd_same, List.map_append]; rfl, nR1, fun i t p h1 h2 => ?_⟩, by rw [upd_ne n21]; exact e11⟩
      by_cases c : i < ts.length
      · rw [List.getElem?_append_left c] at h1
        rw [List.getElem?_append_left (by omega)] at h2
        obtain ⟨a1, a2, a3⟩ := f11 i t p h1 h2
        exact ⟨a1, by rw [upd_ne a2]; exact a3⟩
      · have i0 : i = ts.length := by
          have := (List.getElem?_eq_some_iff.mp h1).1
          rw [List.length_append, List.length_cons, List.length_nil] at this
          omega
        rw [List.getElem?_append_right (by omega), i0, Nat.sub_self] at h1
        rw [List.getElem?_append_right (by omega), i0, lt, Nat.sub_self] at h2
        cases h1
        cases h2
        refine ⟨nTTH, ?_⟩
        rw [upd_ne nTR, eTT, cj]
    · have hge : ¬ 2 ^ j < n := fun y => z (decide_eq_true (by omega))
      rw [if_neg hge, if_neg hge, List.append_nil]
      refine ⟨_, rfl, .inl ⟨rfl, _, SqL.of e10⟩, _, rfl, R2, _, _, rfl, rfl, e10, by rw [nts_len]; exact big_lt (by omega), ?_⟩
      refine ⟨_, _, rfl, k10.trans (KeepS.upd (by simp)), N10.put (by simp), ?_, by rw [upd_same, nts_app]; rfl⟩
      obtain ⟨ts, lt, et, eH, ft⟩ := id P10
      refine ⟨ts, lt, by rw [upd_ne n21.symm]; exact et, eH, fun i t p h1 h2 => ?_⟩
      obtain ⟨a1, a2⟩ := ft i t p h1 h2
      refine ⟨a1, ?_⟩
      rw [upd_ne (fun z => by rw [z, e10] at a2; cases a2)]
      exact a2
  · rintro σ H9 ⟨y5, y6, rfl, k9, N9, P9, e9⟩
    have lr : bs.reverse.length = bs.length := List.length_reverse
    rw [← lr, List.take_length] at P9 e9
    have k09 : KeepS [p.lm, p.ld] H H9 := ⟨fun y o e ny => k9.1 y o (s03 y o e) (fun z => by
      simp only [List.mem_cons, List.not_mem_nil, or_false] at z
      rcases z with z | z
      · rw [z, nR1] at e; cases e
      · rw [z, nR2H] at e; cases e), fun y e => k9.2 y ((KeepS.ofSame (S := []) s03).2 y e)⟩
    have hSh : shaW m gs n bs.reverse = if farL n bs.reverse = [] then (gs, nearL n bs.reverse) else ((anyW m gs (farL n bs.reverse)).1, nearL n bs.reverse ++ [(n, (anyW m gs (farL n bs.reverse)).2)]) := rfl
    have hfm : ∀ w ∈ farL n bs.reverse, w < m + gs.length := fun w h => hb w (List.mem_reverse.mp (far_mem h))
    have ll := near_far_len n bs.reverse
    rw [lr] at ll
    rw [hSh] at q
    clear hSh
    try simp only [L2.start, List.map_cons, List.map_nil, List.length_cons, List.length_nil, List.replicate_succ, List.replicate_zero, List.cons_append, List.nil_append, List.set_cons_succ, List.set_cons_zero, Nat.reduceAdd, Nat.reduceSub, Nat.zero_add]
    refine ⟨_, rfl, (by show 0 ≤ sizeLine; decide), fun E nE => ?_⟩
    have sE := same_upd (o := .lst []) nE
    have eE : (upd H9 E (.lst [])) E = some (.lst []) := upd_same
    have N10 := N9.same sE
    have P10 := P9.same sE
    have e10 := sE _ _ e9
    have k10 := k09.trans (.ofSame sE)
    generalize upd H9 E (.lst []) = H10 at *
    have en : nts (farL n bs.reverse) = ((farL n bs.reverse).map fun (a : Nat) => (a : Int)).map V.int := by
      unfold nts
      rw [List.map_map]
      rfl
    have dp : Dp K H10 (.ref R2) (.list (((farL n bs.reverse).map fun (a : Nat) => (a : Int)).map PyData.int)) := .lst (SqL.of e10) (by rw [en]; exact dp_ints _)
    refine ⟨_, _, dp, .lst (SqL.of eE) .nil, PySem.W.shaped_ints _, PySem.W.shaped_ints [], ?_⟩
    refine ⟨_, rfl, ?_⟩
    by_cases c : farL n bs.reverse = []
    · rw [if_pos c] at q
      rw [c]
      refine iteT ?_
      exact ⟨_, rfl, q R1 H10 k10 N10.less.less P10⟩
    · rw [if_neg c] at q
      have en2 : PyData.eqv (.list (((farL n bs.reverse).map fun (a : Nat) => (a : Int)).map PyData.int)) (.list []) = false := by
        cases hf : farL n bs.reverse with
        | nil => exact absurd hf c
        | cons x xs => simp [PyData.eqv, PyData.eqvAll]
      rw [en2]
      refine iteF ?_
      obtain ⟨ts, lt, et, eH, ft⟩ := id P10
      refine ⟨_, rfl, R1, _, rfl, .inr (SqL.of et), _, rfl, _, rfl, _, rfl, Z, p, m, gs, nm, R2, _, rfl, N10.less.less, SqL.of e10, nR22, hfm, by omega, fun H11 k11 N11 => ?_⟩
      generalize anyW m gs (farL n bs.reverse) = AA at *
      have et11 := k11.1 _ _ et nR12
      refine ⟨(by show 2 ≤ sizeLine; decide), fun TT nTT => ?_⟩
      have sTT := same_upd (o := .tup [.int (n : Int), .int (AA.2 : Int)]) nTT
      have eTT : (upd H11 TT (.tup [.int (n : Int), .int (AA.2 : Int)])) TT = some (.tup [.int (n : Int), .int (AA.2 : Int)]) := upd_same
      have N12 := N11.same sTT
      have k011 := k10.trans k11
      have nTTH := ks_none k011 nTT
      have kk := k11.trans (.ofSame sTT)
      generalize upd H11 TT (.tup [.int (n : Int), .int (AA.2 : Int)]) = H12 at *
      refine ⟨by
        rw [List.length_append, List.length_map, lt]
        exact Nat.le_of_lt (big_lt (by show _ + 1 ≤ 500000; omega)), fun D nD => ?_⟩
      have sD := same_upd (o := .lst (ts.map V.ref ++ [V.ref TT])) nD
      have nDH := ks_none (k10.trans kk) nD
      have nt2 : ∀ {t : Addr}, H t = none → t ∉ [p.lm, p.ld] := fun h => hN.nin h
      refine q D _ (((k10.trans kk)).trans (.ofSame sD)) (N12.same sD) ⟨ts ++ [TT], by rw [List.length_append, List.length_append, lt]; rfl, by rw [upd_same, List.map_append]; rfl, nDH, fun i t p' h1 h2 => ?_⟩
      by_cases c : i < ts.length
      · rw [List.getElem?_append_left c] at h1
        rw [List.getElem?_append_left (by omega)] at h2
        obtain ⟨a1, a2⟩ := ft i t p' h1 h2
        exact ⟨a1, sD _ _ (kk.1 _ _ a2 (nt2 a1))⟩
      · have i0 : i = ts.length := by
          have := (List.getElem?_eq_some_iff.mp h1).1
          rw [List.length_append, List.length_cons, List.length_nil] at this
          omega
        rw [List.getElem?_append_right (by omega), i0, Nat.sub_self] at h1
        rw [List.getElem?_append_right (by omega), i0, lt, Nat.sub_self] at h2
        cases h1
        cases h2
        exact ⟨nTTH, sD _ _ eTT⟩
def spShi (K : PySem.W.Frag) (C : Addr) : Sp := fun vs H Q _ => ∃ (Z : List Addr) (p : NetP) (m : Nat) (gs : List Gt) (nm : List (Str × List Nat)) (t u : Addr) (b1 b2 : Bool) (os bs : List Nat), vs = [.ref p.x, .ref t, .ref u] ∧ NetAt C Z H p m gs nm ∧ Sq2 b1 K H t (nts os) ∧ Sq2 b2 K H u (nts bs) ∧ t ∉ [p.lm, p.ld] ∧ u ∉ [p.lm, p.ld] ∧ (∀ w ∈ os, w < m + gs.length) ∧ (∀ w ∈ bs, w < m + gs.length) ∧ os.length ≤ 60 ∧ bs.length ≤ 60 ∧ m + gs.length ≤ 200000 ∧
  ∀ D T H', KeepS [p.lm, p.ld] H H' → NetAt C Z H' p m (shiW m gs os bs).1 nm → H D = none → H' D = some (.lst (nts (shiW m gs os bs).2.1)) → H' T = some (.tup [.ref D, .int ((shiW m gs os bs).2.2 : Nat)]) → Q (.ref T) H'
theorem gv_nats {z : Nat} {c : List Nat} {n : Nat} : List.replicate n (V.int (z : Int)) ++ nts c = nts (List.replicate n z ++ c) := by
  unfold nts
  rw [List.map_append, List.map_replicate]
theorem ok_shift_wires (B : Bl mg) (L : LL K mg C a1 a2 a3 a4 a5 a6 a7 a8 a9 a10 a11 a12 a13 a14 a15 a16 a17 a18 a19 a20 a21 a22 a23 a24 a25 a26 a27 a28 a29 a30 a31 a32 a33 a34 l1 l2 l3 l4 l5 l6 l7 l8 l9 l10 l11 l12 l13 l14 l15 l16 l17 l18 l19 l20 l21 l22 l23 l24 l25 l26 l27 l28 l29 l30 l31 l32 l33 l34) : FnOk P w K mg base CX0 7 a2 l2 ["net", "ones", "by"] (spShi K C) := by
  have G_Net_fixed : FnOk P w K mg base CX0 6 a24 l24 ["self", "bit"] (spFixed C) := (ok_Net_fixed B L).mono (by decide)
  have G_shift_amounts : FnOk P w K mg base CX0 6 a4 l4 ["net", "many", "by"] (spAmt K C) := (ok_shift_amounts B L).mono (by decide)
  have G_any_wire : FnOk P w K mg base CX0 6 a5 l5 ["net", "wires"] (spAny K C) := (ok_any_wire B L).mono (by decide)
  have G_Net_both : FnOk P w K mg base CX0 6 a20 l20 ["self", "a", "b"] (spG2 C "both") := (ok_Net_both B L).mono (by decide)
  have G_Net_either : FnOk P w K mg base CX0 6 a21 l21 ["self", "a", "b"] (spG2 C "either") := (ok_Net_either B L).mono (by decide)
  have G_chosen_wires : FnOk P w K mg base CX0 6 a9 l9 ["net", "wire", "ones", "others"] (spChosen K C) := (ok_chosen_wires B L).mono (by decide)
  refine L.F_shift_wires.ok sc_shift_wires (fun vs H Q E h => ?_) (fun cdv A outer s H vs Q E hr h => ?_)
  · obtain ⟨Z, p, m, gs, nm, t, u, b1, b2, os, bs, rfl, _⟩ := h
    rfl
  obtain ⟨Z, p, m, gs, nm, t, u, b1, b2, os, bs, rfl, hN, hT, hU, nt, nu, ho, hb, hl, hl2, hm, q⟩ := h
  refine ⟨_, (pss_cons (ps_set (i := 3) sc_shift_wires.nd rfl (.inl rfl) (pe_callB call_len_seq (by rfl) B.len PySem.boot_len (pa_cons (pv 1) pa_nil)))
    (pss_cons (ps_set (i := 4) sc_shift_wires.nd rfl (.inl rfl) (pe_meth (pv 0) L.T.cl L.M_Net_fixed G_Net_fixed hr L.b_Net_fixed .nil pass0 (pa_cons pe_int pa_nil)))
    (pss_cons (ps_set (i := 5) sc_shift_wires.nd rfl (.inl rfl) (pe_callTy call_list_of (by rfl) B.list PyProof.Rows.boot_list (pa_cons (pv 1) pa_nil)))
    (pss_cons (ps_set (i := 6) sc_shift_wires.nd rfl (.inl rfl) (pv 4))
    (pss_cons (ps_for PassesOwn.never rfl (pi_list (pe_call G_shift_amounts hr (by rfl) L.m_shift_amounts L.F_shift_amounts.kp L.b_shift_amounts .nil pass0 (pa_cons (pv 0) (pa_cons (pv 3) (pa_cons (pv 2) pa_nil))))) (pg_tup (by rfl) (pgs_cons (pg_name (i := 7) sc_shift_wires.nd rfl (.inl rfl)) (pgs_cons (pg_name (i := 8) sc_shift_wires.nd rfl (.inl rfl)) pgs_nil))) (pss_cons (ps_set (i := 9) sc_shift_wires.nd rfl (.inl rfl) (pe_call G_any_wire hr (by rfl) L.m_any_wire L.F_any_wire.kp L.b_any_wire .nil pass0 (pa_cons (pv 0) (pa_cons (pe_slice sl_list (pv 5) (po_some (pe_op op_sub (pv 3) (pv 7))) po_none) pa_nil))))
    (pss_cons (ps_set (i := 6) sc_shift_wires.nd rfl (.inl rfl) (pe_meth (pv 0) L.T.cl L.M_Net_either G_Net_either hr L.b_Net_either .nil pass0 (pa_cons (pv 6) (pa_cons (pe_meth (pv 0) L.T.cl L.M_Net_both G_Net_both hr L.b_Net_both .nil pass0 (pa_cons (pv 8) (pa_cons (pv 9) pa_nil))) pa_nil))))
    (pss_one (ps_set (i := 5) sc_shift_wires.nd rfl (.inl rfl) (pe_call G_chosen_wires hr (by rfl) L.m_chosen_wires L.F_chosen_wires.kp L.b_chosen_wires .nil pass0 (pa_cons (pv 0) (pa_cons (pv 8) (pa_cons (pe_op op_cat (pe_op op_rep (pe_lst (pa_cons (pv 4) pa_nil)) (pv 7)) (pe_slice sl_list (pv 5) po_none (po_some (pe_op op_sub (pv 3) (pv 7))))) (pa_cons (pv 5) pa_nil))))))))))
    (pss_one (ps_ret (pe_tup (pa_cons (pv 5) (pa_cons (pv 6) pa_nil)))))))))), ?_⟩
  refine ⟨_, rfl, t, _, rfl, hT.to, ?_⟩
  rw [nts_len]
  try simp only [L2.start, List.map_cons, List.map_nil, List.length_cons, List.length_nil, List.replicate_succ, List.replicate_zero, List.cons_append, List.nil_append, List.set_cons_succ, List.set_cons_zero, Nat.reduceAdd, Nat.reduceSub, Nat.zero_add]
  dsimp only [gName]
  try simp only [L2.start, List.map_cons, List.map_nil, List.length_cons, List.length_nil, List.replicate_succ, List.replicate_zero, List.cons_append, List.nil_append, List.set_cons_succ, List.set_cons_zero, Nat.reduceAdd, Nat.reduceSub, Nat.zero_add]
  obtain ⟨_, _, _, dx, _, _, f0, _⟩ := id hN
  refine ⟨_, rfl, p.x, dx, _, rfl, f0, rfl, Z, p, m, gs, nm, 0, rfl, hN, by omega, fun H1 k1 N1 => ?_⟩
  have hT1 := hT.keepS k1 nt
  have hU1 := hU.keepS k1 nu
  have l0 : (gs ++ [Gt.fi 0]).length = gs.length + 1 := by simp
  dsimp only [gName]
  try simp only [L2.start, List.map_cons, List.map_nil, List.length_cons, List.length_nil, List.replicate_succ, List.replicate_zero, List.cons_append, List.nil_append, List.set_cons_succ, List.set_cons_zero, Nat.reduceAdd, Nat.reduceSub, Nat.zero_add]
  refine ⟨_, rfl, t, _, rfl, hT1.to, fun KL nKL => ?_⟩
  have s1 := same_upd (o := .lst (nts os)) nKL
  have eKL : (upd H1 KL (.lst (nts os))) KL = some (.lst (nts os)) := upd_same
  have hU2 := hU1.keepS (S := []) (.ofSame s1) (fun z => nomatch z)
  have N2 := N1.same s1
  have k2 := k1.trans (.ofSame s1)
  have nKL2 := N1.nin nKL
  have nKLH := ks_none k1 nKL
  generalize upd H1 KL (.lst (nts os)) = H2 at *
  dsimp only [gName]
  try simp only [L2.start, List.map_cons, List.map_nil, List.length_cons, List.length_nil, List.replicate_succ, List.replicate_zero, List.cons_append, List.nil_append, List.set_cons_succ, List.set_cons_zero, Nat.reduceAdd, Nat.reduceSub, Nat.zero_add]
  refine ⟨_, rfl, ?_⟩
  dsimp only [gName]
  try simp only [L2.start, List.map_cons, List.map_nil, List.length_cons, List.length_nil, List.replicate_succ, List.replicate_zero, List.cons_append, List.nil_append, List.set_cons_succ, List.set_cons_zero, Nat.reduceAdd, Nat.reduceSub, Nat.zero_add]
  refine ⟨_, rfl, _, rfl, _, rfl, Z, p, m, _, nm, u, b2, os.length, bs, rfl, N2, hU2, (fun w h => lt1 (hb w h)), hl2, by omega, by omega, fun D H3 k3 N3 P3 => ?_⟩
  have z0 : ∀ vals : List Bool, vals.length = m → wb vals (gs ++ [.fi 0]) (m + gs.length) = false := fun vals hv => by
    rw [wb_fixed (hv ▸ rfl)]
    rfl
  obtain ⟨a1, a2, a3, a4⟩ := shaW_ok (m := m) (n := os.length) (gs := gs ++ [.fi 0]) (ws := bs.reverse) (fun w h => lt1 (hb w (List.mem_reverse.mp h)))
  rw [List.length_reverse] at a1 a3
  have hW : shiW m gs os bs = shF m (m + gs.length) os.length (shaW m (gs ++ [.fi 0]) os.length bs.reverse).1 os (shaW m (gs ++ [.fi 0]) os.length bs.reverse).2 := rfl
  rw [hW] at q
  clear hW a4
  generalize shaW m (gs ++ [.fi 0]) os.length bs.reverse = S at *
  have la := a1.len
  have hF := fun i hi => shF_ok (m := m) (z := m + gs.length) (n := os.length) (gs := S.1) (os := os) (ps := S.2) rfl (by omega) (fun vals hv => (a1.wb hv len1).trans (z0 vals hv)) (fun w h => by have := ho w h; omega) a2 i hi _ rfl
  have k3' := k2.trans k3
  have hSS : ∀ y ∈ [p.lm, p.ld], H2 y ≠ none := fun y hy => by
    obtain ⟨_, _, _, _, _, _, e1, e2, e3, e4, _⟩ := id N2
    simp only [List.mem_cons, List.not_mem_nil, or_false] at hy
    rcases hy with z | z <;> rw [z]
    · exact some_ne e2
    · exact some_ne e3
  obtain ⟨ts, lts, eD3, dD, fD⟩ := id P3
  have eD : SqL K H3 D (ts.map V.ref) := SqL.of eD3
  have nDL : D ∉ [p.lm, p.ld] := N2.nin dD
  have eKL3 := k3.1 _ _ eKL nKL2
  refine ⟨D, rfl, ⟨_, eD⟩, ?_⟩
  refine for_it (walk_list (K := K) (a := D) (xs := ts.map V.ref)) (fun j σ H9 => ∃ (KL : Addr) (y7 y8 y9 : Option V), σ = [some (.ref p.x), some (.ref t), some (.ref u), some (.int (os.length : Nat)), some (.int (m + gs.length : Nat)), some (.ref KL), some (.int ((shF m (m + gs.length) os.length S.1 os (S.2.take j)).2.2 : Nat)), y7, y8, y9] ∧ KeepS [p.lm, p.ld] H3 H9 ∧ NetAt C Z H9 p m (shF m (m + gs.length) os.length S.1 os (S.2.take j)).1 nm ∧ H9 KL = some (.lst (nts (shF m (m + gs.length) os.length S.1 os (S.2.take j)).2.1)) ∧ KL ∉ [p.lm, p.ld] ∧ H KL = none) ⟨KL, _, _, _, rfl, KeepS.refl _ _, N3, eKL3, nKL2, nKLH⟩ (fun j σ H9 _ ⟨_, _, _, _, _, k9, _⟩ => k9.seq nDL eD) ?_ ?_
  · rintro j v σ H10 H9 hj ⟨KL, y7, y8, y9, rfl, k9, N9, eK9, nK9, _⟩ ⟨rfl, hz⟩
    rw [List.length_map] at hj
    obtain ⟨t0, ht0⟩ : ∃ t0, ts[j]? = some t0 := ⟨ts[j], List.getElem?_eq_getElem hj⟩
    obtain ⟨p0, hp0⟩ : ∃ p0, S.2[j]? = some p0 := ⟨S.2[j]'(by omega), List.getElem?_eq_getElem (by omega)⟩
    obtain ⟨d0, e0⟩ := fD j t0 p0 ht0 hp0
    have ht9 := k9.1 _ _ e0 (N2.nin d0)
    replace hz : (ts.map V.ref)[j]? = some v := hz
    rw [List.getElem?_map, ht0] at hz
    cases hz
    obtain ⟨q1, q2⟩ := a2 p0 (List.mem_of_getElem? hp0)
    have estep : shF m (m + gs.length) os.length S.1 os (S.2.take (j + 1)) = shS m (m + gs.length) os.length (shF m (m + gs.length) os.length S.1 os (S.2.take j)) p0 := fold_take _ hp0 _
    rw [estep]
    clear estep
    obtain ⟨h1, h2, h3, h4, _⟩ := hF j (by omega)
    have lh := h1.len
    have hmul : (4 * os.length + 4) * j ≤ (4 * 60 + 4) * 62 := Nat.mul_le_mul (by omega) (by omega)
    generalize (4 * os.length + 4) * j = big at *
    generalize shF m (m + gs.length) os.length S.1 os (S.2.take j) = s at *
    clear h1
    obtain ⟨am, w⟩ := p0
    dsimp only at q1 q2 ht9
    refine ⟨t0, _, rfl, .inl (.inl ht9), rfl, _, _, rfl, _, _, rfl, rfl, ?_⟩
    try simp only [L2.start, List.map_cons, List.map_nil, List.length_cons, List.length_nil, List.replicate_succ, List.replicate_zero, List.cons_append, List.nil_append, List.set_cons_succ, List.set_cons_zero, Nat.reduceAdd, Nat.reduceSub, Nat.zero_add]
    refine ⟨_, rfl, _, rfl, _, rfl, _, rfl, _, _, rfl, rfl, _, rfl, KL, _, rfl, SqL.of eK9, fun A nA => ?_⟩
    dsimp only
    rw [show ((os.length : Int) - (am : Int)) = ((os.length - am : Nat) : Int) by omega, cutN_from _ _ (by omega)]
    have sA := same_upd (o := .lst (nts (s.2.1.drop (os.length - am)))) nA
    have eA : (upd H9 A (.lst (nts (s.2.1.drop (os.length - am))))) A = some (.lst (nts (s.2.1.drop (os.length - am)))) := upd_same
    have nA2 := N9.nin nA
    have NA := N9.same sA
    have kA := k9.trans (.ofSame sA)
    have eKA := sA _ _ eK9
    generalize upd H9 A (.lst (nts (s.2.1.drop (os.length - am)))) = HA at *
    refine ⟨Z, p, m, s.1, nm, A, _, rfl, NA, SqL.of eA, nA2, (fun x hx => h3 x (List.mem_of_mem_drop hx)), by rw [List.length_drop]; omega, fun HB kB NB => ?_⟩
    have AL := anyW_ok (m := m) (gs := s.1) (ws := s.2.1.drop (os.length - am)) (fun x hx => h3 x (List.mem_of_mem_drop hx))
    have hs : shS m (m + gs.length) os.length s (am, w) = (
      let L := anyW m s.1 (s.2.1.drop (os.length - am))
      let g2 := L.1 ++ [.w "both" [w, L.2]]
      let g3 := g2 ++ [.w "either" [s.2.2, m + L.1.length]]
      let C := chosenW m g3 w ((List.replicate am (m + gs.length) ++ s.2.1.take (os.length - am)).zip s.2.1)
      (C.1, C.2, m + g2.length)) := rfl
    rw [hs]
    clear hs
    generalize anyW m s.1 (s.2.1.drop (os.length - am)) = L at *
    have lL := AL.ext.len
    have ltL := AL.lt
    rw [List.length_drop] at lL
    have eKB := kB.1 _ _ eKA nK9
    dsimp only [gName]
    try simp only [L2.start, List.map_cons, List.map_nil, List.length_cons, List.length_nil, List.replicate_succ, List.replicate_zero, List.cons_append, List.nil_append, List.set_cons_succ, List.set_cons_zero, Nat.reduceAdd, Nat.reduceSub, Nat.zero_add]
    obtain ⟨_, _, _, dxB, _, _, fB, _⟩ := id NB
    refine ⟨_, rfl, p.x, dxB, _, rfl, fB, rfl, _, rfl, ?_⟩
    refine ⟨_, rfl, p.x, dxB, _, rfl, fB, rfl, _, rfl, _, rfl, Z, p, m, L.1, nm, w, L.2, rfl, NB, by omega, ltL, by omega, fun HC kC NC => ?_⟩
    have l2 : (L.1 ++ [Gt.w "both" [w, L.2]]).length = L.1.length + 1 := by simp
    refine ⟨Z, p, m, _, nm, s.2.2, m + L.1.length, rfl, NC, by omega, by omega, by omega, fun HD kD ND => ?_⟩
    have l3 : (L.1 ++ [Gt.w "both" [w, L.2]] ++ [Gt.w "either" [s.2.2, m + L.1.length]]).length = L.1.length + 2 := by simp
    have eKD := (kC.trans kD).1 _ _ eKB nK9
    have kAD := ((kA.trans kB).trans kC).trans kD
    dsimp only [gName]
    try simp only [L2.start, List.map_cons, List.map_nil, List.length_cons, List.length_nil, List.replicate_succ, List.replicate_zero, List.cons_append, List.nil_append, List.set_cons_succ, List.set_cons_zero, Nat.reduceAdd, Nat.reduceSub, Nat.zero_add]
    refine ⟨_, rfl, _, rfl, _, rfl, (by show 1 ≤ sizeLine; decide), fun L1 nL1 => ?_⟩
    have sL1 := same_upd (o := .lst [.int ((m + gs.length : Nat) : Int)]) nL1
    have eL1 : (upd HD L1 (.lst [.int ((m + gs.length : Nat) : Int)])) L1 = some (.lst [.int ((m + gs.length : Nat) : Int)]) := upd_same
    generalize upd HD L1 (.lst [.int ((m + gs.length : Nat) : Int)]) = HE at *
    refine ⟨_, rfl, L1, _, _, rfl, rfl, eL1, by omega, by omega, by rw [Int.toNat_natCast, List.length_singleton]; exact Nat.le_of_lt (big_lt (by omega)), fun L2 nL2 => ?_⟩
    rw [Int.toNat_natCast, rep_flat]
    have sL2 := same_upd (o := .lst (List.replicate am (.int ((m + gs.length : Nat) : Int)))) nL2
    have eL2 : (upd HE L2 (.lst (List.replicate am (.int ((m + gs.length : Nat) : Int))))) L2 = some (.lst (List.replicate am (.int ((m + gs.length : Nat) : Int)))) := upd_same
    generalize upd HE L2 (.lst (List.replicate am (.int ((m + gs.length : Nat) : Int)))) = HF' at *
    have eKF := sL2 _ _ (sL1 _ _ eKD)
    refine ⟨_, rfl, _, rfl, _, rfl, _, _, rfl, rfl, _, rfl, KL, _, rfl, SqL.of eKF, fun L3 nL3 => ?_⟩
    dsimp only
    rw [show ((os.length : Int) - (am : Int)) = ((os.length - am : Nat) : Int) by omega, cutN_to _ _ (by omega)]
    have sL3 := same_upd (o := .lst (nts (s.2.1.take (os.length - am)))) nL3
    have eL3 : (upd HF' L3 (.lst (nts (s.2.1.take (os.length - am))))) L3 = some (.lst (nts (s.2.1.take (os.length - am)))) := upd_same
    generalize upd HF' L3 (.lst (nts (s.2.1.take (os.length - am)))) = HG at *
    refine ⟨L2, L3, _, _, rfl, rfl, sL3 _ _ eL2, eL3, by rw [List.length_replicate, nts_len, List.length_take]; exact Nat.le_of_lt (big_lt (by omega)), fun L4 nL4 => ?_⟩
    rw [gv_nats]
    have sL4 := same_upd (o := .lst (nts (List.replicate am (m + gs.length) ++ s.2.1.take (os.length - am)))) nL4
    have eL4 : (upd HG L4 (.lst (nts (List.replicate am (m + gs.length) ++ s.2.1.take (os.length - am))))) L4 = some (.lst (nts (List.replicate am (m + gs.length) ++ s.2.1.take (os.length - am)))) := upd_same
    have s14 := ((sL1.trans sL2).trans sL3).trans sL4
    have NG := ND.same s14
    have nL42 := (ND.same ((sL1.trans sL2).trans sL3)).nin nL4
    have eKG := sL4 _ _ (sL3 _ _ eKF)
    have kAG := kAD.trans (.ofSame s14)
    generalize upd HG L4 (.lst (nts (List.replicate am (m + gs.length) ++ s.2.1.take (os.length - am)))) = HH at *
    have lt' : (s.2.1.take (os.length - am)).length = os.length - am := by rw [List.length_take]; omega
    have lxx : (List.replicate am (m + gs.length) ++ s.2.1.take (os.length - am)).length = os.length := by rw [List.length_append, List.length_replicate, lt']; omega
    refine ⟨_, rfl, Z, p, m, _, nm, L4, KL, w, _, s.2.1, false, false, rfl, NG, SqL.of eL4, SqL.of eKG, nL42, nK9, by rw [lxx]; omega, by omega, (fun x hx => ?_), (fun x hx => by have := h3 x hx; omega), by rw [lxx, l3]; omega, fun KN HI kI NI nKN eKN => ?_⟩
    · rcases List.mem_append.mp hx with y | y
      · rw [(List.mem_replicate.mp y).2]
        omega
      · have := h3 x (List.mem_of_mem_take y)
        omega
    · exact ⟨KN, _, _, _, rfl, kAG.trans kI, NI, eKN, NG.nin nKN, ks_none (k3'.trans kAG) nKN⟩
  · rintro σ H9 ⟨KL, y7, y8, y9, rfl, k9, N9, eK9, nK9, nKH⟩
    rw [List.length_map, lts, List.take_length] at N9 eK9 ⊢
    try simp only [L2.start, List.map_cons, List.map_nil, List.length_cons, List.length_nil, List.replicate_succ, List.replicate_zero, List.cons_append, List.nil_append, List.set_cons_succ, List.set_cons_zero, Nat.reduceAdd, Nat.reduceSub, Nat.zero_add]
    refine ⟨_, rfl, _, rfl, (by show 2 ≤ sizeLine; decide), fun T nT => ?_⟩
    have sT := same_upd (o := .tup [.ref KL, .int ((shF m (m + gs.length) os.length S.1 os S.2).2.2 : Nat)]) nT
    exact q KL T _ ((k3'.trans k9).trans (.ofSame sT)) (N9.same sT) nKH (sT _ _ eK9) upd_same
theorem gv_nats2 {z : Nat} {c : List Nat} {n : Nat} : nts c ++ List.replicate n (V.int (z : Int)) = nts (c ++ List.replicate n z) := by
  unfold nts
  rw [List.map_append, List.map_replicate]
def spLef (K : PySem.W.Frag) (C : Addr) : Sp := fun vs H Q _ => ∃ (Z : List Addr) (p : NetP) (m : Nat) (gs : List Gt) (nm : List (Str × List Nat)) (t u : Addr) (b1 b2 : Bool) (os bs : List Nat), vs = [.ref p.x, .ref t, .ref u] ∧ NetAt C Z H p m gs nm ∧ Sq2 b1 K H t (nts os) ∧ Sq2 b2 K H u (nts bs) ∧ t ∉ [p.lm, p.ld] ∧ u ∉ [p.lm, p.ld] ∧ (∀ w ∈ os, w < m + gs.length) ∧ (∀ w ∈ bs, w < m + gs.length) ∧ os.length ≤ 60 ∧ bs.length ≤ 60 ∧ m + gs.length ≤ 200000 ∧
  ∀ D H', KeepS [p.lm, p.ld] H H' → NetAt C Z H' p m (lefW m gs os bs).1 nm → H D = none → H' D = some (.lst (nts (lefW m gs os bs).2)) → Q (.ref D) H'
theorem ok_left_wires (B : Bl mg) (L : LL K mg C a1 a2 a3 a4 a5 a6 a7 a8 a9 a10 a11 a12 a13 a14 a15 a16 a17 a18 a19 a20 a21 a22 a23 a24 a25 a26 a27 a28 a29 a30 a31 a32 a33 a34 l1 l2 l3 l4 l5 l6 l7 l8 l9 l10 l11 l12 l13 l14 l15 l16 l17 l18 l19 l20 l21 l22 l23 l24 l25 l26 l27 l28 l29 l30 l31 l32 l33 l34) : FnOk P w K mg base CX0 7 a3 l3 ["net", "ones", "by"] (spLef K C) := by
  have G_Net_fixed : FnOk P w K mg base CX0 6 a24 l24 ["self", "bit"] (spFixed C) := (ok_Net_fixed B L).mono (by decide)
  have G_shift_amounts : FnOk P w K mg base CX0 6 a4 l4 ["net", "many", "by"] (spAmt K C) := (ok_shift_amounts B L).mono (by decide)
  have G_chosen_wires : FnOk P w K mg base CX0 6 a9 l9 ["net", "wire", "ones", "others"] (spChosen K C) := (ok_chosen_wires B L).mono (by decide)
  refine L.F_left_wires.ok sc_left_wires (fun vs H Q E h => ?_) (fun cdv A outer s H vs Q E hr h => ?_)
  · obtain ⟨Z, p, m, gs, nm, t, u, b1, b2, os, bs, rfl, _⟩ := h
    rfl
  obtain ⟨Z, p, m, gs, nm, t, u, b1, b2, os, bs, rfl, hN, hT, hU, nt, nu, ho, hb, hl, hl2, hm, q⟩ := h
  refine ⟨_, (pss_cons (ps_set (i := 3) sc_left_wires.nd rfl (.inl rfl) (pe_meth (pv 0) L.T.cl L.M_Net_fixed G_Net_fixed hr L.b_Net_fixed .nil pass0 (pa_cons pe_int pa_nil)))
    (pss_cons (ps_set (i := 4) sc_left_wires.nd rfl (.inl rfl) (pe_callTy call_list_of (by rfl) B.list PyProof.Rows.boot_list (pa_cons (pv 1) pa_nil)))
    (pss_cons (ps_for PassesOwn.never rfl (pi_list (pe_call G_shift_amounts hr (by rfl) L.m_shift_amounts L.F_shift_amounts.kp L.b_shift_amounts .nil pass0 (pa_cons (pv 0) (pa_cons (pe_callB call_len_seq (by rfl) B.len PySem.boot_len (pa_cons (pv 1) pa_nil)) (pa_cons (pv 2) pa_nil))))) (pg_tup (by rfl) (pgs_cons (pg_name (i := 5) sc_left_wires.nd rfl (.inl rfl)) (pgs_cons (pg_name (i := 6) sc_left_wires.nd rfl (.inl rfl)) pgs_nil))) (pss_one (ps_set (i := 4) sc_left_wires.nd rfl (.inl rfl) (pe_call G_chosen_wires hr (by rfl) L.m_chosen_wires L.F_chosen_wires.kp L.b_chosen_wires .nil pass0 (pa_cons (pv 0) (pa_cons (pv 6) (pa_cons (pe_op op_cat (pe_slice sl_list (pv 4) (po_some (pv 5)) po_none) (pe_op op_rep (pe_lst (pa_cons (pv 3) pa_nil)) (pv 5))) (pa_cons (pv 4) pa_nil))))))))
    (pss_one (ps_ret (pv 4)))))), ?_⟩
  obtain ⟨_, _, _, dx, _, _, f0, _⟩ := id hN
  refine ⟨_, rfl, p.x, dx, _, rfl, f0, rfl, Z, p, m, gs, nm, 0, rfl, hN, by omega, fun H1 k1 N1 => ?_⟩
  have hT1 := hT.keepS k1 nt
  have hU1 := hU.keepS k1 nu
  have l0 : (gs ++ [Gt.fi 0]).length = gs.length + 1 := by simp
  dsimp only [gName]
  try simp only [L2.start, List.map_cons, List.map_nil, List.length_cons, List.length_nil, List.replicate_succ, List.replicate_zero, List.cons_append, List.nil_append, List.set_cons_succ, List.set_cons_zero, Nat.reduceAdd, Nat.reduceSub, Nat.zero_add]
  refine ⟨_, rfl, t, _, rfl, hT1.to, fun KL nKL => ?_⟩
  have s1 := same_upd (o := .lst (nts os)) nKL
  have eKL : (upd H1 KL (.lst (nts os))) KL = some (.lst (nts os)) := upd_same
  have hU2 := hU1.keepS (S := []) (.ofSame s1) (fun z => nomatch z)
  have hT2 := hT1.keepS (S := []) (.ofSame s1) (fun z => nomatch z)
  have N2 := N1.same s1
  have k2 := k1.trans (.ofSame s1)
  have nKL2 := N1.nin nKL
  have nKLH := ks_none k1 nKL
  generalize upd H1 KL (.lst (nts os)) = H2 at *
  dsimp only [gName]
  try simp only [L2.start, List.map_cons, List.map_nil, List.length_cons, List.length_nil, List.replicate_succ, List.replicate_zero, List.cons_append, List.nil_append, List.set_cons_succ, List.set_cons_zero, Nat.reduceAdd, Nat.reduceSub, Nat.zero_add]
  refine ⟨_, rfl, _, rfl, t, _, rfl, hT2.to, _, rfl, ?_⟩
  rw [nts_len]
  refine ⟨Z, p, m, _, nm, u, b2, os.length, bs, rfl, N2, hU2, (fun w h => lt1 (hb w h)), hl2, by omega, by omega, fun D H3 k3 N3 P3 => ?_⟩
  have z0 : ∀ vals : List Bool, vals.length = m → wb vals (gs ++ [.fi 0]) (m + gs.length) = false := fun vals hv => by
    rw [wb_fixed (hv ▸ rfl)]
    rfl
  obtain ⟨a1, a2, a3, a4⟩ := shaW_ok (m := m) (n := os.length) (gs := gs ++ [.fi 0]) (ws := bs.reverse) (fun w h => lt1 (hb w (List.mem_reverse.mp h)))
  rw [List.length_reverse] at a1 a3
  have hW : lefW m gs os bs = lfF m (m + gs.length) (shaW m (gs ++ [.fi 0]) os.length bs.reverse).1 os (shaW m (gs ++ [.fi 0]) os.length bs.reverse).2 := rfl
  rw [hW] at q
  clear hW a4
  generalize shaW m (gs ++ [.fi 0]) os.length bs.reverse = S at *
  have la := a1.len
  have hF := fun i hi => lfF_ok (m := m) (z := m + gs.length) (n := os.length) (gs := S.1) (os := os) (ps := S.2) rfl (by omega) (fun vals hv => (a1.wb hv len1).trans (z0 vals hv)) (fun w h => by have := ho w h; omega) a2 i hi _ rfl
  have k3' := k2.trans k3
  obtain ⟨ts, lts, eD3, dD, fD⟩ := id P3
  have eD : SqL K H3 D (ts.map V.ref) := SqL.of eD3
  have nDL : D ∉ [p.lm, p.ld] := N2.nin dD
  have eKL3 := k3.1 _ _ eKL nKL2
  refine ⟨D, rfl, ⟨_, eD⟩, ?_⟩
  refine for_it (walk_list (K := K) (a := D) (xs := ts.map V.ref)) (fun j σ H9 => ∃ (KL : Addr) (y7 y8 : Option V), σ = [some (.ref p.x), some (.ref t), some (.ref u), some (.int (m + gs.length : Nat)), some (.ref KL), y7, y8] ∧ KeepS [p.lm, p.ld] H3 H9 ∧ NetAt C Z H9 p m (lfF m (m + gs.length) S.1 os (S.2.take j)).1 nm ∧ H9 KL = some (.lst (nts (lfF m (m + gs.length) S.1 os (S.2.take j)).2)) ∧ KL ∉ [p.lm, p.ld] ∧ H KL = none) ⟨KL, _, _, rfl, KeepS.refl _ _, N3, eKL3, nKL2, nKLH⟩ (fun j σ H9 _ ⟨_, _, _, _, k9, _⟩ => k9.seq nDL eD) ?_ ?_
  · rintro j v σ H10 H9 hj ⟨KL, y7, y8, rfl, k9, N9, eK9, nK9, _⟩ ⟨rfl, hz⟩
    rw [List.length_map] at hj
    obtain ⟨t0, ht0⟩ : ∃ t0, ts[j]? = some t0 := ⟨ts[j], List.getElem?_eq_getElem hj⟩
    obtain ⟨p0, hp0⟩ : ∃ p0, S.2[j]? = some p0 := ⟨S.2[j]'(by omega), List.getElem?_eq_getElem (by omega)⟩
    obtain ⟨d0, e0⟩ := fD j t0 p0 ht0 hp0
    have ht9 := k9.1 _ _ e0 (N2.nin d0)
    replace hz : (ts.map V.ref)[j]? = some v := hz
    rw [List.getElem?_map, ht0] at hz
    cases hz
    obtain ⟨q1, q2⟩ := a2 p0 (List.mem_of_getElem? hp0)
    have estep : lfF m (m + gs.length) S.1 os (S.2.take (j + 1)) = lfS m (m + gs.length) (lfF m (m + gs.length) S.1 os (S.2.take j)) p0 := fold_take _ hp0 _
    rw [estep]
    clear estep
    obtain ⟨h1, h2, h3, _⟩ := hF j (by omega)
    have lh := h1.len
    have hmul : (3 * os.length + 1) * j ≤ (3 * 60 + 1) * 62 := Nat.mul_le_mul (by omega) (by omega)
    generalize (3 * os.length + 1) * j = big at *
    generalize lfF m (m + gs.length) S.1 os (S.2.take j) = s at *
    clear h1
    obtain ⟨am, w⟩ := p0
    dsimp only at q1 q2 ht9
    refine ⟨t0, _, rfl, .inl (.inl ht9), rfl, _, _, rfl, _, _, rfl, rfl, ?_⟩
    try simp only [L2.start, List.map_cons, List.map_nil, List.length_cons, List.length_nil, List.replicate_succ, List.replicate_zero, List.cons_append, List.nil_append, List.set_cons_succ, List.set_cons_zero, Nat.reduceAdd, Nat.reduceSub, Nat.zero_add]
    refine ⟨_, rfl, _, rfl, _, rfl, _, rfl, _, rfl, KL, _, rfl, SqL.of eK9, fun L3 nL3 => ?_⟩
    rw [cutN_from _ _ (by omega)]
    have sL3 := same_upd (o := .lst (nts (s.2.drop am))) nL3
    have eL3 : (upd H9 L3 (.lst (nts (s.2.drop am)))) L3 = some (.lst (nts (s.2.drop am))) := upd_same
    generalize upd H9 L3 (.lst (nts (s.2.drop am))) = HA at *
    refine ⟨_, rfl, (by show 1 ≤ sizeLine; decide), fun L1 nL1 => ?_⟩
    have sL1 := same_upd (o := .lst [.int ((m + gs.length : Nat) : Int)]) nL1
    have eL1 : (upd HA L1 (.lst [.int ((m + gs.length : Nat) : Int)])) L1 = some (.lst [.int ((m + gs.length : Nat) : Int)]) := upd_same
    generalize upd HA L1 (.lst [.int ((m + gs.length : Nat) : Int)]) = HE at *
    refine ⟨_, rfl, L1, _, _, rfl, rfl, eL1, by omega, by omega, by rw [Int.toNat_natCast, List.length_singleton]; exact Nat.le_of_lt (big_lt (by omega)), fun L2 nL2 => ?_⟩
    rw [Int.toNat_natCast, rep_flat]
    have sL2 := same_upd (o := .lst (List.replicate am (.int ((m + gs.length : Nat) : Int)))) nL2
    have eL2 : (upd HE L2 (.lst (List.replicate am (.int ((m + gs.length : Nat) : Int))))) L2 = some (.lst (List.replicate am (.int ((m + gs.length : Nat) : Int)))) := upd_same
    generalize upd HE L2 (.lst (List.replicate am (.int ((m + gs.length : Nat) : Int)))) = HG at *
    have lt' : (s.2.drop am).length = os.length - am := by rw [List.length_drop]; omega
    refine ⟨L3, L2, _, _, rfl, rfl, sL2 _ _ (sL1 _ _ eL3), eL2, by rw [List.length_replicate, nts_len, lt']; exact Nat.le_of_lt (big_lt (by omega)), fun L4 nL4 => ?_⟩
    rw [gv_nats2]
    have sL4 := same_upd (o := .lst (nts (s.2.drop am ++ List.replicate am (m + gs.length)))) nL4
    have eL4 : (upd HG L4 (.lst (nts (s.2.drop am ++ List.replicate am (m + gs.length))))) L4 = some (.lst (nts (s.2.drop am ++ List.replicate am (m + gs.length)))) := upd_same
    have s13 := (sL3.trans sL1).trans sL2
    have s14 := s13.trans sL4
    have NG := N9.same s14
    have nL42 := (N9.same s13).nin nL4
    have eKG := s14 _ _ eK9
    have kAG := k9.trans (.ofSame s14)
    generalize upd HG L4 (.lst (nts (s.2.drop am ++ List.replicate am (m + gs.length)))) = HH at *
    have lxx : (s.2.drop am ++ List.replicate am (m + gs.length)).length = os.length := by rw [List.length_append, List.length_replicate, lt']; omega
    refine ⟨_, rfl, Z, p, m, _, nm, L4, KL, w, _, s.2, false, false, rfl, NG, SqL.of eL4, SqL.of eKG, nL42, nK9, by rw [lxx]; omega, by omega, (fun x hx => ?_), h3, by rw [lxx]; omega, fun KN HI kI NI nKN eKN => ?_⟩
    · rcases List.mem_append.mp hx with y | y
      · exact h3 x (List.mem_of_mem_drop y)
      · rw [(List.mem_replicate.mp y).2]
        omega
    · exact ⟨KN, _, _, rfl, kAG.trans kI, NI, eKN, NG.nin nKN, ks_none (k3'.trans kAG) nKN⟩
  · rintro σ H9 ⟨KL, y7, y8, rfl, k9, N9, eK9, nK9, nKH⟩
    rw [List.length_map, lts, List.take_length] at N9 eK9
    exact ⟨_, rfl, q KL H9 (k3'.trans k9) N9 nKH eK9⟩
end
section
variable {P : Program} {w : World} {K : PySem.W.Frag} {mg : Str → Option Value} {base : Heap}
variable {C : Addr} {a1 a2 a3 a4 a5 a6 a7 a8 a9 a10 a11 a12 a13 a14 a15 a16 a17 a18 a19 a20 a21 a22 a23 a24 a25 a26 a27 a28 a29 a30 a31 a32 a33 a34 : Addr} {l1 l2 l3 l4 l5 l6 l7 l8 l9 l10 l11 l12 l13 l14 l15 l16 l17 l18 l19 l20 l21 l22 l23 l24 l25 l26 l27 l28 l29 l30 l31 l32 l33 l34 : FuncData}
def RowsAt46 (H : Hp) (R : Addr) (gs : List Gt) : Prop := ∃ ts : List Addr, ts.length = gs.length ∧ H R = some (.lst (ts.map V.ref)) ∧ ∀ (i : Nat) (t : Addr) (g : Gt), ts[i]? = some t → gs[i]? = some g → H t = some (.tup g.row)
/-! ### the net of drawn gates -/
theorem Gt.row0 (k : Str) (ws : List Nat) : atI (Gt.w k ws).row 0 = some (.str k) := atI_nat (j := 0) rfl
def spMadeL (C : Addr) : Sp := fun vs H Q _ => ∃ (Z : List Addr) (R : Addr) (m : Nat) (gs : List Gt), vs = [.ref R, .int (m : Int)] ∧ (∀ z ∈ Z, H z ≠ none) ∧ RowsAt46 H R gs ∧ GsOk m gs ∧ m ≤ 100 ∧ gs.length ≤ 100000 ∧
  ∀ (p : NetP) (H' : Hp), Same H H' → NetAt C Z H' p m gs [] → (H p.x = none ∧ H p.lm = none ∧ H p.ld = none ∧ H p.dn = none) → Q (.ref p.x) H'
theorem ok__law_made (B : Bl mg) (L : LL K mg C a1 a2 a3 a4 a5 a6 a7 a8 a9 a10 a11 a12 a13 a14 a15 a16 a17 a18 a19 a20 a21 a22 a23 a24 a25 a26 a27 a28 a29 a30 a31 a32 a33 a34 l1 l2 l3 l4 l5 l6 l7 l8 l9 l10 l11 l12 l13 l14 l15 l16 l17 l18 l19 l20 l21 l22 l23 l24 l25 l26 l27 l28 l29 l30 l31 l32 l33 l34) : FnOk P w K mg base CX0 5 a15 l15 ["_law_rows", "_law_wide"] (spMadeL C) := by
  have G_Net___init__ : FnOk P w K mg base CX0 3 a19 l19 ["self", "many"] (spNetI C) := (ok_Net___init__ B L).mono (by decide)
  have G_Net_both : FnOk P w K mg base CX0 4 a20 l20 ["self", "a", "b"] (spG2 C "both") := (ok_Net_both B L).mono (by decide)
  have G_Net_either : FnOk P w K mg base CX0 4 a21 l21 ["self", "a", "b"] (spG2 C "either") := (ok_Net_either B L).mono (by decide)
  have G_Net_unlike : FnOk P w K mg base CX0 4 a22 l22 ["self", "a", "b"] (spG2 C "unlike") := (ok_Net_unlike B L).mono (by decide)
  have G_Net_other : FnOk P w K mg base CX0 4 a23 l23 ["self", "a"] (spG1 C) := (ok_Net_other B L).mono (by decide)
  have G_Net_fixed : FnOk P w K mg base CX0 4 a24 l24 ["self", "bit"] (spFixed C) := (ok_Net_fixed B L).mono (by decide)
  refine L.F__law_made.ok sc__law_made (fun vs H Q E h => ?_) (fun cdv A outer s H vs Q E hr h => ?_)
  · obtain ⟨Z, R, m, gs, rfl, _⟩ := h
    rfl
  obtain ⟨Z, R, m, gs, rfl, hZ, ⟨ts, lt, eR, hts⟩, ok, hm, hg, q⟩ := h
  refine ⟨_, (pss_cons (ps_set (i := 2) sc__law_made.nd rfl (.inl rfl) (pe_make L.M G_Net___init__ hr (by rfl) L.T.mgC L.b_Net___init__ .nil pass0 (pa_cons (pv 1) pa_nil)))
    (pss_cons (ps_for PassesOwn.never rfl (pi_list (pv 0)) (pg_name (i := 3) sc__law_made.nd rfl (.inl rfl)) (pss_one (ps_if (pt_cmpR op_eq (pe_ix ix_tup (pv 3) pe_int (fun _ _ => rfl)) pe_str (nomark _)) (pss_one (ps_expr (pe_meth (pv 2) L.T.cl L.M_Net_both G_Net_both hr L.b_Net_both .nil pass0 (pa_cons (pe_ix ix_tup (pv 3) pe_int (fun _ _ => rfl)) (pa_cons (pe_ix ix_tup (pv 3) pe_int (fun _ _ => rfl)) pa_nil))))) (pss_one (ps_if (pt_cmpR op_eq (pe_ix ix_tup (pv 3) pe_int (fun _ _ => rfl)) pe_str (nomark _)) (pss_one (ps_expr (pe_meth (pv 2) L.T.cl L.M_Net_either G_Net_either hr L.b_Net_either .nil pass0 (pa_cons (pe_ix ix_tup (pv 3) pe_int (fun _ _ => rfl)) (pa_cons (pe_ix ix_tup (pv 3) pe_int (fun _ _ => rfl)) pa_nil))))) (pss_one (ps_if (pt_cmpR op_eq (pe_ix ix_tup (pv 3) pe_int (fun _ _ => rfl)) pe_str (nomark _)) (pss_one (ps_expr (pe_meth (pv 2) L.T.cl L.M_Net_unlike G_Net_unlike hr L.b_Net_unlike .nil pass0 (pa_cons (pe_ix ix_tup (pv 3) pe_int (fun _ _ => rfl)) (pa_cons (pe_ix ix_tup (pv 3) pe_int (fun _ _ => rfl)) pa_nil))))) (pss_one (ps_if (pt_cmpR op_eq (pe_ix ix_tup (pv 3) pe_int (fun _ _ => rfl)) pe_str (nomark _)) (pss_one (ps_expr (pe_meth (pv 2) L.T.cl L.M_Net_other G_Net_other hr L.b_Net_other .nil pass0 (pa_cons (pe_ix ix_tup (pv 3) pe_int (fun _ _ => rfl)) pa_nil)))) (pss_one (ps_expr (pe_meth (pv 2) L.T.cl L.M_Net_fixed G_Net_fixed hr L.b_Net_fixed .nil pass0 (pa_cons (pe_ix ix_tup (pv 3) pe_int (fun _ _ => rfl)) pa_nil)))))))))))))
    (pss_one (ps_ret (pv 2))))), ?_⟩
  refine ⟨_, rfl, fun x dx nx ndx ne => ?_⟩
  refine ⟨x, dx, m, rfl, upd_same, by omega, fun p H1 px fr ⟨n1, n2, n3⟩ N0 => ⟨rfl, ?_⟩⟩
  have s1 : Same H H1 := made nx ndx ne fr
  subst px
  have up : ∀ {y : Addr}, (upd (upd H dx (.own p.x)) p.x (.ins C dx [])) y = none → H y = none := fun {y} e => by
    cases h : H y with
    | none => rfl
    | some o =>
      rw [upd_ne (ne_of_none h nx), upd_ne (ne_of_none h ndx), h] at e
      cases e
  have N1 := N0 Z (fun z hz => by
    have h := hZ z hz
    have a : z ≠ p.x := fun y => h (by rw [y]; exact nx)
    have b : z ≠ dx := fun y => h (by rw [y]; exact ndx)
    exact ⟨a, by rw [upd_ne a, upd_ne b]; exact h⟩)
  have m1 := up n1
  have m2 := up n2
  have m3 := up n3
  try simp only [L2.start, List.map_cons, List.map_nil, List.length_cons, List.length_nil, List.replicate_succ, List.replicate_zero, List.cons_append, List.nil_append, List.set_cons_succ, List.set_cons_zero, Nat.reduceAdd, Nat.reduceSub, Nat.zero_add]
  have eR1 := s1 _ _ eR
  refine ⟨_, rfl, R, rfl, ⟨_, SqL.of eR1⟩, ?_⟩
  refine for_it (walk_list (K := K) (a := R) (xs := ts.map V.ref)) (fun j σ H9 => ∃ y : Option V, σ = [some (.ref R), some (.int (m : Int)), some (.ref p.x), y] ∧ Same H H9 ∧ NetAt C Z H9 p m (gs.take j) []) ⟨_, rfl, s1, N1⟩ (fun j σ H9 _ ⟨_, _, s9, _⟩ => SqL.of (s9 _ _ eR)) ?_ ?_
  · rintro j z σ H9 H10 hj ⟨y, rfl, s9, N9⟩ ⟨rfl, hz⟩
    rw [List.getElem?_map] at hz
    have hj' : j < ts.length := by
      rw [List.length_map] at hj
      exact hj
    rw [List.getElem?_eq_getElem hj'] at hz
    cases hz
    have hgj : gs[j]? = some (gs[j]'(by omega)) := List.getElem?_eq_getElem (by omega)
    have et := s9 _ _ (hts j _ _ (List.getElem?_eq_getElem hj') hgj)
    have okj := ok j _ hgj
    have lj : (gs.take j).length = j := by
      rw [List.length_take]
      omega
    have tk : gs.take (j + 1) = gs.take j ++ [gs[j]'(by omega)] := by
      rw [List.take_add_one, hgj]
      rfl
    obtain ⟨_, _, _, dx9, _, _, e1, _⟩ := id N9
    have kp : ∀ {H' : Hp}, KeepS [p.lm, p.ld] H10 H' → Same H H' := fun k y o e => k.1 y o (s9 _ _ e) (fun z => by
      simp only [List.mem_cons, List.not_mem_nil, or_false] at z
      rcases z with z | z
      · rw [z, m1] at e
        cases e
      · rw [z, m2] at e
        cases e)
    generalize gs[j]'(by omega) = g at et okj tk
    try simp only [L2.start, List.map_cons, List.map_nil, List.length_cons, List.length_nil, List.replicate_succ, List.replicate_zero, List.cons_append, List.nil_append, List.set_cons_succ, List.set_cons_zero, Nat.reduceAdd, Nat.reduceSub, Nat.zero_add]
    have nS : ∀ {x y : Str}, ¬ x = y → ¬ decide (V.str x = V.str y) = true := fun h z => h (V.str.inj (of_decide_eq_true z))
    dsimp only [gName]
    try simp only [L2.start, List.map_cons, List.map_nil, List.length_cons, List.length_nil, List.replicate_succ, List.replicate_zero, List.cons_append, List.nil_append, List.set_cons_succ, List.set_cons_zero, Nat.reduceAdd, Nat.reduceSub, Nat.zero_add]
    cases g with
    | fi b =>
      have r0 : atI (Gt.fi b).row 0 = some (.str "fixed") := rfl
      refine ⟨_, rfl, ts[j], _, _, _, rfl, rfl, .inl (.inl et), r0, rfl, _, rfl, ite2 (fun z => absurd z (nS (by decide +kernel))) (fun _ => ?_)⟩
      refine ⟨_, rfl, ts[j], _, _, _, rfl, rfl, .inl (.inl et), r0, rfl, _, rfl, ite2 (fun z => absurd z (nS (by decide +kernel))) (fun _ => ?_)⟩
      refine ⟨_, rfl, ts[j], _, _, _, rfl, rfl, .inl (.inl et), r0, rfl, _, rfl, ite2 (fun z => absurd z (nS (by decide +kernel))) (fun _ => ?_)⟩
      refine ⟨_, rfl, ts[j], _, _, _, rfl, rfl, .inl (.inl et), r0, rfl, _, rfl, ite2 (fun z => absurd z (nS (by decide +kernel))) (fun _ => ?_)⟩
      refine ⟨_, rfl, p.x, dx9, _, rfl, e1, rfl, _, rfl, ts[j], _, _, _, rfl, rfl, .inl (.inl et), rfl, Z, p, m, gs.take j, [], b, rfl, N9, by rw [lj]; omega, fun H' k' N' => ?_⟩
      exact ⟨_, rfl, kp k', by rw [tk]; exact N'⟩
    | w k ws =>
      have r0 := Gt.row0 k ws
      rcases okj.1 with ⟨hk, l2⟩ | ⟨rfl, l1⟩
      · obtain ⟨a, b, rfl⟩ : ∃ a b, ws = [a, b] := by
          match ws, l2 with
          | [a, b], _ => exact ⟨_, _, rfl⟩
        rcases hk with rfl | rfl | rfl
        · refine ⟨_, rfl, ts[j], _, _, _, rfl, rfl, .inl (.inl et), r0, rfl, _, rfl, ite2 (fun _ => ?_) (fun z => absurd (decide_eq_true rfl) z)⟩
          refine ⟨_, rfl, p.x, dx9, _, rfl, e1, rfl, _, rfl, ts[j], _, _, _, rfl, rfl, .inl (.inl et), rfl, _, rfl, ts[j], _, _, _, rfl, rfl, .inl (.inl et), rfl, Z, p, m, gs.take j, [], a, b, rfl, N9, by rw [lj]; exact okj.2 a (by simp), by rw [lj]; exact okj.2 b (by simp), by rw [lj]; omega, fun H' k' N' => ?_⟩
          exact ⟨_, rfl, kp k', by rw [tk]; exact N'⟩
        · refine ⟨_, rfl, ts[j], _, _, _, rfl, rfl, .inl (.inl et), r0, rfl, _, rfl, ite2 (fun z => absurd z (nS (by decide +kernel))) (fun _ => ?_)⟩
          refine ⟨_, rfl, ts[j], _, _, _, rfl, rfl, .inl (.inl et), r0, rfl, _, rfl, ite2 (fun _ => ?_) (fun z => absurd (decide_eq_true rfl) z)⟩
          refine ⟨_, rfl, p.x, dx9, _, rfl, e1, rfl, _, rfl, ts[j], _, _, _, rfl, rfl, .inl (.inl et), rfl, _, rfl, ts[j], _, _, _, rfl, rfl, .inl (.inl et), rfl, Z, p, m, gs.take j, [], a, b, rfl, N9, by rw [lj]; exact okj.2 a (by simp), by rw [lj]; exact okj.2 b (by simp), by rw [lj]; omega, fun H' k' N' => ?_⟩
          exact ⟨_, rfl, kp k', by rw [tk]; exact N'⟩
        · refine ⟨_, rfl, ts[j], _, _, _, rfl, rfl, .inl (.inl et), r0, rfl, _, rfl, ite2 (fun z => absurd z (nS (by decide +kernel))) (fun _ => ?_)⟩
          refine ⟨_, rfl, ts[j], _, _, _, rfl, rfl, .inl (.inl et), r0, rfl, _, rfl, ite2 (fun z => absurd z (nS (by decide +kernel))) (fun _ => ?_)⟩
          refine ⟨_, rfl, ts[j], _, _, _, rfl, rfl, .inl (.inl et), r0, rfl, _, rfl, ite2 (fun _ => ?_) (fun z => absurd (decide_eq_true rfl) z)⟩
          refine ⟨_, rfl, p.x, dx9, _, rfl, e1, rfl, _, rfl, ts[j], _, _, _, rfl, rfl, .inl (.inl et), rfl, _, rfl, ts[j], _, _, _, rfl, rfl, .inl (.inl et), rfl, Z, p, m, gs.take j, [], a, b, rfl, N9, by rw [lj]; exact okj.2 a (by simp), by rw [lj]; exact okj.2 b (by simp), by rw [lj]; omega, fun H' k' N' => ?_⟩
          exact ⟨_, rfl, kp k', by rw [tk]; exact N'⟩
      · obtain ⟨a, rfl⟩ : ∃ a, ws = [a] := by
          match ws, l1 with
          | [a], _ => exact ⟨_, rfl⟩
        refine ⟨_, rfl, ts[j], _, _, _, rfl, rfl, .inl (.inl et), r0, rfl, _, rfl, ite2 (fun z => absurd z (nS (by decide +kernel))) (fun _ => ?_)⟩
        refine ⟨_, rfl, ts[j], _, _, _, rfl, rfl, .inl (.inl et), r0, rfl, _, rfl, ite2 (fun z => absurd z (nS (by decide +kernel))) (fun _ => ?_)⟩
        refine ⟨_, rfl, ts[j], _, _, _, rfl, rfl, .inl (.inl et), r0, rfl, _, rfl, ite2 (fun z => absurd z (nS (by decide +kernel))) (fun _ => ?_)⟩
        refine ⟨_, rfl, ts[j], _, _, _, rfl, rfl, .inl (.inl et), r0, rfl, _, rfl, ite2 (fun _ => ?_) (fun z => absurd (decide_eq_true rfl) z)⟩
        refine ⟨_, rfl, p.x, dx9, _, rfl, e1, rfl, _, rfl, ts[j], _, _, _, rfl, rfl, .inl (.inl et), rfl, Z, p, m, gs.take j, [], a, rfl, N9, by rw [lj]; exact okj.2 a (by simp), by rw [lj]; omega, fun H' k' N' => ?_⟩
        exact ⟨_, rfl, kp k', by rw [tk]; exact N'⟩
  · rintro σ H9 ⟨y, rfl, s9, N9⟩
    rw [List.length_map, List.take_of_length_le (by omega)] at N9
    exact ⟨_, rfl, q p H9 s9 N9 ⟨nx, m1, m2, m3⟩⟩
def spLenN (C : Addr) : Sp := fun vs H Q _ => ∃ (Z : List Addr) (p : NetP) (m : Nat) (gs : List Gt) (nm : List (Str × List Nat)), vs = [.ref p.x] ∧ NetAt C Z H p m gs nm ∧ Q (.int (gs.length : Nat)) H
theorem ok_Net___len__ (B : Bl mg) (L : LL K mg C a1 a2 a3 a4 a5 a6 a7 a8 a9 a10 a11 a12 a13 a14 a15 a16 a17 a18 a19 a20 a21 a22 a23 a24 a25 a26 a27 a28 a29 a30 a31 a32 a33 a34 l1 l2 l3 l4 l5 l6 l7 l8 l9 l10 l11 l12 l13 l14 l15 l16 l17 l18 l19 l20 l21 l22 l23 l24 l25 l26 l27 l28 l29 l30 l31 l32 l33 l34) : FnOk P w K mg base CX0 1 a33 l33 ["self"] (spLenN C) := by
  refine L.F_Net___len__.ok sc_Net___len__ (fun vs H Q E h => ?_) (fun cdv A outer s H vs Q E hr h => ?_)
  · obtain ⟨Z, p, m, gs, nm, rfl, _⟩ := h
    rfl
  obtain ⟨Z, p, m, gs, nm, rfl, hN, q⟩ := h
  refine ⟨_, (pss_one (ps_ret (pe_callB call_len_seq (by rfl) B.len PySem.boot_len (pa_cons (pe_fld (pv 0) rfl) pa_nil)))), ?_⟩
  obtain ⟨_, _, _, dx, ps, kvs, e1, e2, e3, _, ⟨g1, _⟩, _⟩ := id hN
  refine ⟨_, rfl, p.x, C, dx, _, _, rfl, e1, L.T.cl, L.T.n_made, rfl, p.lm, _, rfl, .inl (SqL.of e2), ?_⟩
  rw [List.length_map, g1]
  exact q
def spLike (C : Addr) : Sp := fun vs H Q _ => ∃ (Z : List Addr) (p : NetP) (m : Nat) (gs : List Gt) (nm : List (Str × List Nat)), vs = [.ref p.x] ∧ NetAt C Z H p m gs nm ∧ m ≤ 100000 ∧ m + gs.length ≤ 400000 ∧ nm.length ≤ 900 ∧
  ∀ (p2 : NetP) (H' : Hp), Same H H' → (H p2.x = none ∧ H p2.lm = none ∧ H p2.ld = none ∧ H p2.dn = none) → (∀ Z2 : List Addr, (∀ z ∈ Z2, H z ≠ none ∧ (z ∈ Z ∨ z ∈ [p.x, p.lm, p.ld, p.dn])) → NetAt C Z2 H' p2 m gs nm) → Q (.ref p2.x) H'
theorem ok_Net_like (B : Bl mg) (L : LL K mg C a1 a2 a3 a4 a5 a6 a7 a8 a9 a10 a11 a12 a13 a14 a15 a16 a17 a18 a19 a20 a21 a22 a23 a24 a25 a26 a27 a28 a29 a30 a31 a32 a33 a34 l1 l2 l3 l4 l5 l6 l7 l8 l9 l10 l11 l12 l13 l14 l15 l16 l17 l18 l19 l20 l21 l22 l23 l24 l25 l26 l27 l28 l29 l30 l31 l32 l33 l34) : FnOk P w K mg base CX0 3 a34 l34 ["self"] (spLike C) := by
  have G_Net___init__ : FnOk P w K mg base CX0 1 a19 l19 ["self", "many"] (spNetI C) := (ok_Net___init__ B L).mono (by decide)
  refine L.F_Net_like.ok sc_Net_like (fun vs H Q E h => ?_) (fun cdv A outer s H vs Q E hr h => ?_)
  · obtain ⟨Z, p, m, gs, nm, rfl, _⟩ := h
    rfl
  obtain ⟨Z, p, m, gs, nm, rfl, hN, hm, hl, hnm, q⟩ := h
  refine ⟨_, (pss_cons (ps_set (i := 1) sc_Net_like.nd rfl (.inl rfl) (pe_make L.M G_Net___init__ hr (by rfl) L.T.mgC L.b_Net___init__ .nil pass0 (pa_cons (pe_fld (pv 0) rfl) pa_nil)))
    (pss_cons (ps_fld (pv 1) (pe_callTy call_list_of (by rfl) B.list PyProof.Rows.boot_list (pa_cons (pe_fld (pv 0) rfl) pa_nil)) rfl)
    (pss_cons (ps_fld (pv 1) (pe_callTy call_list_of (by rfl) B.list PyProof.Rows.boot_list (pa_cons (pe_fld (pv 0) rfl) pa_nil)) rfl)
    (pss_cons (ps_fld (pv 1) (pe_lock (pe_dc (own := [("name", 2)]) (by rfl) sc_Net_like.nd (pi_keys (pe_fld (pv 0) rfl)) (blkOk_by (own := [("name", 2)]) (N := ["self", "twin", "name"]) (sc := defScope s_Net_like) (by decide +kernel)) (fun _ _ _ _ _ => pg_name (i := 2) sc_Net_like.nd rfl (Or.inl rfl)) (fun _ _ _ _ _ => pts_nil) (fun _ _ _ _ _ => (pv 2)) (fun _ _ _ _ _ => (pe_callTy (call_list_ofK (K := K)) (by rfl) B.list PyProof.Rows.boot_list (pa_cons (pe_dget (units1 hr) (pe_fldK (K := K) (pv 0) rfl) (pv 2) (fun _ _ => rfl)) pa_nil))))) rfl)
    (pss_one (ps_ret (pv 1))))))), ?_⟩
  obtain ⟨hz, hb, ⟨c1, c2, c3, c4⟩, dx0, ps, kvs, e1, e2, e3, e4, ⟨g1, g2⟩, n0⟩ := id hN
  refine ⟨_, rfl, p.x, C, dx0, _, _, rfl, e1, L.T.cl, L.T.n_input_count, rfl, fun x dx nx ndx ne => ?_⟩
  refine ⟨x, dx, m, rfl, upd_same, by omega, fun p2 H7 px fr ⟨n1, n2, n3⟩ N0 => ⟨rfl, ?_⟩⟩
  have s7 : Same H H7 := made nx ndx ne fr
  subst px
  obtain ⟨_, _, _, dx2, ps2, kvs2, x1, x2, x3, x4, _⟩ := N0 [] (fun z hz => nomatch hz)
  try simp only [L2.start, List.map_cons, List.map_nil, List.length_cons, List.length_nil, List.replicate_succ, List.replicate_zero, List.cons_append, List.nil_append, List.set_cons_succ, List.set_cons_zero, Nat.reduceAdd, Nat.reduceSub, Nat.zero_add]
  dsimp only [gName]
  try simp only [L2.start, List.map_cons, List.map_nil, List.length_cons, List.length_nil, List.replicate_succ, List.replicate_zero, List.cons_append, List.nil_append, List.set_cons_succ, List.set_cons_zero, Nat.reduceAdd, Nat.reduceSub, Nat.zero_add]
  have nxp : ∀ {y : Addr} {o : HO}, H y = some o → y ≠ p2.x := fun e => ne_of_none e nx
  have F1 := s7 _ _ e1
  have F2 := s7 _ _ e2
  have F3 := s7 _ _ e3
  refine ⟨_, rfl, p.x, C, dx0, _, _, rfl, F1, L.T.cl, L.T.n_made, rfl, p.lm, _, rfl, .inl (SqL.of F2), fun A1 nA1 => ?_⟩
  have sA1 := same_upd (o := .lst (ps.map V.ref)) nA1
  have a1x : p2.x ≠ A1 := ne_of_none x1 nA1
  refine ⟨_, rfl, p2.x, C, dx2, _, rfl, sA1 _ _ x1, L.T.cl, L.T.n_made, (by show 4 < 1000; decide), ?_⟩
  have f9 : ∀ y o, H7 y = some o → y ≠ p2.x → (upd (upd H7 A1 (.lst (ps.map V.ref))) p2.x (.ins C dx2 [("input_count", .int (m : Int)), ("made", .ref A1), ("depths", .ref p2.ld), ("by_name", .ref p2.dn)])) y = some o := fun y o e n => by rw [upd_ne n]; exact sA1 _ _ e
  have x9 : (upd (upd H7 A1 (.lst (ps.map V.ref))) p2.x (.ins C dx2 [("input_count", .int (m : Int)), ("made", .ref A1), ("depths", .ref p2.ld), ("by_name", .ref p2.dn)])) p2.x = some (.ins C dx2 [("input_count", .int (m : Int)), ("made", .ref A1), ("depths", .ref p2.ld), ("by_name", .ref p2.dn)]) := upd_same
  have g9 : (upd (upd H7 A1 (.lst (ps.map V.ref))) p2.x (.ins C dx2 [("input_count", .int (m : Int)), ("made", .ref A1), ("depths", .ref p2.ld), ("by_name", .ref p2.dn)])) A1 = some (.lst (ps.map V.ref)) := by rw [upd_ne a1x.symm, upd_same]
  show tSeq _ _ _ _ (upd (upd H7 A1 (.lst (ps.map V.ref))) p2.x (.ins C dx2 [("input_count", .int (m : Int)), ("made", .ref A1), ("depths", .ref p2.ld), ("by_name", .ref p2.dn)]))
  generalize upd (upd H7 A1 (.lst (ps.map V.ref))) p2.x (.ins C dx2 [("input_count", .int (m : Int)), ("made", .ref A1), ("depths", .ref p2.ld), ("by_name", .ref p2.dn)]) = H9 at *
  have s9 : Same H H9 := fun y o e => f9 _ _ (s7 _ _ e) (nxp e)
  have G1 := s9 _ _ e1
  have G3 := s9 _ _ e3
  refine ⟨_, rfl, p.x, C, dx0, _, _, rfl, G1, L.T.cl, L.T.n_depths, rfl, p.ld, _, rfl, .inl (SqL.of G3), fun A2 nA2 => ?_⟩
  have sA2 := same_upd (o := .lst ((dps m gs).map V.int)) nA2
  have a2x : p2.x ≠ A2 := ne_of_none x9 nA2
  have a21 : A1 ≠ A2 := ne_of_none g9 nA2
  refine ⟨_, rfl, p2.x, C, dx2, _, rfl, sA2 _ _ x9, L.T.cl, L.T.n_depths, (by show 4 < 1000; decide), ?_⟩
  have f10 : ∀ y o, H9 y = some o → y ≠ p2.x → (upd (upd H9 A2 (.lst ((dps m gs).map V.int))) p2.x (.ins C dx2 [("input_count", .int (m : Int)), ("made", .ref A1), ("depths", .ref A2), ("by_name", .ref p2.dn)])) y = some o := fun y o e n => by rw [upd_ne n]; exact sA2 _ _ e
  have x10 : (upd (upd H9 A2 (.lst ((dps m gs).map V.int))) p2.x (.ins C dx2 [("input_count", .int (m : Int)), ("made", .ref A1), ("depths", .ref A2), ("by_name", .ref p2.dn)])) p2.x = some (.ins C dx2 [("input_count", .int (m : Int)), ("made", .ref A1), ("depths", .ref A2), ("by_name", .ref p2.dn)]) := upd_same
  have h10 : (upd (upd H9 A2 (.lst ((dps m gs).map V.int))) p2.x (.ins C dx2 [("input_count", .int (m : Int)), ("made", .ref A1), ("depths", .ref A2), ("by_name", .ref p2.dn)])) A2 = some (.lst ((dps m gs).map V.int)) := by rw [upd_ne a2x.symm, upd_same]
  have g10 := f10 _ _ g9 a1x.symm
  show tSeq _ _ _ _ (upd (upd H9 A2 (.lst ((dps m gs).map V.int))) p2.x (.ins C dx2 [("input_count", .int (m : Int)), ("made", .ref A1), ("depths", .ref A2), ("by_name", .ref p2.dn)]))
  generalize upd (upd H9 A2 (.lst ((dps m gs).map V.int))) p2.x (.ins C dx2 [("input_count", .int (m : Int)), ("made", .ref A1), ("depths", .ref A2), ("by_name", .ref p2.dn)]) = HA at *
  have sA : Same H HA := fun y o e => f10 _ _ (s9 _ _ e) (nxp e)
  have J1 := sA _ _ e1
  have J4 := sA _ _ e4
  have nHA1 : H A1 = none := by
    cases e : H A1 with
    | none => rfl
    | some o => rw [s7 _ _ e] at nA1; cases nA1
  have nHA2 : H A2 = none := by
    cases e : H A2 with
    | none => rfl
    | some o => rw [s9 _ _ e] at nA2; cases nA2
  refine ⟨p.dn, .dK kvs, J4, by exact True.intro, fun od => ?_⟩
  have ndx : p.x ≠ p.dn := fun z => by rw [z, J4] at J1; cases J1
  have fL : ∀ y o, HA y = some o → y ≠ p.dn → (upd HA p.dn (.frz od (.dK kvs))) y = some o := fun y o e n => by rw [upd_ne n]; exact e
  have L1 := fL _ _ J1 ndx
  have Ld : (upd HA p.dn (.frz od (.dK kvs))) p.dn = some (.frz od (.dK kvs)) := upd_same
  have nL : ∀ y, (upd HA p.dn (.frz od (.dK kvs))) y = none → HA y = none := fun y e => by
    by_cases c : y = p.dn
    · rw [c, upd_same] at e
      cases e
    · rw [upd_ne c] at e
      exact e
  have bL : ∀ G : Hp, Same (upd HA p.dn (.frz od (.dK kvs))) G → Same HA (upd G p.dn (.dK kvs)) := fun G sG y o e => by
    by_cases c : y = p.dn
    · rw [c, J4] at e
      rw [c, upd_same]
      exact e
    · rw [upd_ne c]
      exact sG _ _ (fL _ _ e c)
  generalize upd HA p.dn (.frz od (.dK kvs)) = HL at *
  refine ⟨_, rfl, p.x, C, dx0, _, _, rfl, L1, L.T.cl, L.T.n_by_name, rfl, p.dn, od, rfl, .inl ⟨kvs, Ld, fun D nD => ?_⟩⟩
  have lkv : kvs.length = nm.length := n0.1
  refine dc_it (walk_keys (kvs := kvs) (d := p.dn) (o := od)) (fun j Hj => ∃ ls : List Addr, ls.length = j ∧ Same HL Hj ∧ Hj D = some (.dK (((kvs.take j).zip ls).map fun q => (q.1.1, V.ref q.2))) ∧ ∀ (i : Nat) (l : Addr) (nw : Str × List Nat), ls[i]? = some l → nm[i]? = some nw → Hj l = some (.lst (nts nw.2)) ∧ HL l = none ∧ l ≠ D) ⟨[], rfl, same_upd nD, by rw [upd_same]; rfl, fun i l nw h => by simp at h⟩ (fun j Hj _ ⟨_, _, sj, _⟩ => sj _ _ Ld) ?_ ?_
  · rintro j x H0 Hj hj ⟨ls, ll, sj, eD, hls⟩ ⟨rfl, k, v, hk, rfl⟩
    obtain ⟨⟨n, ws⟩, hn⟩ : ∃ nw, nm[j]? = some nw := ⟨nm[j]'(by omega), List.getElem?_eq_getElem (by omega)⟩
    obtain ⟨rfl, l, rfl, l1, l2, l3, l4⟩ := n0.2.2 j k v n ws hk hn
    have ldn : l ≠ p.dn := fun z => by rw [z, e4] at l4; cases l4
    have el := sj _ _ (fL _ _ (sA _ _ l4) ldn)
    dsimp only [gName]
    refine ⟨rfl, yesT ?_⟩
    try simp only [L2.start, List.map_cons, List.map_nil, List.length_cons, List.length_nil, List.replicate_succ, List.replicate_zero, List.cons_append, List.nil_append, List.set_cons_succ, List.set_cons_zero, Nat.reduceAdd, Nat.reduceSub, Nat.zero_add]
    refine ⟨_, rfl, ?_⟩
    refine ⟨_, rfl, p.x, C, dx0, _, _, rfl, sj _ _ L1, L.T.cl, L.T.n_by_name, rfl, _, rfl, p.dn, .ref l, rfl, .inl ⟨kvs, .inr n, .inr ⟨od, sj _ _ Ld⟩, rfl, (valV_at n0.nodup hk).symm⟩, ?_⟩
    refine ⟨l, _, rfl, .inl (SqL.of el), fun A nA => ?_⟩
    have sAA := same_upd (o := .lst (nts ws)) nA
    have nAD : A ≠ D := fun z => by rw [z, eD] at nA; cases nA
    have kz : (((kvs.take j).zip ls).map fun q => (q.1.1, V.ref q.2)).length = j := by rw [List.length_map, List.length_zip, List.length_take, ll]; omega
    have out : valV (((kvs.take j).zip ls).map fun q => (q.1.1, V.ref q.2)) (.inr n) = none := by
      refine valV_out (fun z => ?_)
      obtain ⟨q1, hq, e⟩ := List.mem_map.mp z
      obtain ⟨r, hr, rfl⟩ := List.mem_map.mp hq
      obtain ⟨i, hi⟩ := List.mem_iff_getElem?.mp (List.of_mem_zip hr).1
      have il : i < j := by
        have := (List.getElem?_eq_some_iff.mp hi).1
        rw [List.length_take] at this
        omega
      rw [List.getElem?_take_of_lt il] at hi
      have := (List.getElem?_inj (i := i) (j := j) (l := kvs.map (·.1)) (by rw [List.length_map]; omega) n0.nodup).mp (by rw [List.getElem?_map, List.getElem?_map, hi, hk]; exact congrArg some e)
      omega
    refine ⟨_, .inr n, rfl, sAA _ _ eD, by rw [kz]; exact big_lt (by omega), ls ++ [A], by rw [List.length_append, ll]; rfl, fun y o e => ?_, ?_, fun i l' nw h1 h2 => ?_⟩
    · rw [upd_ne (ne_of_none e nD)]
      exact sAA _ _ (sj _ _ e)
    · rw [upd_same, putK_new _ out, List.take_add_one, hk, List.zip_append (by rw [List.length_take, ll]; omega), List.map_append]
      rfl
    · have key : Hj l' = some (.lst (nts nw.2)) ∧ l' ≠ A ∧ HL l' = none ∧ l' ≠ D ∨ l' = A ∧ nw.2 = ws := by
        by_cases c : i < ls.length
        · rw [List.getElem?_append_left c] at h1
          obtain ⟨b1, b2, b3⟩ := hls i l' nw h1 h2
          exact .inl ⟨b1, (fun z => by rw [z, nA] at b1; cases b1), b2, b3⟩
        · have i0 : i = ls.length := by
            have := (List.getElem?_eq_some_iff.mp h1).1
            rw [List.length_append, List.length_cons, List.length_nil] at this
            omega
          rw [List.getElem?_append_right (by omega), i0, Nat.sub_self] at h1
          cases h1
          rw [i0, ll, hn] at h2
          cases h2
          exact .inr ⟨rfl, rfl⟩
      rcases key with ⟨b1, b2, b3, b4⟩ | ⟨rfl, b2⟩
      · exact ⟨by rw [upd_ne b4, upd_ne b2]; exact b1, b3, b4⟩
      · refine ⟨by rw [upd_ne nAD, upd_same, b2], ?_, nAD⟩
        cases e : HL l' with
        | none => rfl
        | some o => rw [sj _ _ e] at nA; cases nA
  rintro HN ⟨ls, ll, sN, eD, hls⟩
  refine ⟨sN _ _ Ld, ?_⟩
  have sB := bL _ sN
  have ndD : D ≠ p.dn := fun z => by rw [z, Ld] at nD; cases nD
  have eDB : (upd HN p.dn (.dK kvs)) D = _ := (upd_ne ndD).trans eD
  have hlB : ∀ (i : Nat) (l : Addr) (nw : Str × List Nat), ls[i]? = some l → nm[i]? = some nw → (upd HN p.dn (.dK kvs)) l = some (.lst (nts nw.2)) ∧ HL l = none ∧ l ≠ D := fun i l nw h1 h2 => by
    obtain ⟨b1, b2, b3⟩ := hls i l nw h1 h2
    exact ⟨by rw [upd_ne (fun z => by rw [z, Ld] at b2; cases b2)]; exact b1, b2, b3⟩
  generalize upd HN p.dn (.dK kvs) = HB at *
  refine ⟨_, rfl, p2.x, C, dx2, _, rfl, sB _ _ x10, L.T.cl, L.T.n_by_name, (by show 4 < 1000; decide), ?_⟩
  have nHD : H D = none := by
    have := nL _ nD
    cases e : H D with
    | none => rfl
    | some o => rw [sA _ _ e] at this; cases this
  have nn : ∀ {y : Addr}, HL y = none → H y = none := fun {y} h => by
    have := nL _ h
    cases e : H y with
    | none => rfl
    | some o => rw [sA _ _ e] at this; cases this
  have xdn : p2.x ≠ p.dn := fun z => by rw [z, e4] at nx; cases nx
  have a1dn : A1 ≠ p.dn := fun z => by rw [z, e4] at nHA1; cases nHA1
  have a2dn : A2 ≠ p.dn := fun z => by rw [z, e4] at nHA2; cases nHA2
  have LX := fL _ _ x10 xdn
  have LA1 := fL _ _ g10 a1dn
  have LA2 := fL _ _ h10 a2dn
  have dX : D ≠ p2.x := fun z => by rw [z, LX] at nD; cases nD
  have sF : Same H (upd HB p2.x (.ins C dx2 [("input_count", .int (m : Int)), ("made", .ref A1), ("depths", .ref A2), ("by_name", .ref D)])) := fun y o e => by
    rw [upd_ne (nxp e)]
    exact sB _ _ (sA _ _ e)
  refine ⟨_, rfl, q ⟨p2.x, A1, A2, D⟩ (upd HB p2.x (.ins C dx2 [("input_count", .int (m : Int)), ("made", .ref A1), ("depths", .ref A2), ("by_name", .ref D)])) sF ⟨nx, nHA1, nHA2, nHD⟩ (fun Z2 hZ2 => ?_)⟩
  have nZ : ∀ {y : Addr}, H y = none → y ∉ Z2 := fun h z => (hZ2 _ z).1 h
  have lk : (((kvs.take kvs.length).zip ls).map fun q => (q.1.1, V.ref q.2)).length = nm.length := by rw [List.length_map, List.length_zip, List.take_length, ll]; omega
  refine ⟨fun z h => ?_, a21, ⟨nZ nx, nZ nHA1, nZ nHA2, nZ nHD⟩, dx2, ps, _, upd_same, (upd_ne a1x.symm).trans (sB _ _ g10), (upd_ne a2x.symm).trans (sB _ _ h10), (upd_ne dX).trans eDB, ⟨g1, fun i r g hi hg => ?_⟩, lk, n0.2.1, fun i k v n ws hi hn => ?_⟩
  · cases e : H z with
    | none => exact absurd e (hZ2 z h).1
    | some o => exact some_ne (sF _ _ e)
  · obtain ⟨w1, w2⟩ := g2 i r g hi hg
    refine ⟨fun z => ?_, sF _ _ w2⟩
    rcases (hZ2 _ z).2 with y | y
    · exact w1 y
    · simp only [List.mem_cons, List.not_mem_nil, or_false] at y
      rcases y with y | y | y | y
      · rw [y, e1] at w2; cases w2
      · rw [y, e2] at w2; cases w2
      · rw [y, e3] at w2; cases w2
      · rw [y, e4] at w2; cases w2
  · rw [List.getElem?_map, List.take_length] at hi
    cases hq : (kvs.zip ls)[i]? with
    | none => rw [hq] at hi; cases hi
    | some qq =>
      rw [hq] at hi
      cases hi
      obtain ⟨h1, h2⟩ := List.getElem?_zip_eq_some.mp hq
      obtain ⟨ek, _⟩ := n0.2.2 i qq.1.1 qq.1.2 n ws h1 hn
      obtain ⟨b1, b2, b3⟩ := hlB i _ _ h2 hn
      have lx : qq.2 ≠ p2.x := fun z => by rw [z, LX] at b2; cases b2
      exact ⟨ek, qq.2, rfl, nZ (nn b2), (fun z => by rw [z, LA1] at b2; cases b2), (fun z => by rw [z, LA2] at b2; cases b2), (upd_ne lx).trans b1⟩
theorem rise_pw : ∀ (ss : List Str) (p : Str), risingS p ss = true → (p :: ss).Pairwise fun x y => x.cps.toList ≤ y.cps.toList
  | [], p, _ => List.pairwise_singleton _ _
  | s :: ss, p, h => by
    unfold risingS at h
    obtain ⟨h1, h2⟩ := Bool.and_eq_true_iff.mp h
    have ih := rise_pw ss s h2
    have le : p.cps.toList ≤ s.cps.toList := by
      rw [ltCps_eq] at h1
      simpa using h1
    refine List.pairwise_cons.mpr ⟨fun y hy => ?_, ih⟩
    rcases List.mem_cons.mp hy with e | hy
    · rw [e]
      exact le
    · exact List.le_trans le ((List.pairwise_cons.mp ih).1 y hy)
theorem sortS_one {xs ys zs : List Str} (h1 : xs.Perm zs) (s1 : sortedS xs = true) (h2 : ys.Perm zs) (s2 : sortedS ys = true) : xs = ys := by
  have pw : ∀ l : List Str, sortedS l = true → l.Pairwise fun x y => x.cps.toList ≤ y.cps.toList := fun l h => by
    cases l with
    | nil => exact .nil
    | cons x r => exact rise_pw r x h
  refine List.Perm.eq_of_pairwise (le := fun x y : Str => x.cps.toList ≤ y.cps.toList) (fun x y _ _ a b => ?_) (pw _ s1) (pw _ s2) (h1.trans h2.symm)
  have e := List.le_antisymm a b
  cases x
  cases y
  congr 1
  exact Array.toList_inj.mp e
/-! ### what a net tells, as data -/
def dInts (ws : List Nat) : List PyData := ws.map fun (a : Nat) => PyData.int (a : Int)
def dGt : Gt → PyData
  | .w k ws => .tuple (.str k :: dInts ws)
  | .fi b => .tuple [.str "fixed", .int (b : Int)]
theorem dpa_nts {H : Hp} : ∀ ws : List Nat, DpAll K H (nts ws) (dInts ws)
  | [] => .nil
  | a :: ws => .cons (.int _) (dpa_nts ws)
theorem dp_row {H : Hp} {t : Addr} {g : Gt} (h : H t = some (.tup g.row)) : Dp K H (.ref t) (dGt g) := by
  cases g with
  | w k ws => exact .tup (.inl (.inl h)) (.cons (.str _) (dpa_nts ws))
  | fi b => exact .tup (.inl (.inl h)) (.cons (.str _) (.cons (.int _) .nil))
theorem dpa_rows {H : Hp} : ∀ (ts : List Addr) (gs : List Gt), ts.length = gs.length → (∀ (i : Nat) (t : Addr) (g : Gt), ts[i]? = some t → gs[i]? = some g → H t = some (.tup g.row)) → DpAll K H (ts.map V.ref) (gs.map dGt)
  | [], [], _, _ => .nil
  | [], _ :: _, h, _ => by cases h
  | _ :: _, [], h, _ => by cases h
  | t :: ts, g :: gs, h, f => .cons (dp_row (f 0 t g rfl rfl)) (dpa_rows ts gs (Nat.succ.inj h) fun i a b h1 h2 => f (i + 1) a b h1 h2)
theorem dpa_strs {H : Hp} : ∀ ys : List Str, DpAll K H (ys.map V.str) (ys.map PyData.str)
  | [] => .nil
  | y :: ys => .cons (.str _) (dpa_strs ys)
theorem dpa_lists {H : Hp} : ∀ (ls : List Addr) (wss : List (List Nat)), ls.length = wss.length → (∀ (i : Nat) (l : Addr) (ws : List Nat), ls[i]? = some l → wss[i]? = some ws → H l = some (.lst (nts ws))) → DpAll K H (ls.map V.ref) (wss.map fun ws => .list (dInts ws))
  | [], [], _, _ => .nil
  | [], _ :: _, h, _ => by cases h
  | _ :: _, [], h, _ => by cases h
  | t :: ts, g :: gs, h, f => .cons (.lst (SqL.of (f 0 t g rfl rfl)) (dpa_nts g)) (dpa_lists ts gs (Nat.succ.inj h) fun i a b h1 h2 => f (i + 1) a b h1 h2)
def lkN (nm : List (Str × List Nat)) (y : Str) : List Nat := ((nm.find? fun x => decide (x.1 = y)).map (·.2)).getD []
theorem lkN_at : ∀ {nm : List (Str × List Nat)} {i : Nat} {n : Str} {ws : List Nat}, (nm.map (·.1)).Nodup → nm[i]? = some (n, ws) → lkN nm n = ws
  | [], i, n, ws, _, h => by simp at h
  | x :: nm, 0, n, ws, _, h => by
    cases h
    simp [lkN]
  | x :: nm, i + 1, n, ws, hd, h => by
    have hd' := List.nodup_cons.mp hd
    have hx : ¬ x.1 = n := fun e => hd'.1 (by show x.1 ∈ _; rw [e]; exact List.mem_map.mpr ⟨(n, ws), List.mem_of_getElem? h, rfl⟩)
    have ih := lkN_at (nm := nm) (i := i) hd'.2 h
    unfold lkN at ih ⊢
    rw [List.find?_cons_of_neg (by simpa using hx)]
    exact ih
theorem sameN {H G : Hp} {y : Addr} {o : HO} (s : Same H G) (n : H y = none) : Same H (upd G y o) := fun a u e => by
  rw [upd_ne (ne_of_none e n)]
  exact s _ _ e
theorem back {H G : Hp} (s : Same H G) {y : Addr} (n : G y = none) : H y = none := by
  cases e : H y with
  | none => rfl
  | some o => rw [s _ _ e] at n; cases n
end
section
variable {P : Program} {w : World} {K : PySem.W.Frag} {mg : Str → Option Value} {base : Heap}
variable {C : Addr} {a1 a2 a3 a4 a5 a6 a7 a8 a9 a10 a11 a12 a13 a14 a15 a16 a17 a18 a19 a20 a21 a22 a23 a24 a25 a26 a27 a28 a29 a30 a31 a32 a33 a34 : Addr} {l1 l2 l3 l4 l5 l6 l7 l8 l9 l10 l11 l12 l13 l14 l15 l16 l17 l18 l19 l20 l21 l22 l23 l24 l25 l26 l27 l28 l29 l30 l31 l32 l33 l34 : FuncData}
/-! ### a part of a net, told as data -/
def hfN (ws : List Nat) : Nat := ws.length / 2
def partF (m : Nat) (gs : List Gt) (sort : Nat) (ws : List Nat) : List Gt × PyData :=
  if sort = 0 then ((sumW m gs (ws.take (hfN ws)) ((ws.drop (hfN ws)).take (hfN ws)) (ws.getD (ws.length - 1) 0)).1, .list (dInts (sumW m gs (ws.take (hfN ws)) ((ws.drop (hfN ws)).take (hfN ws)) (ws.getD (ws.length - 1) 0)).2))
  else if sort = 1 then ((lefW m (shiW m gs ws (ws.take 2)).1 ws (ws.take 2)).1, .list [.tuple [.list (dInts (shiW m gs ws (ws.take 2)).2.1), .int ((shiW m gs ws (ws.take 2)).2.2 : Nat)], .list (dInts (lefW m (shiW m gs ws (ws.take 2)).1 ws (ws.take 2)).2)])
  else if sort = 2 then ((markW m (zeroW m gs ws (Builtin.Int.intBits (ws.length : Int))).1 (ws.take (hfN ws)) ((ws.drop (hfN ws)).take (hfN ws))).1, .list [.list (dInts (zeroW m gs ws (Builtin.Int.intBits (ws.length : Int))).2), .list (dInts (markW m (zeroW m gs ws (Builtin.Int.intBits (ws.length : Int))).1 (ws.take (hfN ws)) ((ws.drop (hfN ws)).take (hfN ws))).2)])
  else ((timW m gs (ws.take (hfN ws)) (ws.drop (hfN ws))).1, .list (dInts (timW m gs (ws.take (hfN ws)) (ws.drop (hfN ws))).2))
def DpN (K : PySem.W.Frag) (H0 H : Hp) (v : V) (d : PyData) : Prop := ∀ (S : List Addr) (H2 : Hp), (∀ y ∈ S, H0 y ≠ none ∧ ∀ xs, H y ≠ some (.tup xs)) → KeepS S H H2 → Dp K H2 v d
theorem DpN.at {H0 H : Hp} {v : V} {d : PyData} (h : DpN K H0 H v d) : Dp K H v d := h [] H (fun _ z => nomatch z) (KeepS.refl _ _)
theorem dpN_lst {H0 H : Hp} {D : Addr} {ws : List Nat} (n : H0 D = none) (e : H D = some (.lst (nts ws))) : DpN K H0 H (.ref D) (.list (dInts ws)) := fun S H2 hS k => .lst (SqL.of (k.1 _ _ e (fun z => (hS D z).1 n))) (dpa_nts ws)
theorem ib3 : ∀ n : Nat, n ≤ 7 → Builtin.Int.intBits (n : Int) ≤ 3 := by decide +kernel
theorem part_ext {m sort : Nat} {gs : List Gt} {ws : List Nat} (l2 : 2 ≤ ws.length) (l7 : ws.length ≤ 7) (hw : ∀ w ∈ ws, w < m + gs.length) : Ext m gs (partF m gs sort ws).1 2000 := by
  have ht : ∀ n, ∀ w ∈ ws.take n, w < m + gs.length := fun n w h => hw w (List.mem_of_mem_take h)
  have hd : ∀ n, ∀ w ∈ ws.drop n, w < m + gs.length := fun n w h => hw w (List.mem_of_mem_drop h)
  have hdt : ∀ n k, ∀ w ∈ (ws.drop n).take k, w < m + gs.length := fun n k w h => hd n w (List.mem_of_mem_take h)
  have hh : 1 ≤ hfN ws ∧ hfN ws ≤ 3 := by unfold hfN; omega
  have lt : (ws.take (hfN ws)).length = hfN ws := by rw [List.length_take]; unfold hfN; omega
  have ldt : ((ws.drop (hfN ws)).take (hfN ws)).length = hfN ws := by rw [List.length_take, List.length_drop]; unfold hfN; omega
  have hl : ws.getD (ws.length - 1) 0 < m + gs.length := by
    refine hw _ ?_
    simp only [List.getD, List.getElem?_eq_getElem (show ws.length - 1 < ws.length by omega), Option.getD_some]
    exact List.getElem_mem _
  unfold partF
  split
  · exact (sumW_ok (by rw [lt, ldt]) (ht _) (hdt _ _) hl).ext.mono (by rw [lt]; omega)
  split
  · obtain ⟨a1, _⟩ := shiW_ok (m := m) (gs := gs) (os := ws) (bs := ws.take 2) hw (ht _)
    have la := a1.len
    obtain ⟨b1, _⟩ := lefW_ok (m := m) (gs := (shiW m gs ws (ws.take 2)).1) (os := ws) (bs := ws.take 2) (fun w h => by have := hw w h; omega) (fun w h => by have := ht 2 w h; omega)
    have l22 : (ws.take 2).length = 2 := by rw [List.length_take]; omega
    rw [l22] at a1 b1
    exact (a1.trans b1).mono (by omega)
  split
  · have a1 := (zeroW_ok (m := m) (k := Builtin.Int.intBits (ws.length : Int)) hw).ext
    have la := a1.len
    have b1 := (markW_ok (m := m) (gs := (zeroW m gs ws (Builtin.Int.intBits (ws.length : Int))).1) (os := ws.take (hfN ws)) (ts := (ws.drop (hfN ws)).take (hfN ws)) (by rw [lt, ldt]) (by rw [lt]; omega) (fun w h => by have := ht _ w h; omega) (fun w h => by have := hdt _ _ w h; omega)).ext
    have i3 := ib3 ws.length l7
    have mm : Builtin.Int.intBits (ws.length : Int) * (ws.length + 2) ≤ 3 * 9 := Nat.mul_le_mul i3 (by omega)
    exact (a1.trans b1).mono (by rw [lt]; omega)
  · obtain ⟨a1, _⟩ := timW_ok (m := m) (gs := gs) (os := ws.take (hfN ws)) (ts := ws.drop (hfN ws)) (ht _) (hd _) (by rw [lt]; omega)
    have mm : (ws.take (hfN ws)).length * (ws.drop (hfN ws)).length ≤ 3 * 7 := Nat.mul_le_mul (by rw [lt]; omega) (by rw [List.length_drop]; omega)
    exact a1.mono (by rw [Nat.mul_assoc]; omega)
theorem at_last {us : List V} {v : V} : atI (us ++ [v]) (-1) = some v := by
  unfold atI ixN
  rw [if_neg (by decide), if_pos (by rw [List.length_append]; show -((us.length + 1 : Nat) : Int) ≤ -1; omega)]
  show (us ++ [v])[_]? = _
  have : ((-1 : Int) + ((us ++ [v]).length : Nat)).toNat = us.length := by rw [List.length_append]; simp; omega
  rw [this, List.getElem?_append_right (Nat.le_refl _), Nat.sub_self]
  rfl
theorem at_lastN {ws : List Nat} {n : Nat} (h : ws.length = n + 1) : atI (nts ws) (-1) = some (.int ((ws.getD n 0 : Nat) : Int)) := by
  have e : ws = ws.take n ++ [ws.getD n 0] := by
    have := List.take_append_drop n ws
    rw [List.drop_eq_getElem_cons (by omega), List.drop_of_length_le (by omega)] at this
    rw [show ws.getD n 0 = ws[n] from by simp [List.getD, List.getElem?_eq_getElem (show n < ws.length by omega)]]
    exact this.symm
  have e2 : nts ws = nts (ws.take n) ++ [V.int ((ws.getD n 0 : Nat) : Int)] := by
    rw [← show nts (ws.take n ++ [ws.getD n 0]) = nts (ws.take n) ++ [V.int ((ws.getD n 0 : Nat) : Int)] from by rw [nts_app]; rfl, ← e]
  rw [e2]
  exact at_last
theorem cutN_mid (ws : List Nat) (h : Nat) (l : 2 * h ≤ ws.length) : cutV (nts ws) (some (h : Int)) (some ((2 * h : Nat) : Int)) = nts ((ws.drop h).take h) := by
  unfold cutV nts
  rw [HT.sIx_nat, HT.sIx_nat, List.length_map, Nat.min_eq_left l, Nat.min_eq_left (show h ≤ ws.length by omega), ← List.map_drop, ← List.map_take, show 2 * h - h = h by omega]
theorem sl_nin {C : Addr} {Z : List Addr} {H : Hp} {p : NetP} {m : Nat} {gs : List Gt} {nm : List (Str × List Nat)} {t O : Addr} (hN : NetAt C Z H p m gs nm) (nT : t ∉ [p.lm, p.ld]) (h : O = t ∨ H O = none) : O ∉ [p.lm, p.ld] := by
  rcases h with h | h
  · rw [h]; exact nT
  · exact hN.nin h
def spPart (K : PySem.W.Frag) (C : Addr) : Sp := fun vs H Q _ => ∃ (Z : List Addr) (p : NetP) (m : Nat) (gs : List Gt) (nm : List (Str × List Nat)) (sort : Nat) (t : Addr) (b : Bool) (ws : List Nat), vs = [.ref p.x, .int (sort : Int), .ref t] ∧ NetAt C Z H p m gs nm ∧ Sq2 b K H t (nts ws) ∧ t ∉ [p.lm, p.ld] ∧ 2 ≤ ws.length ∧ ws.length ≤ 7 ∧ (∀ w ∈ ws, w < m + gs.length) ∧ sort ≤ 3 ∧ m + gs.length ≤ 150000 ∧
  ∀ v H', KeepS [p.lm, p.ld] H H' → NetAt C Z H' p m (partF m gs sort ws).1 nm → DpN K H H' v (partF m gs sort ws).2 → Q v H'
theorem ok__law_part (B : Bl mg) (L : LL K mg C a1 a2 a3 a4 a5 a6 a7 a8 a9 a10 a11 a12 a13 a14 a15 a16 a17 a18 a19 a20 a21 a22 a23 a24 a25 a26 a27 a28 a29 a30 a31 a32 a33 a34 l1 l2 l3 l4 l5 l6 l7 l8 l9 l10 l11 l12 l13 l14 l15 l16 l17 l18 l19 l20 l21 l22 l23 l24 l25 l26 l27 l28 l29 l30 l31 l32 l33 l34) : FnOk P w K mg base CX0 8 a16 l16 ["_law_net", "_law_sort", "_law_wires"] (spPart K C) := by
  have G_sum_wires : FnOk P w K mg base CX0 7 a1 l1 ["net", "ones", "others", "carry"] (spSum K C) := (ok_sum_wires B L).mono (by decide)
  have G_shift_wires : FnOk P w K mg base CX0 7 a2 l2 ["net", "ones", "by"] (spShi K C) := (ok_shift_wires B L).mono (by decide)
  have G_left_wires : FnOk P w K mg base CX0 7 a3 l3 ["net", "ones", "by"] (spLef K C) := (ok_left_wires B L).mono (by decide)
  have G_zero_wires : FnOk P w K mg base CX0 7 a6 l6 ["net", "ones"] (spZero K C) := (ok_zero_wires B L).mono (by decide)
  have G_mark_wires : FnOk P w K mg base CX0 7 a8 l8 ["net", "ones", "others"] (spMark K C) := (ok_mark_wires B L).mono (by decide)
  have G_times_wires : FnOk P w K mg base CX0 7 a10 l10 ["net", "ones", "others"] (spTim K C) := (ok_times_wires B L).mono (by decide)
  refine L.F__law_part.ok sc__law_part (fun vs H Q E h => ?_) (fun cdv A outer s H vs Q E hr h => ?_)
  · obtain ⟨Z, p, m, gs, nm, sort, t, b, ws, rfl, _⟩ := h
    rfl
  obtain ⟨Z, p, m, gs, nm, sort, t, b, ws, rfl, hN, hT, nT, l2, l7, hw, hs, hl, q⟩ := h
  refine ⟨_, (pss_cons (ps_set (i := 3) sc__law_part.nd rfl (.inl rfl) (pe_op op_fdiv (pe_callB call_len_seq (by rfl) B.len PySem.boot_len (pa_cons (pv 2) pa_nil)) pe_int))
    (pss_cons (ps_if (pt_cmpR op_eq (pv 1) pe_int (nomark _)) (pss_one (ps_ret (pe_call G_sum_wires hr (by rfl) L.m_sum_wires L.F_sum_wires.kp L.b_sum_wires .nil pass0 (pa_cons (pv 0) (pa_cons (pe_slice sl_sq (pv 2) po_none (po_some (pv 3))) (pa_cons (pe_slice sl_sq (pv 2) (po_some (pv 3)) (po_some (pe_op op_mul pe_int (pv 3)))) (pa_cons (pe_ix ix_seq (pv 2) (pe_un un_neg pe_int) (fun _ _ => rfl)) pa_nil))))))) pss_nil)
    (pss_cons (ps_if (pt_cmpR op_eq (pv 1) pe_int (nomark _)) (pss_one (ps_ret (pe_lst (pa_cons (pe_call G_shift_wires hr (by rfl) L.m_shift_wires L.F_shift_wires.kp L.b_shift_wires .nil pass0 (pa_cons (pv 0) (pa_cons (pv 2) (pa_cons (pe_slice sl_sq (pv 2) po_none (po_some pe_int)) pa_nil)))) (pa_cons (pe_call G_left_wires hr (by rfl) L.m_left_wires L.F_left_wires.kp L.b_left_wires .nil pass0 (pa_cons (pv 0) (pa_cons (pv 2) (pa_cons (pe_slice sl_sq (pv 2) po_none (po_some pe_int)) pa_nil)))) pa_nil))))) pss_nil)
    (pss_cons (ps_if (pt_cmpR op_eq (pv 1) pe_int (nomark _)) (pss_one (ps_ret (pe_lst (pa_cons (pe_call G_zero_wires hr (by rfl) L.m_zero_wires L.F_zero_wires.kp L.b_zero_wires .nil pass0 (pa_cons (pv 0) (pa_cons (pv 2) pa_nil))) (pa_cons (pe_call G_mark_wires hr (by rfl) L.m_mark_wires L.F_mark_wires.kp L.b_mark_wires .nil pass0 (pa_cons (pv 0) (pa_cons (pe_slice sl_sq (pv 2) po_none (po_some (pv 3))) (pa_cons (pe_slice sl_sq (pv 2) (po_some (pv 3)) (po_some (pe_op op_mul pe_int (pv 3)))) pa_nil)))) pa_nil))))) pss_nil)
    (pss_one (ps_ret (pe_call G_times_wires hr (by rfl) L.m_times_wires L.F_times_wires.kp L.b_times_wires .nil pass0 (pa_cons (pv 0) (pa_cons (pe_slice sl_sq (pv 2) po_none (po_some (pv 3))) (pa_cons (pe_slice sl_sq (pv 2) (po_some (pv 3)) po_none) pa_nil)))))))))), ?_⟩
  have ht : ∀ n, ∀ w ∈ ws.take n, w < m + gs.length := fun n w h => hw w (List.mem_of_mem_take h)
  have hd : ∀ n, ∀ w ∈ ws.drop n, w < m + gs.length := fun n w h => hw w (List.mem_of_mem_drop h)
  have hdt : ∀ n k, ∀ w ∈ (ws.drop n).take k, w < m + gs.length := fun n k w h => hd n w (List.mem_of_mem_take h)
  have hh : 1 ≤ hfN ws ∧ hfN ws ≤ 3 ∧ 2 * hfN ws ≤ ws.length := by unfold hfN; omega
  have lt : (ws.take (hfN ws)).length = hfN ws := by rw [List.length_take]; omega
  have ldt : ((ws.drop (hfN ws)).take (hfN ws)).length = hfN ws := by rw [List.length_take, List.length_drop]; omega
  have hla : ws.getD (ws.length - 1) 0 < m + gs.length := by
    refine hw _ ?_
    simp only [List.getD, List.getElem?_eq_getElem (show ws.length - 1 < ws.length by omega), Option.getD_some]
    exact List.getElem_mem _
  refine ⟨_, rfl, t, _, rfl, hT.to, _, _, rfl, rfl, ⟨by decide, by decide⟩, ?_⟩
  dsimp only
  rw [nts_len, show ((ws.length : Nat) : Int) / 2 = ((hfN ws : Nat) : Int) by unfold hfN; omega]
  try simp only [L2.start, List.map_cons, List.map_nil, List.length_cons, List.length_nil, List.replicate_succ, List.replicate_zero, List.cons_append, List.nil_append, List.set_cons_succ, List.set_cons_zero, Nat.reduceAdd, Nat.reduceSub, Nat.zero_add]
  have go : ∀ {n : Nat}, decide (V.int (sort : Int) = V.int (n : Int)) = true → sort = n := fun h => by
    have := V.int.inj (of_decide_eq_true h)
    omega
  have nogo : ∀ {n : Nat}, ¬ decide (V.int (sort : Int) = V.int (n : Int)) = true → sort ≠ n := fun h z => h (decide_eq_true (by rw [z]))
  have c1 := cutN_to ws (hfN ws) (by omega)
  have c2 := cutN_mid ws (hfN ws) hh.2.2
  have c3 := cutN_from ws (hfN ws) (by omega)
  have c4 : cutV (nts ws) none (some 2) = nts (ws.take 2) := cutN_to ws 2 l2
  have l22 : (ws.take 2).length = 2 := by rw [List.length_take]; omega
  refine ⟨_, rfl, rfl, _, rfl, ite2 (fun c => ?_) (fun c => ?_)⟩
  · obtain rfl := go (n := 0) c
    refine ⟨_, rfl, _, rfl, _, rfl, _, rfl, b, t, _, rfl, hT, fun O H1 s1 hO nO => ?_⟩
    rw [c1] at hO
    have hT1 : Sq2 b K H1 t (nts ws) := hT.keepS (S := []) (.ofSame s1) (fun z => nomatch z)
    have N1 := hN.same s1
    refine ⟨_, rfl, _, rfl, _, rfl, _, rfl, _, _, rfl, rfl, .inl ⟨by decide, by decide⟩, _, rfl, b, t, _, rfl, hT1, fun O2 H2 s2 hO2 nO2 => ?_⟩
    try dsimp only at hO2
    rw [show (2 : Int) * ((hfN ws : Nat) : Int) = ((2 * hfN ws : Nat) : Int) by omega, c2] at hO2
    have hO' : Sq2 b K H2 O (nts (ws.take (hfN ws))) := hO.keepS (S := []) (.ofSame s2) (fun z => nomatch z)
    have hT2 : Sq2 b K H2 t (nts ws) := hT1.keepS (S := []) (.ofSame s2) (fun z => nomatch z)
    refine ⟨_, rfl, 1, rfl, hT2.at (y := fun _ => True) (at_lastN (n := ws.length - 1) (by omega)) ?_⟩
    refine ⟨Z, p, m, gs, nm, O, O2, b, b, ws.take (hfN ws), (ws.drop (hfN ws)).take (hfN ws), ws.getD (ws.length - 1) 0, rfl, N1.same s2, hO', hO2, by rw [lt, ldt], ht _, hdt _ _, hla, by rw [lt]; omega, by omega, fun D H3 k3 N3 nD eD => ?_⟩
    have kk : KeepS [p.lm, p.ld] H H3 := (KeepS.ofSame (s1.trans s2)).trans k3
    exact q _ H3 kk N3 (dpN_lst (ks_none (S := []) (.ofSame (s1.trans s2)) nD) eD)
  dsimp only [tNext]
  refine ⟨_, rfl, rfl, _, rfl, ite2 (fun c1' => ?_) (fun c1' => ?_)⟩
  · obtain rfl := go (n := 1) c1'
    refine ⟨_, rfl, _, rfl, _, rfl, _, rfl, b, t, _, rfl, hT, fun O H1 s1 hO nO => ?_⟩
    rw [c4] at hO
    have hT1 : Sq2 b K H1 t (nts ws) := hT.keepS (S := []) (.ofSame s1) (fun z => nomatch z)
    have N1 := hN.same s1
    have nO2 := sl_nin hN nT nO
    refine ⟨Z, p, m, gs, nm, t, O, b, b, ws, ws.take 2, rfl, N1, hT1, hO, nT, nO2, hw, ht _, by omega, by omega, by omega, fun D T H2 k2 N2 nD eD eT => ?_⟩
    have nDH := ks_none (S := []) (.ofSame s1) nD
    have nD2 := N1.nin nD
    have k02 : KeepS [p.lm, p.ld] H H2 := (KeepS.ofSame s1).trans k2
    obtain ⟨a1, _⟩ := shiW_ok (m := m) (gs := gs) (os := ws) (bs := ws.take 2) hw (ht _)
    have la := a1.len
    rw [l22] at la
    have hT2 := hT1.keepS k2 nT
    have hpf : partF m gs 1 ws = ((lefW m (shiW m gs ws (ws.take 2)).1 ws (ws.take 2)).1, .list [.tuple [.list (dInts (shiW m gs ws (ws.take 2)).2.1), .int ((shiW m gs ws (ws.take 2)).2.2 : Nat)], .list (dInts (lefW m (shiW m gs ws (ws.take 2)).1 ws (ws.take 2)).2)]) := rfl
    rw [hpf] at q
    generalize shiW m gs ws (ws.take 2) = S1 at *
    refine ⟨_, rfl, _, rfl, _, rfl, _, rfl, b, t, _, rfl, hT2, fun O3 H3 s3 hO3 nO3 => ?_⟩
    rw [c4] at hO3
    have hT3 : Sq2 b K H3 t (nts ws) := hT2.keepS (S := []) (.ofSame s3) (fun z => nomatch z)
    have N3 := N2.same s3
    have nO32 := sl_nin N2 nT nO3
    refine ⟨Z, p, m, S1.1, nm, t, O3, b, b, ws, ws.take 2, rfl, N3, hT3, hO3, nT, nO32, (fun w h => by have := hw w h; omega), (fun w h => by have := ht 2 w h; omega), by omega, by omega, by omega, fun D4 H4 k4 N4 nD4 eD4 => ?_⟩
    have k34 : KeepS [p.lm, p.ld] H2 H4 := (KeepS.ofSame s3).trans k4
    have k04 := k02.trans k34
    have nD4H := ks_none (k02.trans (.ofSame s3)) nD4
    have eDD := k34.1 _ _ eD nD2
    have eTT : H4 T = some (.tup [.ref D, .int ((S1.2.2 : Nat) : Int)]) := k34.1 _ _ eT (fun z => by
      obtain ⟨_, _, _, dx, ps, kvs, _, e2, e3, _⟩ := N2
      simp only [List.mem_cons, List.not_mem_nil, or_false] at z
      rcases z with z | z
      · rw [z, e2] at eT; cases eT
      · rw [z, e3] at eT; cases eT)
    refine ⟨(by show 2 ≤ sizeLine; decide), fun L nL => ?_⟩
    have sL := same_upd (o := .lst [.ref T, .ref D4]) nL
    have nLH := ks_none k04 nL
    refine q _ _ (k04.trans (.ofSame sL)) (N4.same sL) fun S H5 hS k5 => ?_
    have hS' : ∀ {y : Addr}, H y = none → y ∉ S := fun h z => (hS _ z).1 h
    exact .lst (SqL.of (k5.1 _ _ upd_same (hS' nLH))) (.cons (.tup (.inl (.inl (k5.1 _ _ (sL _ _ eTT) (fun z => (hS _ z).2 _ (sL _ _ eTT))))) (.cons (.lst (SqL.of (k5.1 _ _ (sL _ _ eDD) (hS' nDH))) (dpa_nts _)) (.cons (.int _) .nil))) (.cons (.lst (SqL.of (k5.1 _ _ (sL _ _ eD4) (hS' nD4H))) (dpa_nts _)) .nil))
  dsimp only [tNext]
  refine ⟨_, rfl, rfl, _, rfl, ite2 (fun c2' => ?_) (fun c2' => ?_)⟩
  · obtain rfl := go (n := 2) c2'
    refine ⟨_, rfl, _, rfl, Z, p, m, gs, nm, t, b, ws, rfl, hN, hT, nT, hw, by omega, by omega, fun D H2 k2 N2 nD eD => ?_⟩
    have nD2 := hN.nin nD
    have a1 := (zeroW_ok (m := m) (k := Builtin.Int.intBits (ws.length : Int)) hw).ext
    have la := a1.len
    have i3 := ib3 ws.length l7
    have mm : Builtin.Int.intBits (ws.length : Int) * (ws.length + 2) ≤ 3 * 9 := Nat.mul_le_mul i3 (by omega)
    have hT2 := hT.keepS k2 nT
    have hpf : partF m gs 2 ws = ((markW m (zeroW m gs ws (Builtin.Int.intBits (ws.length : Int))).1 (ws.take (hfN ws)) ((ws.drop (hfN ws)).take (hfN ws))).1, .list [.list (dInts (zeroW m gs ws (Builtin.Int.intBits (ws.length : Int))).2), .list (dInts (markW m (zeroW m gs ws (Builtin.Int.intBits (ws.length : Int))).1 (ws.take (hfN ws)) ((ws.drop (hfN ws)).take (hfN ws))).2)]) := rfl
    rw [hpf] at q
    generalize Builtin.Int.intBits (ws.length : Int) * (ws.length + 2) = mm0 at *
    generalize zeroW m gs ws (Builtin.Int.intBits (ws.length : Int)) = S1 at *
    refine ⟨_, rfl, _, rfl, _, rfl, _, rfl, b, t, _, rfl, hT2, fun O H3 s3 hO nO => ?_⟩
    rw [c1] at hO
    have hT3 : Sq2 b K H3 t (nts ws) := hT2.keepS (S := []) (.ofSame s3) (fun z => nomatch z)
    have nO2 := sl_nin N2 nT nO
    refine ⟨_, rfl, _, rfl, _, rfl, _, rfl, _, _, rfl, rfl, .inl ⟨by decide, by decide⟩, _, rfl, b, t, _, rfl, hT3, fun O4 H4 s4 hO4 nO4 => ?_⟩
    try dsimp only at hO4
    rw [show (2 : Int) * ((hfN ws : Nat) : Int) = ((2 * hfN ws : Nat) : Int) by omega, c2] at hO4
    have hO' : Sq2 b K H4 O (nts (ws.take (hfN ws))) := hO.keepS (S := []) (.ofSame s4) (fun z => nomatch z)
    have N4 := (N2.same s3).same s4
    have nO42 := sl_nin (N2.same s3) nT nO4
    refine ⟨Z, p, m, S1.1, nm, O, O4, b, b, ws.take (hfN ws), (ws.drop (hfN ws)).take (hfN ws), rfl, N4, hO', hO4, nO2, nO42, by rw [lt, ldt], by rw [lt]; omega, (fun w h => by have := ht _ w h; omega), (fun w h => by have := hdt _ _ w h; omega), by rw [lt]; omega, by omega, fun D5 H5 k5 N5 nD5 eD5 => ?_⟩
    have k25 : KeepS [p.lm, p.ld] H2 H5 := (KeepS.ofSame (s3.trans s4)).trans k5
    have k05 := k2.trans k25
    have nD5H := ks_none (k2.trans (.ofSame (s3.trans s4))) nD5
    have eDD := k25.1 _ _ eD nD2
    refine ⟨(by show 2 ≤ sizeLine; decide), fun L nL => ?_⟩
    have sL := same_upd (o := .lst [.ref D, .ref D5]) nL
    have nLH := ks_none k05 nL
    refine q _ _ (k05.trans (.ofSame sL)) (N5.same sL) fun S H6 hS k6 => ?_
    have hS' : ∀ {y : Addr}, H y = none → y ∉ S := fun h z => (hS _ z).1 h
    exact .lst (SqL.of (k6.1 _ _ upd_same (hS' nLH))) (.cons (.lst (SqL.of (k6.1 _ _ (sL _ _ eDD) (hS' nD))) (dpa_nts _)) (.cons (.lst (SqL.of (k6.1 _ _ (sL _ _ eD5) (hS' nD5H))) (dpa_nts _)) .nil))
  · dsimp only [tNext]
    obtain rfl : sort = 3 := by have := nogo (n := 0) c; have := nogo (n := 1) c1'; have := nogo (n := 2) c2'; omega
    refine ⟨_, rfl, _, rfl, _, rfl, _, rfl, b, t, _, rfl, hT, fun O H1 s1 hO nO => ?_⟩
    rw [c1] at hO
    have hT1 : Sq2 b K H1 t (nts ws) := hT.keepS (S := []) (.ofSame s1) (fun z => nomatch z)
    have N1 := hN.same s1
    have nO2 := sl_nin hN nT nO
    refine ⟨_, rfl, _, rfl, _, rfl, b, t, _, rfl, hT1, fun O2 H2 s2 hO2 nO22 => ?_⟩
    rw [c3] at hO2
    have hO' : Sq2 b K H2 O (nts (ws.take (hfN ws))) := hO.keepS (S := []) (.ofSame s2) (fun z => nomatch z)
    have nO3 := sl_nin N1 nT nO22
    refine ⟨Z, p, m, gs, nm, O, O2, b, b, ws.take (hfN ws), ws.drop (hfN ws), rfl, N1.same s2, hO', hO2, nO2, nO3, by rw [lt]; omega, ht _, hd _, by rw [lt]; omega, by rw [List.length_drop]; omega, by omega, fun D H3 k3 N3 nD eD => ?_⟩
    have kk : KeepS [p.lm, p.ld] H H3 := (KeepS.ofSame (s1.trans s2)).trans k3
    exact q _ H3 kk N3 (dpN_lst (ks_none (S := []) (.ofSame (s1.trans s2)) nD) eD)
end
section
variable {P : Program} {w : World} {K : PySem.W.Frag} {mg : Str → Option Value} {base : Heap}
variable {C : Addr} {a1 a2 a3 a4 a5 a6 a7 a8 a9 a10 a11 a12 a13 a14 a15 a16 a17 a18 a19 a20 a21 a22 a23 a24 a25 a26 a27 a28 a29 a30 a31 a32 a33 a34 : Addr} {l1 l2 l3 l4 l5 l6 l7 l8 l9 l10 l11 l12 l13 l14 l15 l16 l17 l18 l19 l20 l21 l22 l23 l24 l25 l26 l27 l28 l29 l30 l31 l32 l33 l34 : FuncData}
/-! ### the law's own lists by names -/
def DlAt (S : List Addr) (H : Hp) (d : Addr) (nm : List (Str × List Nat)) : Prop := d ∉ S ∧ ∃ kvs, H d = some (.dK kvs) ∧ kvs.length = nm.length ∧ (nm.map (·.1)).Nodup ∧ ∀ (i : Nat) (k : Key) (v : V) (n : Str) (ws : List Nat), kvs[i]? = some (k, v) → nm[i]? = some (n, ws) → k = .inr n ∧ ∃ l, v = .ref l ∧ l ∉ S ∧ l ≠ d ∧ H l = some (.lst (nts ws))
theorem DlAt.keep {S T : List Addr} {H H' : Hp} {d : Addr} {nm : List (Str × List Nat)} (h : DlAt S H d nm) (k : KeepS T H H') (hs : ∀ y ∈ T, y ∈ S) : DlAt S H' d nm := by
  obtain ⟨a, kvs, e, l, nd, f⟩ := h
  refine ⟨a, kvs, k.1 _ _ e (fun z => a (hs _ z)), l, nd, fun i k' v n ws hi hn => ?_⟩
  obtain ⟨ek, l', ev, m1, m2, m3⟩ := f i k' v n ws hi hn
  exact ⟨ek, l', ev, m1, m2, k.1 _ _ m3 (fun z => m1 (hs _ z))⟩
theorem DlAt.same {S : List Addr} {H H' : Hp} {d : Addr} {nm : List (Str × List Nat)} (h : DlAt S H d nm) (s : Same H H') : DlAt S H' d nm := h.keep (T := []) (.ofSame s) (fun _ z => nomatch z)
theorem DlAt.keepB {b : Addr} {S : List Addr} {H H' : Hp} {d : Addr} {nm : List (Str × List Nat)} (h : DlAt S H d nm) (k : Keep b H H') (hb : H' b ≠ none) (m : b ∈ S) : DlAt S H' d nm := h.keep (T := [b]) (.ofKeep k (by simp) hb) (fun y hy => by rw [List.mem_singleton.mp hy]; exact m)
theorem DlAt.keys {S : List Addr} {H : Hp} {d : Addr} {nm : List (Str × List Nat)} (h : DlAt S H d nm) : ∃ kvs, H d = some (.dK kvs) ∧ kvs.map (·.1) = (nm.map (·.1)).map Sum.inr ∧ ∀ y ∈ nm.map (·.1), ∃ l, valV kvs (.inr y) = some (.ref l) ∧ l ∉ S ∧ l ≠ d ∧ H l = some (.lst (nts (lkN nm y))) ∧ (y, lkN nm y) ∈ nm := by
  obtain ⟨a, kvs, e, l, nd, f⟩ := h
  have N : NmAt [] H ⟨d, d, d, d⟩ kvs nm := ⟨l, nd, fun i k v n ws hi hn => by
    obtain ⟨ek, l', ev, m1, m2, m3⟩ := f i k v n ws hi hn
    exact ⟨ek, l', ev, (fun z => nomatch z), m2, m2, m3⟩⟩
  refine ⟨kvs, e, by rw [N.keys, List.map_map]; rfl, fun y hy => ?_⟩
  obtain ⟨x, hx, ex⟩ := List.mem_map.mp hy
  obtain ⟨i, hi⟩ := List.mem_iff_getElem?.mp hx
  have hi' : nm[i]? = some (y, x.2) := by rw [hi, ← ex]
  have lk := lkN_at nd hi'
  rw [lk]
  have li : i < kvs.length := by
    have := (List.getElem?_eq_some_iff.mp hi').1
    omega
  obtain ⟨ek, l', ev, m1, m2, m3⟩ := f i kvs[i].1 kvs[i].2 y x.2 (List.getElem?_eq_getElem li) hi'
  refine ⟨l', ?_, m1, m2, m3, by rw [← ex]; exact hx⟩
  rw [← ev, ← ek]
  exact valV_at N.nodup (List.getElem?_eq_getElem li)
theorem lkN_mem {nm : List (Str × List Nat)} {n : Str} {ws : List Nat} (nd : (nm.map (·.1)).Nodup) (h : (n, ws) ∈ nm) : lkN nm n = ws := by
  obtain ⟨i, hi⟩ := List.mem_iff_getElem?.mp h
  exact lkN_at nd hi
/-! ### data that can be compared -/
def Sd (m : Nat) (d : PyData) : Prop := d.canLay0 = true ∧ d.depth ≤ m
theorem sdA {m : Nat} : ∀ ds : List PyData, (∀ d ∈ ds, Sd m d) → PyData.canLayAll0 ds = true ∧ PyData.depthAll ds ≤ m
  | [], _ => ⟨rfl, Nat.zero_le _⟩
  | d :: ds, h => by
    obtain ⟨a, b⟩ := sdA ds (fun e he => h e (List.mem_cons_of_mem _ he))
    obtain ⟨c, e⟩ := h d List.mem_cons_self
    exact ⟨by unfold PyData.canLayAll0; rw [c, a]; rfl, by unfold PyData.depthAll; exact Nat.max_le.mpr ⟨e, b⟩⟩
theorem Sd.lst {m : Nat} {ds : List PyData} (h : ∀ d ∈ ds, Sd m d) : Sd (m + 1) (.list ds) := by
  obtain ⟨a, b⟩ := sdA ds h
  exact ⟨by unfold PyData.canLay0; exact a, by unfold PyData.depth; exact Nat.succ_le_succ b⟩
theorem Sd.tup {m : Nat} {ds : List PyData} (h : ∀ d ∈ ds, Sd m d) : Sd (m + 1) (.tuple ds) := by
  obtain ⟨a, b⟩ := sdA ds h
  exact ⟨by unfold PyData.canLay0; exact a, by unfold PyData.depth; exact Nat.succ_le_succ b⟩
theorem Sd.int {m : Nat} (i : Int) : Sd m (.int i) := ⟨rfl, Nat.zero_le _⟩
theorem Sd.str {m : Nat} {x : Str} (h : PyData.strOk x = true) : Sd m (.str x) := ⟨h, Nat.zero_le _⟩
theorem Sd.up {m k : Nat} {d : PyData} (h : Sd m d) (l : m ≤ k) : Sd k d := ⟨h.1, Nat.le_trans h.2 l⟩
theorem Sd.sh {m : Nat} {d : PyData} (h : Sd m d) (l : m ≤ 64) : PySem.SeqAt.shaped d = true := by
  unfold PySem.SeqAt.shaped
  rw [h.1, decide_eq_true (Nat.le_trans h.2 l)]
  rfl
theorem Sd.self {m : Nat} {d : PyData} (h : Sd m d) : PyData.eqv d d = true := PySem.SeqAt.eqv_refl _ h.1
theorem sd_ints (ws : List Nat) : Sd 1 (.list (dInts ws)) := .lst fun d hd => by
  obtain ⟨a, _, rfl⟩ := List.mem_map.mp hd
  exact .int _
theorem sd_gt {n : Nat} {g : Gt} (h : g.ok n) : Sd 1 (dGt g) := by
  cases g with
  | fi b =>
    exact .tup fun d hd => by
      simp only [List.mem_cons, List.not_mem_nil, or_false] at hd
      rcases hd with e | e <;> rw [e]
      · exact .str (by decide +kernel)
      · exact .int _
  | w k ws =>
    exact .tup fun d hd => by
      rcases List.mem_cons.mp hd with e | hd
      · rw [e]
        refine .str ?_
        rcases h.1 with ⟨z | z | z, _⟩ | ⟨z, _⟩ <;> rw [z] <;> decide +kernel
      · obtain ⟨a, _, rfl⟩ := List.mem_map.mp hd
        exact .int _
theorem sd_rows {m : Nat} {gs : List Gt} (h : GsOk m gs) : Sd 2 (.list (gs.map dGt)) := .lst fun d hd => by
  obtain ⟨g, hg, rfl⟩ := List.mem_map.mp hd
  obtain ⟨i, hi⟩ := List.mem_iff_getElem?.mp hg
  exact sd_gt (h i g hi)
theorem sd_lists {ys : List Str} (f : Str → List Nat) : Sd 2 (.list (ys.map fun y => .list (dInts (f y)))) := .lst fun d hd => by
  obtain ⟨y, _, rfl⟩ := List.mem_map.mp hd
  exact sd_ints _
theorem sd_part {m sort : Nat} {gs : List Gt} {ws : List Nat} : Sd 3 (partF m gs sort ws).2 := by
  unfold partF
  split
  · exact (sd_ints _).up (by decide)
  split
  · refine .lst fun d hd => ?_
    simp only [List.mem_cons, List.not_mem_nil, or_false] at hd
    rcases hd with e | e <;> rw [e]
    · refine .tup fun d hd => ?_
      simp only [List.mem_cons, List.not_mem_nil, or_false] at hd
      rcases hd with e | e <;> rw [e]
      · exact sd_ints _
      · exact .int _
    · exact (sd_ints _).up (by decide)
  split
  · refine (Sd.lst fun d hd => ?_ : Sd 2 _).up (by decide)
    simp only [List.mem_cons, List.not_mem_nil, or_false] at hd
    rcases hd with e | e <;> rw [e] <;> exact sd_ints _
  · exact (sd_ints _).up (by decide)
/-! ### a net beside what the law keeps of it -/
structure Nd where
  p : NetP
  o : Addr
  d : Addr
  m : Nat
  gs : List Gt
  nm : List (Str × List Nat)
def Nd.adr (n : Nd) : List Addr := [n.o, n.d, n.p.x, n.p.lm, n.p.ld, n.p.dn]
def keptR (n : Nd) : HO := .dK [(.inr "names", .ref n.d), (.inr "size", .int (n.gs.length : Nat))]
def NdAt (C : Addr) (Z : List Addr) (H : Hp) (n : Nd) : Prop := NetAt C (n.o :: n.d :: Z) H n.p n.m n.gs n.nm ∧ H n.o = some (keptR n) ∧ DlAt (n.o :: n.p.x :: n.p.lm :: n.p.ld :: n.p.dn :: Z) H n.d n.nm ∧ n.o ∉ Z
theorem NdAt.keep {C : Addr} {Z S : List Addr} {H H' : Hp} {n : Nd} (h : NdAt C Z H n) (k : KeepS S H H') (hS : ∀ y ∈ S, y ∈ Z) : NdAt C Z H' n := by
  obtain ⟨a, b, c, d⟩ := h
  exact ⟨a.keep k (fun y hy => List.mem_cons_of_mem _ (List.mem_cons_of_mem _ (hS y hy))), k.1 _ _ b (fun z => d (hS _ z)), c.keep k (fun y hy => by simp [hS y hy]), d⟩
theorem NdAt.same {C : Addr} {Z : List Addr} {H H' : Hp} {n : Nd} (h : NdAt C Z H n) (s : Same H H') : NdAt C Z H' n := h.keep (S := []) (.ofSame s) (fun _ z => nomatch z)
def nameN (j : Nat) : Str := Str.ofString "n" ++ Str.ofString (toString (j : Int))
theorem nameN_ne : ∀ i, i < 14 → ∀ k, k < 14 → nameN i = nameN k → i = k := by decide +kernel
theorem nameN_ok : ∀ i, i < 14 → PyData.strOk (nameN i) = true := by decide +kernel
def NdOk (k : Nat) (n : Nd) : Prop := 4 ≤ n.m ∧ n.m ≤ 10 ∧ n.gs.length ≤ 5000 * k ∧ GsOk n.m n.gs ∧ n.nm.length ≤ k ∧ (∀ x ∈ n.nm, x.2.length ≤ 7 ∧ ∀ w ∈ x.2, w < n.m + n.gs.length) ∧ n.nm.map (·.1) = (List.range n.nm.length).map nameN
theorem NdOk.nodup {k : Nat} {n : Nd} (h : NdOk k n) (hk : k ≤ 12) : (n.nm.map (·.1)).Nodup := by
  obtain ⟨_, _, _, _, h5, _, h7⟩ := h
  rw [h7]
  refine List.Pairwise.map (R := fun a b => a < b ∧ b < 14) _ (fun a b hab e => ?_) ?_
  · have := nameN_ne a (by omega) b (by omega) e
    omega
  · refine List.pairwise_iff_getElem.mpr fun i j hi hj hij => ?_
    rw [List.length_range] at hi hj
    rw [List.getElem_range, List.getElem_range]
    omega
theorem NdOk.strs {k : Nat} {n : Nd} (h : NdOk k n) (hk : k ≤ 12) : ∀ y ∈ n.nm.map (·.1), PyData.strOk y = true := fun y hy => by
  obtain ⟨_, _, _, _, h5, _, h7⟩ := h
  rw [h7] at hy
  obtain ⟨i, hi, rfl⟩ := List.mem_map.mp hy
  have := List.mem_range.mp hi
  exact nameN_ok i (by omega)
theorem keptN (n : Nd) : valV [((.inr "names" : Key), V.ref n.d), (.inr "size", .int (n.gs.length : Nat))] (.inr "names") = some (.ref n.d) ∧ valV [((.inr "names" : Key), V.ref n.d), (.inr "size", .int (n.gs.length : Nat))] (.inr "size") = some (.int (n.gs.length : Nat)) := ⟨rfl, rfl⟩
theorem dpa_run {H : Hp} (f : Str → List Int) : ∀ (ts : List Addr) (ys : List Str), ts.length = ys.length → (∀ (i : Nat) (t : Addr) (y : Str), ts[i]? = some t → ys[i]? = some y → ∃ l, H t = some (.tup [.str y, .ref l]) ∧ H l = some (.lst ((f y).map V.int))) → DpAll K H (ts.map V.ref) (ys.map fun y => .tuple [.str y, .list ((f y).map PyData.int)])
  | [], [], _, _ => .nil
  | [], _ :: _, h, _ => by cases h
  | _ :: _, [], h, _ => by cases h
  | t :: ts, g :: gs, h, e => by
    obtain ⟨l, e1, e2⟩ := e 0 t g rfl rfl
    exact .cons (.tup (.inl (.inl e1)) (.cons (.str _) (.cons (.lst (SqL.of e2) (dp_ints _)) .nil))) (dpa_run f ts gs (Nat.succ.inj h) fun i a b h1 h2 => e (i + 1) a b h1 h2)
theorem sd_run {ys : List Str} (f : Str → List Int) (h : ∀ y ∈ ys, PyData.strOk y = true) : Sd 3 (.list (ys.map fun y => .tuple [.str y, .list ((f y).map PyData.int)])) := .lst fun d hd => by
  obtain ⟨y, hy, rfl⟩ := List.mem_map.mp hd
  refine .tup fun d hd => ?_
  simp only [List.mem_cons, List.not_mem_nil, or_false] at hd
  rcases hd with e | e <;> rw [e]
  · exact .str (h y hy)
  · refine .lst fun d hd => ?_
    obtain ⟨i, _, rfl⟩ := List.mem_map.mp hd
    exact .int i
def spSta (C : Addr) : Sp := fun vs H Q _ => ∃ (Z : List Addr) (n : Nd) (k : Nat), vs = [.ref n.p.x, .ref n.o] ∧ NdAt C Z H n ∧ NdOk k n ∧ k ≤ 12 ∧ ∀ H', Same H H' → Q (.bl true) H'
theorem ok__law_stands (B : Bl mg) (L : LL K mg C a1 a2 a3 a4 a5 a6 a7 a8 a9 a10 a11 a12 a13 a14 a15 a16 a17 a18 a19 a20 a21 a22 a23 a24 a25 a26 a27 a28 a29 a30 a31 a32 a33 a34 l1 l2 l3 l4 l5 l6 l7 l8 l9 l10 l11 l12 l13 l14 l15 l16 l17 l18 l19 l20 l21 l22 l23 l24 l25 l26 l27 l28 l29 l30 l31 l32 l33 l34) : FnOk P w K mg base CX0 7 a18 l18 ["_law_net", "_law_own"] (spSta C) := by
  have G_Net_names : FnOk P w K mg base CX0 6 a30 l30 ["self"] (spNames C) := (ok_Net_names B L).mono (by decide)
  have G_Net_given : FnOk P w K mg base CX0 6 a29 l29 ["self", "name"] (spGiven C) := (ok_Net_given B L).mono (by decide)
  have G_Net_gates : FnOk P w K mg base CX0 6 a32 l32 ["self"] (spGates C) := (ok_Net_gates B L).mono (by decide)
  have G_Net_inputs : FnOk P w K mg base CX0 6 a31 l31 ["self"] (spInputs C) := (ok_Net_inputs B L).mono (by decide)
  have G_Net_give : FnOk P w K mg base CX0 6 a28 l28 ["self", "name", "wires"] (spGive K C) := (ok_Net_give B L).mono (by decide)
  have G__law_made : FnOk P w K mg base CX0 6 a15 l15 ["_law_rows", "_law_wide"] (spMadeL C) := (ok__law_made B L).mono (by decide)
  have G_ran : FnOk P w K mg base CX0 6 a11 l11 ["net", "values", "many"] (spRan C) := (ok_ran B L).mono (by decide)
  refine L.F__law_stands.ok sc__law_stands (fun vs H Q E h => ?_) (fun cdv A outer s H vs Q E hr h => ?_)
  · obtain ⟨Z, n, k, rfl, _⟩ := h
    rfl
  obtain ⟨Z, n, k, rfl, hD, ok, hk, q⟩ := h
  refine ⟨_, (pss_cons (ps_setLc (i := 2) (own := [("_law_name", 5)]) (by rfl) sc__law_stands.nd rfl rfl (sw_true rfl rfl rfl (by decide +kernel)) (pi_list (pe_meth0 (pv 0) L.T.cl L.M_Net_names G_Net_names hr L.b_Net_names .nil pass0)) (blkOk_by (own := [("_law_name", 5)]) (N := ["_law_net", "_law_own", "_law_lists", "_law_one", "_law_anew", "_law_name", "_law_values", "_law_at"]) (sc := defScope s__law_stands) (by decide +kernel)) (fun _ _ _ _ _ => pg_name (i := 5) sc__law_stands.nd rfl (Or.inl rfl)) (fun _ _ _ _ _ => pts_nil) (fun _ _ _ _ _ => (pe_meth (pv 0) L.T.cl L.M_Net_given G_Net_given hr L.b_Net_given .nil pass0 (pa_cons (pv 5) pa_nil))))
    (pss_cons (ps_if (PW.pt (pw_or (pt_cmpR op_ne (pe_callB (call_lenOwn L.M_Net___len__ (ok_Net___len__ B L) L.b_Net___len__ (hr.mono (by decide)) pass0) (by rfl) B.len boot_len (pa_cons (pv 0) pa_nil)) (pe_dget (units1 hr) (pv 1) pe_str (fun _ _ => rfl)) (nomark _)) (pw_or1 (pt_cmpR (op_neD hr.units) (pe_meth0 (pv 0) L.T.cl L.M_Net_names G_Net_names hr L.b_Net_names .nil pass0) (pe_callB (call_sortedD rfl) (by rfl) L.z_sorted boot_sorted (pa_cons (pe_dget (units1 hr) (pv 1) pe_str (fun _ _ => rfl)) pa_nil)) (nomark _))))) (pss_one (ps_ret pe_bl)) pss_nil)
    (pss_cons (ps_if (pt_cmpR (op_neD hr.units) (pv 2) (pe_lc (own := [("_law_name", 5)]) (by rfl) sc__law_stands.nd (pi_list (pe_callB (call_sortedD rfl) (by rfl) L.z_sorted boot_sorted (pa_cons (pe_dget (units1 hr) (pv 1) pe_str (fun _ _ => rfl)) pa_nil))) (blkOk_by (own := [("_law_name", 5)]) (N := ["_law_net", "_law_own", "_law_lists", "_law_one", "_law_anew", "_law_name", "_law_values", "_law_at"]) (sc := defScope s__law_stands) (by decide +kernel)) (fun _ _ _ _ _ => pg_name (i := 5) sc__law_stands.nd rfl (Or.inl rfl)) (fun _ _ _ _ _ => pts_nil) (fun _ _ _ _ _ => (pe_dget (units1 hr) (pe_dget (units1 hr) (pv 1) pe_str (fun _ _ => rfl)) (pv 5) (fun _ _ => rfl)))) (nomark _)) (pss_one (ps_ret pe_bl)) pss_nil)
    (pss_cons (ps_for PassesOwn.never rfl (pi_list (pv 2)) (pg_name (i := 3) sc__law_stands.nd rfl (.inl rfl)) (pss_one (ps_expr (pe_bm0 PySem.F.plainAttrs_list PySem.F.slot_list_clear PySem.F.type_list_clear mt_clear (pv 3)))))
    (pss_cons (ps_set (i := 4) sc__law_stands.nd rfl (.inl rfl) (pe_call G__law_made hr (by rfl) L.m__law_made L.F__law_made.kp L.b__law_made .nil pass0 (pa_cons (pe_meth0 (pv 0) L.T.cl L.M_Net_gates G_Net_gates hr L.b_Net_gates .nil pass0) (pa_cons (pe_meth0 (pv 0) L.T.cl L.M_Net_inputs G_Net_inputs hr L.b_Net_inputs .nil pass0) pa_nil))))
    (pss_cons (ps_for PassesOwn.never rfl (pi_list (pe_meth0 (pv 0) L.T.cl L.M_Net_names G_Net_names hr L.b_Net_names .nil pass0)) (pg_name (i := 5) sc__law_stands.nd rfl (.inl rfl)) (pss_one (ps_expr (pe_meth (pv 4) L.T.cl L.M_Net_give G_Net_give hr L.b_Net_give .nil pass0 (pa_cons (pv 5) (pa_cons (pe_meth (pv 0) L.T.cl L.M_Net_given G_Net_given hr L.b_Net_given .nil pass0 (pa_cons (pv 5) pa_nil)) pa_nil))))))
    (pss_cons (ps_setLc (i := 6) (own := [("_law_at", 7)]) (by rfl) sc__law_stands.nd rfl rfl (sw_true rfl rfl rfl (by decide +kernel)) (pi_range1 (by rfl) B.range (pa_cons (pe_meth0 (pv 0) L.T.cl L.M_Net_inputs G_Net_inputs hr L.b_Net_inputs .nil pass0) pa_nil)) (blkOk_by (own := [("_law_at", 7)]) (N := ["_law_net", "_law_own", "_law_lists", "_law_one", "_law_anew", "_law_name", "_law_values", "_law_at"]) (sc := defScope s__law_stands) (by decide +kernel)) (fun _ _ _ _ _ => pg_name (i := 7) sc__law_stands.nd rfl (Or.inl rfl)) (fun _ _ _ _ _ => pts_nil) (fun _ _ _ _ _ => (pe_op op_and (pe_op op_mul (pe_op op_pow pe_int pe_int) (pe_op op_add (pv 7) pe_int)) pe_int)))
    (pss_one (ps_ret (pe_and (pe_cmpR (op_eqD hr.units) (pe_meth0 (pv 4) L.T.cl L.M_Net_gates G_Net_gates hr L.b_Net_gates .nil pass0) (pe_meth0 (pv 0) L.T.cl L.M_Net_gates G_Net_gates hr L.b_Net_gates .nil pass0) (nomark _)) (pe_one (pe_cmpR (op_eqD hr.units) (pe_callN G_ran hr (by rfl) L.m_ran L.F_ran.kp (L.kb_ran_many).choose_spec pass0 (pa_cons (pv 4) (pa_cons (pv 6) pa_nil)) (pk_cons pe_int pk_nil)) (pe_callN G_ran hr (by rfl) L.m_ran L.F_ran.kp (L.kb_ran_many).choose_spec pass0 (pa_cons (pv 0) (pa_cons (pv 6) pa_nil)) (pk_cons pe_int pk_nil)) (nomark _))))))))))))), ?_⟩
  obtain ⟨hN, eo, hDl, _⟩ := id hD
  obtain ⟨m4, m10, hg, gok, hnm, hws, hnames⟩ := id ok
  obtain ⟨kvs, ed, keys, dg⟩ := hDl.keys
  obtain ⟨_, _, _, dx0, _, _, f0, _⟩ := id hN
  have nd := ok.nodup hk
  have hstr := ok.strs hk
  have ll : n.nm.length < 64 := by omega
  have gKp : ∀ {G : Hp}, Same H G → DGet G n.o (.str ("names" : Str)) (some (.ref n.d)) ∧ DGet G n.o (.str ("size" : Str)) (some (.int (n.gs.length : Nat))) := fun {G} s => by
    have e : G n.o = some (keptR n) := s _ _ eo
    exact ⟨by rw [← (keptN n).1]; exact DGet.k (k := .inr "names") e, by rw [← (keptN n).2]; exact DGet.k (k := .inr "size") e⟩
  refine ⟨_, rfl, n.p.x, dx0, _, rfl, f0, rfl, _, n.p, n.m, n.gs, n.nm, rfl, hN, ll, fun ys t2 H2 hp hs s2 nt2 e2 => ?_⟩
  have hyl : ys.length = n.nm.length := by have := hp.length_eq; rw [List.length_map] at this; exact this
  refine ⟨t2, rfl, ⟨_, SqL.of e2⟩, fun D3 nD3 => ?_⟩
  refine lc_it (walk_list (K := K) (a := t2) (xs := ys.map V.str)) (fun j H5 => ∃ ls : List Addr, ls.length = j ∧ Same H2 H5 ∧ H5 D3 = some (.lst (ls.map V.ref)) ∧ D3 ∉ ls ∧ ∀ (i : Nat) (l : Addr) (y : Str), ls[i]? = some l → ys[i]? = some y → H5 l = some (.lst (nts (lkN n.nm y))) ∧ H2 l = none) ⟨[], rfl, same_upd nD3, upd_same, (fun z => nomatch z), fun i l y h => by simp at h⟩ (fun j H5 _ ⟨_, _, s5, _⟩ => SqL.of (s5 _ _ e2)) ?_ ?_
  · rintro j v H6 H5 hj ⟨ls, ll5, s5, eD, nDl, hls⟩ ⟨rfl, hz⟩
    replace hz : (ys.map V.str)[j]? = some v := hz
    rw [List.length_map] at hj
    rw [List.getElem?_map, List.getElem?_eq_getElem hj] at hz
    have hy : ys[j]? = some ys[j] := List.getElem?_eq_getElem hj
    cases hz
    generalize ys[j] = y at *
    obtain ⟨_, _, _, _, _, hmem⟩ := dg y (hp.mem_iff.mp (List.mem_of_getElem? hy))
    obtain ⟨i, hi⟩ := List.mem_iff_getElem?.mp hmem
    have N5 := (hN.same s2).same s5
    obtain ⟨_, _, _, dx5, _, _, f5, _⟩ := id N5
    dsimp only [gName]
    refine ⟨rfl, yesT ?_⟩
    try simp only [L2.start, List.map_cons, List.map_nil, List.length_cons, List.length_nil, List.replicate_succ, List.replicate_zero, List.cons_append, List.nil_append, List.set_cons_succ, List.set_cons_zero, Nat.reduceAdd, Nat.reduceSub, Nat.zero_add]
    refine ⟨_, rfl, n.p.x, dx5, _, rfl, f5, rfl, _, rfl, _, n.p, n.m, n.gs, n.nm, i, y, _, rfl, N5, hi, fun t nt => ?_⟩
    have st := same_upd (o := .lst (nts (lkN n.nm y))) nt
    have tD : t ≠ D3 := fun z => by rw [z, eD] at nt; cases nt
    refine ⟨_, st _ _ eD, by rw [List.length_map, ll5]; exact big_lt (by omega), ls ++ [t], by rw [List.length_append, ll5]; rfl, fun a o e => ?_, by rw [upd_same, List.map_append]; rfl, fun z => ?_, fun i' l' y' h1 h2 => ?_⟩
    · rw [upd_ne (ne_of_none e nD3)]
      exact st _ _ (s5 _ _ e)
    · rcases List.mem_append.mp z with w | w
      · exact nDl w
      · exact tD (List.mem_singleton.mp w).symm
    · by_cases c : i' < ls.length
      · rw [List.getElem?_append_left c] at h1
        obtain ⟨b1, b2⟩ := hls i' l' y' h1 h2
        exact ⟨by rw [upd_ne (show l' ≠ D3 from fun z => nDl (by rw [← z]; exact List.mem_of_getElem? h1))]; exact st _ _ b1, b2⟩
      · have i0 : i' = ls.length := by
          have := (List.getElem?_eq_some_iff.mp h1).1
          rw [List.length_append, List.length_cons, List.length_nil] at this
          omega
        rw [List.getElem?_append_right (by omega), i0, Nat.sub_self] at h1
        rw [i0, ll5, hy] at h2
        cases h1
        cases h2
        exact ⟨by rw [upd_ne tD, upd_same], back s5 nt⟩
  rintro H3 ⟨ls, ll3, s3, eD3, nDl, hls⟩
  rw [List.length_map] at ll3
  have s03 : Same H H3 := s2.trans s3
  dsimp only [gName]
  try simp only [L2.start, List.map_cons, List.map_nil, List.length_cons, List.length_nil, List.replicate_succ, List.replicate_zero, List.cons_append, List.nil_append, List.set_cons_succ, List.set_cons_zero, Nat.reduceAdd, Nat.reduceSub, Nat.zero_add]
  have N3 := hN.same s03
  obtain ⟨_, _, _, dx3, _, _, f3, _⟩ := id N3
  have neq : ∀ {x : V}, ¬ (!decide (x = x)) = true := fun {x} h => by
    rw [decide_eq_true rfl] at h
    cases h
  have sdN : Sd 1 (.list (ys.map PyData.str)) := .lst fun d hd => by
    obtain ⟨y, hy, rfl⟩ := List.mem_map.mp hd
    exact .str (hstr y (hp.mem_iff.mp hy))
  refine ⟨_, rfl, n.p.x, dx3, _, rfl, f3, _, n.p, n.m, n.gs, n.nm, rfl, N3, _, rfl, by omega, by omega, _, rfl, n.o, _, rfl, (gKp s03).2, rfl, _, rfl, ite2 (fun c => absurd c neq) (fun _ => ?_)⟩
  refine ⟨_, rfl, n.p.x, dx3, _, rfl, f3, rfl, _, n.p, n.m, n.gs, n.nm, rfl, N3, ll, fun ys2 t4 H4 hp4 hs4 s4 nt4 e4 => ?_⟩
  obtain rfl : ys2 = ys := sortS_one hp4 hs4 hp hs
  have s04 := s03.trans s4
  refine ⟨_, rfl, n.o, _, rfl, (gKp s04).1, n.d, kvs, n.nm.map (·.1), rfl, .of (s04 _ _ ed), keys, by rw [List.length_map]; omega, fun zs p5 hp5 hs5 np5 => ?_⟩
  obtain rfl : zs = ys2 := sortS_one hp5 hs5 hp hs
  have s5 := same_upd (o := .lst (zs.map V.str)) np5
  have e5 : (upd H4 p5 (.lst (zs.map V.str))) p5 = some (.lst (zs.map V.str)) := upd_same
  have e45 := s5 _ _ e4
  have s05 := s04.trans s5
  have s35 := s4.trans s5
  generalize upd H4 p5 (.lst (zs.map V.str)) = H5 at *
  refine ⟨_, _, .lst (SqL.of e45) (dpa_strs zs), .lst (SqL.of e5) (dpa_strs zs), sdN.sh (by decide), sdN.sh (by decide), ?_⟩
  rw [sdN.self]
  refine ⟨_, rfl, iteF ?_⟩
  dsimp only [tNext]
  refine ⟨_, rfl, _, rfl, n.o, _, rfl, (gKp s05).1, n.d, kvs, n.nm.map (·.1), rfl, .of (s05 _ _ ed), keys, by rw [List.length_map]; omega, fun zs6 p6 hp6 hs6 np6 => ?_⟩
  obtain rfl : zs6 = zs := sortS_one hp6 hs6 hp hs
  have s6 := same_upd (o := .lst (zs6.map V.str)) np6
  have e6 : (upd H5 p6 (.lst (zs6.map V.str))) p6 = some (.lst (zs6.map V.str)) := upd_same
  have s06 := s05.trans s6
  have s36 := s35.trans s6
  generalize upd H5 p6 (.lst (zs6.map V.str)) = H6 at *
  refine ⟨p6, rfl, ⟨_, SqL.of e6⟩, fun D6 nD6 => ?_⟩
  refine lc_it (walk_list (K := K) (a := p6) (xs := zs6.map V.str)) (fun j H9 => ∃ ls2 : List Addr, ls2.length = j ∧ Same H6 H9 ∧ H9 D6 = some (.lst (ls2.map V.ref)) ∧ ∀ (i : Nat) (l : Addr) (y : Str), ls2[i]? = some l → zs6[i]? = some y → H6 l = some (.lst (nts (lkN n.nm y)))) ⟨[], rfl, same_upd nD6, upd_same, fun i l y h => by simp at h⟩ (fun j H9 _ ⟨_, _, s9, _⟩ => SqL.of (s9 _ _ e6)) ?_ ?_
  · rintro j v H10 H9 hj ⟨ls2, ll2, s9, eD6, hls2⟩ ⟨rfl, hz⟩
    replace hz : (zs6.map V.str)[j]? = some v := hz
    rw [List.length_map] at hj
    rw [List.getElem?_map, List.getElem?_eq_getElem hj] at hz
    have hy : zs6[j]? = some zs6[j] := List.getElem?_eq_getElem hj
    cases hz
    generalize zs6[j] = y at *
    obtain ⟨l, ev, _, _, el, _⟩ := dg y (hp.mem_iff.mp (List.mem_of_getElem? hy))
    dsimp only [gName]
    refine ⟨rfl, yesT ?_⟩
    try simp only [L2.start, List.map_cons, List.map_nil, List.length_cons, List.length_nil, List.replicate_succ, List.replicate_zero, List.cons_append, List.nil_append, List.set_cons_succ, List.set_cons_zero, Nat.reduceAdd, Nat.reduceSub, Nat.zero_add]
    refine ⟨_, rfl, n.o, _, rfl, (gKp (s06.trans s9)).1, _, rfl, n.d, .ref l, rfl, ?_, ?_⟩
    · rw [← ev]
      exact DGet.k (k := .inr y) (s9 _ _ (s06 _ _ ed))
    refine ⟨_, eD6, by rw [List.length_map, ll2]; exact big_lt (by omega), ls2 ++ [l], by rw [List.length_append, ll2]; rfl, fun a o e => ?_, by rw [upd_same, List.map_append]; rfl, fun i' l' y' h1 h2 => ?_⟩
    · rw [upd_ne (ne_of_none e nD6)]
      exact s9 _ _ e
    · by_cases c : i' < ls2.length
      · rw [List.getElem?_append_left c] at h1
        exact hls2 i' l' y' h1 h2
      · have i0 : i' = ls2.length := by
          have := (List.getElem?_eq_some_iff.mp h1).1
          rw [List.length_append, List.length_cons, List.length_nil] at this
          omega
        rw [List.getElem?_append_right (by omega), i0, Nat.sub_self] at h1
        rw [i0, ll2, hy] at h2
        cases h1
        cases h2
        exact s06 _ _ el
  rintro H7 ⟨ls2, ll2, s67, eD6, hls2⟩
  rw [List.length_map] at ll2
  have s37 := s36.trans s67
  have s07 := s06.trans s67
  have eD37 := s37 _ _ eD3
  have sdL := sd_lists (ys := zs6) (fun y => lkN n.nm y)
  have conv : ∀ {us : List Addr} {G : Hp}, us.length = zs6.length → (∀ (i : Nat) (l : Addr) (y : Str), us[i]? = some l → zs6[i]? = some y → G l = some (.lst (nts (lkN n.nm y)))) → DpAll K G (us.map V.ref) (zs6.map fun y => .list (dInts (lkN n.nm y))) := fun {us G} hl h => by
    have := dpa_lists (K := K) (H := G) us (zs6.map fun y => lkN n.nm y) (by rw [List.length_map]; exact hl) (fun i l ws h1 h2 => by
      rw [List.getElem?_map] at h2
      cases e : zs6[i]? with
      | none => rw [e] at h2; cases h2
      | some y => rw [e] at h2; cases h2; exact h i l y h1 e)
    rw [List.map_map] at this
    exact this
  refine ⟨_, _, .lst (SqL.of eD37) (conv ll3 fun i l y h1 h2 => s37 _ _ (hls i l y h1 h2).1), .lst (SqL.of eD6) (conv ll2 fun i l y h1 h2 => s67 _ _ (hls2 i l y h1 h2)), sdL.sh (by decide), sdL.sh (by decide), ?_⟩
  rw [sdL.self]
  refine ⟨_, rfl, iteF ?_⟩
  dsimp only [tNext]
  have nl3 : ∀ {l : Addr}, l ∈ ls → H l = none ∧ l ≠ D3 := fun {l} hl => by
    obtain ⟨i, hi⟩ := List.mem_iff_getElem?.mp hl
    have hi2 := (List.getElem?_eq_some_iff.mp hi).1
    obtain ⟨b1, b2⟩ := hls i l zs6[i] hi (List.getElem?_eq_getElem (by omega))
    exact ⟨back s2 b2, fun z => nDl (z ▸ hl)⟩
  refine ⟨_, rfl, D3, rfl, ⟨_, SqL.of eD37⟩, ?_⟩
  refine for_it (walk_list (K := K) (a := D3) (xs := ls.map V.ref)) (fun j σ H9 => ∃ y3, σ = [some (.ref n.p.x), some (.ref n.o), some (.ref D3), y3, none, none, none, none] ∧ Same H H9 ∧ H9 D3 = some (.lst (ls.map V.ref)) ∧ ∀ l ∈ ls, ∃ xs, H9 l = some (.lst xs)) ⟨_, rfl, s07, eD37, fun l hl => ?_⟩ (fun j σ H9 _ ⟨_, _, _, e9, _⟩ => SqL.of e9) ?_ ?_
  · obtain ⟨i, hi⟩ := List.mem_iff_getElem?.mp hl
    have hi2 := (List.getElem?_eq_some_iff.mp hi).1
    exact ⟨_, s37 _ _ (hls i l zs6[i] hi (List.getElem?_eq_getElem (by omega))).1⟩
  · rintro j v σ H9 H10 hj ⟨y3, rfl, s9, e9, h9⟩ ⟨rfl, hz⟩
    replace hz : (ls.map V.ref)[j]? = some v := hz
    rw [List.length_map] at hj
    rw [List.getElem?_map, List.getElem?_eq_getElem hj] at hz
    cases hz
    have hl : ls[j] ∈ ls := List.getElem_mem _
    generalize ls[j] = l at *
    obtain ⟨xs, el⟩ := h9 l hl
    obtain ⟨nlH, nlD⟩ := nl3 hl
    dsimp only [gName]
    try simp only [L2.start, List.map_cons, List.map_nil, List.length_cons, List.length_nil, List.replicate_succ, List.replicate_zero, List.cons_append, List.nil_append, List.set_cons_succ, List.set_cons_zero, Nat.reduceAdd, Nat.reduceSub, Nat.zero_add]
    refine ⟨_, rfl, .inl ⟨rfl, _, SqL.of el⟩, l, _, rfl, rfl, el, ?_⟩
    refine ⟨_, rfl, fun y u e => ?_, by rw [upd_ne nlD.symm]; exact e9, fun l' hl' => ?_⟩
    · rw [upd_ne (ne_of_none e nlH)]
      exact s9 _ _ e
    · by_cases c : l' = l
      · exact ⟨[], by rw [c, upd_same]⟩
      · obtain ⟨xs', e'⟩ := h9 l' hl'
        exact ⟨xs', by rw [upd_ne c]; exact e'⟩
  rintro σ H8 ⟨y3, rfl, s08, _, _⟩
  have N8 := hN.same s08
  obtain ⟨_, _, _, dx8, _, _, f8, _⟩ := id N8
  refine ⟨_, rfl, n.p.x, dx8, _, rfl, f8, rfl, _, n.p, n.m, n.gs, n.nm, rfl, N8, fun G ps nG lps hps => ?_⟩
  have sG := same_upd (o := .lst (ps.map V.ref)) nG
  have eG : (upd H8 G (.lst (ps.map V.ref))) G = some (.lst (ps.map V.ref)) := upd_same
  have hpsG : ∀ (i : Nat) (r : Addr) (g : Gt), ps[i]? = some r → n.gs[i]? = some g → (upd H8 G (.lst (ps.map V.ref))) r = some (.tup g.row) := fun i r g h1 h2 => sG _ _ (hps i r g h1 h2)
  have s09 := s08.trans sG
  have N9 := N8.same sG
  generalize upd H8 G (.lst (ps.map V.ref)) = H9 at *
  obtain ⟨_, _, _, dx9, _, _, f9, _⟩ := id N9
  refine ⟨_, rfl, n.p.x, dx9, _, rfl, f9, rfl, _, n.p, n.m, n.gs, n.nm, rfl, N9, ?_⟩
  refine ⟨[], G, n.m, n.gs, rfl, (fun _ z => nomatch z), ⟨ps, lps, eG, hpsG⟩, gok, by omega, by omega, fun p2 HA sA N2 ⟨nn1, nn2, nn3, nn4⟩ => ?_⟩
  have s0A := s09.trans sA
  have NA := hN.same s0A
  have p2dn : H p2.dn = none := back s09 nn4
  obtain ⟨_, _, _, dxA, _, _, fA, _⟩ := id NA
  dsimp only [gName]
  try simp only [L2.start, List.map_cons, List.map_nil, List.length_cons, List.length_nil, List.replicate_succ, List.replicate_zero, List.cons_append, List.nil_append, List.set_cons_succ, List.set_cons_zero, Nat.reduceAdd, Nat.reduceSub, Nat.zero_add]
  refine ⟨_, rfl, n.p.x, dxA, _, rfl, fA, rfl, _, n.p, n.m, n.gs, n.nm, rfl, NA, ll, fun ysB tB HB hpB hsB sB ntB eB => ?_⟩
  obtain rfl : ysB = zs6 := sortS_one hpB hsB hp hs
  refine ⟨tB, rfl, ⟨_, SqL.of eB⟩, ?_⟩
  have tBd : tB ≠ p2.dn := fun z => by
    obtain ⟨_, _, _, _, _, _, _, _, _, e4, _⟩ := N2
    rw [z, e4] at ntB
    cases ntB
  refine for_it (walk_list (K := K) (a := tB) (xs := ysB.map V.str)) (fun j σ HC => ∃ y5, σ = [some (.ref n.p.x), some (.ref n.o), some (.ref D3), y3, some (.ref p2.x), y5, none, none] ∧ Same H HC ∧ HC tB = some (.lst (ysB.map V.str)) ∧ NetAt C [] HC p2 n.m n.gs ((ysB.take j).map fun y => (y, lkN n.nm y))) ⟨_, rfl, s0A.trans sB, eB, N2.same sB⟩ (fun j σ HC _ ⟨_, _, _, eC, _⟩ => SqL.of eC) ?_ ?_
  · rintro j v σ HC HC' hj ⟨y5, rfl, sC, eC, NC⟩ ⟨rfl, hz⟩
    replace hz : (ysB.map V.str)[j]? = some v := hz
    rw [List.length_map] at hj
    rw [List.getElem?_map, List.getElem?_eq_getElem hj] at hz
    have hy : ysB[j]? = some ysB[j] := List.getElem?_eq_getElem hj
    cases hz
    have ndY : ysB.Nodup := hp.nodup_iff.mpr nd
    have nin : ysB[j] ∉ ((ysB.take j).map fun y => (y, lkN n.nm y)).map (·.1) := fun z => by
      rw [List.map_map] at z
      obtain ⟨y', hy', ey⟩ := List.mem_map.mp z
      have ey : y' = ysB[j] := ey
      obtain ⟨i, hi⟩ := List.mem_iff_getElem?.mp hy'
      rw [List.getElem?_take] at hi
      split at hi
      · rename_i hij
        rw [ey, ← hy] at hi
        have := (List.getElem?_inj (by omega) ndY).mp hi
        omega
      · cases hi
    generalize hyj : ysB[j] = y at *
    obtain ⟨_, _, _, _, _, hmem⟩ := dg y (hp.mem_iff.mp (List.mem_of_getElem? hy))
    obtain ⟨i, hi⟩ := List.mem_iff_getElem?.mp hmem
    obtain ⟨lw1, lw2⟩ := hws _ hmem
    have NS := hN.same sC
    obtain ⟨_, _, _, dxC, _, _, fC, _⟩ := id NC
    obtain ⟨_, _, _, dxS, _, _, fS, _⟩ := id NS
    dsimp only [gName]
    try simp only [L2.start, List.map_cons, List.map_nil, List.length_cons, List.length_nil, List.replicate_succ, List.replicate_zero, List.cons_append, List.nil_append, List.set_cons_succ, List.set_cons_zero, Nat.reduceAdd, Nat.reduceSub, Nat.zero_add]
    refine ⟨_, rfl, p2.x, dxC, _, rfl, fC, rfl, _, rfl, _, rfl, n.p.x, dxS, _, rfl, fS, rfl, _, rfl, _, n.p, n.m, n.gs, n.nm, i, y, _, rfl, NS, hi, fun t nt => ?_⟩
    have st := same_upd (o := .lst (nts (lkN n.nm y))) nt
    have et : (upd HC' t (.lst (nts (lkN n.nm y)))) t = some (.lst (nts (lkN n.nm y))) := upd_same
    refine ⟨[], p2, n.m, n.gs, _, y, t, lkN n.nm y, rfl, NC.same st, nin, .inl (SqL.of et), lw2, by rw [List.length_map, List.length_take]; omega, fun HD kD ND => ?_⟩
    have keepH : ∀ {u : Addr} {o : HO}, H u = some o → u ∉ [p2.dn] := fun e z => by
      rw [List.mem_singleton.mp z, p2dn] at e
      cases e
    refine ⟨_, rfl, fun u o e => kD.1 _ _ (st _ _ (sC _ _ e)) (keepH e), kD.1 _ _ (st _ _ eC) (by rw [List.mem_singleton]; exact tBd), ?_⟩
    rw [List.take_add_one, hy, List.map_append]
    exact ND
  rintro σ HC ⟨y5, rfl, sC, _, NC⟩
  rw [List.length_map, List.take_of_length_le (Nat.le_refl _)] at NC
  have NS := hN.same sC
  obtain ⟨_, _, _, dxS, _, _, fS, _⟩ := id NS
  refine ⟨_, rfl, n.p.x, dxS, _, rfl, fS, rfl, _, n.p, n.m, n.gs, n.nm, rfl, NS, _, rfl, by omega, by omega, fun V1 nV => ?_⟩
  rw [Int.toNat_natCast]
  refine lc_range (n := n.m) (fun i H9 => ∃ us : List Int, us.length = i ∧ Same HC H9 ∧ H9 V1 = some (.lst (us.map V.int))) ⟨[], rfl, same_upd nV, upd_same⟩ ?_ ?_
  · rintro i H9 hi ⟨us, lu, s9, e9⟩
    dsimp only [gName]
    refine ⟨rfl, yesT ?_⟩
    try simp only [L2.start, List.map_cons, List.map_nil, List.length_cons, List.length_nil, List.replicate_succ, List.replicate_zero, List.cons_append, List.nil_append, List.set_cons_succ, List.set_cons_zero, Nat.reduceAdd, Nat.reduceSub, Nat.zero_add]
    refine ⟨_, _, rfl, rfl, ⟨by decide, by decide, by decide⟩, _, rfl, _, _, rfl, rfl, _, _, rfl, rfl, .inl ⟨by decide, by decide⟩, _, _, rfl, rfl, ?_⟩
    refine ⟨_, e9, by rw [List.length_map, lu]; exact big_lt (by omega), us ++ [_], by rw [List.length_append, lu]; rfl, fun y u e => ?_, by rw [upd_same, List.map_append]; rfl⟩
    rw [upd_ne (ne_of_none e nV)]
    exact s9 _ _ e
  rintro HD ⟨us, lu, sD, eV⟩
  dsimp only [gName]
  try simp only [L2.start, List.map_cons, List.map_nil, List.length_cons, List.length_nil, List.replicate_succ, List.replicate_zero, List.cons_append, List.nil_append, List.set_cons_succ, List.set_cons_zero, Nat.reduceAdd, Nat.reduceSub, Nat.zero_add]
  have s0D := sC.trans sD
  have ND := NC.same sD
  have NSD := hN.same s0D
  obtain ⟨_, _, _, dxD, _, _, fD, _⟩ := id ND
  refine ⟨_, rfl, p2.x, dxD, _, rfl, fD, rfl, _, p2, n.m, n.gs, _, rfl, ND, fun t1 ps1 nt1 lp1 hp1 => ?_⟩
  have q1 := same_upd (o := .lst (ps1.map V.ref)) nt1
  have et1 : (upd HD t1 (.lst (ps1.map V.ref))) t1 = some (.lst (ps1.map V.ref)) := upd_same
  have NS2 := NSD.same q1
  obtain ⟨_, _, _, dxE, _, _, fE, _⟩ := id NS2
  refine ⟨_, rfl, n.p.x, dxE, _, rfl, fE, rfl, _, n.p, n.m, n.gs, n.nm, rfl, NS2, fun t2' ps2 nt2' lp2 hp2 => ?_⟩
  have q2 := same_upd (o := .lst (ps2.map V.ref)) nt2'
  have q12 := q1.trans q2
  have sdR := sd_rows gok
  refine ⟨_, _, .lst (SqL.of (q2 _ _ et1)) (dpa_rows ps1 n.gs lp1 fun i t g h1 h2 => q12 _ _ (hp1 i t g h1 h2)), .lst (SqL.of upd_same) (dpa_rows ps2 n.gs lp2 fun i t g h1 h2 => q2 _ _ (hp2 i t g h1 h2)), sdR.sh (by decide), sdR.sh (by decide), ?_⟩
  rw [sdR.self]
  refine ⟨_, rfl, iteT ?_⟩
  have NE := ND.same q12
  have NSE := NSD.same q12
  have eVE := q12 _ _ eV
  have s0E := s0D.trans q12
  generalize upd (upd HD t1 (.lst (ps1.map V.ref))) t2' (.lst (ps2.map V.ref)) = HE at *
  have hnmW : ∀ x ∈ n.nm, x.2.length ≤ 900 ∧ ∀ a ∈ x.2, a < n.m + n.gs.length := fun x hx => ⟨by have := (hws x hx).1; omega, (hws x hx).2⟩
  have keyE : (ysB.map fun y => (y, lkN n.nm y)).map (·.1) = ysB := by rw [List.map_map]; exact List.map_id _
  refine ⟨_, rfl, _, rfl, rfl, rfl, _, p2, n.m, n.gs, _, V1, us, 16, rfl, NE, eVE, lu, by decide, by omega, by rw [List.length_map]; omega, gok, fun x hx => ?_, fun ys1 R1 HF hq1 hr1 sF RF => ?_⟩
  · obtain ⟨y, hy, rfl⟩ := List.mem_map.mp hx
    obtain ⟨_, _, _, _, _, hmem⟩ := dg y (hp.mem_iff.mp hy)
    exact hnmW _ hmem
  rw [keyE] at hq1
  obtain rfl : ys1 = ysB := by
    have h2 : ysB.Perm ysB := List.Perm.refl _
    exact sortS_one hq1 hr1 h2 hs
  have NSF := NSE.same sF
  refine ⟨_, rfl, _, rfl, rfl, rfl, _, n.p, n.m, n.gs, n.nm, V1, us, 16, rfl, NSF, sF _ _ eVE, lu, by decide, by omega, ll, gok, hnmW, fun ys2' R2 HG hq2 hr2 sG2 RG => ?_⟩
  obtain rfl : ys2' = ys1 := sortS_one hq2 hr2 hp hs
  obtain ⟨ts1, lt1, eR1, ht1⟩ := RF
  obtain ⟨ts2, lt2, eR2, ht2⟩ := RG
  have sdX := sd_run (ys := ys2') (fun y => (lkN n.nm y).map fun a => (rv (2 ^ 16 - 1) (us.map (· % 2 ^ 16)) n.gs).getD a 0) (fun y hy => hstr y (hp.mem_iff.mp hy))
  have nd2 : ((ys2'.map fun y => (y, lkN n.nm y)).map (·.1)).Nodup := by rw [keyE]; exact hp.nodup_iff.mpr nd
  refine ⟨_, _, .lst (SqL.of (sG2 _ _ eR1)) (dpa_run (fun y => (lkN n.nm y).map fun a => (rv (2 ^ 16 - 1) (us.map (· % 2 ^ 16)) n.gs).getD a 0) ts1 ys2' lt1 fun i t y h1 h2 => ?_), .lst (SqL.of eR2) (dpa_run (fun y => (lkN n.nm y).map fun a => (rv (2 ^ 16 - 1) (us.map (· % 2 ^ 16)) n.gs).getD a 0) ts2 ys2' lt2 fun i t y h1 h2 => ?_), sdX.sh (by decide), sdX.sh (by decide), ?_⟩
  · obtain ⟨ws, l, hw, _, b1, b2⟩ := ht1 i t y h1 h2
    refine ⟨l, sG2 _ _ b1, ?_⟩
    obtain ⟨y', hy', e⟩ := List.mem_map.mp hw
    cases e
    exact sG2 _ _ b2
  · obtain ⟨ws, l, hw, _, b1, b2⟩ := ht2 i t y h1 h2
    rw [lkN_mem nd hw]
    exact ⟨l, b1, b2⟩
  rw [sdX.self]
  exact q _ ((s0E.trans sF).trans sG2)
end
section
variable {P : Program} {w : World} {K : PySem.W.Frag} {mg : Str → Option Value} {base : Heap}
variable {C : Addr} {a1 a2 a3 a4 a5 a6 a7 a8 a9 a10 a11 a12 a13 a14 a15 a16 a17 a18 a19 a20 a21 a22 a23 a24 a25 a26 a27 a28 a29 a30 a31 a32 a33 a34 : Addr} {l1 l2 l3 l4 l5 l6 l7 l8 l9 l10 l11 l12 l13 l14 l15 l16 l17 l18 l19 l20 l21 l22 l23 l24 l25 l26 l27 l28 l29 l30 l31 l32 l33 l34 : FuncData}
/-! ### all nets of the law -/
theorem memL {α : Type} {P : α → Prop} {a : α} {l : List α} (h : P a) (t : ∀ x ∈ l, P x) : ∀ x ∈ a :: l, P x := fun x hx => by
  rcases List.mem_cons.mp hx with z | z
  · rw [z]
    exact h
  · exact t x z
theorem NetAt.more {C : Addr} {Z S Y Z' : List Addr} {H H' : Hp} {p : NetP} {m : Nat} {gs : List Gt} {nm : List (Str × List Nat)} (h : NetAt C Z H p m gs nm) (k : KeepS S H H') (hS : ∀ y ∈ S, y ∈ Z) (hY : ∀ y ∈ Y, H y = none ∧ H' y ≠ none) (hZ : ∀ z ∈ Z', z ∈ Z ∨ z ∈ Y) : NetAt C Z' H' p m gs nm := by
  have hh := h.keep k hS
  obtain ⟨a, b, ⟨c1, c2, c3, c4⟩, dx, ps, kvs, e1, e2, e3, e4, ⟨g1, g2⟩, n1, n2, n3⟩ := h
  obtain ⟨a', _, _, _⟩ := hh
  have no : ∀ {y : Addr} {o : HO}, y ∉ Z → H y = some o → y ∉ Z' := fun n e z => by
    rcases hZ _ z with w | w
    · exact n w
    · rw [(hY _ w).1] at e
      cases e
  have f : ∀ {y : Addr} {o : HO}, y ∉ Z → H y = some o → H' y = some o := fun n e => k.1 _ _ e (fun z => n (hS _ z))
  refine ⟨fun z hz => (hZ z hz).elim (a' z) (fun w => (hY z w).2), b, ⟨no c1 e1, no c2 e2, no c3 e3, no c4 e4⟩, dx, ps, kvs, f c1 e1, f c2 e2, f c3 e3, f c4 e4, ⟨g1, fun i q g hi hg => ?_⟩, n1, n2, fun i k' v n ws hi hn => ?_⟩
  · obtain ⟨x1, x2⟩ := g2 i q g hi hg
    exact ⟨no x1 x2, f x1 x2⟩
  · obtain ⟨ek, l, ev, l1, l2, l3, l4⟩ := n3 i k' v n ws hi hn
    exact ⟨ek, l, ev, no l1 l4, l2, l3, f l1 l4⟩
theorem DlAt.more {Z S Y Z' : List Addr} {H H' : Hp} {d : Addr} {nm : List (Str × List Nat)} (h : DlAt Z H d nm) (k : KeepS S H H') (hS : ∀ y ∈ S, y ∈ Z) (hY : ∀ y ∈ Y, H y = none) (hZ : ∀ z ∈ Z', z ∈ Z ∨ z ∈ Y) : DlAt Z' H' d nm := by
  obtain ⟨a, kvs, e, l, nd, f⟩ := h
  have no : ∀ {y : Addr} {o : HO}, y ∉ Z → H y = some o → y ∉ Z' := fun n e z => by
    rcases hZ _ z with w | w
    · exact n w
    · rw [hY _ w] at e
      cases e
  refine ⟨no a e, kvs, k.1 _ _ e (fun z => a (hS _ z)), l, nd, fun i k' v n ws hi hn => ?_⟩
  obtain ⟨ek, l', ev, m1, m2, m3⟩ := f i k' v n ws hi hn
  exact ⟨ek, l', ev, no m1 m3, m2, k.1 _ _ m3 (fun z => m1 (hS _ z))⟩
theorem NdAt.more {C : Addr} {Z S Y Z' : List Addr} {H H' : Hp} {n : Nd} (h : NdAt C Z H n) (k : KeepS S H H') (hS : ∀ y ∈ S, y ∈ Z) (hY : ∀ y ∈ Y, H y = none ∧ H' y ≠ none) (hZ : ∀ z ∈ Z', z ∈ Z ∨ z ∈ Y) : NdAt C Z' H' n := by
  obtain ⟨a, b, c, d⟩ := h
  refine ⟨a.more k (fun y hy => by simp [hS y hy]) hY (fun z hz => ?_), k.1 _ _ b (fun z => d (hS _ z)), c.more k (fun y hy => by simp [hS y hy]) (fun y hy => (hY y hy).1) (fun z hz => ?_), fun z => ?_⟩
  · simp only [List.mem_cons] at hz ⊢
    rcases hz with w | w | w
    · exact .inl (.inl w)
    · exact .inl (.inr (.inl w))
    · exact (hZ z w).elim (fun x => .inl (.inr (.inr x))) .inr
  · simp only [List.mem_cons] at hz ⊢
    rcases hz with w | w | w | w | w | w
    · exact .inl (.inl w)
    · exact .inl (.inr (.inl w))
    · exact .inl (.inr (.inr (.inl w)))
    · exact .inl (.inr (.inr (.inr (.inl w))))
    · exact .inl (.inr (.inr (.inr (.inr (.inl w)))))
    · exact (hZ z w).elim (fun x => .inl (.inr (.inr (.inr (.inr (.inr x)))))) .inr
  · rcases hZ _ z with w | w
    · exact d w
    · rw [(hY _ w).1] at b
      cases b
theorem NdAt.nin {C : Addr} {Z : List Addr} {H : Hp} {n : Nd} (h : NdAt C Z H n) : ∀ z ∈ Z, z ∉ n.adr := fun z hz y => by
  obtain ⟨⟨_, _, ⟨c1, c2, c3, c4⟩, _⟩, _, ⟨d1, _⟩, d⟩ := h
  simp only [Nd.adr, List.mem_cons, List.not_mem_nil, or_false] at y
  rcases y with y | y | y | y | y | y <;> subst y
  · exact d hz
  · exact d1 (by simp [hz])
  · exact c1 (by simp [hz])
  · exact c2 (by simp [hz])
  · exact c3 (by simp [hz])
  · exact c4 (by simp [hz])
theorem NdAt.some {C : Addr} {Z : List Addr} {H : Hp} {n : Nd} (h : NdAt C Z H n) : ∀ y ∈ n.adr, H y ≠ none := fun z y => by
  obtain ⟨⟨_, _, _, _, _, _, e1, e2, e3, e4, _⟩, eo, ⟨_, _, ed, _⟩, _⟩ := h
  simp only [Nd.adr, List.mem_cons, List.not_mem_nil, or_false] at y
  rcases y with y | y | y | y | y | y <;> subst y
  · exact some_ne eo
  · exact some_ne ed
  · exact some_ne e1
  · exact some_ne e2
  · exact some_ne e3
  · exact some_ne e4
def zW (b NL KL : Addr) (as : List (List Addr)) (i : Nat) : List Addr := b :: NL :: KL :: (as.eraseIdx i).flatten
theorem zW_in {b NL KL : Addr} {as : List (List Addr)} {i j : Nat} {l : List Addr} {y : Addr} (h : as[i]? = some l) (hy : y ∈ l) (ne : i ≠ j) : y ∈ zW b NL KL as j := by
  unfold zW
  refine List.mem_cons_of_mem _ (List.mem_cons_of_mem _ (List.mem_cons_of_mem _ (List.mem_flatten.mpr ⟨l, ?_, hy⟩)))
  exact List.mem_eraseIdx_iff_getElem?.mpr ⟨i, ne, h⟩
def WAt (C b NL KL : Addr) (H : Hp) (k : Nat) (ns : List Nd) : Prop := (NL ≠ KL ∧ b ≠ NL ∧ b ≠ KL) ∧ H NL = some (.lst (ns.map fun n => .ref n.p.x)) ∧ H KL = some (.lst (ns.map fun n => .ref n.o)) ∧ ∀ (i : Nat) (n : Nd), ns[i]? = some n → NdAt C (zW b NL KL (ns.map Nd.adr) i) H n ∧ NdOk k n
theorem NdOk.up {k k' : Nat} {n : Nd} (h : NdOk k n) (l : k ≤ k') : NdOk k' n := by
  obtain ⟨h1, h2, h3, h4, h5, h6, h7⟩ := h
  exact ⟨h1, h2, by omega, h4, by omega, h6, h7⟩
theorem WAt.box {C b NL KL : Addr} {H H' : Hp} {k : Nat} {ns : List Nd} (h : WAt C b NL KL H k ns) (e : KeepS [b] H H') : WAt C b NL KL H' k ns := by
  obtain ⟨⟨a1, a2, a3⟩, e1, e2, f⟩ := h
  refine ⟨⟨a1, a2, a3⟩, e.1 _ _ e1 (by simpa using a2.symm), e.1 _ _ e2 (by simpa using a3.symm), fun i n hi => ⟨(f i n hi).1.keep e (fun y hy => by rw [List.mem_singleton.mp hy]; simp [zW]), (f i n hi).2⟩⟩
theorem WAt.same {C b NL KL : Addr} {H H' : Hp} {k : Nat} {ns : List Nd} (h : WAt C b NL KL H k ns) (e : Same H H') : WAt C b NL KL H' k ns := h.box (.ofSame e)
theorem WAt.up {C b NL KL : Addr} {H : Hp} {k k' : Nat} {ns : List Nd} (h : WAt C b NL KL H k ns) (l : k ≤ k') : WAt C b NL KL H k' ns := by
  obtain ⟨a, e1, e2, f⟩ := h
  exact ⟨a, e1, e2, fun i n hi => ⟨(f i n hi).1, (f i n hi).2.up l⟩⟩
theorem WAt.step {C b NL KL : Addr} {H H' : Hp} {k k' i : Nat} {ns : List Nd} {n n' : Nd} {S : List Addr} (h : WAt C b NL KL H k ns) (hi : ns[i]? = some n) (ha : n'.adr = n.adr) (e : KeepS S H H') (hS : ∀ y ∈ S, y ∈ n.adr ∨ y = b)
    (hn : NdAt C (zW b NL KL (ns.map Nd.adr) i) H' n') (ho : NdOk k' n') (l : k ≤ k') : WAt C b NL KL H' k' (ns.set i n') := by
  obtain ⟨⟨a1, a2, a3⟩, e1, e2, f⟩ := h
  have hx : n'.p.x = n.p.x ∧ n'.o = n.o := by
    unfold Nd.adr at ha
    injection ha with h1 h2
    injection h2 with h3 h4
    injection h4 with h5 h6
    exact ⟨h5, h1⟩
  have li := (List.getElem?_eq_some_iff.mp hi).1
  have setm : ∀ {β : Type} (g : Nd → β), g n' = g n → (ns.set i n').map g = ns.map g := fun g hg => by
    refine List.ext_getElem? fun j => ?_
    rw [List.getElem?_map, List.getElem?_map, List.getElem?_set]
    split
    · rename_i hj
      subst hj
      rw [hi]
      exact congrArg some hg
    · rfl
  obtain ⟨ni, _⟩ := f i n hi
  have nin := ni.nin
  refine ⟨⟨a1, a2, a3⟩, ?_, ?_, fun j n2 hj => ?_⟩
  · rw [setm (fun n => V.ref n.p.x) (by rw [hx.1])]
    exact e.1 _ _ e1 (fun z => (hS _ z).elim (nin NL (by simp [zW])) (fun w => a2 w.symm))
  · rw [setm (fun n => V.ref n.o) (by rw [hx.2])]
    exact e.1 _ _ e2 (fun z => (hS _ z).elim (nin KL (by simp [zW])) (fun w => a3 w.symm))
  · rw [setm Nd.adr ha]
    rw [List.getElem?_set] at hj
    split at hj
    · rename_i hij
      subst hij
      cases hj
      exact ⟨hn, ho⟩
    · rename_i hij
      obtain ⟨x1, x2⟩ := f j n2 hj
      refine ⟨x1.keep e (fun y hy => ?_), x2.up l⟩
      rcases hS y hy with w | w
      · exact zW_in (i := i) (l := n.adr) (by rw [List.getElem?_map, hi]; rfl) w hij
      · rw [w]
        simp [zW]
theorem WAt.app {C b NL KL : Addr} {H H' : Hp} {k k' : Nat} {ns : List Nd} {n2 : Nd} (h : WAt C b NL KL H k ns) (e : KeepS [NL, KL] H H') (hY : ∀ y ∈ n2.adr, H y = none ∧ H' y ≠ none)
    (e1 : H' NL = some (.lst ((ns ++ [n2]).map fun n => .ref n.p.x))) (e2 : H' KL = some (.lst ((ns ++ [n2]).map fun n => .ref n.o))) (hn : NdAt C (b :: NL :: KL :: (ns.map Nd.adr).flatten) H' n2) (ho : NdOk k' n2) (l : k ≤ k') : WAt C b NL KL H' k' (ns ++ [n2]) := by
  obtain ⟨a, _, _, f⟩ := h
  refine ⟨a, e1, e2, fun j n hj => ?_⟩
  by_cases c : j < ns.length
  · rw [List.getElem?_append_left c] at hj
    obtain ⟨x1, x2⟩ := f j n hj
    refine ⟨x1.more e (fun y hy => ?_) hY (fun z hz => ?_), x2.up l⟩
    · simp only [List.mem_cons, List.not_mem_nil, or_false] at hy
      rcases hy with w | w <;> rw [w] <;> simp [zW]
    · unfold zW at hz ⊢
      rw [List.map_append, List.eraseIdx_append_of_lt_length (by rw [List.length_map]; exact c), List.flatten_append] at hz
      simp only [List.mem_cons, List.mem_append, List.map_cons, List.map_nil, List.flatten_cons, List.flatten_nil, List.append_nil] at hz ⊢
      rcases hz with w | w | w | w | w
      · exact .inl (.inl w)
      · exact .inl (.inr (.inl w))
      · exact .inl (.inr (.inr (.inl w)))
      · exact .inl (.inr (.inr (.inr w)))
      · exact .inr w
  · have j0 : j = ns.length := by
      have := (List.getElem?_eq_some_iff.mp hj).1
      rw [List.length_append, List.length_cons, List.length_nil] at this
      omega
    rw [List.getElem?_append_right (by omega), j0, Nat.sub_self] at hj
    cases hj
    refine ⟨?_, ho⟩
    have ez : zW b NL KL ((ns ++ [n2]).map Nd.adr) j = b :: NL :: KL :: (ns.map Nd.adr).flatten := by
      unfold zW
      rw [List.map_append, j0, List.eraseIdx_append_of_length_le (by rw [List.length_map]; exact Nat.le_refl _), List.length_map, Nat.sub_self]
      simp
    rw [ez]
    exact hn
/-- a net that is being changed, what the law keeps of it aside -/
def NdP (C : Addr) (Z : List Addr) (H : Hp) (n : Nd) (gs : List Gt) (r : HO) : Prop := NetAt C (n.o :: n.d :: Z) H n.p n.m gs n.nm ∧ H n.o = some r ∧ DlAt (n.o :: n.p.x :: n.p.lm :: n.p.ld :: n.p.dn :: Z) H n.d n.nm ∧ n.o ∉ Z
theorem NdAt.pre {C : Addr} {Z : List Addr} {H : Hp} {n : Nd} (h : NdAt C Z H n) : NdP C Z H n n.gs (keptR n) := h
theorem NdP.laid {C : Addr} {Z : List Addr} {H H' : Hp} {n : Nd} {gs gs' : List Gt} {r : HO} (h : NdP C Z H n gs r) (k : KeepS [n.p.lm, n.p.ld] H H') (N : NetAt C (n.o :: n.d :: Z) H' n.p n.m gs' n.nm) : NdP C Z H' n gs' r := by
  obtain ⟨⟨_, _, ⟨_, c2, c3, _⟩, _⟩, b, c, d⟩ := h
  refine ⟨N, k.1 _ _ b (fun z => ?_), c.keep k (fun y hy => ?_), d⟩
  · simp only [List.mem_cons, List.not_mem_nil, or_false] at z
    rcases z with w | w
    · exact c2 (by simp [w])
    · exact c3 (by simp [w])
  · simp only [List.mem_cons, List.not_mem_nil, or_false] at hy
    rcases hy with w | w <;> simp [w]
theorem NdP.keep {C : Addr} {Z S : List Addr} {H H' : Hp} {n : Nd} {gs : List Gt} {r : HO} (h : NdP C Z H n gs r) (k : KeepS S H H') (hS : ∀ y ∈ S, y ∈ Z) : NdP C Z H' n gs r := by
  obtain ⟨a, b, c, d⟩ := h
  exact ⟨a.keep k (fun y hy => List.mem_cons_of_mem _ (List.mem_cons_of_mem _ (hS y hy))), k.1 _ _ b (fun z => d (hS _ z)), c.keep k (fun y hy => by simp [hS y hy]), d⟩
theorem NdP.same {C : Addr} {Z : List Addr} {H H' : Hp} {n : Nd} {gs : List Gt} {r : HO} (h : NdP C Z H n gs r) (s : Same H H') : NdP C Z H' n gs r := h.keep (S := []) (.ofSame s) (fun _ z => nomatch z)
theorem NdP.put {C : Addr} {Z : List Addr} {H : Hp} {n : Nd} {gs : List Gt} {r r' : HO} (h : NdP C Z H n gs r) : NdP C Z (upd H n.o r') n gs r' := by
  obtain ⟨a, b, c, d⟩ := h
  exact ⟨a.put (by simp), upd_same, c.keep (T := [n.o]) (.upd (by simp)) (fun y hy => by rw [List.mem_singleton.mp hy]; simp), d⟩
theorem NdP.fin {C : Addr} {Z : List Addr} {H : Hp} {n : Nd} {gs : List Gt} (h : NdP C Z H n gs (keptR { n with gs := gs })) : NdAt C Z H { n with gs := gs } := h
theorem NdOk.grow {k j : Nat} {n : Nd} {gs : List Gt} (h : NdOk k n) (e : Ext n.m n.gs gs j) (hj : j ≤ 5000) : NdOk (k + 1) { n with gs := gs } := by
  obtain ⟨h1, h2, h3, h4, h5, h6, h7⟩ := h
  have l := e.len
  exact ⟨h1, h2, by show gs.length ≤ _; omega, e.2 h4, by show n.nm.length ≤ _; omega, fun x hx => ⟨(h6 x hx).1, fun w hw => by have := (h6 x hx).2 w hw; show w < n.m + gs.length; omega⟩, h7⟩
theorem putSize (n : Nd) (k : Nat) : HO.dK (putK [((.inr "names" : Key), V.ref n.d), (.inr "size", .int (n.gs.length : Nat))] (.inr "size") (.int (k : Nat))) = .dK [(.inr "names", .ref n.d), (.inr "size", .int (k : Nat))] := rfl
theorem nameN_len : ∀ j : Nat, j < 14 → (Str.ofString "n").length + (Str.ofString (toString (j : Int))).length ≤ 100 := by decide +kernel
theorem cutN_last (ws : List Nat) (v : V) : cutV (nts ws ++ [v]) none (some (-1)) = nts ws := by
  have e : HT.sIx (nts ws ++ [v]).length (nts ws ++ [v]).length (some (-1)) = (nts ws).length := by
    rw [List.length_append, List.length_singleton]
    unfold HT.sIx
    simp
    try omega
  unfold cutV
  rw [e, HT.sIx_none, List.drop_zero, Nat.sub_zero, List.take_left' rfl]
theorem DlAt.out {S : List Addr} {H : Hp} {d : Addr} {nm : List (Str × List Nat)} {kvs : List (Key × V)} {y : Str} (h : DlAt S H d nm) (e : H d = some (.dK kvs)) (hy : y ∉ nm.map (·.1)) : valV kvs (.inr y) = none := by
  obtain ⟨a, kvs', e', l, nd, f⟩ := h
  rw [e] at e'
  cases e'
  have N : NmAt [] H ⟨d, d, d, d⟩ kvs nm := ⟨l, nd, fun i k v n ws hi hn => by
    obtain ⟨ek, l', ev, m1, m2, m3⟩ := f i k v n ws hi hn
    exact ⟨ek, l', ev, (fun z => nomatch z), m2, m2, m3⟩⟩
  exact N.out hy
theorem DlAt.one {S : List Addr} {H : Hp} {d l : Addr} {nm : List (Str × List Nat)} {kvs : List (Key × V)} {y : Str} {ws : List Nat} (h : DlAt S H d nm) (e : H d = some (.dK kvs)) (hy : y ∉ nm.map (·.1)) (hl : l ∉ S) (ld : l ≠ d) (el : H l = some (.lst (nts ws))) : DlAt S (upd H d (.dK (putK kvs (.inr y) (.ref l)))) d (nm ++ [(y, ws)]) := by
  have out := h.out e hy
  obtain ⟨a, kvs', e', lk, nd, f⟩ := h
  rw [e] at e'
  cases e'
  rw [putK_new _ out]
  refine ⟨a, _, upd_same, by rw [List.length_append, List.length_append, lk]; rfl, ?_, fun i k v n' ws' hi hn => ?_⟩
  · rw [List.map_append, List.nodup_append]
    refine ⟨nd, by simp, fun a ha b hb' e => ?_⟩
    have hb' : b = y := by simpa using hb'
    rw [hb'] at e
    exact hy (e ▸ ha)
  · by_cases c : i < kvs.length
    · rw [List.getElem?_append_left c] at hi
      rw [List.getElem?_append_left (by rw [← lk]; exact c)] at hn
      obtain ⟨ek, l', ev, m1, m2, m3⟩ := f i k v n' ws' hi hn
      exact ⟨ek, l', ev, m1, m2, by rw [upd_ne m2]; exact m3⟩
    · have i0 : i = kvs.length := by
        have := (List.getElem?_eq_some_iff.mp hi).1
        rw [List.length_append, List.length_cons, List.length_nil] at this
        omega
      rw [List.getElem?_append_right (by omega), i0, Nat.sub_self] at hi
      rw [List.getElem?_append_right (by rw [i0, lk]; exact Nat.le_refl _), i0, lk, Nat.sub_self] at hn
      cases hi
      cases hn
      exact ⟨rfl, l, rfl, hl, ld, by rw [upd_ne ld]; exact el⟩
theorem KeepS.ext {S0 S : List Addr} {H0 H H' : Hp} (k : KeepS S0 H0 H) (e : KeepS S H H') (h : ∀ y ∈ S, y ∈ S0 ∨ H0 y = none) : KeepS S0 H0 H' := ⟨fun y o ey n => e.1 _ _ (k.1 _ _ ey n) (fun z => (h y z).elim n (fun w => by rw [w] at ey; cases ey)), fun y ey => e.2 y (k.2 y ey)⟩
theorem NetAt.four {C : Addr} {Z : List Addr} {H : Hp} {p : NetP} {m : Nat} {gs : List Gt} {nm : List (Str × List Nat)} (h : NetAt C Z H p m gs nm) : ∀ y ∈ [p.x, p.lm, p.ld, p.dn], H y ≠ none ∧ ∀ xs, H y ≠ some (.tup xs) := fun y hy => by
  obtain ⟨_, _, _, _, _, _, e1, e2, e3, e4, _⟩ := h
  simp only [List.mem_cons, List.not_mem_nil, or_false] at hy
  rcases hy with z | z | z | z <;> rw [z]
  · exact ⟨some_ne e1, fun xs w => by rw [e1] at w; cases w⟩
  · exact ⟨some_ne e2, fun xs w => by rw [e2] at w; cases w⟩
  · exact ⟨some_ne e3, fun xs w => by rw [e3] at w; cases w⟩
  · exact ⟨some_ne e4, fun xs w => by rw [e4] at w; cases w⟩
theorem NetAt.sub {C : Addr} {Z Z' : List Addr} {H : Hp} {p : NetP} {m : Nat} {gs : List Gt} {nm : List (Str × List Nat)} (h : NetAt C Z H p m gs nm) (hZ : ∀ z ∈ Z', z ∈ Z) : NetAt C Z' H p m gs nm := h.more (S := []) (Y := []) (KeepS.refl _ _) (fun _ z => nomatch z) (fun _ z => nomatch z) (fun z hz => .inl (hZ z hz))
theorem ix0 {n : Nat} (h : 0 < n) : ixN n 0 = some 0 := by
  unfold ixN
  rw [if_pos (Int.le_refl _), if_pos (by omega)]
  rfl
def spDeed (C : Addr) : Sp := fun vs H Q _ => ∃ (b NL KL : Addr) (k : Nat) (ns : List Nd) (c : Int), vs = [.ref b, .ref NL, .ref KL] ∧ WAt C b NL KL H k ns ∧ BoxAt c H b ∧ c ≤ 800000000 ∧ 1 ≤ ns.length ∧ ns.length ≤ 13 ∧ k ≤ 11 ∧
  ∀ (ns' : List Nd) (H' : Hp), WAt C b NL KL H' (k + 1) ns' → ns.length ≤ ns'.length → ns'.length ≤ ns.length + 1 → BoxAt (c + 40) H' b → KeepS (b :: NL :: KL :: (ns.map Nd.adr).flatten) H H' → (∀ n' ∈ ns', ∀ y ∈ n'.adr, y ∈ (ns.map Nd.adr).flatten ∨ H y = none) → Q (.bl true) H'
theorem ok__law_deed_right (B : Bl mg) (L : LL K mg C a1 a2 a3 a4 a5 a6 a7 a8 a9 a10 a11 a12 a13 a14 a15 a16 a17 a18 a19 a20 a21 a22 a23 a24 a25 a26 a27 a28 a29 a30 a31 a32 a33 a34 l1 l2 l3 l4 l5 l6 l7 l8 l9 l10 l11 l12 l13 l14 l15 l16 l17 l18 l19 l20 l21 l22 l23 l24 l25 l26 l27 l28 l29 l30 l31 l32 l33 l34) : FnOk P w K mg base CX0 10 a17 l17 ["_law_box_here", "_law_nets", "_law_kept"] (spDeed C) := by
  have G__law_take : FnOk P w K mg base CX0 9 a14 l14 ["_law_box_here", "_law_size"] (spTake 1) := (ok_take L.F__law_take L.b__law_take L.m__law_take B 1).mono (by decide)
  have G_Net_inputs : FnOk P w K mg base CX0 9 a31 l31 ["self"] (spInputs C) := (ok_Net_inputs B L).mono (by decide)
  have G_Net_like : FnOk P w K mg base CX0 9 a34 l34 ["self"] (spLike C) := (ok_Net_like B L).mono (by decide)
  have G_Net_give : FnOk P w K mg base CX0 9 a28 l28 ["self", "name", "wires"] (spGive K C) := (ok_Net_give B L).mono (by decide)
  have G_Net_given : FnOk P w K mg base CX0 9 a29 l29 ["self", "name"] (spGiven C) := (ok_Net_given B L).mono (by decide)
  have G_Net_unlike : FnOk P w K mg base CX0 9 a22 l22 ["self", "a", "b"] (spG2 C "unlike") := (ok_Net_unlike B L).mono (by decide)
  have G_Net_gates : FnOk P w K mg base CX0 9 a32 l32 ["self"] (spGates C) := (ok_Net_gates B L).mono (by decide)
  have G__law_part : FnOk P w K mg base CX0 9 a16 l16 ["_law_net", "_law_sort", "_law_wires"] (spPart K C) := (ok__law_part B L).mono (by decide)
  refine L.F__law_deed_right.ok sc__law_deed_right (fun vs H Q E h => ?_) (fun cdv A outer s H vs Q E hr h => ?_)
  · obtain ⟨b, NL, KL, k, ns, c, rfl, _⟩ := h
    rfl
  obtain ⟨b, NL, KL, k, ns, c, rfl, hW, hB, hc, n1, n13, hk, q⟩ := h
  refine ⟨_, (pss_cons (ps_par (by rfl) sc__law_deed_right.nd (i := 3) (j := 4) rfl rfl (by decide) rfl rfl (pa_cons (pe_call G__law_take hr (by rfl) L.m__law_take L.F__law_take.kp L.b__law_take .nil pass0 (pa_cons (pv 0) (pa_cons (pe_callB call_len_seq (by rfl) B.len PySem.boot_len (pa_cons (pv 1) pa_nil)) pa_nil))) (pa_cons (pe_call G__law_take hr (by rfl) L.m__law_take L.F__law_take.kp L.b__law_take .nil pass0 (pa_cons (pv 0) (pa_cons pe_int pa_nil))) pa_nil)) (by rfl))
    (pss_cons (ps_par (by rfl) sc__law_deed_right.nd (i := 5) (j := 6) rfl rfl (by decide) rfl rfl (pa_cons (pe_ix ix_list (pv 1) (pv 3) (fun _ _ => rfl)) (pa_cons (pe_ix ix_list (pv 2) (pv 3) (fun _ _ => rfl)) pa_nil)) (by rfl))
    (pss_cons (ps_set (i := 7) sc__law_deed_right.nd rfl (.inr rfl) (pe_op op_add (pe_meth0 (pv 5) L.T.cl L.M_Net_inputs G_Net_inputs hr L.b_Net_inputs .nil pass0) (pe_callB (call_lenOwn L.M_Net___len__ (ok_Net___len__ B L) L.b_Net___len__ (hr.mono (by decide)) pass0) (by rfl) B.len boot_len (pa_cons (pv 5) pa_nil))))
    (pss_cons (ps_setLc (i := 8) (own := [("_law_turn", 14)]) (by rfl) sc__law_deed_right.nd rfl rfl (sw_true rfl rfl rfl (by decide +kernel)) (pi_range1 (by rfl) B.range (pa_cons (pe_op op_add pe_int (pe_call G__law_take hr (by rfl) L.m__law_take L.F__law_take.kp L.b__law_take .nil pass0 (pa_cons (pv 0) (pa_cons pe_int pa_nil)))) pa_nil)) (blkOk_by (own := [("_law_turn", 14)]) (N := ["_law_box_here", "_law_nets", "_law_kept", "_law_at", "_law_how", "_law_net", "_law_own", "_law_there", "_law_wires", "_law_name", "_law_sort", "_law_like", "_law_held", "_law_told", "_law_turn"]) (sc := defScope s__law_deed_right) (by decide +kernel)) (fun _ _ _ _ _ => pg_name (i := 14) sc__law_deed_right.nd rfl (Or.inl rfl)) (fun _ _ _ _ _ => pts_nil) (fun _ _ _ _ _ => (pe_call G__law_take hr (by rfl) L.m__law_take L.F__law_take.kp L.b__law_take .nil pass0 (pa_cons (pv 0) (pa_cons (pv 7) pa_nil)))))
    (pss_cons (ps_if (pt_cmpR op_eq (pv 4) pe_int (nomark _)) (pss_cons (ps_expr (pe_bm PySem.F.plainAttrs_list PySem.F.slot_list_append PySem.F.type_list_append mt_append (pv 1) (pa_cons (pe_meth0 (pv 5) L.T.cl L.M_Net_like G_Net_like hr L.b_Net_like .nil pass0) pa_nil)))
    (pss_cons (ps_expr (pe_bm PySem.F.plainAttrs_list PySem.F.slot_list_append PySem.F.type_list_append mt_append (pv 2) (pa_cons (pe_disp (pps_cons pe_str (pe_callTy call_dictD (by rfl) L.z_dict PyProof.Rows.boot_dict (pa_cons (pe_dget (units1 hr) (pv 6) pe_str (fun _ _ => rfl)) pa_nil)) (pps_cons pe_str (pe_dget (units1 hr) (pv 6) pe_str (fun _ _ => rfl)) pps_nil)) rfl rfl (by decide) (by decide)) pa_nil)))
    (pss_one (ps_ret pe_bl)))) pss_nil)
    (pss_cons (ps_if (pt_cmpR op_eq (pv 4) pe_int (nomark _)) (pss_cons (ps_set (i := 9) sc__law_deed_right.nd rfl (.inl rfl) (pe_op op_add_str pe_str (pe_callTy call_str_int (by rfl) B.str PyProof.Rows.boot_str (pa_cons (pe_callB call_lenD (by rfl) B.len boot_len (pa_cons (pe_dget (units1 hr) (pv 6) pe_str (fun _ _ => rfl)) pa_nil)) pa_nil))))
    (pss_cons (ps_expr (pe_meth (pv 5) L.T.cl L.M_Net_give G_Net_give hr L.b_Net_give .nil pass0 (pa_cons (pv 9) (pa_cons (pv 8) pa_nil))))
    (pss_cons (ps_dput (units1 hr) (pe_dget (units1 hr) (pv 6) pe_str (fun _ _ => rfl)) (pv 9) (pe_callTy call_list_of (by rfl) B.list PyProof.Rows.boot_list (pa_cons (pv 8) pa_nil)) rfl)
    (pss_cons (ps_expr (pe_bm PySem.F.plainAttrs_list PySem.F.slot_list_append PySem.F.type_list_append mt_append (pv 8) (pa_cons pe_int pa_nil)))
    (pss_one (ps_ret (pe_cmpR (op_eqD hr.units) (pe_meth (pv 5) L.T.cl L.M_Net_given G_Net_given hr L.b_Net_given .nil pass0 (pa_cons (pv 9) pa_nil)) (pe_slice sl_list (pv 8) po_none (po_some (pe_un un_neg pe_int))) (nomark _)))))))) pss_nil)
    (pss_cons (ps_if (pt_cmpR op_eq (pv 4) pe_int (nomark _)) (pss_cons (ps_dput (units1 hr) (pv 6) pe_str (pe_op op_add (pe_dget (units1 hr) (pv 6) pe_str (fun _ _ => rfl)) pe_int) rfl)
    (pss_one (ps_ret (pe_cmpR op_eq (pe_meth (pv 5) L.T.cl L.M_Net_unlike G_Net_unlike hr L.b_Net_unlike .nil pass0 (pa_cons (pe_ix ix_list (pv 8) pe_int (fun _ _ => rfl)) (pa_cons (pe_ix ix_list (pv 8) pe_int (fun _ _ => rfl)) pa_nil))) (pv 7) (nomark _))))) pss_nil)
    (pss_cons (ps_par3 (by rfl) sc__law_deed_right.nd (i := 10) (j := 11) (l := 12) rfl rfl rfl (by decide) (by decide) (by decide) rfl rfl rfl (pa_cons (pe_call G__law_take hr (by rfl) L.m__law_take L.F__law_take.kp L.b__law_take .nil pass0 (pa_cons (pv 0) (pa_cons pe_int pa_nil))) (pa_cons (pe_meth0 (pv 5) L.T.cl L.M_Net_like G_Net_like hr L.b_Net_like .nil pass0) (pa_cons (pe_callTy call_list_of (by rfl) B.list PyProof.Rows.boot_list (pa_cons (pv 8) pa_nil)) pa_nil))) (by rfl))
    (pss_cons (ps_set (i := 13) sc__law_deed_right.nd rfl (.inl rfl) (pe_call G__law_part hr (by rfl) L.m__law_part L.F__law_part.kp L.b__law_part .nil pass0 (pa_cons (pv 5) (pa_cons (pv 10) (pa_cons (pv 8) pa_nil)))))
    (pss_cons (ps_if (PW.pt (pw_or (pt_cmpR (op_neD hr.units) (pe_call G__law_part hr (by rfl) L.m__law_part L.F__law_part.kp L.b__law_part .nil pass0 (pa_cons (pv 11) (pa_cons (pv 10) (pa_cons (pe_callTy call_tuple_of (by rfl) B.tuple PyProof.Rows.boot_tuple (pa_cons (pv 12) pa_nil)) pa_nil)))) (pv 13) (nomark _)) (pw_or (pt_cmpR (op_neD hr.units) (pe_meth0 (pv 11) L.T.cl L.M_Net_gates G_Net_gates hr L.b_Net_gates .nil pass0) (pe_meth0 (pv 5) L.T.cl L.M_Net_gates G_Net_gates hr L.b_Net_gates .nil pass0) (nomark _)) (pw_or1 (pt_cmpR (op_neD hr.units) (pv 8) (pv 12) (nomark _)))))) (pss_one (ps_ret pe_bl)) pss_nil)
    (pss_cons (ps_asg (pe_tup (pa_cons (pe_call G__law_take hr (by rfl) L.m__law_take L.F__law_take.kp L.b__law_take .nil pass0 (pa_cons (pv 0) (pa_cons (pv 7) pa_nil))) (pa_cons (pe_meth0 (pv 5) L.T.cl L.M_Net_like G_Net_like hr L.b_Net_like .nil pass0) pa_nil))) (pg_tup (by rfl) (pgs_cons (pg_sub (pv 8) pe_int set_list) (pgs_cons (pg_name (i := 11) sc__law_deed_right.nd rfl (.inl rfl)) pgs_nil))))
    (pss_cons (ps_set (i := 13) sc__law_deed_right.nd rfl (.inl rfl) (pe_call G__law_part hr (by rfl) L.m__law_part L.F__law_part.kp L.b__law_part .nil pass0 (pa_cons (pv 5) (pa_cons (pv 10) (pa_cons (pv 8) pa_nil)))))
    (pss_cons (ps_dput (units1 hr) (pv 6) pe_str (pe_callB (call_lenOwn L.M_Net___len__ (ok_Net___len__ B L) L.b_Net___len__ (hr.mono (by decide)) pass0) (by rfl) B.len boot_len (pa_cons (pv 5) pa_nil)) rfl)
    (pss_one (ps_ret (pe_and (pe_cmpR (op_eqD hr.units) (pe_call G__law_part hr (by rfl) L.m__law_part L.F__law_part.kp L.b__law_part .nil pass0 (pa_cons (pv 11) (pa_cons (pv 10) (pa_cons (pe_callTy call_tuple_of (by rfl) B.tuple PyProof.Rows.boot_tuple (pa_cons (pv 8) pa_nil)) pa_nil)))) (pv 13) (nomark _)) (pe_one (pe_cmpR (op_eqD hr.units) (pe_meth0 (pv 11) L.T.cl L.M_Net_gates G_Net_gates hr L.b_Net_gates .nil pass0) (pe_meth0 (pv 5) L.T.cl L.M_Net_gates G_Net_gates hr L.b_Net_gates .nil pass0) (nomark _))))))))))))))))))), ?_⟩
  obtain ⟨⟨nNK, nbN, nbK⟩, eNL, eKL, fW⟩ := id hW
  refine ⟨_, rfl, _, rfl, NL, _, rfl, .inl (SqL.of eNL), ?_⟩
  rw [List.length_map]
  refine ⟨b, _, _, rfl, hB, by omega, by omega, by omega, by omega, by decide, fun r1 H1 u1 v1 B1 k1 => ?_⟩
  replace B1 := bx1 B1
  obtain ⟨i, rfl⟩ : ∃ i : Nat, r1 = (i : Int) := ⟨r1.toNat, by omega⟩
  refine ⟨_, rfl, b, _, _, rfl, B1, by decide, by decide, by decide, by omega, by decide, fun how H2 u2 v2 B2 k2 => ?_⟩
  replace B2 := bx1 B2
  have k02 := k1.trans k2
  have kS2 : KeepS [b] H H2 := .ofKeep k02 (by simp) B2.some
  have W2 := hW.box kS2
  obtain ⟨_, eNL2, eKL2, fW2⟩ := id W2
  have hi : ns[i]? = some (ns[i]'(by omega)) := List.getElem?_eq_getElem (by omega)
  generalize ns[i]'(by omega) = n at hi
  obtain ⟨D2, ok⟩ := fW2 i n hi
  refine ⟨_, _, rfl, ?_⟩
  try simp only [L2.start, List.map_cons, List.map_nil, List.length_cons, List.length_nil, List.replicate_succ, List.replicate_zero, List.cons_append, List.nil_append, List.set_cons_succ, List.set_cons_zero, Nat.reduceAdd, Nat.reduceSub, Nat.zero_add]
  have aN : atI (ns.map fun n => V.ref n.p.x) (i : Int) = some (.ref n.p.x) := atI_nat (by rw [List.getElem?_map, hi]; rfl)
  have aK : atI (ns.map fun n => V.ref n.o) (i : Int) = some (.ref n.o) := atI_nat (by rw [List.getElem?_map, hi]; rfl)
  refine ⟨_, rfl, _, rfl, NL, _, _, _, rfl, rfl, SqL.of eNL2, aN, _, rfl, _, rfl, KL, _, _, _, rfl, rfl, SqL.of eKL2, aK, _, _, rfl, ?_⟩
  try simp only [L2.start, List.map_cons, List.map_nil, List.length_cons, List.length_nil, List.replicate_succ, List.replicate_zero, List.cons_append, List.nil_append, List.set_cons_succ, List.set_cons_zero, Nat.reduceAdd, Nat.reduceSub, Nat.zero_add]
  obtain ⟨hN, eo, hDl, noZ⟩ := id D2
  obtain ⟨m4, m10, hg, gok, hnm, hws, hnames⟩ := id ok
  obtain ⟨_, _, _, dx2, _, _, f2, _⟩ := id hN
  refine ⟨_, rfl, n.p.x, dx2, _, rfl, f2, rfl, _, n.p, n.m, n.gs, n.nm, rfl, hN, _, rfl, n.p.x, dx2, _, rfl, f2, _, n.p, n.m, n.gs, n.nm, rfl, hN, _, rfl, by omega, by omega, ?_⟩
  refine ⟨_, _, rfl, rfl, ?_⟩
  dsimp only
  rw [show (n.m : Int) + (n.gs.length : Nat) = ((n.m + n.gs.length : Nat) : Int) by omega]
  try simp only [L2.start, List.map_cons, List.map_nil, List.length_cons, List.length_nil, List.replicate_succ, List.replicate_zero, List.cons_append, List.nil_append, List.set_cons_succ, List.set_cons_zero, Nat.reduceAdd, Nat.reduceSub, Nat.zero_add]
  refine ⟨_, rfl, b, _, _, rfl, B2, by decide, by decide, by decide, by omega, by decide, fun r3 H3 u3 v3 B3 k3 => ?_⟩
  replace B3 := bx1 B3
  obtain ⟨r, rfl⟩ : ∃ r : Nat, r3 = (r : Int) := ⟨r3.toNat, by omega⟩
  refine ⟨_, _, rfl, rfl, _, rfl, by omega, by omega, fun V1 nV => ?_⟩
  obtain ⟨lw, elw, lw2, lw7⟩ : ∃ l : Nat, 2 + (r : Int) = (l : Int) ∧ 2 ≤ l ∧ l ≤ 6 := ⟨2 + r, by omega, by omega, by omega⟩
  rw [elw, Int.toNat_natCast]
  have nVb : V1 ≠ b := (B3.ne nV).symm
  have kS3 : KeepS [b] H2 H3 := .ofKeep k3 (by simp) B3.some
  refine lc_range (n := lw) (fun j H4 => ∃ ws : List Nat, ws.length = j ∧ (∀ w ∈ ws, w < n.m + n.gs.length) ∧ Keep b H3 H4 ∧ BoxAt (c + 5 + j) H4 b ∧ H4 V1 = some (.lst (nts ws))) ⟨[], rfl, (fun _ z => nomatch z), Keep.new nV, (B3.same (same_upd nV)).mono (by omega), upd_same⟩ ?_ ?_
  · rintro j H4 hj ⟨ws, lws, hwl, k4, B4, e4⟩
    dsimp only [gName]
    refine ⟨rfl, yesT ?_⟩
    try simp only [L2.start, List.map_cons, List.map_nil, List.length_cons, List.length_nil, List.replicate_succ, List.replicate_zero, List.cons_append, List.nil_append, List.set_cons_succ, List.set_cons_zero, Nat.reduceAdd, Nat.reduceSub, Nat.zero_add]
    refine ⟨_, rfl, _, rfl, b, _, _, rfl, B4, by omega, by omega, by omega, by omega, by decide, fun r5 H5 u5 v5 B5 k5 => ?_⟩
    replace B5 := bx1 B5
    obtain ⟨a5, rfl⟩ : ∃ a5 : Nat, r5 = (a5 : Int) := ⟨r5.toNat, by omega⟩
    refine ⟨_, k5 _ _ e4 nVb, by rw [nts_len, lws]; exact big_lt (by omega), ws ++ [a5], by rw [List.length_append, lws]; rfl, fun w hw => ?_, fun y o e ny => ?_, BoxAt.mono (B5.at (upd_ne nVb.symm)) (by omega), by rw [upd_same, nts_app]; rfl⟩
    · rcases List.mem_append.mp hw with z | z
      · exact hwl w z
      · rw [List.mem_singleton.mp z]
        omega
    · rw [upd_ne (ne_of_none e nV)]
      exact k5 _ _ (k4 _ _ e ny) ny
  rintro H4 ⟨ws, lws, hwl, k34, B4, e4⟩
  dsimp only [gName]
  try simp only [L2.start, List.map_cons, List.map_nil, List.length_cons, List.length_nil, List.replicate_succ, List.replicate_zero, List.cons_append, List.nil_append, List.set_cons_succ, List.set_cons_zero, Nat.reduceAdd, Nat.reduceSub, Nat.zero_add]
  have kS4 : KeepS [b] H H4 := (kS2.trans kS3).trans (.ofKeep k34 (by simp) B4.some)
  have W4 := hW.box kS4
  obtain ⟨_, eNL4, eKL4, fW4⟩ := id W4
  obtain ⟨D4, _⟩ := fW4 i n hi
  have nVH : H V1 = none := ks_none (kS2.trans kS3) nV
  have nVa : V1 ∉ n.adr := fun z => D2.some V1 z (ks_none kS3 nV)
  have A4 : NdAt C (V1 :: zW b NL KL (ns.map Nd.adr) i) H4 n := by
    have W3 := hW.box (kS2.trans kS3)
    refine (W3.2.2.2 i n hi).1.more (S := [b]) (Y := [V1]) (.ofKeep k34 (by simp) B4.some) (fun y hy => by rw [List.mem_singleton.mp hy]; simp [zW]) (fun y hy => by rw [List.mem_singleton.mp hy]; exact ⟨nV, some_ne e4⟩) (fun z hz => ?_)
    rcases List.mem_cons.mp hz with w | w
    · exact .inr (by simp [w])
    · exact .inl w
  clear D2 hN eo hDl fW2 W2 eNL2 eKL2 fW
  obtain ⟨hN, eo, hDl, noZ⟩ := id D4
  obtain ⟨kvs, ed, keys, dg⟩ := hDl.keys
  have hk0 := keptN n
  have go : ∀ {k : Nat}, decide (V.int how = V.int (k : Int)) = true → how = (k : Int) := fun h => V.int.inj (of_decide_eq_true h)
  have nogo : ∀ {k : Nat}, ¬ decide (V.int how = V.int (k : Int)) = true → how ≠ (k : Int) := fun h z => h (decide_eq_true (by rw [z]))
  obtain ⟨_, _, _, dx4, _, _, f4, _⟩ := id hN
  have adrIn : n.adr ∈ ns.map Nd.adr := List.mem_map.mpr ⟨n, List.mem_of_getElem? hi, rfl⟩
  have toAll : ∀ {S : List Addr} {G G' : Hp}, (∀ y ∈ S, y ∈ n.adr) → KeepS S G G' → KeepS (b :: NL :: KL :: (ns.map Nd.adr).flatten) G G' := fun hS e => e.mono fun y hy => List.mem_cons_of_mem _ (List.mem_cons_of_mem _ (List.mem_cons_of_mem _ (List.mem_flatten.mpr ⟨_, adrIn, hS y hy⟩)))
  have k0A : KeepS (b :: NL :: KL :: (ns.map Nd.adr).flatten) H H4 := kS4.mono (fun y hy => by rw [List.mem_singleton.mp hy]; simp)
  have gK : DGet H4 n.o (.str ("names" : Str)) (some (.ref n.d)) ∧ DGet H4 n.o (.str ("size" : Str)) (some (.int (n.gs.length : Nat))) := by
    have e : H4 n.o = some (keptR n) := eo
    exact ⟨by rw [← hk0.1]; exact DGet.k (k := .inr "names") e, by rw [← hk0.2]; exact DGet.k (k := .inr "size") e⟩
  -- what all nets hold
  have zok : ∀ z ∈ b :: NL :: KL :: (ns.map Nd.adr).flatten, H4 z ≠ none := fun z hz => by
    simp only [List.mem_cons] at hz
    rcases hz with w | w | w | w
    · rw [w]; exact B4.some
    · rw [w]; exact some_ne eNL4
    · rw [w]; exact some_ne eKL4
    · obtain ⟨l, hl, hz⟩ := List.mem_flatten.mp w
      obtain ⟨n3, hn3, rfl⟩ := List.mem_map.mp hl
      obtain ⟨j, hj⟩ := List.mem_iff_getElem?.mp hn3
      exact (fW4 j n3 hj).1.some z hz
  have zin : ∀ z ∈ b :: NL :: KL :: (ns.map Nd.adr).flatten, z ∈ n.o :: n.d :: zW b NL KL (ns.map Nd.adr) i ∨ z ∈ [n.p.x, n.p.lm, n.p.ld, n.p.dn] := fun z hz => by
    simp only [List.mem_cons] at hz
    rcases hz with w | w | w | w
    · exact .inl (by simp [zW, w])
    · exact .inl (by simp [zW, w])
    · exact .inl (by simp [zW, w])
    · obtain ⟨l, hl, hz⟩ := List.mem_flatten.mp w
      obtain ⟨j, hj⟩ := List.mem_iff_getElem?.mp hl
      by_cases hij : j = i
      · rw [hij, List.getElem?_map, hi] at hj
        cases hj
        simp only [Nd.adr, List.mem_cons, List.not_mem_nil, or_false] at hz ⊢
        rcases hz with y | y | y | y | y | y <;> simp [y]
      · exact .inl (List.mem_cons_of_mem _ (List.mem_cons_of_mem _ (zW_in hj hz hij)))
  refine ⟨_, rfl, rfl, _, rfl, ite2 (fun c0 => ?_) (fun c0 => ?_)⟩
  · refine ⟨_, rfl, .inl ⟨rfl, _, SqL.of eNL4⟩, _, rfl, n.p.x, dx4, _, rfl, f4, rfl, _, n.p, n.m, n.gs, n.nm, rfl, hN, by omega, by omega, by omega, fun p2 H5 s5 ⟨nn1, nn2, nn3, nn4⟩ Z2f => ?_⟩
    refine ⟨NL, _, _, rfl, rfl, s5 _ _ eNL4, by rw [List.length_map]; exact big_lt (by omega), ?_⟩
    have NZ := Z2f (b :: NL :: KL :: (ns.map Nd.adr).flatten) (fun z hz => ⟨zok z hz, zin z hz⟩)
    have eo5 := s5 _ _ eo
    have ed5 := s5 _ _ ed
    have eKL5 := s5 _ _ eKL4
    have nin := D4.nin
    have nNL : NL ∉ n.adr := nin NL (by simp [zW])
    have nKL : KL ∉ n.adr := nin KL (by simp [zW])
    have oNL : n.o ≠ NL := fun z => nNL (by rw [← z]; simp [Nd.adr])
    have dNL : n.d ≠ NL := fun z => nNL (by rw [← z]; simp [Nd.adr])
    have oKL : n.o ≠ KL := fun z => nKL (by rw [← z]; simp [Nd.adr])
    have k56 : KeepS [NL, KL] H5 (upd H5 NL (.lst ((ns.map fun n => V.ref n.p.x) ++ [.ref p2.x]))) := .upd (by simp)
    have eNL6 : (upd H5 NL (.lst ((ns.map fun n => V.ref n.p.x) ++ [.ref p2.x]))) NL = some (.lst ((ns.map fun n => V.ref n.p.x) ++ [.ref p2.x])) := upd_same
    have eo6 : (upd H5 NL (.lst ((ns.map fun n => V.ref n.p.x) ++ [.ref p2.x]))) n.o = some (keptR n) := (upd_ne oNL).trans eo5
    have ed6 : (upd H5 NL (.lst ((ns.map fun n => V.ref n.p.x) ++ [.ref p2.x]))) n.d = some (.dK kvs) := (upd_ne dNL).trans ed5
    have eKL6 : (upd H5 NL (.lst ((ns.map fun n => V.ref n.p.x) ++ [.ref p2.x]))) KL = some (.lst (ns.map fun n => V.ref n.o)) := (upd_ne nNK.symm).trans eKL5
    generalize upd H5 NL (.lst ((ns.map fun n => V.ref n.p.x) ++ [.ref p2.x])) = H6 at *
    refine ⟨_, rfl, .inl ⟨rfl, _, SqL.of eKL6⟩, fun o2 no2 => ?_⟩
    have s67 := same_upd (o := .dK []) no2
    have eo27 : (upd H6 o2 (.dK [])) o2 = some (.dK []) := upd_same
    have eo7 := s67 _ _ eo6
    have ed7 := s67 _ _ ed6
    generalize upd H6 o2 (.dK []) = H7 at *
    have gN7 : DGet H7 n.o (.str ("names" : Str)) (some (.ref n.d)) := by rw [← hk0.1]; exact DGet.k (k := .inr "names") eo7
    refine ⟨_, rfl, n.o, _, rfl, gN7, n.d, kvs, rfl, .inl ed7, fun d2 nd2 => ?_⟩
    have s78 := same_upd (o := .dK kvs) nd2
    have ed28 : (upd H7 d2 (.dK kvs)) d2 = some (.dK kvs) := upd_same
    have eo28 := s78 _ _ eo27
    have eo8 := s78 _ _ eo7
    have do2 : d2 ≠ o2 := (ne_of_none eo27 nd2).symm
    generalize upd H7 d2 (.dK kvs) = H8 at *
    have gS8 : DGet H8 n.o (.str ("size" : Str)) (some (.int (n.gs.length : Nat))) := by rw [← hk0.2]; exact DGet.k (k := .inr "size") eo8
    refine ⟨_, rfl, n.o, _, rfl, gS8, eo28, [(.inr "names", .ref d2), (.inr "size", .int (n.gs.length : Nat))], rfl, (by show 2 ≤ 15; decide), ?_⟩
    have eo29 : (upd H8 o2 (.dK (mergeK [] [(.inr ("names" : Str), .ref d2), (.inr "size", .int (n.gs.length : Nat))]))) o2 = some (keptR ⟨p2, o2, d2, n.m, n.gs, n.nm⟩) := by
      rw [upd_same]
      rfl
    have s69 : Same H6 (upd H8 o2 (.dK (mergeK [] [(.inr ("names" : Str), .ref d2), (.inr "size", .int (n.gs.length : Nat))]))) := fun y u e => by
      rw [upd_ne (ne_of_none e no2)]
      exact s78 _ _ (s67 _ _ e)
    have ed29 : (upd H8 o2 (.dK (mergeK [] [(.inr ("names" : Str), .ref d2), (.inr "size", .int (n.gs.length : Nat))]))) d2 = some (.dK kvs) := (upd_ne do2).trans ed28
    generalize upd H8 o2 (.dK (mergeK [] [(.inr ("names" : Str), .ref d2), (.inr "size", .int (n.gs.length : Nat))])) = H9 at *
    have eKL9 := s69 _ _ eKL6
    have eNL9 := s69 _ _ eNL6
    have o2K : o2 ≠ KL := fun z => by rw [z, eKL6] at no2; cases no2
    have d2K : d2 ≠ KL := fun z => by rw [z, s67 _ _ eKL6] at nd2; cases nd2
    refine ⟨KL, _, _, rfl, rfl, eKL9, by rw [List.length_map]; exact big_lt (by omega), ?_⟩
    have k910 : KeepS [NL, KL] H9 (upd H9 KL (.lst ((ns.map fun n => V.ref n.o) ++ [.ref o2]))) := .upd (by simp)
    have eKLA : (upd H9 KL (.lst ((ns.map fun n => V.ref n.o) ++ [.ref o2]))) KL = some (.lst ((ns.map fun n => V.ref n.o) ++ [.ref o2])) := upd_same
    have eNLA : (upd H9 KL (.lst ((ns.map fun n => V.ref n.o) ++ [.ref o2]))) NL = some (.lst ((ns.map fun n => V.ref n.p.x) ++ [.ref p2.x])) := (upd_ne nNK).trans eNL9
    have eo2A : (upd H9 KL (.lst ((ns.map fun n => V.ref n.o) ++ [.ref o2]))) o2 = some (keptR ⟨p2, o2, d2, n.m, n.gs, n.nm⟩) := (upd_ne o2K).trans eo29
    have ed2A : (upd H9 KL (.lst ((ns.map fun n => V.ref n.o) ++ [.ref o2]))) d2 = some (.dK kvs) := (upd_ne d2K).trans ed29
    generalize upd H9 KL (.lst ((ns.map fun n => V.ref n.o) ++ [.ref o2])) = HA at *
    have k5A : KeepS [NL, KL] H5 HA := (k56.trans (.ofSame s69)).trans k910
    have k4A : KeepS [NL, KL] H4 HA := (KeepS.ofSame s5).trans k5A
    have n5o2 : H5 o2 = none := ks_none k56 no2
    have n5d2 : H5 d2 = none := ks_none k56 (back s67 nd2)
    have NA : NetAt C (o2 :: d2 :: b :: NL :: KL :: (ns.map Nd.adr).flatten) HA p2 n.m n.gs n.nm := NZ.more (Y := [o2, d2]) k5A (fun y hy => by
      simp only [List.mem_cons, List.not_mem_nil, or_false] at hy
      rcases hy with w | w <;> rw [w] <;> simp) (memL ⟨n5o2, some_ne eo2A⟩ (memL ⟨n5d2, some_ne ed2A⟩ (fun y z => nomatch z))) (fun z hz => by
      simp only [List.mem_cons, List.not_mem_nil, or_false] at hz ⊢
      rcases hz with w | w | w
      · exact .inr (.inl w)
      · exact .inr (.inr w)
      · exact .inl w)
    have fresh : ∀ y ∈ (⟨p2, o2, d2, n.m, n.gs, n.nm⟩ : Nd).adr, H4 y = none ∧ HA y ≠ none := by
      obtain ⟨_, _, _, _, _, _, x1, x2, x3, x4, _⟩ := id NA
      exact memL ⟨back s5 n5o2, some_ne eo2A⟩ (memL ⟨back s5 n5d2, some_ne ed2A⟩ (memL ⟨nn1, some_ne x1⟩ (memL ⟨nn2, some_ne x2⟩ (memL ⟨nn3, some_ne x3⟩ (memL ⟨nn4, some_ne x4⟩ (fun y z => nomatch z))))))
    have frZ : ∀ z ∈ b :: NL :: KL :: (ns.map Nd.adr).flatten, z ∉ (⟨p2, o2, d2, n.m, n.gs, n.nm⟩ : Nd).adr := fun z hz w => zok z hz (fresh z w).1
    have fr2 : ∀ {z : Addr}, z ∈ o2 :: p2.x :: p2.lm :: p2.ld :: p2.dn :: b :: NL :: KL :: (ns.map Nd.adr).flatten → z ∈ (⟨p2, o2, d2, n.m, n.gs, n.nm⟩ : Nd).adr ∨ z ∈ b :: NL :: KL :: (ns.map Nd.adr).flatten := fun {z} h => by
      rcases List.mem_cons.mp h with w | h
      · exact .inl (by simp [Nd.adr, w])
      rcases List.mem_cons.mp h with w | h
      · exact .inl (by simp [Nd.adr, w])
      rcases List.mem_cons.mp h with w | h
      · exact .inl (by simp [Nd.adr, w])
      rcases List.mem_cons.mp h with w | h
      · exact .inl (by simp [Nd.adr, w])
      rcases List.mem_cons.mp h with w | h
      · exact .inl (by simp [Nd.adr, w])
      · exact .inr h
    obtain ⟨_, _, _, _, _, _, x1, x2, x3, x4, _⟩ := id NA
    have d2n : d2 ∉ o2 :: p2.x :: p2.lm :: p2.ld :: p2.dn :: b :: NL :: KL :: (ns.map Nd.adr).flatten := fun z => by
      simp only [List.mem_cons] at z
      rcases z with w | w | w | w | w | w
      · exact do2 w
      · rw [w, x1] at ed2A; cases ed2A
      · rw [w, x2] at ed2A; cases ed2A
      · rw [w, x3] at ed2A; cases ed2A
      · exact NA.2.2.1.2.2.2 (by rw [← w]; simp)
      · exact frZ d2 (by simpa using w) (by simp [Nd.adr])
    refine q (ns ++ [⟨p2, o2, d2, n.m, n.gs, n.nm⟩]) HA (W4.app (n2 := ⟨p2, o2, d2, n.m, n.gs, n.nm⟩) k4A fresh (by rw [eNLA, List.map_append]; rfl) (by rw [eKLA, List.map_append]; rfl) ⟨NA, eo2A, ?_, fun z => frZ o2 z (by simp [Nd.adr])⟩ (ok.up (Nat.le_succ _)) (Nat.le_succ _)) (by simp) (by simp) ?_ (k0A.trans (k4A.mono (fun y hy => by
      simp only [List.mem_cons, List.not_mem_nil, or_false] at hy
      rcases hy with w | w <;> rw [w] <;> simp))) (fun n' hn' y hy => ?_)
    · obtain ⟨dn1, kvs', ed', lk, ndk, fk⟩ := id hDl
      rw [ed] at ed'
      cases ed'
      refine ⟨d2n, kvs, ed2A, lk, ndk, fun j k' v nn ws' hj hn => ?_⟩
      obtain ⟨ek, l', ev, m1, m2, m3⟩ := fk j k' v nn ws' hj hn
      refine ⟨ek, l', ev, fun z => ?_, fun z => ?_, k4A.1 _ _ m3 (fun z => m1 ?_)⟩
      · rcases fr2 z with w | w
        · rw [(fresh l' w).1] at m3
          cases m3
        · rcases zin l' w with y | y
          · rcases List.mem_cons.mp y with x | y
            · exact m1 (by simp [x])
            · rcases List.mem_cons.mp y with x | y
              · exact m2 x
              · exact m1 (by simp [y])
          · simp only [List.mem_cons, List.not_mem_nil, or_false] at y
            rcases y with x | x | x | x <;> exact m1 (by simp [x])
      · rw [z, (fresh d2 (by simp [Nd.adr])).1] at m3
        cases m3
      · simp only [List.mem_cons, List.not_mem_nil, or_false] at z
        rcases z with x | x <;> rw [x] <;> simp [zW]
    · have bN : b ∉ [NL, KL] := fun z => by
        simp only [List.mem_cons, List.not_mem_nil, or_false] at z
        rcases z with x | x
        · exact nbN x
        · exact nbK x
      exact (B4.keepS k4A bN).mono (by omega)
    · rcases List.mem_append.mp hn' with w | w
      · exact .inl (List.mem_flatten.mpr ⟨_, List.mem_map.mpr ⟨n', w, rfl⟩, hy⟩)
      · rw [List.mem_singleton.mp w] at hy
        exact .inr (ks_none kS4 (fresh y hy).1)
  dsimp only [tNext]
  refine ⟨_, rfl, rfl, _, rfl, ite2 (fun c1 => ?_) (fun c1 => ?_)⟩
  · have lkv : kvs.length = n.nm.length := by
      have := congrArg List.length keys
      rw [List.length_map, List.length_map, List.length_map] at this
      exact this
    refine ⟨_, rfl, n.o, _, rfl, gK.1, n.d, kvs, rfl, ed, ?_⟩
    rw [lkv]
    have nlt : n.nm.length < 14 := by omega
    have nl := nameN_len n.nm.length nlt
    refine ⟨_, rfl, (by rw [Int.natAbs_natCast]; exact Nat.lt_of_le_of_lt (Nat.log2_le_self _) (by omega)), _, _, rfl, rfl, Nat.le_trans nl (by decide), ?_⟩
    have nNew : nameN n.nm.length ∉ n.nm.map (·.1) := fun z => by
      rw [hnames] at z
      obtain ⟨j, hj, e⟩ := List.mem_map.mp z
      have hj := List.mem_range.mp hj
      have := nameN_ne j (by omega) n.nm.length nlt e
      omega
    rw [show (Str.ofString "n" ++ Str.ofString (toString ((n.nm.length : Nat) : Int))) = nameN n.nm.length from rfl]
    generalize hname : nameN n.nm.length = name at *
    dsimp only [gName]
    try simp only [L2.start, List.map_cons, List.map_nil, List.length_cons, List.length_nil, List.replicate_succ, List.replicate_zero, List.cons_append, List.nil_append, List.set_cons_succ, List.set_cons_zero, Nat.reduceAdd, Nat.reduceSub, Nat.zero_add]
    obtain ⟨N4, _, DA4, oA4⟩ := id A4
    refine ⟨_, rfl, n.p.x, dx4, _, rfl, f4, rfl, _, rfl, _, rfl, _, n.p, n.m, n.gs, n.nm, name, V1, ws, rfl, N4, nNew, .inl (SqL.of e4), hwl, by omega, fun H5 k5 N5 => ?_⟩
    have n5o : n.o ∉ [n.p.dn] := fun z => N4.2.2.1.2.2.2 (by rw [← List.mem_singleton.mp z]; simp)
    have n5d : n.d ∉ [n.p.dn] := fun z => N4.2.2.1.2.2.2 (by rw [← List.mem_singleton.mp z]; simp)
    have n5V : V1 ∉ [n.p.dn] := fun z => N4.2.2.1.2.2.2 (by rw [← List.mem_singleton.mp z]; simp)
    have eo5 := k5.1 _ _ eo n5o
    have ed5 := k5.1 _ _ ed n5d
    have e5 := k5.1 _ _ e4 n5V
    have DA5 : DlAt (n.o :: n.p.x :: n.p.lm :: n.p.ld :: n.p.dn :: V1 :: zW b NL KL (ns.map Nd.adr) i) H5 n.d n.nm := DA4.keep k5 (fun y hy => by rw [List.mem_singleton.mp hy]; simp)
    have gK5 : DGet H5 n.o (.str ("names" : Str)) (some (.ref n.d)) := by rw [← hk0.1]; exact DGet.k (k := .inr "names") eo5
    refine ⟨_, rfl, V1, _, rfl, .inl (SqL.of e5), fun l nl5 => ?_⟩
    have s56 := same_upd (o := .lst (nts ws)) nl5
    have el6 : (upd H5 l (.lst (nts ws))) l = some (.lst (nts ws)) := upd_same
    have eo6 := s56 _ _ eo5
    have ed6 := s56 _ _ ed5
    have e6 := s56 _ _ e5
    have N6 := N5.same s56
    have DA6 := DA5.same s56
    have nz5 : ∀ z ∈ n.o :: n.p.x :: n.p.lm :: n.p.ld :: n.p.dn :: V1 :: zW b NL KL (ns.map Nd.adr) i, H5 z ≠ none := fun z hz => by
      obtain ⟨z0, _, _, _, _, _, x1, x2, x3, x4, _⟩ := id N5
      simp only [List.mem_cons] at hz
      rcases hz with w | w | w | w | w | w | w
      · rw [w]; exact some_ne eo5
      · rw [w]; exact some_ne x1
      · rw [w]; exact some_ne x2
      · rw [w]; exact some_ne x3
      · rw [w]; exact some_ne x4
      · rw [w]; exact some_ne e5
      · exact z0 z (by simp [w])
    have lnz : l ∉ n.o :: n.p.x :: n.p.lm :: n.p.ld :: n.p.dn :: V1 :: zW b NL KL (ns.map Nd.adr) i := fun z => nz5 l z nl5
    have ld' : l ≠ n.d := fun z => by rw [z, ed5] at nl5; cases nl5
    generalize upd H5 l (.lst (nts ws)) = H6 at *
    have gK6 : DGet H6 n.o (.str ("names" : Str)) (some (.ref n.d)) := by rw [← hk0.1]; exact DGet.k (k := .inr "names") eo6
    refine ⟨_, rfl, n.o, _, rfl, gK6, _, rfl, n.d, _, rfl, DPut.k (k := .inr name) ed6 (by rw [lkv]; exact big_lt (by omega)), ?_⟩
    have Vd : V1 ≠ n.d := fun z => by rw [z, ed] at e4; cases e4
    have od : n.o ≠ n.d := fun z => DA6.1 (by rw [← z]; simp)
    have DA7 := DA6.one ed6 nNew lnz ld' el6
    have N7 : NetAt C (n.o :: n.d :: V1 :: zW b NL KL (ns.map Nd.adr) i) (upd H6 n.d (.dK (putK kvs (.inr name) (.ref l)))) n.p n.m n.gs (n.nm ++ [(name, ws)]) := N6.put (by simp)
    have eo7 : (upd H6 n.d (.dK (putK kvs (.inr name) (.ref l)))) n.o = some (keptR n) := (upd_ne od).trans eo6
    have e7 : (upd H6 n.d (.dK (putK kvs (.inr name) (.ref l)))) V1 = some (.lst (nts ws)) := (upd_ne Vd).trans e6
    have k47 : KeepS n.adr H4 (upd H6 n.d (.dK (putK kvs (.inr name) (.ref l)))) := ((k5.mono (fun y hy => by rw [List.mem_singleton.mp hy]; simp [Nd.adr])).trans (.ofSame s56)).trans (.upd (by simp [Nd.adr]))
    generalize upd H6 n.d (.dK (putK kvs (.inr name) (.ref l))) = H7 at *
    dsimp only
    refine ⟨_, rfl, .inl ⟨rfl, _, SqL.of e7⟩, V1, _, _, rfl, rfl, e7, by rw [nts_len]; exact big_lt (by omega), ?_⟩
    have N8 : NetAt C (n.o :: n.d :: V1 :: zW b NL KL (ns.map Nd.adr) i) (upd H7 V1 (.lst (nts ws ++ [.int 0]))) n.p n.m n.gs (n.nm ++ [(name, ws)]) := N7.put (by simp)
    have DA8 : DlAt (n.o :: n.p.x :: n.p.lm :: n.p.ld :: n.p.dn :: V1 :: zW b NL KL (ns.map Nd.adr) i) (upd H7 V1 (.lst (nts ws ++ [.int 0]))) n.d (n.nm ++ [(name, ws)]) := DA7.keep (T := [V1]) (.upd (by simp)) (fun y hy => by rw [List.mem_singleton.mp hy]; simp)
    have Vo : n.o ≠ V1 := fun z => nVa (by rw [← z]; simp [Nd.adr])
    have eo8 : (upd H7 V1 (.lst (nts ws ++ [.int 0]))) n.o = some (keptR n) := (upd_ne Vo).trans eo7
    have e8 : (upd H7 V1 (.lst (nts ws ++ [.int 0]))) V1 = some (.lst (nts ws ++ [.int 0])) := upd_same
    have k0V : KeepS (b :: NL :: KL :: (ns.map Nd.adr).flatten) H (upd H7 V1 (.lst (nts ws ++ [.int 0]))) := ks_updN (k0A.trans (toAll (fun y hy => hy) k47)) nVH
    have B8 : BoxAt (c + 5 + lw) (upd H7 V1 (.lst (nts ws ++ [.int 0]))) b := (B4.keepS k47 (D4.nin b (by simp [zW]))).at (upd_ne nVb.symm)
    have k48 : KeepS (V1 :: n.adr) H4 (upd H7 V1 (.lst (nts ws ++ [.int 0]))) := (k47.mono (fun y hy => List.mem_cons_of_mem _ hy)).trans (.upd (by simp))
    generalize upd H7 V1 (.lst (nts ws ++ [.int 0])) = H8 at *
    obtain ⟨_, _, _, dx8, _, _, f8, _⟩ := id N8
    refine ⟨_, rfl, n.p.x, dx8, _, rfl, f8, rfl, _, rfl, _, n.p, n.m, n.gs, _, n.nm.length, name, ws, rfl, N8, by rw [List.getElem?_append_right (Nat.le_refl _), Nat.sub_self]; rfl, fun t nt => ?_⟩
    have st := same_upd (o := .lst (nts ws)) nt
    have et : (upd H8 t (.lst (nts ws))) t = some (.lst (nts ws)) := upd_same
    have e9 := st _ _ e8
    have N9 := N8.same st
    have DA9 := DA8.same st
    have eo9 := st _ _ eo8
    have B9 := B8.same st
    have k09 := k0V.trans (.ofSame st)
    have k49 := k48.trans (.ofSame st)
    generalize upd H8 t (.lst (nts ws)) = H9 at *
    refine ⟨_, rfl, 1, rfl, _, rfl, V1, _, rfl, SqL.of e9, fun O nO => ?_⟩
    rw [cutN_last]
    have sO := same_upd (o := .lst (nts ws)) nO
    refine ⟨_, _, .lst (SqL.of (sO _ _ et)) (dpa_nts ws), .lst (SqL.of upd_same) (dpa_nts ws), (sd_ints ws).sh (by decide), (sd_ints ws).sh (by decide), ?_⟩
    rw [(sd_ints ws).self]
    have NO := (N9.same sO).more (S := []) (Y := []) (Z' := n.o :: n.d :: zW b NL KL (ns.map Nd.adr) i) (KeepS.refl _ _) (fun _ z => nomatch z) (fun _ z => nomatch z) (fun z hz => .inl (by
      simp only [List.mem_cons] at hz ⊢
      rcases hz with w | w | w
      · exact .inl w
      · exact .inr (.inl w)
      · exact .inr (.inr (.inr w))))
    have DO := (DA9.same sO).more (S := []) (Y := []) (Z' := n.o :: n.p.x :: n.p.lm :: n.p.ld :: n.p.dn :: zW b NL KL (ns.map Nd.adr) i) (KeepS.refl _ _) (fun _ z => nomatch z) (fun _ z => nomatch z) (fun z hz => .inl (by
      simp only [List.mem_cons] at hz ⊢
      rcases hz with w | w | w | w | w | w
      · exact .inl w
      · exact .inr (.inl w)
      · exact .inr (.inr (.inl w))
      · exact .inr (.inr (.inr (.inl w)))
      · exact .inr (.inr (.inr (.inr (.inl w))))
      · exact .inr (.inr (.inr (.inr (.inr (.inr w)))))))
    have W3 := hW.box (kS2.trans kS3)
    have k3O : KeepS (b :: n.adr) H3 (upd H9 O (.lst (nts ws))) := by
      refine ⟨fun y u e z => ?_, fun y e => ?_⟩
      · have yV : y ≠ V1 := ne_of_none e nV
        have e4y := k34 _ _ e (fun w => z (by simp [w]))
        exact sO _ _ (k49.1 _ _ e4y (fun w => by
          rcases List.mem_cons.mp w with x | x
          · exact yV x
          · exact z (List.mem_cons_of_mem _ x)))
      · exact (KeepS.ofSame (S := []) sO).2 y (k49.2 y ((KeepS.ofKeep (S := [b]) k34 (by simp) B4.some).2 y e))
    have WF := W3.step hi (n' := { n with nm := n.nm ++ [(name, ws)] }) rfl k3O (fun y hy => by
      rcases List.mem_cons.mp hy with w | w
      · exact .inr w
      · exact .inl w) ⟨NO, sO _ _ eo9, DO, oA4 ∘ List.mem_cons_of_mem _⟩ (k' := k + 1) ?_ (Nat.le_succ _)
    · refine q _ _ WF (by simp) (by simp) ((B9.same sO).mono (by omega)) (k09.trans (.ofSame sO)) (fun n' hn' y hy => .inl ?_)
      rcases List.mem_or_eq_of_mem_set hn' with w | w
      · exact List.mem_flatten.mpr ⟨_, List.mem_map.mpr ⟨n', w, rfl⟩, hy⟩
      · rw [w] at hy
        exact List.mem_flatten.mpr ⟨_, adrIn, hy⟩
    · refine ⟨m4, m10, by show n.gs.length ≤ _; omega, gok, by show (n.nm ++ [(name, ws)]).length ≤ _; rw [List.length_append]; show n.nm.length + 1 ≤ _; omega, fun x hx => ?_, ?_⟩
      · rcases List.mem_append.mp hx with w | w
        · exact hws x w
        · rw [List.mem_singleton.mp w]
          exact ⟨by show ws.length ≤ 7; omega, hwl⟩
      · show (n.nm ++ [(name, ws)]).map (·.1) = (List.range (n.nm ++ [(name, ws)]).length).map nameN
        rw [List.map_append, hnames, List.length_append, List.length_singleton, List.range_succ, List.map_append, List.map_cons, List.map_nil, List.map_cons, List.map_nil, hname]
  dsimp only [tNext]
  refine ⟨_, rfl, rfl, _, rfl, ite2 (fun c2 => ?_) (fun c2 => ?_)⟩
  · obtain ⟨w0, w1, hw0, hw1, a0, a1⟩ : ∃ w0 w1 : Nat, w0 < n.m + n.gs.length ∧ w1 < n.m + n.gs.length ∧ atI (nts ws) 0 = some (.int (w0 : Int)) ∧ atI (nts ws) 1 = some (.int (w1 : Int)) := by
      match ws, lws with
      | x :: y :: r, _ => exact ⟨x, y, hwl x (by simp), hwl y (by simp), atI_nat (j := 0) rfl, atI_nat (j := 1) rfl⟩
      | [x], h => exfalso; simp at h; omega
      | [], h => exfalso; simp at h; omega
    refine ⟨_, rfl, n.o, _, rfl, gK.2, _, _, rfl, rfl, _, rfl, n.o, _, rfl, DPut.k (k := .inr "size") eo (by show 2 < sizeLine; decide), ?_⟩
    have P5 : NdP C (zW b NL KL (ns.map Nd.adr) i) (upd H4 n.o (.dK (putK [((.inr "names" : Key), V.ref n.d), (.inr "size", .int (n.gs.length : Nat))] (.inr "size") (.int ((n.gs.length : Nat) + 1))))) n n.gs (.dK [(.inr "names", .ref n.d), (.inr "size", .int ((n.gs.length : Nat) + 1))]) := D4.pre.put
    have k45 : KeepS n.adr H4 (upd H4 n.o (.dK (putK [((.inr "names" : Key), V.ref n.d), (.inr "size", .int (n.gs.length : Nat))] (.inr "size") (.int ((n.gs.length : Nat) + 1))))) := .upd (by simp [Nd.adr])
    have oV : V1 ≠ n.o := fun z => nVa (by simp [Nd.adr, z])
    have e5 : (upd H4 n.o (.dK (putK [((.inr "names" : Key), V.ref n.d), (.inr "size", .int (n.gs.length : Nat))] (.inr "size") (.int ((n.gs.length : Nat) + 1))))) V1 = some (.lst (nts ws)) := (upd_ne oV).trans e4
    generalize upd H4 n.o (.dK (putK [((.inr "names" : Key), V.ref n.d), (.inr "size", .int (n.gs.length : Nat))] (.inr "size") (.int ((n.gs.length : Nat) + 1)))) = H5 at *
    obtain ⟨_, _, _, dx5, _, _, f5, _⟩ := id P5.1
    refine ⟨_, rfl, n.p.x, dx5, _, rfl, f5, rfl, _, rfl, V1, _, _, _, rfl, rfl, SqL.of e5, a0, _, rfl, V1, _, _, _, rfl, rfl, SqL.of e5, a1, _, n.p, n.m, n.gs, n.nm, w0, w1, rfl, P5.1, hw0, hw1, by omega, fun H6 k6 N6 => ?_⟩
    refine ⟨_, rfl, rfl, ?_⟩
    rw [decide_eq_true rfl]
    have P6 := P5.laid k6 N6
    have k56 : KeepS n.adr H5 H6 := k6.mono (fun y hy => by
      simp only [List.mem_cons, List.not_mem_nil, or_false] at hy
      rcases hy with w | w <;> simp [Nd.adr, w])
    have k46 := k45.trans k56
    have eR : keptR { n with gs := n.gs ++ [.w "unlike" [w0, w1]] } = .dK [(.inr "names", .ref n.d), (.inr "size", .int ((n.gs.length : Nat) + 1))] := by
      unfold keptR
      rw [List.length_append]
      rfl
    have A6 : NdAt C (zW b NL KL (ns.map Nd.adr) i) H6 { n with gs := n.gs ++ [.w "unlike" [w0, w1]] } := NdP.fin (by rw [eR]; exact P6)
    have W6 := W4.step hi (n' := { n with gs := n.gs ++ [.w "unlike" [w0, w1]] }) rfl k46 (fun y hy => .inl hy) A6 (ok.grow (.unlike hw0 hw1) (by decide)) (Nat.le_succ _)
    refine q _ H6 W6 (by simp) (by simp) ((B4.keepS k46 (D4.nin b (by simp [zW]))).mono (by omega)) (k0A.trans (toAll (fun y hy => hy) k46)) (fun n' hn' y hy => .inl ?_)
    rcases List.mem_or_eq_of_mem_set hn' with w | w
    · exact List.mem_flatten.mpr ⟨_, List.mem_map.mpr ⟨n', w, rfl⟩, hy⟩
    · rw [w] at hy
      exact List.mem_flatten.mpr ⟨_, adrIn, hy⟩
  dsimp only [tNext]
  obtain ⟨N4, _, _, oA4⟩ := id A4
  have W3 := hW.box (kS2.trans kS3)
  have A3 := (W3.2.2.2 i n hi).1
  have kk4 : KeepS [b, n.p.lm, n.p.ld] H3 H4 := .ofKeep k34 (by simp) B4.some
  refine ⟨_, rfl, b, _, _, rfl, B4, by decide, by decide, by decide, by omega, by decide, fun r5 H5 u5 v5 B5 k45 => ?_⟩
  replace B5 := bx1 B5
  obtain ⟨sort, rfl⟩ : ∃ sort : Nat, r5 = (sort : Int) := ⟨r5.toNat, by omega⟩
  have N5 := N4.keepB k45 B5.some (by simp [zW])
  have e5 := k45 _ _ e4 nVb
  have kk5 := kk4.trans (.ofKeep k45 (by simp) B5.some)
  obtain ⟨_, _, _, dx5, _, _, f5, _⟩ := id N5
  have lsub : ∀ y ∈ [n.p.lm, n.p.ld], y ∈ [n.p.x, n.p.lm, n.p.ld, n.p.dn] := fun y hy => by
    simp only [List.mem_cons, List.not_mem_nil, or_false] at hy ⊢
    rcases hy with w | w <;> simp [w]
  refine ⟨_, rfl, n.p.x, dx5, _, rfl, f5, rfl, _, n.p, n.m, n.gs, n.nm, rfl, N5, by omega, by omega, by omega, fun p2 H6 s56 ⟨nn1, nn2, nn3, nn4⟩ Z2f => ?_⟩
  have NL6 := Z2f [n.p.lm, n.p.ld, V1] (memL ⟨(N5.four n.p.lm (by simp)).1, .inr (by simp)⟩ (memL ⟨(N5.four n.p.ld (by simp)).1, .inr (by simp)⟩ (memL ⟨some_ne e5, .inl (by simp)⟩ (fun y z => nomatch z))))
  refine ⟨_, rfl, V1, _, rfl, .inl (SqL.of (s56 _ _ e5)), fun V2 nV2 => ?_⟩
  have s67 := same_upd (o := .lst (nts ws)) nV2
  have eV27 : (upd H6 V2 (.lst (nts ws))) V2 = some (.lst (nts ws)) := upd_same
  have s57 := s56.trans s67
  have n5V2 := back s56 nV2
  generalize upd H6 V2 (.lst (nts ws)) = H7 at *
  refine ⟨_, _, _, rfl, ?_⟩
  try simp only [L2.start, List.map_cons, List.map_nil, List.length_cons, List.length_nil, List.replicate_succ, List.replicate_zero, List.cons_append, List.nil_append, List.set_cons_succ, List.set_cons_zero, Nat.reduceAdd, Nat.reduceSub, Nat.zero_add]
  have NL7 : NetAt C [n.p.lm, n.p.ld, V1, V2] H7 p2 n.m n.gs n.nm := NL6.more (S := []) (Y := [V2]) (.ofSame s67) (fun _ z => nomatch z) (fun y hy => by rw [List.mem_singleton.mp hy]; exact ⟨nV2, some_ne eV27⟩) (fun z hz => by
    simp only [List.mem_cons, List.not_mem_nil, or_false] at hz ⊢
    rcases hz with w | w | w | w <;> simp [w])
  have f27 := NL7.four
  have N7 : NetAt C ([p2.x, p2.lm, p2.ld, p2.dn, V2] ++ (n.o :: n.d :: V1 :: zW b NL KL (ns.map Nd.adr) i)) H7 n.p n.m n.gs n.nm := N5.more (S := []) (Y := [p2.x, p2.lm, p2.ld, p2.dn, V2]) (.ofSame s57) (fun _ z => nomatch z) (memL ⟨nn1, (f27 _ (by simp)).1⟩ (memL ⟨nn2, (f27 _ (by simp)).1⟩ (memL ⟨nn3, (f27 _ (by simp)).1⟩ (memL ⟨nn4, (f27 _ (by simp)).1⟩ (memL ⟨n5V2, some_ne eV27⟩ (fun y z => nomatch z)))))) (fun z hz => (List.mem_append.mp hz).elim .inr .inl)
  have e7 := s57 _ _ e5
  have nTV : V1 ∉ [n.p.lm, n.p.ld] := fun z => nVa (by
    simp only [List.mem_cons, List.not_mem_nil, or_false] at z
    rcases z with w | w <;> simp [Nd.adr, w])
  have kk7 := kk5.trans (.ofSame s57)
  refine ⟨_, rfl, _, rfl, _, rfl, _, n.p, n.m, n.gs, n.nm, sort, V1, false, ws, rfl, N7, SqL.of e7, nTV, by omega, by omega, hwl, by omega, by omega, fun t1 H8 k78 N8 dp1 => ?_⟩
  have X1 := part_ext (sort := sort) (by omega) (by omega) hwl
  have NL8 := NL7.keep k78 (fun y hy => by
    simp only [List.mem_cons, List.not_mem_nil, or_false] at hy ⊢
    rcases hy with w | w <;> simp [w])
  have sdP := sd_part (m := n.m) (sort := sort) (gs := n.gs) (ws := ws)
  have l1 := X1.len
  have kk8 : KeepS [b, n.p.lm, n.p.ld] H3 H8 := kk7.trans (k78.mono (fun y hy => by
    simp only [List.mem_cons, List.not_mem_nil, or_false] at hy ⊢
    rcases hy with w | w <;> simp [w]))
  have e8 := k78.1 _ _ e7 nTV
  have nV2l : V2 ∉ [n.p.lm, n.p.ld] := fun z => (N5.four V2 (lsub _ z)).1 n5V2
  have eV28 := k78.1 _ _ eV27 nV2l
  refine gset_if2 ?_
  try simp only [L2.start, List.map_cons, List.map_nil, List.length_cons, List.length_nil, List.replicate_succ, List.replicate_zero, List.cons_append, List.nil_append, List.set_cons_succ, List.set_cons_zero, Nat.reduceAdd, Nat.reduceSub, Nat.zero_add]
  generalize hP : partF n.m n.gs sort ws = P1 at *
  -- the twin's part
  refine ⟨_, rfl, _, rfl, _, rfl, V2, _, rfl, .inl ⟨SqL.of eV28, fun T9 nT9 => ?_⟩⟩
  have s89 := same_upd (o := .tup (nts ws)) nT9
  have eT9 : (upd H8 T9 (.tup (nts ws))) T9 = some (.tup (nts ws)) := upd_same
  have nT9l := NL8.nin nT9
  have NL9 := NL8.same s89
  have N9 := N8.same s89
  have e9 := s89 _ _ e8
  have eV29 := s89 _ _ eV28
  have kk9 := kk8.trans (.ofSame s89)
  have dp1' : ∀ G, KeepS [p2.lm, p2.ld] (upd H8 T9 (.tup (nts ws))) G → Dp K G t1 P1.2 := fun G k => dp1 [p2.lm, p2.ld] G (fun y hy => by
    have hy' : y ∈ [p2.x, p2.lm, p2.ld, p2.dn] := by
      simp only [List.mem_cons, List.not_mem_nil, or_false] at hy ⊢
      rcases hy with w | w <;> simp [w]
    exact ⟨(f27 y hy').1, (NL8.four y hy').2⟩) ((KeepS.ofSame s89).trans k)
  generalize upd H8 T9 (.tup (nts ws)) = H9 at *
  refine ⟨_, p2, n.m, n.gs, n.nm, sort, T9, true, ws, rfl, NL9, .inl (.inl eT9), nT9l, by omega, by omega, hwl, by omega, by omega, fun t2 H10 k910 NL10 dp2 => ?_⟩
  rw [hP] at NL10 dp2
  have l2s : ∀ y ∈ [p2.lm, p2.ld], y ∈ [p2.x, p2.lm, p2.ld, p2.dn, V2] ++ (n.o :: n.d :: V1 :: zW b NL KL (ns.map Nd.adr) i) := fun y hy => by
    simp only [List.mem_cons, List.not_mem_nil, or_false] at hy
    rcases hy with w | w <;> simp [w]
  have N10 := N9.keep k910 l2s
  have n2V : V1 ∉ [p2.lm, p2.ld] ∧ V2 ∉ [p2.lm, p2.ld] := by
    obtain ⟨_, _, ⟨_, c2, c3, _⟩, _⟩ := NL7
    constructor <;> intro z <;> simp only [List.mem_cons, List.not_mem_nil, or_false] at z <;> rcases z with w | w
    · exact c2 (by simp [← w])
    · exact c3 (by simp [← w])
    · exact c2 (by simp [← w])
    · exact c3 (by simp [← w])
  have eA := k910.1 _ _ e9 n2V.1
  have eVA := k910.1 _ _ eV29 n2V.2
  have n3 : ∀ y ∈ [p2.x, p2.lm, p2.ld, p2.dn], H3 y = none := by
    have : ∀ {y : Addr}, H5 y = none → H3 y = none := fun h => ks_none kk5 h
    exact memL (this nn1) (memL (this nn2) (memL (this nn3) (memL (this nn4) (fun y z => nomatch z))))
  have kkA : KeepS [b, n.p.lm, n.p.ld] H3 H10 := kk9.ext k910 (fun y hy => .inr (n3 y (by
    simp only [List.mem_cons, List.not_mem_nil, or_false] at hy ⊢
    rcases hy with w | w <;> simp [w])))
  refine ⟨_, rfl, P1.2, P1.2, dp2.at, dp1' _ k910, sdP.sh (by decide), sdP.sh (by decide), ?_⟩
  rw [sdP.self]
  refine ⟨_, rfl, iteF ?_⟩
  obtain ⟨_, _, _, dxA, _, _, fA, _⟩ := id NL10
  have gokP := X1.2 gok
  refine ⟨_, rfl, p2.x, dxA, _, rfl, fA, rfl, _, p2, n.m, P1.1, n.nm, rfl, NL10, fun g1 ps1 ng1 lp1 hp1 => ?_⟩
  have q1 := same_upd (o := .lst (ps1.map V.ref)) ng1
  have eg1 : (upd H10 g1 (.lst (ps1.map V.ref))) g1 = some (.lst (ps1.map V.ref)) := upd_same
  have NB := N10.same q1
  obtain ⟨_, _, _, dxB, _, _, fB, _⟩ := id NB
  refine ⟨_, rfl, n.p.x, dxB, _, rfl, fB, rfl, _, n.p, n.m, P1.1, n.nm, rfl, NB, fun g2 ps2 ng2 lp2 hp2 => ?_⟩
  have q2 := same_upd (o := .lst (ps2.map V.ref)) ng2
  have q12 := q1.trans q2
  have sdR := sd_rows gokP
  refine ⟨_, _, .lst (SqL.of (q2 _ _ eg1)) (dpa_rows ps1 P1.1 lp1 fun i t g h1 h2 => q12 _ _ (hp1 i t g h1 h2)), .lst (SqL.of upd_same) (dpa_rows ps2 P1.1 lp2 fun i t g h1 h2 => q2 _ _ (hp2 i t g h1 h2)), sdR.sh (by decide), sdR.sh (by decide), ?_⟩
  rw [sdR.self]
  refine ⟨_, rfl, iteF ?_⟩
  have eC := q12 _ _ eA
  have eVC := q12 _ _ eVA
  have NC := N10.same q12
  have kkC := kkA.trans (.ofSame q12)
  generalize upd (upd H10 g1 (.lst (ps1.map V.ref))) g2 (.lst (ps2.map V.ref)) = HC at *
  refine ⟨_, rfl, _, rfl, _, _, .lst (SqL.of eC) (dpa_nts ws), .lst (SqL.of eVC) (dpa_nts ws), (sd_ints ws).sh (by decide), (sd_ints ws).sh (by decide), ?_⟩
  rw [(sd_ints ws).self]
  refine ⟨_, rfl, iteF ?_⟩
  dsimp only [tNext]
  have nbl : b ∉ [n.p.lm, n.p.ld] := fun z => by
    obtain ⟨_, _, ⟨_, c2, c3, _⟩, _⟩ := N5
    simp only [List.mem_cons, List.not_mem_nil, or_false] at z
    rcases z with w | w
    · exact c2 (by simp [zW, ← w])
    · exact c3 (by simp [zW, ← w])
  have nb2 : b ∉ [p2.lm, p2.ld] := fun z => B3.some (n3 b (by
    simp only [List.mem_cons, List.not_mem_nil, or_false] at z ⊢
    rcases z with w | w <;> simp [w]))
  have BC := ((((B5.same s57).keepS k78 nbl).same s89).keepS k910 nb2).same q12
  clear B5
  refine ⟨_, rfl, _, rfl, b, _, _, rfl, BC, by omega, by omega, by omega, by omega, by decide, fun r6 HD u6 v6 BD kCD => ?_⟩
  replace BD := bx1 BD
  obtain ⟨a6, rfl⟩ : ∃ a6 : Nat, r6 = (a6 : Int) := ⟨r6.toNat, by omega⟩
  have ND := NC.keepB kCD BD.some (by simp [zW])
  have eD := kCD _ _ eC nVb
  have kkD := kkC.trans (.ofKeep kCD (by simp) BD.some)
  obtain ⟨_, _, _, dxD, _, _, fD, _⟩ := id ND
  refine ⟨_, rfl, n.p.x, dxD, _, rfl, fD, rfl, _, n.p, n.m, P1.1, n.nm, rfl, ND, by omega, by omega, by omega, fun p3 HE sDE ⟨mm1, mm2, mm3, mm4⟩ Z3f => ?_⟩
  have N3E := Z3f [n.p.lm, n.p.ld, n.o, V1] (memL ⟨(ND.four n.p.lm (by simp)).1, .inr (by simp)⟩ (memL ⟨(ND.four n.p.ld (by simp)).1, .inr (by simp)⟩ (memL ⟨ND.1 n.o (by simp), .inl (by simp)⟩ (memL ⟨some_ne eD, .inl (by simp)⟩ (fun y z => nomatch z)))))
  refine ⟨(by show 2 ≤ sizeLine; decide), fun T nT => ?_⟩
  have sT := same_upd (o := .tup [.int (a6 : Int), .ref p3.x]) nT
  have eTF : (upd HE T (.tup [.int (a6 : Int), .ref p3.x])) T = some (.tup [.int (a6 : Int), .ref p3.x]) := upd_same
  have sDF := sDE.trans sT
  have N3F := N3E.same sT
  have eF := sDF _ _ eD
  generalize upd HE T (.tup [.int (a6 : Int), .ref p3.x]) = HF at *
  have ws0 : (nts ws).set 0 (V.int (a6 : Int)) = nts (ws.set 0 a6) := by
    unfold nts
    rw [List.map_set]
  refine ⟨T, _, rfl, .inl (.inl eTF), rfl, _, _, rfl, _, rfl, V1, _, 0, 0, rfl, rfl, eF, ix0 (by rw [nts_len]; omega), _, _, rfl, rfl, ?_⟩
  rw [ws0]
  have lw' : (ws.set 0 a6).length = lw := by rw [List.length_set]; exact lws
  have hwl' : ∀ w ∈ ws.set 0 a6, w < n.m + P1.1.length := fun w hw => by
    rcases List.mem_or_eq_of_mem_set hw with x | x
    · have := hwl w x; omega
    · omega
  generalize ws.set 0 a6 = wt at *
  have n3F := N3F.four
  have p3n : ∀ y ∈ [p3.x, p3.lm, p3.ld, p3.dn], HD y = none := memL mm1 (memL mm2 (memL mm3 (memL mm4 (fun y z => nomatch z))))
  have p3n3 : ∀ y ∈ [p3.x, p3.lm, p3.ld, p3.dn], H3 y = none := fun y hy => ks_none kkD (p3n y hy)
  have V3 : V1 ∉ [p3.x, p3.lm, p3.ld, p3.dn] := fun z => by
    rw [p3n V1 z] at eD
    cases eD
  have NF : NetAt C ([p3.x, p3.lm, p3.ld, p3.dn] ++ (n.o :: n.d :: V1 :: zW b NL KL (ns.map Nd.adr) i)) HF n.p n.m P1.1 n.nm := ND.more (S := []) (Y := [p3.x, p3.lm, p3.ld, p3.dn]) (.ofSame sDF) (fun _ z => nomatch z) (fun y hy => ⟨p3n y hy, (n3F y hy).1⟩) (fun z hz => (List.mem_append.mp hz).elim .inr (fun w => .inl (List.mem_append_right _ w)))
  have NG := NF.put (o := .lst (nts wt)) (D := V1) (by simp)
  have N3G := N3F.put (o := .lst (nts wt)) (D := V1) (by simp)
  have eG : (upd HF V1 (.lst (nts wt))) V1 = some (.lst (nts wt)) := upd_same
  have BG : BoxAt (c + 5 + lw + 1 + 1) (upd HF V1 (.lst (nts wt))) b := (BD.same sDF).at (upd_ne nVb.symm)
  have kkG : KeepS [b, n.p.lm, n.p.ld] H3 (upd HF V1 (.lst (nts wt))) := ks_updN (kkD.trans (.ofSame sDF)) nV
  generalize upd HF V1 (.lst (nts wt)) = HG at *
  try simp only [L2.start, List.map_cons, List.map_nil, List.length_cons, List.length_nil, List.replicate_succ, List.replicate_zero, List.cons_append, List.nil_append, List.set_cons_succ, List.set_cons_zero, Nat.reduceAdd, Nat.reduceSub, Nat.zero_add]
  refine ⟨_, rfl, _, rfl, _, rfl, _, n.p, n.m, P1.1, n.nm, sort, V1, false, wt, rfl, NG, SqL.of eG, nTV, by omega, by omega, hwl', by omega, by omega, fun t3 HH k3H NH dp3 => ?_⟩
  have X2 := part_ext (sort := sort) (by omega) (by omega) hwl'
  have sdP2 := sd_part (m := n.m) (sort := sort) (gs := P1.1) (ws := wt)
  have l2' := X2.len
  have N3H := N3G.keep k3H (fun y hy => by
    simp only [List.mem_cons, List.not_mem_nil, or_false] at hy ⊢
    rcases hy with w | w <;> simp [w])
  have f3G := N3G.four
  have eH := k3H.1 _ _ eG nTV
  have kkH : KeepS [b, n.p.lm, n.p.ld] H3 HH := kkG.trans (k3H.mono (fun y hy => by
    simp only [List.mem_cons, List.not_mem_nil, or_false] at hy ⊢
    rcases hy with w | w <;> simp [w]))
  have BH := BG.keepS k3H nbl
  generalize hP2 : partF n.m P1.1 sort wt = P2 at *
  dsimp only [gName]
  try simp only [L2.start, List.map_cons, List.map_nil, List.length_cons, List.length_nil, List.replicate_succ, List.replicate_zero, List.cons_append, List.nil_append, List.set_cons_succ, List.set_cons_zero, Nat.reduceAdd, Nat.reduceSub, Nat.zero_add]
  obtain ⟨_, _, _, dxH, _, _, fH, _⟩ := id NH
  have noS : n.o ∉ [b, n.p.lm, n.p.ld] := fun z => by
    obtain ⟨⟨_, _, ⟨_, c2, c3, _⟩, _⟩, _, _, nz⟩ := A3
    simp only [List.mem_cons, List.not_mem_nil, or_false] at z
    rcases z with w | w | w
    · exact nz (by simp [zW, w])
    · exact c2 (by simp [w])
    · exact c3 (by simp [w])
  have eoH : HH n.o = some (keptR n) := kkH.1 _ _ A3.2.1 noS
  refine ⟨_, rfl, n.p.x, dxH, _, rfl, fH, _, n.p, n.m, P2.1, n.nm, rfl, NH, _, rfl, by omega, by omega, _, rfl, n.o, _, rfl, DPut.k (k := .inr "size") eoH (by show 2 < sizeLine; decide), ?_⟩
  have eoI : (upd HH n.o (.dK (putK [((.inr "names" : Key), V.ref n.d), (.inr "size", .int (n.gs.length : Nat))] (.inr "size") (.int (P2.1.length : Nat))))) n.o = some (keptR { n with gs := P2.1 }) := by
    rw [upd_same]
    rfl
  have NI : NetAt C ([p3.x, p3.lm, p3.ld, p3.dn] ++ (n.o :: n.d :: V1 :: zW b NL KL (ns.map Nd.adr) i)) (upd HH n.o (.dK (putK [((.inr "names" : Key), V.ref n.d), (.inr "size", .int (n.gs.length : Nat))] (.inr "size") (.int (P2.1.length : Nat))))) n.p n.m P2.1 n.nm := NH.put (by simp)
  have N3I : NetAt C [n.p.lm, n.p.ld, n.o, V1] (upd HH n.o (.dK (putK [((.inr "names" : Key), V.ref n.d), (.inr "size", .int (n.gs.length : Nat))] (.inr "size") (.int (P2.1.length : Nat))))) p3 n.m P1.1 n.nm := N3H.put (by simp)
  have Vo : V1 ≠ n.o := fun z => nVa (by rw [z]; simp [Nd.adr])
  have eI : (upd HH n.o (.dK (putK [((.inr "names" : Key), V.ref n.d), (.inr "size", .int (n.gs.length : Nat))] (.inr "size") (.int (P2.1.length : Nat))))) V1 = some (.lst (nts wt)) := (upd_ne Vo).trans eH
  have kHI : KeepS [n.o] HH (upd HH n.o (.dK (putK [((.inr "names" : Key), V.ref n.d), (.inr "size", .int (n.gs.length : Nat))] (.inr "size") (.int (P2.1.length : Nat))))) := .upd (by simp)
  generalize upd HH n.o (.dK (putK [((.inr "names" : Key), V.ref n.d), (.inr "size", .int (n.gs.length : Nat))] (.inr "size") (.int (P2.1.length : Nat)))) = HI at *
  have kkI : KeepS [b, n.o, n.p.lm, n.p.ld] H3 HI := (kkH.mono (fun y hy => by
    simp only [List.mem_cons, List.not_mem_nil, or_false] at hy ⊢
    rcases hy with w | w | w <;> simp [w])).trans (kHI.mono (fun y hy => by rw [List.mem_singleton.mp hy]; simp))
  have ob : b ∉ [n.o] := fun z => noS (by rw [← List.mem_singleton.mp z]; simp)
  have BI := BH.keepS kHI ob
  dsimp only
  refine ⟨_, rfl, _, rfl, _, rfl, V1, _, rfl, .inl ⟨SqL.of eI, fun T5 nT5 => ?_⟩⟩
  have sIJ := same_upd (o := .tup (nts wt)) nT5
  have eT5 : (upd HI T5 (.tup (nts wt))) T5 = some (.tup (nts wt)) := upd_same
  have nT5l := N3I.nin nT5
  have NJ := NI.same sIJ
  have N3J := N3I.same sIJ
  have BJ := BI.same sIJ
  have kkJ := kkI.trans (.ofSame sIJ)
  have eoJ := sIJ _ _ eoI
  have dp3' : ∀ G, KeepS [p3.lm, p3.ld] (upd HI T5 (.tup (nts wt))) G → Dp K G t3 P2.2 := fun G k => dp3 [n.o, p3.lm, p3.ld] G (memL ⟨N3G.1 n.o (by simp), fun xs w => by rw [eoH] at w; cases w⟩ (memL ⟨(f3G p3.lm (by simp)).1, (N3H.four p3.lm (by simp)).2⟩ (memL ⟨(f3G p3.ld (by simp)).1, (N3H.four p3.ld (by simp)).2⟩ (fun y z => nomatch z)))) (((kHI.trans (.ofSame sIJ)).mono (fun y hy => by rw [List.mem_singleton.mp hy]; simp)).trans (k.mono (fun y hy => by
    simp only [List.mem_cons, List.not_mem_nil, or_false] at hy ⊢
    rcases hy with w | w <;> simp [w])))
  generalize upd HI T5 (.tup (nts wt)) = HJ at *
  refine ⟨_, p3, n.m, P1.1, n.nm, sort, T5, true, wt, rfl, N3J, .inl (.inl eT5), nT5l, by omega, by omega, hwl', by omega, by omega, fun t4 HK kJK N3K dp4 => ?_⟩
  rw [hP2] at N3K dp4
  have NK := NJ.keep kJK (fun y hy => by
    simp only [List.mem_cons, List.not_mem_nil, or_false] at hy
    rcases hy with w | w <;> simp [w])
  have kkK : KeepS [b, n.o, n.p.lm, n.p.ld] H3 HK := kkJ.ext kJK (fun y hy => .inr (p3n3 y (by
    simp only [List.mem_cons, List.not_mem_nil, or_false] at hy ⊢
    rcases hy with w | w <;> simp [w])))
  have n3s : ∀ {y : Addr}, H3 y ≠ none → y ∉ [p3.lm, p3.ld] := fun h z => h (p3n3 _ (by
    simp only [List.mem_cons, List.not_mem_nil, or_false] at z ⊢
    rcases z with w | w <;> simp [w]))
  have eoK := kJK.1 _ _ eoJ (n3s (some_ne A3.2.1))
  have BK := BJ.keepS kJK (n3s B3.some)
  refine ⟨_, rfl, P2.2, P2.2, dp4.at, dp3' _ kJK, sdP2.sh (by decide), sdP2.sh (by decide), ?_⟩
  rw [sdP2.self]
  refine ⟨_, rfl, iteT ?_⟩
  obtain ⟨_, _, _, dxK, _, _, fK, _⟩ := id N3K
  have gokP2 := X2.2 gokP
  refine ⟨_, rfl, p3.x, dxK, _, rfl, fK, rfl, _, p3, n.m, P2.1, n.nm, rfl, N3K, fun g3 ps3 ng3 lp3 hp3 => ?_⟩
  have q3 := same_upd (o := .lst (ps3.map V.ref)) ng3
  have eg3 : (upd HK g3 (.lst (ps3.map V.ref))) g3 = some (.lst (ps3.map V.ref)) := upd_same
  have NM := NK.same q3
  obtain ⟨_, _, _, dxM, _, _, fM, _⟩ := id NM
  refine ⟨_, rfl, n.p.x, dxM, _, rfl, fM, rfl, _, n.p, n.m, P2.1, n.nm, rfl, NM, fun g4 ps4 ng4 lp4 hp4 => ?_⟩
  have q4 := same_upd (o := .lst (ps4.map V.ref)) ng4
  have q34 := q3.trans q4
  have sdR2 := sd_rows gokP2
  refine ⟨_, _, .lst (SqL.of (q4 _ _ eg3)) (dpa_rows ps3 P2.1 lp3 fun i t g h1 h2 => q34 _ _ (hp3 i t g h1 h2)), .lst (SqL.of upd_same) (dpa_rows ps4 P2.1 lp4 fun i t g h1 h2 => q4 _ _ (hp4 i t g h1 h2)), sdR2.sh (by decide), sdR2.sh (by decide), ?_⟩
  rw [sdR2.self]
  have kkZ := kkK.trans (.ofSame q34)
  have NZ := (NK.same q34).sub (Z' := n.o :: n.d :: zW b NL KL (ns.map Nd.adr) i) (fun z hz => List.mem_append_right _ (by
    simp only [List.mem_cons] at hz ⊢
    rcases hz with w | w | w
    · exact .inl w
    · exact .inr (.inl w)
    · exact .inr (.inr (.inr w))))
  have DZ := A3.2.2.1.keep kkZ (fun y hy => by
    simp only [List.mem_cons, List.not_mem_nil, or_false] at hy
    rcases hy with w | w | w | w <;> simp [zW, w])
  have XX : Ext n.m n.gs P2.1 4000 := (X1.trans X2).mono (by decide)
  have kS : ∀ y ∈ [b, n.o, n.p.lm, n.p.ld], y ∈ n.adr ∨ y = b := fun y hy => by
    simp only [List.mem_cons, List.not_mem_nil, or_false] at hy
    rcases hy with w | w | w | w
    · exact .inr w
    · exact .inl (by simp [Nd.adr, w])
    · exact .inl (by simp [Nd.adr, w])
    · exact .inl (by simp [Nd.adr, w])
  have WF := W3.step hi (n' := { n with gs := P2.1 }) rfl kkZ kS (hn := ⟨NZ, q34 _ _ eoK, DZ, A3.2.2.2⟩) (ok.grow XX (by decide)) (Nat.le_succ _)
  refine q _ _ WF (by simp) (by simp) ((BK.same q34).mono (by omega)) (((kS2.trans kS3).mono (fun y hy => by rw [List.mem_singleton.mp hy]; simp)).trans (kkZ.mono (fun y hy => ?_))) (fun n' hn' y hy => .inl ?_)
  · rcases kS y hy with w | w
    · exact List.mem_cons_of_mem _ (List.mem_cons_of_mem _ (List.mem_cons_of_mem _ (List.mem_flatten.mpr ⟨_, adrIn, w⟩)))
    · simp [w]
  · rcases List.mem_or_eq_of_mem_set hn' with w | w
    · exact List.mem_flatten.mpr ⟨_, List.mem_map.mpr ⟨n', w, rfl⟩, hy⟩
    · rw [w] at hy
      exact List.mem_flatten.mpr ⟨_, adrIn, hy⟩
end
section
variable {P : Program} {w : World} {K : PySem.W.Frag} {mg : Str → Option Value} {base : Heap}
variable {C : Addr} {a1 a2 a3 a4 a5 a6 a7 a8 a9 a10 a11 a12 a13 a14 a15 a16 a17 a18 a19 a20 a21 a22 a23 a24 a25 a26 a27 a28 a29 a30 a31 a32 a33 a34 : Addr} {l1 l2 l3 l4 l5 l6 l7 l8 l9 l10 l11 l12 l13 l14 l15 l16 l17 l18 l19 l20 l21 l22 l23 l24 l25 l26 l27 l28 l29 l30 l31 l32 l33 l34 : FuncData}
def spLaw (K : PySem.W.Frag) : Sp := fun vs H Q _ => ∃ (a : Addr) (ns : List Int), vs = [.ref a] ∧ SqL K H a (ns.map V.int) ∧ ns.length ≤ 63 ∧ ∀ H', Q (.bl true) H'
theorem ok_law {f : Addr} {fd : FuncData} (F : Fun K "law" "law" s_law f fd) (B : Bl mg) (L : LL K mg C a1 a2 a3 a4 a5 a6 a7 a8 a9 a10 a11 a12 a13 a14 a15 a16 a17 a18 a19 a20 a21 a22 a23 a24 a25 a26 a27 a28 a29 a30 a31 a32 a33 a34 l1 l2 l3 l4 l5 l6 l7 l8 l9 l10 l11 l12 l13 l14 l15 l16 l17 l18 l19 l20 l21 l22 l23 l24 l25 l26 l27 l28 l29 l30 l31 l32 l33 l34) : FnOk P w K mg base CX0 14 f fd ["_law_script"] (spLaw K) := by
  have G__law_box : FnOk P w K mg base CX0 13 a13 l13 ["_law_script", "_law_k"] (spBox K) := ok_box L.F__law_box B
  have G_Net___init__ : FnOk P w K mg base CX0 12 a19 l19 ["self", "many"] (spNetI C) := (ok_Net___init__ B L).mono (by decide)
  have G__law_take : FnOk P w K mg base CX0 13 a14 l14 ["_law_box_here", "_law_size"] (spTake 1) := (ok_take L.F__law_take L.b__law_take L.m__law_take B 1).mono (by decide)
  have G__law_deed_right : FnOk P w K mg base CX0 13 a17 l17 ["_law_box_here", "_law_nets", "_law_kept"] (spDeed C) := (ok__law_deed_right B L).mono (by decide)
  have G__law_stands : FnOk P w K mg base CX0 13 a18 l18 ["_law_net", "_law_own"] (spSta C) := (ok__law_stands B L).mono (by decide)
  refine F.ok sc_law (fun vs H Q E h => ?_) (fun cdv A outer s H vs Q E hr h => ?_)
  · obtain ⟨a, ns, rfl, _⟩ := h
    rfl
  obtain ⟨a, ns, rfl, hS, h63, q⟩ := h
  refine ⟨_, (pss_cons (ps_for PassesOwn.never rfl (pi_range1 (by rfl) B.range (pa_cons (pe_op op_add pe_int (pe_callB (call_min2 rfl) (by rfl) B.min boot_min (pa_cons pe_int (pa_cons (pe_callB call_len_seq (by rfl) B.len PySem.boot_len (pa_cons (pv 0) pa_nil)) pa_nil)))) pa_nil)) (pg_name (i := 1) sc_law.nd rfl (.inl rfl)) (pss_cons (ps_set (i := 2) sc_law.nd rfl (.inl rfl) (pe_call G__law_box hr (by rfl) L.m__law_box L.F__law_box.kp L.b__law_box .nil pass0 (pa_cons (pv 0) (pa_cons (pv 1) pa_nil))))
    (pss_cons (ps_par (by rfl) sc_law.nd (i := 3) (j := 4) rfl rfl (by decide) rfl rfl (pa_cons (pe_lst (pa_cons (pe_make L.M G_Net___init__ hr (by rfl) L.T.mgC L.b_Net___init__ .nil pass0 (pa_cons (pe_op op_add pe_int (pe_call G__law_take hr (by rfl) L.m__law_take L.F__law_take.kp L.b__law_take .nil pass0 (pa_cons (pv 2) (pa_cons pe_int pa_nil)))) pa_nil)) pa_nil)) (pa_cons (pe_lst (pa_cons (pe_disp (pps_cons pe_str pe_dnewK (pps_cons pe_str pe_int pps_nil)) rfl rfl (by decide) (by decide)) pa_nil)) pa_nil)) (by rfl))
    (pss_one (ps_for PassesOwn.never rfl (pi_range1 (by rfl) B.range (pa_cons pe_int pa_nil)) (pg_name (i := 5) sc_law.nd rfl (.inl rfl)) (pss_cons (ps_if (pt_not (pt_val (pe_call G__law_deed_right hr (by rfl) L.m__law_deed_right L.F__law_deed_right.kp L.b__law_deed_right .nil pass0 (pa_cons (pv 2) (pa_cons (pv 3) (pa_cons (pv 4) pa_nil)))))) (pss_one (ps_ret pe_bl)) pss_nil)
    (pss_one (ps_if (pt_not (pt_val (pe_callB (cr_all rfl) (by rfl) B.all boot_all (pa_cons (pe_lc (own := [("_law_net", 6), ("_law_own", 7)]) (g := gTup K 2 (gCons (gName 6) (gCons (gName 7) gNil))) (by rfl) sc_law.nd (pi_zb (by rfl) B.zip (pa_cons (pv 3) (pa_cons (pv 4) pa_nil))) (blkOk_by (own := [("_law_net", 6), ("_law_own", 7)]) (N := ["_law_script", "_law_k", "_law_box_here", "_law_nets", "_law_kept", "_law_turn", "_law_net", "_law_own"]) (sc := defScope s_law) (by decide +kernel)) (fun _ _ _ _ _ => pg_tup rfl (pgs_cons (pg_name (i := 6) sc_law.nd rfl (Or.inl rfl) (.inr rfl)) (pgs_cons (pg_name (i := 7) sc_law.nd rfl (Or.inl rfl) (.inr rfl)) pgs_nil))) (fun _ _ _ _ _ => pts_nil) (fun _ _ _ _ _ => (pe_call G__law_stands hr (by rfl) L.m__law_stands L.F__law_stands.kp L.b__law_stands .nil pass0 (pa_cons (pv 6) (pa_cons (pv 7) pa_nil))))) pa_nil)))) (pss_one (ps_ret pe_bl)) pss_nil))))))))
    (pss_one (ps_ret pe_bl))), ?_⟩
  refine ⟨_, rfl, a, _, rfl, .inl hS, _, _, rfl, ?_⟩
  obtain ⟨n, en, hn⟩ : ∃ n : Nat, 1 + (if (((ns.map V.int).length : Nat) : Int) < 2 then (((ns.map V.int).length : Nat) : Int) else (2 : Int)) = (n : Int) ∧ n ≤ 3 := by
    split
    · exact ⟨1 + (ns.map V.int).length, by omega, by omega⟩
    · exact ⟨3, by decide, by decide⟩
  refine ⟨_, _, rfl, rfl, (n : Int), congrArg (fun z => [V.int z]) en, by omega, by omega, ?_⟩
  rw [Int.toNat_natCast]
  refine for_range (n := n) (fun i σ H5 => ∃ (y1 y2 y3 y4 y5 y6 y7 : Option V), σ = [some (.ref a), y1, y2, y3, y4, y5, y6, y7] ∧ Same H H5) ⟨_, _, _, _, _, _, _, rfl, Same.refl _⟩ ?_ ?_
  · rintro i σ H5 hi ⟨y1, y2, y3, y4, y5, y6, y7, rfl, s5⟩
    dsimp only [gName]
    try simp only [L2.start, List.map_cons, List.map_nil, List.length_cons, List.length_nil, List.replicate_succ, List.replicate_zero, List.cons_append, List.nil_append, List.set_cons_succ, List.set_cons_zero, Nat.reduceAdd, Nat.reduceSub, Nat.zero_add]
    refine ⟨_, rfl, _, rfl, a, ns, _, rfl, s5.seq hS, by omega, by omega, fun b H6 nb s6 B6 => ?_⟩
    dsimp only [gName]
    try simp only [L2.start, List.map_cons, List.map_nil, List.length_cons, List.length_nil, List.replicate_succ, List.replicate_zero, List.cons_append, List.nil_append, List.set_cons_succ, List.set_cons_zero, Nat.reduceAdd, Nat.reduceSub, Nat.zero_add]
    refine ⟨_, rfl, b, _, _, rfl, B6, by decide, by decide, by decide, by omega, by decide, fun r1 H1 u1 v1 B1 k1 => ?_⟩
    replace B1 := bx1 B1
    obtain ⟨r, rfl⟩ : ∃ r : Nat, r1 = (r : Int) := ⟨r1.toNat, by omega⟩
    refine ⟨_, _, rfl, rfl, fun x dx nx ndx ne => ?_⟩
    obtain ⟨m, em, m4, m10⟩ : ∃ m : Nat, 4 + (r : Int) = (m : Int) ∧ 4 ≤ m ∧ m ≤ 10 := ⟨4 + r, by omega, by omega, by omega⟩
    refine ⟨x, dx, m, congrArg (fun z => [V.ref x, V.int z]) em, upd_same, by omega, fun p H7 px fr ⟨n1, n2, n3⟩ N0 => ⟨rfl, ?_⟩⟩
    have s7 : Same H1 H7 := made nx ndx ne fr
    subst px
    have bH1 : H1 b ≠ none := B1.some
    have N7 := N0 [b] (fun z hz => by
      have h := List.mem_singleton.mp hz
      have a0 : z ≠ p.x := fun y => bH1 (by rw [← h, y]; exact nx)
      have b0 : z ≠ dx := fun y => bH1 (by rw [← h, y]; exact ndx)
      exact ⟨a0, by rw [upd_ne a0, upd_ne b0, h]; exact bH1⟩)
    have up : ∀ {y : Addr}, (upd (upd H1 dx (.own p.x)) p.x (.ins C dx [])) y = none → H1 y = none := fun {y} e => by
      cases h : H1 y with
      | none => rfl
      | some o =>
        rw [upd_ne (ne_of_none h nx), upd_ne (ne_of_none h ndx), h] at e
        cases e
    have nn : ∀ y ∈ [p.x, p.lm, p.ld, p.dn], H1 y = none := memL nx (memL (up n1) (memL (up n2) (memL (up n3) (fun y z => nomatch z))))
    have bH5 : ∀ {y : Addr} {G : Hp}, Keep b H5 G → y ≠ b → G y = none → H5 y = none := fun {y G} k e h => by
      cases c : H5 y with
      | none => rfl
      | some o => rw [k _ _ c e] at h; cases h
    have k51 : Keep b H5 H1 := fun y o e ny => k1 _ _ (s6 _ _ e) ny
    have B7 := B1.same s7
    refine ⟨by show 1 ≤ sizeLine; decide, fun NL nNL => ?_⟩
    have s8 := same_upd (o := .lst [.ref p.x]) nNL
    have eNL8 : (upd H7 NL (.lst [.ref p.x])) NL = some (.lst [.ref p.x]) := upd_same
    generalize upd H7 NL (.lst [.ref p.x]) = H8 at *
    refine fun o no => ?_
    have s9 := same_upd (o := .dK []) no
    have eo9 : (upd H8 o (.dK [])) o = some (.dK []) := upd_same
    have eNL9 := s9 _ _ eNL8
    generalize upd H8 o (.dK []) = H9 at *
    refine fun d nd => ?_
    have s10 := same_upd (o := .dK []) nd
    have ed10 : (upd H9 d (.dK [])) d = some (.dK []) := upd_same
    have eo10 := s10 _ _ eo9
    have eNL10 := s10 _ _ eNL9
    have od : o ≠ d := ne_of_none eo9 nd
    generalize upd H9 d (.dK []) = H10 at *
    refine ⟨eo10, [(.inr "names", .ref d), (.inr "size", .int 0)], rfl, (by show 2 ≤ 15; decide), ?_⟩
    have eoK : (upd H10 o (.dK (mergeK [] [(.inr ("names" : Str), .ref d), (.inr "size", .int 0)]))) o = some (keptR ⟨p, o, d, m, [], []⟩) := by
      rw [upd_same]
      rfl
    have s811 : Same H8 (upd H10 o (.dK (mergeK [] [(.inr ("names" : Str), .ref d), (.inr "size", .int 0)]))) := fun y u e => by
      rw [upd_ne (ne_of_none e no)]
      exact s10 _ _ (s9 _ _ e)
    have edK : (upd H10 o (.dK (mergeK [] [(.inr ("names" : Str), .ref d), (.inr "size", .int 0)]))) d = some (.dK []) := (upd_ne od.symm).trans ed10
    generalize upd H10 o (.dK (mergeK [] [(.inr ("names" : Str), .ref d), (.inr "size", .int 0)])) = H11 at *
    refine ⟨by show 1 ≤ sizeLine; decide, fun KL nKL => ?_⟩
    have s12 := same_upd (o := .lst [.ref o]) nKL
    have eKLF : (upd H11 KL (.lst [.ref o])) KL = some (.lst [.ref o]) := upd_same
    have eNLF := s12 _ _ (s811 _ _ eNL8)
    have eoF := s12 _ _ eoK
    have edF := s12 _ _ edK
    have s7F : Same H7 (upd H11 KL (.lst [.ref o])) := (s8.trans s811).trans s12
    have nNK : NL ≠ KL := ne_of_none (s811 _ _ eNL8) nKL
    generalize upd H11 KL (.lst [.ref o]) = HF at *
    refine ⟨_, _, rfl, ?_⟩
    have n7 : H7 NL = none ∧ H7 o = none ∧ H7 d = none ∧ H7 KL = none := ⟨nNL, back s8 no, back (s8.trans s9) nd, back (s8.trans s811) nKL⟩
    have NF : NetAt C (o :: d :: [b, NL, KL]) HF p m [] [] := N7.more (S := []) (Y := [o, d, NL, KL]) (.ofSame s7F) (fun _ z => nomatch z) (memL ⟨n7.2.1, some_ne eoF⟩ (memL ⟨n7.2.2.1, some_ne edF⟩ (memL ⟨n7.1, some_ne eNLF⟩ (memL ⟨n7.2.2.2, some_ne eKLF⟩ (fun y z => nomatch z))))) (fun z hz => by
      simp only [List.mem_cons, List.not_mem_nil, or_false] at hz ⊢
      rcases hz with w | w | w | w | w <;> simp [w])
    have B7s := B7.some
    have nbN : b ≠ NL := fun z => B7s (by rw [z]; exact n7.1)
    have nbK : b ≠ KL := fun z => B7s (by rw [z]; exact n7.2.2.2)
    have nbo : o ≠ b := fun z => B7s (by rw [← z]; exact n7.2.1)
    have nbd : d ≠ b := fun z => B7s (by rw [← z]; exact n7.2.2.1)
    have f4 := N7.four
    have nop : ∀ {y : Addr}, H7 y = none → y ∉ [p.x, p.lm, p.ld, p.dn] := fun h z => (f4 _ z).1 h
    have dNL : d ≠ NL := fun z => by rw [z, eNLF] at edF; cases edF
    have dKL : d ≠ KL := fun z => by rw [z, eKLF] at edF; cases edF
    have oNL : o ≠ NL := fun z => by rw [z, eNLF] at eoF; cases eoF
    have oKL : o ≠ KL := fun z => by rw [z, eKLF] at eoF; cases eoF
    have dp : ∀ y ∈ [p.x, p.lm, p.ld, p.dn], d ≠ y := fun y hy z => nop n7.2.2.1 (z ▸ hy)
    have W0 : WAt C b NL KL HF 0 [⟨p, o, d, m, [], []⟩] := by
      refine ⟨⟨nNK, nbN, nbK⟩, eNLF, eKLF, fun j nn' hj => ?_⟩
      have j0 : j = 0 := by
        have := (List.getElem?_eq_some_iff.mp hj).1
        rw [List.length_singleton] at this
        omega
      subst j0
      cases hj
      refine ⟨⟨NF, eoF, ⟨fun z => ?_, [], edF, rfl, List.nodup_nil, fun i k v n ws hi hn => by simp at hn⟩, fun z => ?_⟩, ⟨m4, m10, Nat.zero_le _, fun i g hg => by simp at hg, Nat.le_refl _, (fun x hx => nomatch hx), rfl⟩⟩
      · have z : d ∈ o :: p.x :: p.lm :: p.ld :: p.dn :: [b, NL, KL] := z
        simp only [List.mem_cons, List.not_mem_nil, or_false] at z
        rcases z with w | w | w | w | w | w | w | w
        · exact od w.symm
        · exact dp _ (by simp) w
        · exact dp _ (by simp) w
        · exact dp _ (by simp) w
        · exact dp _ (by simp) w
        · exact nbd w
        · exact dNL w
        · exact dKL w
      · have z : o ∈ [b, NL, KL] := z
        simp only [List.mem_cons, List.not_mem_nil, or_false] at z
        rcases z with w | w | w
        · exact nbo w
        · exact oNL w
        · exact oKL w
    have h5b : H5 b = none := nb
    have n5 : ∀ {y : Addr}, y ≠ b → H1 y = none → H5 y = none := fun e h => bH5 k51 e h
    have n51 : ∀ {y : Addr}, H7 y = none → H1 y = none := fun h => back s7 h
    have fr5 : ∀ y ∈ (⟨p, o, d, m, [], []⟩ : Nd).adr, H5 y = none := by
      have ne1 : ∀ {y : Addr}, H1 y = none → y ≠ b := fun h z => bH1 (by rw [← z]; exact h)
      exact memL (n5 nbo (n51 n7.2.1)) (memL (n5 nbd (n51 n7.2.2.1)) (fun y hy => n5 (ne1 (nn y hy)) (nn y hy)))
    have NL5 : H5 NL = none := n5 nbN.symm (n51 n7.1)
    have KL5 : H5 KL = none := n5 nbK.symm (n51 n7.2.2.2)
    have s5F : Same H5 HF := fun y u e => by
      have yb : y ≠ b := fun z => by rw [z, h5b] at e; cases e
      exact s7F _ _ (s7 _ _ (k51 _ _ e yb))
    have BF := B7.same s7F
    clear N7 N0 NF
    try simp only [L2.start, List.map_cons, List.map_nil, List.length_cons, List.length_nil, List.replicate_succ, List.replicate_zero, List.cons_append, List.nil_append, List.set_cons_succ, List.set_cons_zero, Nat.reduceAdd, Nat.reduceSub, Nat.zero_add]
    refine ⟨_, rfl, by decide, by decide, ?_⟩
    refine for_range (n := 12) (fun t σ H2 => ∃ (ns : List Nd) (y5 y6 y7 : Option V), σ = [some (.ref a), some (.int (0 + (i : Int))), some (.ref b), some (.ref NL), some (.ref KL), y5, y6, y7] ∧ WAt C b NL KL H2 t ns ∧ 1 ≤ ns.length ∧ ns.length ≤ t + 1 ∧ BoxAt (10 + 40 * t) H2 b ∧ Same H5 H2 ∧ ∀ n ∈ ns, ∀ y ∈ n.adr, H5 y = none) ⟨[⟨p, o, d, m, [], []⟩], _, _, _, rfl, W0, (by show 1 ≤ 1; decide), (by show 1 ≤ 1; decide), BF.mono (by omega), s5F, fun n hn => by rw [List.mem_singleton.mp hn]; exact fr5⟩ ?_ ?_
    · rintro t σ H2 ht ⟨ns2, y5', y6', y7', rfl, W2, l1, l2, B2, s2, f2⟩
      dsimp only [gName]
      try simp only [L2.start, List.map_cons, List.map_nil, List.length_cons, List.length_nil, List.replicate_succ, List.replicate_zero, List.cons_append, List.nil_append, List.set_cons_succ, List.set_cons_zero, Nat.reduceAdd, Nat.reduceSub, Nat.zero_add]
      refine ⟨_, rfl, _, rfl, _, rfl, b, NL, KL, t, ns2, _, rfl, W2, B2, by omega, l1, by omega, by omega, fun ns3 H3 W3 l3 l3' B3 k3 hn3 => ?_⟩
      refine ⟨_, rfl, iteF ?_⟩
      dsimp only [tNext]
      have nSet : ∀ y ∈ b :: NL :: KL :: (ns2.map Nd.adr).flatten, H5 y = none := memL h5b (memL NL5 (memL KL5 (fun y hy => by
        obtain ⟨l, hl, hy⟩ := List.mem_flatten.mp hy
        obtain ⟨n2, hn2, rfl⟩ := List.mem_map.mp hl
        exact f2 n2 hn2 y hy)))
      have s3 : Same H5 H3 := fun y u e => k3.1 _ _ (s2 _ _ e) (fun z => by rw [nSet y z] at e; cases e)
      have f3 : ∀ n ∈ ns3, ∀ y ∈ n.adr, H5 y = none := fun n hn y hy => by
        rcases hn3 n hn y hy with w | w
        · exact nSet y (by simp [w])
        · exact back s2 w
      obtain ⟨_, eNL3, eKL3, fW3⟩ := id W3
      refine ⟨_, rfl, _, rfl, false, false, NL, KL, _, _, rfl, SqL.of eNL3, SqL.of eKL3, fun F nF => ?_⟩
      refine lc_it (walk_zb (K := K) (t1 := false) (t2 := false) (a := NL) (b := KL) (xs := ns3.map fun n => V.ref n.p.x) (ys := ns3.map fun n => V.ref n.o) (n := ns3.length) (by rw [List.length_map]) (by rw [List.length_map])) (fun j H9 => Same H3 H9 ∧ H9 F = some (.lst ((List.replicate j true).map V.bl))) ⟨same_upd nF, upd_same⟩ (fun j H9 _ ⟨s9, _⟩ => ⟨SqL.of (s9 _ _ eNL3), SqL.of (s9 _ _ eKL3)⟩) ?_ ?_
      · rintro j v H9 H10 hj ⟨s9, eF⟩ ⟨T, x, y, rfl, nT, rfl, hx, hy⟩
        replace hx : (ns3.map fun n => V.ref n.p.x)[j]? = some x := hx
        replace hy : (ns3.map fun n => V.ref n.o)[j]? = some y := hy
        rw [List.getElem?_map, List.getElem?_eq_getElem hj] at hx hy
        have hj3 : ns3[j]? = some ns3[j] := List.getElem?_eq_getElem hj
        obtain ⟨A9, ok9⟩ := fW3 j _ hj3
        cases hx
        cases hy
        generalize ns3[j] = n9 at *
        have sT := same_upd (o := .tup [.ref n9.p.x, .ref n9.o]) nT
        have s9T := s9.trans sT
        refine ⟨T, _, rfl, .inl (.inl upd_same), rfl, _, _, rfl, _, _, rfl, rfl, rfl, ?_⟩
        refine yesT ?_
        try simp only [L2.start, List.map_cons, List.map_nil, List.length_cons, List.length_nil, List.replicate_succ, List.replicate_zero, List.cons_append, List.nil_append, List.set_cons_succ, List.set_cons_zero, Nat.reduceAdd, Nat.reduceSub, Nat.zero_add]
        refine ⟨_, rfl, _, rfl, _, n9, t + 1, rfl, A9.same s9T, ok9, by omega, fun HG sG => ?_⟩
        refine ⟨_, sG _ _ (sT _ _ eF), by rw [List.length_map, List.length_replicate]; exact big_lt (by omega), fun y u e => ?_, ?_⟩
        · rw [upd_ne (ne_of_none e nF)]
          exact sG _ _ (s9T _ _ e)
        · rw [upd_same]
          show some (HO.lst ((List.replicate j true).map V.bl ++ [V.bl true])) = some (HO.lst ((List.replicate (j + 1) true).map V.bl))
          rw [show List.replicate (j + 1) true = List.replicate j true ++ [true] from List.replicate_succ', List.map_append]
          rfl
      rintro H9 ⟨s9, eF⟩
      refine ⟨F, _, rfl, SqL.of eF, ?_⟩
      have ea : (List.replicate ns3.length true).all id = true := by
        rw [List.all_eq_true]
        intro x hx
        rw [(List.mem_replicate.mp hx).2]
        rfl
      rw [ea]
      refine ⟨_, rfl, iteF ?_⟩
      dsimp only [tNext]
      exact ⟨ns3, _, _, _, rfl, W3.same s9, by omega, by omega, (B3.same s9).mono (by omega), s3.trans s9, f3⟩
    · rintro σ H2 ⟨ns2, y5', y6', y7', rfl, W2, l1, l2, B2, s2, f2⟩
      exact ⟨_, _, _, _, _, _, _, rfl, s5.trans s2⟩
  · rintro σ H5 ⟨y1, y2, y3, y4, y5, y6, y7, rfl, s5⟩
    exact q _
end
theorem all_mk {l : PySem.W.OpenLaw} {w : World} {K : PySem.W.Frag} {h : Heap} {mg : Str → Option Value} {fa f1 f2 f3 f4 f5 f6 f7 f8 f9 f10 f11 f12 f13 f14 f15 f16 f17 f18 f19 f20 f21 f22 f23 f24 f25 f26 f27 f28 f29 f30 f31 f32 f33 f34 f35 C : Addr} (X : K.In h) (G : h.Ns mainGlobals mg) (hfa : mg "law" = some (.ref fa))
    {od1 an1 od2 an2 od3 an3 od4 an4 od5 an5 od6 an6 od7 an7 od8 an8 od9 an9 od10 an10 od11 an11 od12 an12 od13 an13 od14 an14 od15 an15 od16 an16 od17 an17 od18 an18 od19 an19 od20 an20 od21 an21 od22 an22 od23 an23 od24 an24 od25 an25 od26 an26 od27 an27 od28 an28 od29 an29 od30 an30 od31 an31 od32 an32 od33 an33 od34 an34 od35 an35 : Option Addr} {sl1 sl2 sl3 sl4 sl5 sl6 sl7 sl8 sl9 sl10 sl11 sl12 sl13 sl14 sl15 sl16 sl17 sl18 sl19 sl20 sl21 sl22 sl23 sl24 sl25 sl26 sl27 sl28 sl29 sl30 sl31 sl32 sl33 sl34 sl35 : Array (Option Value)} {oc1 kV1 dc1 pm1 cd1 ct1 oc2 kV2 dc2 pm2 cd2 ct2 oc3 kV3 dc3 pm3 cd3 ct3 oc4 kV4 dc4 pm4 cd4 ct4 oc5 kV5 dc5 pm5 cd5 ct5 oc6 kV6 dc6 pm6 cd6 ct6 oc7 kV7 dc7 pm7 cd7 ct7 oc8 kV8 dc8 pm8 cd8 ct8 oc9 kV9 dc9 pm9 cd9 ct9 oc10 kV10 dc10 pm10 cd10 ct10 oc11 dc11 pm11 cd11 ct11 oc12 kV12 dc12 pm12 cd12 ct12 oc13 kV13 dc13 pm13 cd13 ct13 oc14 kV14 dc14 pm14 cd14 ct14 oc15 kV15 dc15 pm15 cd15 ct15 oc16 kV16 dc16 pm16 cd16 ct16 oc17 kV17 dc17 pm17 cd17 ct17 oc18 kV18 dc18 pm18 cd18 ct18 oc19 kV19 dc19 pm19 cd19 ct19 oc20 kV20 dc20 pm20 cd20 ct20 oc21 kV21 dc21 pm21 cd21 ct21 oc22 kV22 dc22 pm22 cd22 ct22 oc23 kV23 dc23 pm23 cd23 ct23 oc24 kV24 dc24 pm24 cd24 ct24 oc25 kV25 dc25 pm25 cd25 ct25 oc26 kV26 dc26 pm26 cd26 ct26 oc27 kV27 dc27 pm27 cd27 ct27 oc28 kV28 dc28 pm28 cd28 ct28 oc29 kV29 dc29 pm29 cd29 ct29 oc30 kV30 dc30 pm30 cd30 ct30 oc31 kV31 dc31 pm31 cd31 ct31 oc32 kV32 dc32 pm32 cd32 ct32 oc33 kV33 dc33 pm33 cd33 ct33 oc34 kV34 dc34 pm34 cd34 ct34 oc35 kV35 dc35 pm35 cd35 ct35 : Value}
    {Dk11 : Addr} {tk11_0 : Tok}
    (a1 : PySem.W.nsIn K mainGlobals "sum_wires" = some (some (.ref f1))) (l1 : K.lookup f1 = some ⟨oc1, od1, .func (PySem.W.fnOf "sum_wires" "sum_wires" (defArgs s_sum_wires) (defBody s_sum_wires) (defScope s_sum_wires) .none kV1 dc1 pm1 an1 cd1 ct1), sl1⟩) (c1 : PySem.W.codeIn K cd1 "sum_wires" = true) (k1 : PySem.W.keepIn K (.ref f1) = true)
    (a2 : PySem.W.nsIn K mainGlobals "shift_wires" = some (some (.ref f2))) (l2 : K.lookup f2 = some ⟨oc2, od2, .func (PySem.W.fnOf "shift_wires" "shift_wires" (defArgs s_shift_wires) (defBody s_shift_wires) (defScope s_shift_wires) .none kV2 dc2 pm2 an2 cd2 ct2), sl2⟩) (c2 : PySem.W.codeIn K cd2 "shift_wires" = true) (k2 : PySem.W.keepIn K (.ref f2) = true)
    (a3 : PySem.W.nsIn K mainGlobals "left_wires" = some (some (.ref f3))) (l3 : K.lookup f3 = some ⟨oc3, od3, .func (PySem.W.fnOf "left_wires" "left_wires" (defArgs s_left_wires) (defBody s_left_wires) (defScope s_left_wires) .none kV3 dc3 pm3 an3 cd3 ct3), sl3⟩) (c3 : PySem.W.codeIn K cd3 "left_wires" = true) (k3 : PySem.W.keepIn K (.ref f3) = true)
    (a4 : PySem.W.nsIn K mainGlobals "shift_amounts" = some (some (.ref f4))) (l4 : K.lookup f4 = some ⟨oc4, od4, .func (PySem.W.fnOf "shift_amounts" "shift_amounts" (defArgs s_shift_amounts) (defBody s_shift_amounts) (defScope s_shift_amounts) .none kV4 dc4 pm4 an4 cd4 ct4), sl4⟩) (c4 : PySem.W.codeIn K cd4 "shift_amounts" = true) (k4 : PySem.W.keepIn K (.ref f4) = true)
    (a5 : PySem.W.nsIn K mainGlobals "any_wire" = some (some (.ref f5))) (l5 : K.lookup f5 = some ⟨oc5, od5, .func (PySem.W.fnOf "any_wire" "any_wire" (defArgs s_any_wire) (defBody s_any_wire) (defScope s_any_wire) .none kV5 dc5 pm5 an5 cd5 ct5), sl5⟩) (c5 : PySem.W.codeIn K cd5 "any_wire" = true) (k5 : PySem.W.keepIn K (.ref f5) = true)
    (a6 : PySem.W.nsIn K mainGlobals "zero_wires" = some (some (.ref f6))) (l6 : K.lookup f6 = some ⟨oc6, od6, .func (PySem.W.fnOf "zero_wires" "zero_wires" (defArgs s_zero_wires) (defBody s_zero_wires) (defScope s_zero_wires) .none kV6 dc6 pm6 an6 cd6 ct6), sl6⟩) (c6 : PySem.W.codeIn K cd6 "zero_wires" = true) (k6 : PySem.W.keepIn K (.ref f6) = true)
    (a7 : PySem.W.nsIn K mainGlobals "first_wires" = some (some (.ref f7))) (l7 : K.lookup f7 = some ⟨oc7, od7, .func (PySem.W.fnOf "first_wires" "first_wires" (defArgs s_first_wires) (defBody s_first_wires) (defScope s_first_wires) .none kV7 dc7 pm7 an7 cd7 ct7), sl7⟩) (c7 : PySem.W.codeIn K cd7 "first_wires" = true) (k7 : PySem.W.keepIn K (.ref f7) = true)
    (a8 : PySem.W.nsIn K mainGlobals "mark_wires" = some (some (.ref f8))) (l8 : K.lookup f8 = some ⟨oc8, od8, .func (PySem.W.fnOf "mark_wires" "mark_wires" (defArgs s_mark_wires) (defBody s_mark_wires) (defScope s_mark_wires) .none kV8 dc8 pm8 an8 cd8 ct8), sl8⟩) (c8 : PySem.W.codeIn K cd8 "mark_wires" = true) (k8 : PySem.W.keepIn K (.ref f8) = true)
    (a9 : PySem.W.nsIn K mainGlobals "chosen_wires" = some (some (.ref f9))) (l9 : K.lookup f9 = some ⟨oc9, od9, .func (PySem.W.fnOf "chosen_wires" "chosen_wires" (defArgs s_chosen_wires) (defBody s_chosen_wires) (defScope s_chosen_wires) .none kV9 dc9 pm9 an9 cd9 ct9), sl9⟩) (c9 : PySem.W.codeIn K cd9 "chosen_wires" = true) (k9 : PySem.W.keepIn K (.ref f9) = true)
    (a10 : PySem.W.nsIn K mainGlobals "times_wires" = some (some (.ref f10))) (l10 : K.lookup f10 = some ⟨oc10, od10, .func (PySem.W.fnOf "times_wires" "times_wires" (defArgs s_times_wires) (defBody s_times_wires) (defScope s_times_wires) .none kV10 dc10 pm10 an10 cd10 ct10), sl10⟩) (c10 : PySem.W.codeIn K cd10 "times_wires" = true) (k10 : PySem.W.keepIn K (.ref f10) = true)
    (a11 : PySem.W.nsIn K mainGlobals "ran" = some (some (.ref f11))) (l11 : K.lookup f11 = some ⟨oc11, od11, .func (PySem.W.fnOf "ran" "ran" (defArgs s_ran) (defBody s_ran) (defScope s_ran) .none (.ref Dk11) dc11 pm11 an11 cd11 ct11), sl11⟩) (c11 : PySem.W.codeIn K cd11 "ran" = true) (k11 : PySem.W.keepIn K (.ref f11) = true)
    (w11_0 : PySem.W.nsIn K Dk11 "many" = some (some (.int 1 tk11_0)))
    (a12 : PySem.W.nsIn K mainGlobals "gate_bits" = some (some (.ref f12))) (l12 : K.lookup f12 = some ⟨oc12, od12, .func (PySem.W.fnOf "gate_bits" "gate_bits" (defArgs s_gate_bits) (defBody s_gate_bits) (defScope s_gate_bits) .none kV12 dc12 pm12 an12 cd12 ct12), sl12⟩) (c12 : PySem.W.codeIn K cd12 "gate_bits" = true) (k12 : PySem.W.keepIn K (.ref f12) = true)
    (a13 : PySem.W.nsIn K mainGlobals "_law_box" = some (some (.ref f13))) (l13 : K.lookup f13 = some ⟨oc13, od13, .func (PySem.W.fnOf "_law_box" "_law_box" (defArgs sBox) (defBody sBox) (defScope sBox) .none kV13 dc13 pm13 an13 cd13 ct13), sl13⟩) (c13 : PySem.W.codeIn K cd13 "_law_box" = true) (k13 : PySem.W.keepIn K (.ref f13) = true)
    (a14 : PySem.W.nsIn K mainGlobals "_law_take" = some (some (.ref f14))) (l14 : K.lookup f14 = some ⟨oc14, od14, .func (PySem.W.fnOf "_law_take" "_law_take" (defArgs sTake) (defBody sTake) (defScope sTake) .none kV14 dc14 pm14 an14 cd14 ct14), sl14⟩) (c14 : PySem.W.codeIn K cd14 "_law_take" = true) (k14 : PySem.W.keepIn K (.ref f14) = true)
    (a15 : PySem.W.nsIn K mainGlobals "_law_made" = some (some (.ref f15))) (l15 : K.lookup f15 = some ⟨oc15, od15, .func (PySem.W.fnOf "_law_made" "_law_made" (defArgs s__law_made) (defBody s__law_made) (defScope s__law_made) .none kV15 dc15 pm15 an15 cd15 ct15), sl15⟩) (c15 : PySem.W.codeIn K cd15 "_law_made" = true) (k15 : PySem.W.keepIn K (.ref f15) = true)
    (a16 : PySem.W.nsIn K mainGlobals "_law_part" = some (some (.ref f16))) (l16 : K.lookup f16 = some ⟨oc16, od16, .func (PySem.W.fnOf "_law_part" "_law_part" (defArgs s__law_part) (defBody s__law_part) (defScope s__law_part) .none kV16 dc16 pm16 an16 cd16 ct16), sl16⟩) (c16 : PySem.W.codeIn K cd16 "_law_part" = true) (k16 : PySem.W.keepIn K (.ref f16) = true)
    (a17 : PySem.W.nsIn K mainGlobals "_law_deed_right" = some (some (.ref f17))) (l17 : K.lookup f17 = some ⟨oc17, od17, .func (PySem.W.fnOf "_law_deed_right" "_law_deed_right" (defArgs s__law_deed_right) (defBody s__law_deed_right) (defScope s__law_deed_right) .none kV17 dc17 pm17 an17 cd17 ct17), sl17⟩) (c17 : PySem.W.codeIn K cd17 "_law_deed_right" = true) (k17 : PySem.W.keepIn K (.ref f17) = true)
    (a18 : PySem.W.nsIn K mainGlobals "_law_stands" = some (some (.ref f18))) (l18 : K.lookup f18 = some ⟨oc18, od18, .func (PySem.W.fnOf "_law_stands" "_law_stands" (defArgs s__law_stands) (defBody s__law_stands) (defScope s__law_stands) .none kV18 dc18 pm18 an18 cd18 ct18), sl18⟩) (c18 : PySem.W.codeIn K cd18 "_law_stands" = true) (k18 : PySem.W.keepIn K (.ref f18) = true)
    (a19 : PySem.W.nsIn K mainGlobals "law" = some (some (.ref f19))) (l19 : K.lookup f19 = some ⟨oc19, od19, .func (PySem.W.fnOf "law" "law" (defArgs s_law) (defBody s_law) (defScope s_law) .none kV19 dc19 pm19 an19 cd19 ct19), sl19⟩) (c19 : PySem.W.codeIn K cd19 "law" = true) (k19 : PySem.W.keepIn K (.ref f19) = true)
    (aC : PySem.W.nsIn K mainGlobals "Net" = some (some (.ref C)))
    (pgC : PySem.W.plainGet K C Str.empty = true) (hdC : PySem.W.hasDictIn K C = true) (poC : PySem.W.plainOver K C = true) (saC : PySem.W.findIn K (.ref C) "__setattr__" = some (some (.builtin "object.__setattr__"))) (mkC : PySem.W.makesIn K C = true) (kcC : PySem.W.keepIn K (.ref C) = true)
    (naC0 : PySem.W.findIn K (.ref C) "input_count" = some none)
    (naC1 : PySem.W.findIn K (.ref C) "made" = some none)
    (naC2 : PySem.W.findIn K (.ref C) "depths" = some none)
    (naC3 : PySem.W.findIn K (.ref C) "by_name" = some none)
    (a20 : PySem.W.findIn K (.ref C) "__init__" = some (some (.ref f20))) (i20 : PySem.W.isFn K (.ref f20) = true) (l20 : K.lookup f20 = some ⟨oc20, od20, .func (PySem.W.fnOf "__init__" "Net.__init__" (defArgs s_Net___init__) (defBody s_Net___init__) (defScope s_Net___init__) .none kV20 dc20 pm20 an20 cd20 ct20), sl20⟩) (c20 : PySem.W.codeIn K cd20 "Net.__init__" = true) (k20 : PySem.W.keepIn K (.ref f20) = true)
    (a21 : PySem.W.findIn K (.ref C) "both" = some (some (.ref f21))) (i21 : PySem.W.isFn K (.ref f21) = true) (l21 : K.lookup f21 = some ⟨oc21, od21, .func (PySem.W.fnOf "both" "Net.both" (defArgs s_Net_both) (defBody s_Net_both) (defScope s_Net_both) .none kV21 dc21 pm21 an21 cd21 ct21), sl21⟩) (c21 : PySem.W.codeIn K cd21 "Net.both" = true) (k21 : PySem.W.keepIn K (.ref f21) = true)
    (a22 : PySem.W.findIn K (.ref C) "either" = some (some (.ref f22))) (i22 : PySem.W.isFn K (.ref f22) = true) (l22 : K.lookup f22 = some ⟨oc22, od22, .func (PySem.W.fnOf "either" "Net.either" (defArgs s_Net_either) (defBody s_Net_either) (defScope s_Net_either) .none kV22 dc22 pm22 an22 cd22 ct22), sl22⟩) (c22 : PySem.W.codeIn K cd22 "Net.either" = true) (k22 : PySem.W.keepIn K (.ref f22) = true)
    (a23 : PySem.W.findIn K (.ref C) "unlike" = some (some (.ref f23))) (i23 : PySem.W.isFn K (.ref f23) = true) (l23 : K.lookup f23 = some ⟨oc23, od23, .func (PySem.W.fnOf "unlike" "Net.unlike" (defArgs s_Net_unlike) (defBody s_Net_unlike) (defScope s_Net_unlike) .none kV23 dc23 pm23 an23 cd23 ct23), sl23⟩) (c23 : PySem.W.codeIn K cd23 "Net.unlike" = true) (k23 : PySem.W.keepIn K (.ref f23) = true)
    (a24 : PySem.W.findIn K (.ref C) "other" = some (some (.ref f24))) (i24 : PySem.W.isFn K (.ref f24) = true) (l24 : K.lookup f24 = some ⟨oc24, od24, .func (PySem.W.fnOf "other" "Net.other" (defArgs s_Net_other) (defBody s_Net_other) (defScope s_Net_other) .none kV24 dc24 pm24 an24 cd24 ct24), sl24⟩) (c24 : PySem.W.codeIn K cd24 "Net.other" = true) (k24 : PySem.W.keepIn K (.ref f24) = true)
    (a25 : PySem.W.findIn K (.ref C) "fixed" = some (some (.ref f25))) (i25 : PySem.W.isFn K (.ref f25) = true) (l25 : K.lookup f25 = some ⟨oc25, od25, .func (PySem.W.fnOf "fixed" "Net.fixed" (defArgs s_Net_fixed) (defBody s_Net_fixed) (defScope s_Net_fixed) .none kV25 dc25 pm25 an25 cd25 ct25), sl25⟩) (c25 : PySem.W.codeIn K cd25 "Net.fixed" = true) (k25 : PySem.W.keepIn K (.ref f25) = true)
    (a26 : PySem.W.findIn K (.ref C) "put" = some (some (.ref f26))) (i26 : PySem.W.isFn K (.ref f26) = true) (l26 : K.lookup f26 = some ⟨oc26, od26, .func (PySem.W.fnOf "put" "Net.put" (defArgs s_Net_put) (defBody s_Net_put) (defScope s_Net_put) .none kV26 dc26 pm26 an26 cd26 ct26), sl26⟩) (c26 : PySem.W.codeIn K cd26 "Net.put" = true) (k26 : PySem.W.keepIn K (.ref f26) = true)
    (a27 : PySem.W.findIn K (.ref C) "put_gate" = some (some (.ref f27))) (i27 : PySem.W.isFn K (.ref f27) = true) (l27 : K.lookup f27 = some ⟨oc27, od27, .func (PySem.W.fnOf "put_gate" "Net.put_gate" (defArgs s_Net_put_gate) (defBody s_Net_put_gate) (defScope s_Net_put_gate) .none kV27 dc27 pm27 an27 cd27 ct27), sl27⟩) (c27 : PySem.W.codeIn K cd27 "Net.put_gate" = true) (k27 : PySem.W.keepIn K (.ref f27) = true)
    (a28 : PySem.W.findIn K (.ref C) "need" = some (some (.ref f28))) (i28 : PySem.W.isFn K (.ref f28) = true) (l28 : K.lookup f28 = some ⟨oc28, od28, .func (PySem.W.fnOf "need" "Net.need" (defArgs s_Net_need) (defBody s_Net_need) (defScope s_Net_need) .none kV28 dc28 pm28 an28 cd28 ct28), sl28⟩) (c28 : PySem.W.codeIn K cd28 "Net.need" = true) (k28 : PySem.W.keepIn K (.ref f28) = true)
    (a29 : PySem.W.findIn K (.ref C) "give" = some (some (.ref f29))) (i29 : PySem.W.isFn K (.ref f29) = true) (l29 : K.lookup f29 = some ⟨oc29, od29, .func (PySem.W.fnOf "give" "Net.give" (defArgs s_Net_give) (defBody s_Net_give) (defScope s_Net_give) .none kV29 dc29 pm29 an29 cd29 ct29), sl29⟩) (c29 : PySem.W.codeIn K cd29 "Net.give" = true) (k29 : PySem.W.keepIn K (.ref f29) = true)
    (a30 : PySem.W.findIn K (.ref C) "given" = some (some (.ref f30))) (i30 : PySem.W.isFn K (.ref f30) = true) (l30 : K.lookup f30 = some ⟨oc30, od30, .func (PySem.W.fnOf "given" "Net.given" (defArgs s_Net_given) (defBody s_Net_given) (defScope s_Net_given) .none kV30 dc30 pm30 an30 cd30 ct30), sl30⟩) (c30 : PySem.W.codeIn K cd30 "Net.given" = true) (k30 : PySem.W.keepIn K (.ref f30) = true)
    (a31 : PySem.W.findIn K (.ref C) "names" = some (some (.ref f31))) (i31 : PySem.W.isFn K (.ref f31) = true) (l31 : K.lookup f31 = some ⟨oc31, od31, .func (PySem.W.fnOf "names" "Net.names" (defArgs s_Net_names) (defBody s_Net_names) (defScope s_Net_names) .none kV31 dc31 pm31 an31 cd31 ct31), sl31⟩) (c31 : PySem.W.codeIn K cd31 "Net.names" = true) (k31 : PySem.W.keepIn K (.ref f31) = true)
    (a32 : PySem.W.findIn K (.ref C) "inputs" = some (some (.ref f32))) (i32 : PySem.W.isFn K (.ref f32) = true) (l32 : K.lookup f32 = some ⟨oc32, od32, .func (PySem.W.fnOf "inputs" "Net.inputs" (defArgs s_Net_inputs) (defBody s_Net_inputs) (defScope s_Net_inputs) .none kV32 dc32 pm32 an32 cd32 ct32), sl32⟩) (c32 : PySem.W.codeIn K cd32 "Net.inputs" = true) (k32 : PySem.W.keepIn K (.ref f32) = true)
    (a33 : PySem.W.findIn K (.ref C) "gates" = some (some (.ref f33))) (i33 : PySem.W.isFn K (.ref f33) = true) (l33 : K.lookup f33 = some ⟨oc33, od33, .func (PySem.W.fnOf "gates" "Net.gates" (defArgs s_Net_gates) (defBody s_Net_gates) (defScope s_Net_gates) .none kV33 dc33 pm33 an33 cd33 ct33), sl33⟩) (c33 : PySem.W.codeIn K cd33 "Net.gates" = true) (k33 : PySem.W.keepIn K (.ref f33) = true)
    (a34 : PySem.W.findIn K (.ref C) "__len__" = some (some (.ref f34))) (i34 : PySem.W.isFn K (.ref f34) = true) (l34 : K.lookup f34 = some ⟨oc34, od34, .func (PySem.W.fnOf "__len__" "Net.__len__" (defArgs s_Net___len__) (defBody s_Net___len__) (defScope s_Net___len__) .none kV34 dc34 pm34 an34 cd34 ct34), sl34⟩) (c34 : PySem.W.codeIn K cd34 "Net.__len__" = true) (k34 : PySem.W.keepIn K (.ref f34) = true)
    (a35 : PySem.W.findIn K (.ref C) "like" = some (some (.ref f35))) (i35 : PySem.W.isFn K (.ref f35) = true) (l35 : K.lookup f35 = some ⟨oc35, od35, .func (PySem.W.fnOf "like" "Net.like" (defArgs s_Net_like) (defBody s_Net_like) (defScope s_Net_like) .none kV35 dc35 pm35 an35 cd35 ct35), sl35⟩) (c35 : PySem.W.codeIn K cd35 "Net.like" = true) (k35 : PySem.W.keepIn K (.ref f35) = true)
    (z1 : PySem.W.nsIn K mainGlobals "len" = some none)
    (z2 : PySem.W.nsIn K mainGlobals "abs" = some none)
    (z3 : PySem.W.nsIn K mainGlobals "int" = some none)
    (z4 : PySem.W.nsIn K mainGlobals "divmod" = some none)
    (z5 : PySem.W.nsIn K mainGlobals "list" = some none)
    (z6 : PySem.W.nsIn K mainGlobals "enumerate" = some none)
    (z7 : PySem.W.nsIn K mainGlobals "isinstance" = some none)
    (z8 : PySem.W.nsIn K mainGlobals "tuple" = some none)
    (z9 : PySem.W.nsIn K mainGlobals "str" = some none)
    (z10 : PySem.W.nsIn K mainGlobals "bool" = some none)
    (z11 : PySem.W.nsIn K mainGlobals "zip" = some none)
    (z12 : PySem.W.nsIn K mainGlobals "all" = some none)
    (z13 : PySem.W.nsIn K mainGlobals "range" = some none)
    (z14 : PySem.W.nsIn K mainGlobals "max" = some none)
    (z15 : PySem.W.nsIn K mainGlobals "any" = some none)
    (z16 : PySem.W.nsIn K mainGlobals "min" = some none)
    (z17 : PySem.W.nsIn K mainGlobals "sum" = some none)
    (zsorted : PySem.W.nsIn K mainGlobals "sorted" = some none)
    (zdict : PySem.W.nsIn K mainGlobals "dict" = some none)
    : ∃ fd : FuncData, (∀ (s : Shared) (v : Value), BindsTo s fd ⟨[v], []⟩ [("_law_script", v)]) ∧ ∀ base : Heap, K.In base → base.Ns mainGlobals mg → FnOk l.prog w K mg base CX0 14 fa fd ["_law_script"] (spLaw K) := by
  have e := hfa.symm.trans (PySem.W.mg_of X G a19)
  cases e
  have F1 := fun_mk (st := s_sum_wires) l1 c1 k1
  have b1 := F1.binds (ps := ["net", "ones", "others", "carry"]) fun _ _ _ _ _ _ us hl => match us, hl with | [_, _, _, _], _ => rfl
  have m1 := PySem.W.mg_of X G a1
  have F2 := fun_mk (st := s_shift_wires) l2 c2 k2
  have b2 := F2.binds (ps := ["net", "ones", "by"]) fun _ _ _ _ _ _ us hl => match us, hl with | [_, _, _], _ => rfl
  have m2 := PySem.W.mg_of X G a2
  have F3 := fun_mk (st := s_left_wires) l3 c3 k3
  have b3 := F3.binds (ps := ["net", "ones", "by"]) fun _ _ _ _ _ _ us hl => match us, hl with | [_, _, _], _ => rfl
  have m3 := PySem.W.mg_of X G a3
  have F4 := fun_mk (st := s_shift_amounts) l4 c4 k4
  have b4 := F4.binds (ps := ["net", "many", "by"]) fun _ _ _ _ _ _ us hl => match us, hl with | [_, _, _], _ => rfl
  have m4 := PySem.W.mg_of X G a4
  have F5 := fun_mk (st := s_any_wire) l5 c5 k5
  have b5 := F5.binds (ps := ["net", "wires"]) fun _ _ _ _ _ _ us hl => match us, hl with | [_, _], _ => rfl
  have m5 := PySem.W.mg_of X G a5
  have F6 := fun_mk (st := s_zero_wires) l6 c6 k6
  have b6 := F6.binds (ps := ["net", "ones"]) fun _ _ _ _ _ _ us hl => match us, hl with | [_, _], _ => rfl
  have m6 := PySem.W.mg_of X G a6
  have F7 := fun_mk (st := s_first_wires) l7 c7 k7
  have b7 := F7.binds (ps := ["net", "ones"]) fun _ _ _ _ _ _ us hl => match us, hl with | [_, _], _ => rfl
  have m7 := PySem.W.mg_of X G a7
  have F8 := fun_mk (st := s_mark_wires) l8 c8 k8
  have b8 := F8.binds (ps := ["net", "ones", "others"]) fun _ _ _ _ _ _ us hl => match us, hl with | [_, _, _], _ => rfl
  have m8 := PySem.W.mg_of X G a8
  have F9 := fun_mk (st := s_chosen_wires) l9 c9 k9
  have b9 := F9.binds (ps := ["net", "wire", "ones", "others"]) fun _ _ _ _ _ _ us hl => match us, hl with | [_, _, _, _], _ => rfl
  have m9 := PySem.W.mg_of X G a9
  have F10 := fun_mk (st := s_times_wires) l10 c10 k10
  have b10 := F10.binds (ps := ["net", "ones", "others"]) fun _ _ _ _ _ _ us hl => match us, hl with | [_, _, _], _ => rfl
  have m10 := PySem.W.mg_of X G a10
  have F11 := fun_mk (st := s_ran) l11 c11 k11
  have m11 := PySem.W.mg_of X G a11
  have F12 := fun_mk (st := s_gate_bits) l12 c12 k12
  have b12 := F12.binds (ps := ["gate", "wires", "full"]) fun _ _ _ _ _ _ us hl => match us, hl with | [_, _, _], _ => rfl
  have m12 := PySem.W.mg_of X G a12
  have F13 := fun_mk (st := sBox) l13 c13 k13
  have b13 := F13.binds (ps := ["_law_script", "_law_k"]) fun _ _ _ _ _ _ us hl => match us, hl with | [_, _], _ => rfl
  have m13 := PySem.W.mg_of X G a13
  have F14 := fun_mk (st := sTake) l14 c14 k14
  have b14 := F14.binds (ps := ["_law_box_here", "_law_size"]) fun _ _ _ _ _ _ us hl => match us, hl with | [_, _], _ => rfl
  have m14 := PySem.W.mg_of X G a14
  have F15 := fun_mk (st := s__law_made) l15 c15 k15
  have b15 := F15.binds (ps := ["_law_rows", "_law_wide"]) fun _ _ _ _ _ _ us hl => match us, hl with | [_, _], _ => rfl
  have m15 := PySem.W.mg_of X G a15
  have F16 := fun_mk (st := s__law_part) l16 c16 k16
  have b16 := F16.binds (ps := ["_law_net", "_law_sort", "_law_wires"]) fun _ _ _ _ _ _ us hl => match us, hl with | [_, _, _], _ => rfl
  have m16 := PySem.W.mg_of X G a16
  have F17 := fun_mk (st := s__law_deed_right) l17 c17 k17
  have b17 := F17.binds (ps := ["_law_box_here", "_law_nets", "_law_kept"]) fun _ _ _ _ _ _ us hl => match us, hl with | [_, _, _], _ => rfl
  have m17 := PySem.W.mg_of X G a17
  have F18 := fun_mk (st := s__law_stands) l18 c18 k18
  have b18 := F18.binds (ps := ["_law_net", "_law_own"]) fun _ _ _ _ _ _ us hl => match us, hl with | [_, _], _ => rfl
  have m18 := PySem.W.mg_of X G a18
  have F19 := fun_mk (st := s_law) l19 c19 k19
  have F20 := fun_mk (st := s_Net___init__) l20 c20 k20
  have b20 := F20.binds (ps := ["self", "many"]) fun _ _ _ _ _ _ us hl => match us, hl with | [_, _], _ => rfl
  have M20 : Meth K C "__init__" f20 := ⟨a20, i20, k20⟩
  have F21 := fun_mk (st := s_Net_both) l21 c21 k21
  have b21 := F21.binds (ps := ["self", "a", "b"]) fun _ _ _ _ _ _ us hl => match us, hl with | [_, _, _], _ => rfl
  have M21 : Meth K C "both" f21 := ⟨a21, i21, k21⟩
  have F22 := fun_mk (st := s_Net_either) l22 c22 k22
  have b22 := F22.binds (ps := ["self", "a", "b"]) fun _ _ _ _ _ _ us hl => match us, hl with | [_, _, _], _ => rfl
  have M22 : Meth K C "either" f22 := ⟨a22, i22, k22⟩
  have F23 := fun_mk (st := s_Net_unlike) l23 c23 k23
  have b23 := F23.binds (ps := ["self", "a", "b"]) fun _ _ _ _ _ _ us hl => match us, hl with | [_, _, _], _ => rfl
  have M23 : Meth K C "unlike" f23 := ⟨a23, i23, k23⟩
  have F24 := fun_mk (st := s_Net_other) l24 c24 k24
  have b24 := F24.binds (ps := ["self", "a"]) fun _ _ _ _ _ _ us hl => match us, hl with | [_, _], _ => rfl
  have M24 : Meth K C "other" f24 := ⟨a24, i24, k24⟩
  have F25 := fun_mk (st := s_Net_fixed) l25 c25 k25
  have b25 := F25.binds (ps := ["self", "bit"]) fun _ _ _ _ _ _ us hl => match us, hl with | [_, _], _ => rfl
  have M25 : Meth K C "fixed" f25 := ⟨a25, i25, k25⟩
  have F26 := fun_mk (st := s_Net_put) l26 c26 k26
  have b26 := F26.binds (ps := ["self", "kind", "wires"]) fun _ _ _ _ _ _ us hl => match us, hl with | [_, _, _], _ => rfl
  have M26 : Meth K C "put" f26 := ⟨a26, i26, k26⟩
  have F27 := fun_mk (st := s_Net_put_gate) l27 c27 k27
  have b27 := F27.binds (ps := ["self", "gate", "depth"]) fun _ _ _ _ _ _ us hl => match us, hl with | [_, _, _], _ => rfl
  have M27 : Meth K C "put_gate" f27 := ⟨a27, i27, k27⟩
  have F28 := fun_mk (st := s_Net_need) l28 c28 k28
  have b28 := F28.binds (ps := ["self", "wires"]) fun _ _ _ _ _ _ us hl => match us, hl with | [_, _], _ => rfl
  have M28 : Meth K C "need" f28 := ⟨a28, i28, k28⟩
  have F29 := fun_mk (st := s_Net_give) l29 c29 k29
  have b29 := F29.binds (ps := ["self", "name", "wires"]) fun _ _ _ _ _ _ us hl => match us, hl with | [_, _, _], _ => rfl
  have M29 : Meth K C "give" f29 := ⟨a29, i29, k29⟩
  have F30 := fun_mk (st := s_Net_given) l30 c30 k30
  have b30 := F30.binds (ps := ["self", "name"]) fun _ _ _ _ _ _ us hl => match us, hl with | [_, _], _ => rfl
  have M30 : Meth K C "given" f30 := ⟨a30, i30, k30⟩
  have F31 := fun_mk (st := s_Net_names) l31 c31 k31
  have b31 := F31.binds (ps := ["self"]) fun _ _ _ _ _ _ us hl => match us, hl with | [_], _ => rfl
  have M31 : Meth K C "names" f31 := ⟨a31, i31, k31⟩
  have F32 := fun_mk (st := s_Net_inputs) l32 c32 k32
  have b32 := F32.binds (ps := ["self"]) fun _ _ _ _ _ _ us hl => match us, hl with | [_], _ => rfl
  have M32 : Meth K C "inputs" f32 := ⟨a32, i32, k32⟩
  have F33 := fun_mk (st := s_Net_gates) l33 c33 k33
  have b33 := F33.binds (ps := ["self"]) fun _ _ _ _ _ _ us hl => match us, hl with | [_], _ => rfl
  have M33 : Meth K C "gates" f33 := ⟨a33, i33, k33⟩
  have F34 := fun_mk (st := s_Net___len__) l34 c34 k34
  have b34 := F34.binds (ps := ["self"]) fun _ _ _ _ _ _ us hl => match us, hl with | [_], _ => rfl
  have M34 : Meth K C "__len__" f34 := ⟨a34, i34, k34⟩
  have F35 := fun_mk (st := s_Net_like) l35 c35 k35
  have b35 := F35.binds (ps := ["self"]) fun _ _ _ _ _ _ us hl => match us, hl with | [_], _ => rfl
  have M35 : Meth K C "like" f35 := ⟨a35, i35, k35⟩
  have clC : Cls K C := ⟨pgC, hdC, poC, saC⟩
  have mgC := PySem.W.mg_of X G aC
  have B : Bl mg := ⟨PySem.W.mg_none_of X G z1, PySem.W.mg_none_of X G z2, PySem.W.mg_none_of X G z3, PySem.W.mg_none_of X G z4, PySem.W.mg_none_of X G z5, PySem.W.mg_none_of X G z6, PySem.W.mg_none_of X G z7, PySem.W.mg_none_of X G z8, PySem.W.mg_none_of X G z9, PySem.W.mg_none_of X G z10, PySem.W.mg_none_of X G z11, PySem.W.mg_none_of X G z12, PySem.W.mg_none_of X G z13, PySem.W.mg_none_of X G z14, PySem.W.mg_none_of X G z15, PySem.W.mg_none_of X G z16, PySem.W.mg_none_of X G z17⟩
  refine ⟨PySem.W.fnOf "law" "law" (defArgs s_law) (defBody s_law) (defScope s_law) .none kV19 dc19 pm19 an19 cd19 ct19, fun s v => .of_eq rfl, fun base _ _ => ?_⟩
  have kb11_many : ∃ g, KBn K (PySem.W.fnOf "ran" "ran" (defArgs s_ran) (defBody s_ran) (defScope s_ran) .none (.ref Dk11) dc11 pm11 an11 cd11 ct11) ["net", "values", "many"] 2 ["many"] g (fun vs zs => vs ++ zs) := ⟨fun vs zs => vs ++ zs, ⟨kbn_of (st := s_ran) (ml := []) (gV := fun vs zs => vs ++ zs) (fun q hq => nomatch hq) (fun us ws l1 l2 => match us, ws, l1, l2 with | [_, _], [_], _, _ => (show _ = pure _ from rfl)) (fun _ _ r1 r2 => r1.append r2), fun r1 r2 => r1.append r2⟩⟩
  have L : LL K mg C f1 f2 f3 f4 f5 f6 f7 f8 f9 f10 f11 f12 f13 f14 f15 f16 f17 f18 f20 f21 f22 f23 f24 f25 f26 f27 f28 f29 f30 f31 f32 f33 f34 f35 _ _ _ _ _ _ _ _ _ _ _ _ _ _ _ _ _ _ _ _ _ _ _ _ _ _ _ _ _ _ _ _ _ _  := ⟨F1, m1, b1, F2, m2, b2, F3, m3, b3, F4, m4, b4, F5, m5, b5, F6, m6, b6, F7, m7, b7, F8, m8, b8, F9, m9, b9, F10, m10, b10, F11, m11, kb11_many, F12, m12, b12, F13, m13, b13, F14, m14, b14, F15, m15, b15, F16, m16, b16, F17, m17, b17, F18, m18, b18, ⟨clC, naC0, naC1, naC2, naC3, mgC⟩, ⟨mkC, a20, i20, kcC⟩, F20, b20, F21, b21, M21, F22, b22, M22, F23, b23, M23, F24, b24, M24, F25, b25, M25, F26, b26, M26, F27, b27, M27, F28, b28, M28, F29, b29, M29, F30, b30, M30, F31, b31, M31, F32, b32, M32, F33, b33, M33, F34, b34, M34, F35, b35, M35, PySem.W.mg_none_of X G zsorted, PySem.W.mg_none_of X G zdict⟩
  exact ok_law F19 B L
end GZ
open PySem PySem.W PyProof.Rows
set_option maxRecDepth 100000 in
set_option maxHeartbeats 0 in
theorem PySem.Challenge.cw_guessedzeros_k51_likes_and_shared_wires_holds : PySem.Challenge.rw_guessedzeros_k51_likes_and_shared_wires.Holds := by
  w_on; o_law; k_headLK; (case hw => w_witness2)
  k_fill
  refine L2.walk_of (l := PySem.Challenge.rw_guessedzeros_k51_likes_and_shared_wires) (n := 63) (k := 14) (x := "_law_script") (CX := fun _ => L2.CX0) (sp := fun w => GZ.spLaw _) rfl (by decide) rfl ⟨rfl, by decide, by decide⟩ (fun w h Y => PySem.W.kIn_of Y) ?F (fun _ _ a ns hl _ hS => ⟨a, ns, rfl, hS, hl, fun _ => rfl⟩) (fun _ _ _ _ _ h => h)
  case F =>
    intro w mg fa h KX G hmg
    refine' GZ.all_mk KX G hmg ?a1 ?l1 ?c1 ?k1 ?a2 ?l2 ?c2 ?k2 ?a3 ?l3 ?c3 ?k3 ?a4 ?l4 ?c4 ?k4 ?a5 ?l5 ?c5 ?k5 ?a6 ?l6 ?c6 ?k6 ?a7 ?l7 ?c7 ?k7 ?a8 ?l8 ?c8 ?k8 ?a9 ?l9 ?c9 ?k9 ?a10 ?l10 ?c10 ?k10 ?a11 ?l11 ?c11 ?k11 ?w11_0 ?a12 ?l12 ?c12 ?k12 ?a13 ?l13 ?c13 ?k13 ?a14 ?l14 ?c14 ?k14 ?a15 ?l15 ?c15 ?k15 ?a16 ?l16 ?c16 ?k16 ?a17 ?l17 ?c17 ?k17 ?a18 ?l18 ?c18 ?k18 ?a19 ?l19 ?c19 ?k19 ?aC ?pgC ?hdC ?poC ?saC ?mkC ?kcC ?naC0 ?naC1 ?naC2 ?naC3 ?a20 ?i20 ?l20 ?c20 ?k20 ?a21 ?i21 ?l21 ?c21 ?k21 ?a22 ?i22 ?l22 ?c22 ?k22 ?a23 ?i23 ?l23 ?c23 ?k23 ?a24 ?i24 ?l24 ?c24 ?k24 ?a25 ?i25 ?l25 ?c25 ?k25 ?a26 ?i26 ?l26 ?c26 ?k26 ?a27 ?i27 ?l27 ?c27 ?k27 ?a28 ?i28 ?l28 ?c28 ?k28 ?a29 ?i29 ?l29 ?c29 ?k29 ?a30 ?i30 ?l30 ?c30 ?k30 ?a31 ?i31 ?l31 ?c31 ?k31 ?a32 ?i32 ?l32 ?c32 ?k32 ?a33 ?i33 ?l33 ?c33 ?k33 ?a34 ?i34 ?l34 ?c34 ?k34 ?a35 ?i35 ?l35 ?c35 ?k35 ?z1 ?z2 ?z3 ?z4 ?z5 ?z6 ?z7 ?z8 ?z9 ?z10 ?z11 ?z12 ?z13 ?z14 ?z15 ?z16 ?z17 ?zsorted ?zdict
    (case a1 => k_is)
    (case l1 => k_is)
    (case c1 => k_is)
    (case k1 => k_is)
    (case a2 => k_is)
    (case l2 => k_is)
    (case c2 => k_is)
    (case k2 => k_is)
    (case a3 => k_is)
    (case l3 => k_is)
    (case c3 => k_is)
    (case k3 => k_is)
    (case a4 => k_is)
    (case l4 => k_is)
    (case c4 => k_is)
    (case k4 => k_is)
    (case a5 => k_is)
    (case l5 => k_is)
    (case c5 => k_is)
    (case k5 => k_is)
    (case a6 => k_is)
    (case l6 => k_is)
    (case c6 => k_is)
    (case k6 => k_is)
    (case a7 => k_is)
    (case l7 => k_is)
    (case c7 => k_is)
    (case k7 => k_is)
    (case a8 => k_is)
    (case l8 => k_is)
    (case c8 => k_is)
    (case k8 => k_is)
    (case a9 => k_is)
    (case l9 => k_is)
    (case c9 => k_is)
    (case k9 => k_is)
    (case a10 => k_is)
    (case l10 => k_is)
    (case c10 => k_is)
    (case k10 => k_is)
    (case a11 => k_is)
    (case l11 => k_is)
    (case c11 => k_is)
    (case k11 => k_is)
    (case w11_0 => k_is)
    (case a12 => k_is)
    (case l12 => k_is)
    (case c12 => k_is)
    (case k12 => k_is)
    (case a13 => k_is)
    (case l13 => k_is)
    (case c13 => k_is)
    (case k13 => k_is)
    (case a14 => k_is)
    (case l14 => k_is)
    (case c14 => k_is)
    (case k14 => k_is)
    (case a15 => k_is)
    (case l15 => k_is)
    (case c15 => k_is)
    (case k15 => k_is)
    (case a16 => k_is)
    (case l16 => k_is)
    (case c16 => k_is)
    (case k16 => k_is)
    (case a17 => k_is)
    (case l17 => k_is)
    (case c17 => k_is)
    (case k17 => k_is)
    (case a18 => k_is)
    (case l18 => k_is)
    (case c18 => k_is)
    (case k18 => k_is)
    (case a19 => k_is)
    (case l19 => k_is)
    (case c19 => k_is)
    (case k19 => k_is)
    (case aC => k_is)
    (case pgC => k_is)
    (case hdC => k_is)
    (case poC => k_is)
    (case saC => k_is)
    (case mkC => k_is)
    (case kcC => k_is)
    (case naC0 => k_is)
    (case naC1 => k_is)
    (case naC2 => k_is)
    (case naC3 => k_is)
    (case a20 => k_is)
    (case i20 => k_is)
    (case l20 => k_is)
    (case c20 => k_is)
    (case k20 => k_is)
    (case a21 => k_is)
    (case i21 => k_is)
    (case l21 => k_is)
    (case c21 => k_is)
    (case k21 => k_is)
    (case a22 => k_is)
    (case i22 => k_is)
    (case l22 => k_is)
    (case c22 => k_is)
    (case k22 => k_is)
    (case a23 => k_is)
    (case i23 => k_is)
    (case l23 => k_is)
    (case c23 => k_is)
    (case k23 => k_is)
    (case a24 => k_is)
    (case i24 => k_is)
    (case l24 => k_is)
    (case c24 => k_is)
    (case k24 => k_is)
    (case a25 => k_is)
    (case i25 => k_is)
    (case l25 => k_is)
    (case c25 => k_is)
    (case k25 => k_is)
    (case a26 => k_is)
    (case i26 => k_is)
    (case l26 => k_is)
    (case c26 => k_is)
    (case k26 => k_is)
    (case a27 => k_is)
    (case i27 => k_is)
    (case l27 => k_is)
    (case c27 => k_is)
    (case k27 => k_is)
    (case a28 => k_is)
    (case i28 => k_is)
    (case l28 => k_is)
    (case c28 => k_is)
    (case k28 => k_is)
    (case a29 => k_is)
    (case i29 => k_is)
    (case l29 => k_is)
    (case c29 => k_is)
    (case k29 => k_is)
    (case a30 => k_is)
    (case i30 => k_is)
    (case l30 => k_is)
    (case c30 => k_is)
    (case k30 => k_is)
    (case a31 => k_is)
    (case i31 => k_is)
    (case l31 => k_is)
    (case c31 => k_is)
    (case k31 => k_is)
    (case a32 => k_is)
    (case i32 => k_is)
    (case l32 => k_is)
    (case c32 => k_is)
    (case k32 => k_is)
    (case a33 => k_is)
    (case i33 => k_is)
    (case l33 => k_is)
    (case c33 => k_is)
    (case k33 => k_is)
    (case a34 => k_is)
    (case i34 => k_is)
    (case l34 => k_is)
    (case c34 => k_is)
    (case k34 => k_is)
    (case a35 => k_is)
    (case i35 => k_is)
    (case l35 => k_is)
    (case c35 => k_is)
    (case k35 => k_is)
    (case z1 => k_is)
    (case z2 => k_is)
    (case z3 => k_is)
    (case z4 => k_is)
    (case z5 => k_is)
    (case z6 => k_is)
    (case z7 => k_is)
    (case z8 => k_is)
    (case z9 => k_is)
    (case z10 => k_is)
    (case z11 => k_is)
    (case z12 => k_is)
    (case z13 => k_is)
    (case z14 => k_is)
    (case z15 => k_is)
    (case z16 => k_is)
    (case z17 => k_is)
    (case zsorted => k_is)
    (case zdict => k_is)

import PyProof.Rows.All
import Wide.All
import OpenK.AllK
import Wide.FinOn
import HandS.ForMost
import HandS.Walk
import HandS.Zip
import HandS.WideBits
import HandS.IsInst
import OpenK.KEqL
import HandS.More
import HandS.Flow
import HandS.NoneIn
import HandS.Defaults
import HandS.Wide
import HandS.Style
import HandS.Dict
import HandS.Star
import HandS.Conv
import HandS.Small
import HandS.Codes
import HandS.Text
import HandS.WordsDict
import KE.OsRunLaw
import KE.GoesZip
import KE.GoesMore
import KE.GoesEnum
import KE.KUnpackStar
import KE.KRevSl
import HandS.Deep
import PySem.Challenge.RW_guessedzeros_k54_wired_guesses
set_option Elab.async false
set_option linter.all false
set_option maxRecDepth 100000
set_option maxHeartbeats 40000000
namespace GZ
open PySem PySem.Spec PyProof.Rows L2
/-! ### the text by places -/
def topS (i : Nat) : Stmt := PySem.Challenge.pw_guessedzeros_k54_wired_guesses.main.body.getD i (.Pass ⟨0, 0, 0, 0⟩)
abbrev s_sum_wires : Stmt := topS 2
theorem sc_sum_wires : FnScope ["net", "ones", "others", "carry", "total", "one", "other", "half"] ["net", "ones", "others", "carry"] (defScope s_sum_wires) := ⟨rfl, rfl, rfl, by decide +kernel, rfl, by decide +kernel, by decide +kernel⟩
abbrev s_any_wire : Stmt := topS 3
theorem sc_any_wire : FnScope ["net", "wires", "found", "wire"] ["net", "wires"] (defScope s_any_wire) := ⟨rfl, rfl, rfl, by decide +kernel, rfl, by decide +kernel, by decide +kernel⟩
abbrev s_zero_wires : Stmt := topS 4
theorem sc_zero_wires : FnScope ["net", "ones", "firsts", "bits", "place", "zeros", "wire"] ["net", "ones"] (defScope s_zero_wires) := ⟨rfl, rfl, rfl, by decide +kernel, rfl, by decide +kernel, by decide +kernel⟩
abbrev s_first_wires : Stmt := topS 5
theorem sc_first_wires : FnScope ["net", "ones", "firsts", "clear", "one"] ["net", "ones"] (defScope s_first_wires) := ⟨rfl, rfl, rfl, by decide +kernel, rfl, by decide +kernel, by decide +kernel⟩
abbrev s_mark_wires : Stmt := topS 6
theorem sc_mark_wires : FnScope ["net", "ones", "others", "digits", "marks", "place", "bars", "one", "other"] ["net", "ones", "others"] (defScope s_mark_wires) := ⟨rfl, rfl, rfl, by decide +kernel, rfl, by decide +kernel, by decide +kernel⟩
abbrev s_chosen_wires : Stmt := topS 7
theorem sc_chosen_wires : FnScope ["net", "wire", "ones", "others", "stays", "one", "other"] ["net", "wire", "ones", "others"] (defScope s_chosen_wires) := ⟨rfl, rfl, rfl, by decide +kernel, rfl, by decide +kernel, by decide +kernel⟩
abbrev s_is_less_wire : Stmt := topS 8
theorem sc_is_less_wire : FnScope ["net", "ones", "others", "many", "less", "one", "other", "turned"] ["net", "ones", "others"] (defScope s_is_less_wire) := ⟨rfl, rfl, rfl, by decide +kernel, rfl, by decide +kernel, by decide +kernel⟩
abbrev s_lengthened : Stmt := topS 9
theorem sc_lengthened : FnScope ["net", "wires", "many"] ["net", "wires", "many"] (defScope s_lengthened) := ⟨rfl, rfl, rfl, by decide +kernel, rfl, by decide +kernel, by decide +kernel⟩
abbrev s_Net___init__ : Stmt := inClass (topS 15) 0
theorem sc_Net___init__ : FnScope ["self", "many"] ["self", "many"] (defScope s_Net___init__) := ⟨rfl, rfl, rfl, by decide +kernel, rfl, by decide +kernel, by decide +kernel⟩
abbrev s_Net_both : Stmt := inClass (topS 15) 1
theorem sc_Net_both : FnScope ["self", "a", "b"] ["self", "a", "b"] (defScope s_Net_both) := ⟨rfl, rfl, rfl, by decide +kernel, rfl, by decide +kernel, by decide +kernel⟩
abbrev s_Net_either : Stmt := inClass (topS 15) 2
theorem sc_Net_either : FnScope ["self", "a", "b"] ["self", "a", "b"] (defScope s_Net_either) := ⟨rfl, rfl, rfl, by decide +kernel, rfl, by decide +kernel, by decide +kernel⟩
abbrev s_Net_unlike : Stmt := inClass (topS 15) 3
theorem sc_Net_unlike : FnScope ["self", "a", "b"] ["self", "a", "b"] (defScope s_Net_unlike) := ⟨rfl, rfl, rfl, by decide +kernel, rfl, by decide +kernel, by decide +kernel⟩
abbrev s_Net_other : Stmt := inClass (topS 15) 4
theorem sc_Net_other : FnScope ["self", "a"] ["self", "a"] (defScope s_Net_other) := ⟨rfl, rfl, rfl, by decide +kernel, rfl, by decide +kernel, by decide +kernel⟩
abbrev s_Net_fixed : Stmt := inClass (topS 15) 5
theorem sc_Net_fixed : FnScope ["self", "bit"] ["self", "bit"] (defScope s_Net_fixed) := ⟨rfl, rfl, rfl, by decide +kernel, rfl, by decide +kernel, by decide +kernel⟩
abbrev s_Net_put : Stmt := inClass (topS 15) 6
theorem sc_Net_put : FnScope ["self", "kind", "wires", "depth", "wire"] ["self", "kind", "wires"] (defScope s_Net_put) := ⟨rfl, rfl, rfl, by decide +kernel, rfl, by decide +kernel, by decide +kernel⟩
abbrev s_Net_put_gate : Stmt := inClass (topS 15) 7
theorem sc_Net_put_gate : FnScope ["self", "gate", "depth"] ["self", "gate", "depth"] (defScope s_Net_put_gate) := ⟨rfl, rfl, rfl, by decide +kernel, rfl, by decide +kernel, by decide +kernel⟩
abbrev s_Net_need : Stmt := inClass (topS 15) 8
theorem sc_Net_need : FnScope ["self", "wires", "wire"] ["self", "wires"] (defScope s_Net_need) := ⟨rfl, rfl, rfl, by decide +kernel, rfl, by decide +kernel, by decide +kernel⟩
abbrev s_Net_give : Stmt := inClass (topS 15) 9
theorem sc_Net_give : FnScope ["self", "name", "wires"] ["self", "name", "wires"] (defScope s_Net_give) := ⟨rfl, rfl, rfl, by decide +kernel, rfl, by decide +kernel, by decide +kernel⟩
abbrev s_Net_given : Stmt := inClass (topS 15) 10
theorem sc_Net_given : FnScope ["self", "name"] ["self", "name"] (defScope s_Net_given) := ⟨rfl, rfl, rfl, by decide +kernel, rfl, by decide +kernel, by decide +kernel⟩
abbrev s_Net_names : Stmt := inClass (topS 15) 11
theorem sc_Net_names : FnScope ["self"] ["self"] (defScope s_Net_names) := ⟨rfl, rfl, rfl, by decide +kernel, rfl, by decide +kernel, by decide +kernel⟩
abbrev s_Net_inputs : Stmt := inClass (topS 15) 12
theorem sc_Net_inputs : FnScope ["self"] ["self"] (defScope s_Net_inputs) := ⟨rfl, rfl, rfl, by decide +kernel, rfl, by decide +kernel, by decide +kernel⟩
abbrev s_Net_gates : Stmt := inClass (topS 15) 13
theorem sc_Net_gates : FnScope ["self"] ["self"] (defScope s_Net_gates) := ⟨rfl, rfl, rfl, by decide +kernel, rfl, by decide +kernel, by decide +kernel⟩
abbrev s_Net___len__ : Stmt := inClass (topS 15) 15
theorem sc_Net___len__ : FnScope ["self"] ["self"] (defScope s_Net___len__) := ⟨rfl, rfl, rfl, by decide +kernel, rfl, by decide +kernel, by decide +kernel⟩
abbrev s_worth_of : Stmt := topS 17
theorem sc_worth_of : FnScope ["digits", "worth", "digit"] ["digits"] (defScope s_worth_of) := ⟨rfl, rfl, rfl, by decide +kernel, rfl, by decide +kernel, by decide +kernel⟩
abbrev s_turned_wires : Stmt := topS 19
theorem sc_turned_wires : FnScope ["net", "wires", "wire"] ["net", "wires"] (defScope s_turned_wires) := ⟨rfl, rfl, rfl, by decide +kernel, rfl, by decide +kernel, by decide +kernel⟩
abbrev s_less_wires : Stmt := topS 20
theorem sc_less_wires : FnScope ["net", "ones", "others", "holds", "total"] ["net", "ones", "others"] (defScope s_less_wires) := ⟨rfl, rfl, rfl, by decide +kernel, rfl, by decide +kernel, by decide +kernel⟩
abbrev s_wired_guess : Stmt := topS 22
theorem sc_wired_guess : FnScope ["many", "net", "wires", "ones", "others", "less", "greater", "lesser"] ["many"] (defScope s_wired_guess) := ⟨rfl, rfl, rfl, by decide +kernel, rfl, by decide +kernel, by decide +kernel⟩
abbrev s_ran : Stmt := topS 24
theorem sc_ran : FnScope ["net", "values", "many", "full", "wires", "gate", "value", "name", "wire"] ["net", "values", "many"] (defScope s_ran) := ⟨rfl, rfl, rfl, by decide +kernel, rfl, by decide +kernel, by decide +kernel⟩
abbrev s_gate_bits : Stmt := topS 25
theorem sc_gate_bits : FnScope ["gate", "wires", "full", "kind", "one", "other"] ["gate", "wires", "full"] (defScope s_gate_bits) := ⟨rfl, rfl, rfl, by decide +kernel, rfl, by decide +kernel, by decide +kernel⟩
abbrev s_all_cases : Stmt := topS 26
theorem sc_all_cases : FnScope ["many", "place"] ["many"] (defScope s_all_cases) := ⟨rfl, rfl, rfl, by decide +kernel, rfl, by decide +kernel, by decide +kernel⟩
abbrev s_place_in_cases : Stmt := topS 27
theorem sc_place_in_cases : FnScope ["place", "many", "size", "number", "doubled"] ["place", "many"] (defScope s_place_in_cases) := ⟨rfl, rfl, rfl, by decide +kernel, rfl, by decide +kernel, by decide +kernel⟩
abbrev s_one_case : Stmt := topS 28
theorem sc_one_case : FnScope ["net", "word", "values", "place", "name", "bits"] ["net", "word"] (defScope s_one_case) := ⟨rfl, rfl, rfl, by decide +kernel, rfl, by decide +kernel, by decide +kernel⟩
abbrev sBox : Stmt := topS 30
abbrev sTake : Stmt := topS 31
abbrev s__law_guess : Stmt := topS 32
theorem sc__law_guess : FnScope ["_law_one", "_law_other", "_law_size", "_law_digits", "_law_at", "_law_bar", "_law_place"] ["_law_one", "_law_other", "_law_size"] (defScope s__law_guess) := ⟨rfl, rfl, rfl, by decide +kernel, rfl, by decide +kernel, by decide +kernel⟩
abbrev s__law_due : Stmt := topS 33
theorem sc__law_due : FnScope ["_law_one", "_law_other", "_law_size"] ["_law_one", "_law_other", "_law_size"] (defScope s__law_due) := ⟨rfl, rfl, rfl, by decide +kernel, rfl, by decide +kernel, by decide +kernel⟩
abbrev s__law_all_right : Stmt := topS 34
theorem sc__law_all_right : FnScope ["_law_size", "_law_net", "_law_told", "_law_case", "_law_found", "_law_name", "_law_own", "_law_one"] ["_law_size"] (defScope s__law_all_right) := ⟨rfl, rfl, rfl, by decide +kernel, rfl, by decide +kernel, by decide +kernel⟩
abbrev s__law_pair : Stmt := topS 35
theorem sc__law_pair : FnScope ["_law_box_here", "_law_size", "_law_one", "_law_sort", "_law_near", "_law_run", "_law_other"] ["_law_box_here", "_law_size"] (defScope s__law_pair) := ⟨rfl, rfl, rfl, by decide +kernel, rfl, by decide +kernel, by decide +kernel⟩
abbrev s_law : Stmt := topS 36
theorem sc_law : FnScope ["_law_script", "_law_k", "_law_box_here", "_law_size", "_law_net", "_law_turn", "_law_one", "_law_other", "_law_ahead", "_law_zeros"] ["_law_script"] (defScope s_law) := ⟨rfl, rfl, rfl, by decide +kernel, rfl, by decide +kernel, by decide +kernel⟩
/-! ### built-in names that the text leaves alone -/
structure Bl (mg : Str → Option Value) : Prop where
  len : mg "len" = none
  abs : mg "abs" = none
  int : mg "int" = none
  divmod : mg "divmod" = none
  list : mg "list" = none
  enumerate : mg "enumerate" = none
  isinstance : mg "isinstance" = none
  tuple : mg "tuple" = none
  str : mg "str" = none
  bool : mg "bool" = none
  zip : mg "zip" = none
  all : mg "all" = none
  range : mg "range" = none
  max : mg "max" = none
  any : mg "any" = none
  min : mg "min" = none
  sum : mg "sum" = none
/-! ### rules with the written part told (for the blocks of comprehensions) -/
section
variable {X : Cx} {K : PySem.W.Frag}
theorem call_len_seqK (h : X.K = K := by rfl) : CallR X (.builtin "len") (fun xs H Q => ∃ p ys, xs = [.ref p] ∧ (SqL K H p ys ∨ SqT K H p ys) ∧ Q (.int ys.length) H) := by subst h; exact call_len_seq
theorem call_list_ofK (h : X.K = K := by rfl) : CallR X (.type "list") (fun xs H Q => ∃ p ys, xs = [.ref p] ∧ (SqL K H p ys ∨ SqT K H p ys) ∧ ∀ l, H l = none → Q (.ref l) (upd H l (.lst ys))) := by subst h; exact call_list_of
theorem call_tuple_ofK (h : X.K = K := by rfl) : CallR X (.type "tuple") (fun xs H Q => ∃ p ys, xs = [.ref p] ∧ ((SqL K H p ys ∧ ∀ l, H l = none → Q (.ref l) (upd H l (.tup ys))) ∨ (SqT K H p ys ∧ Q (.ref p) H))) := by subst h; exact call_tuple_of
theorem ix_listK (h : X.K = K := by rfl) : IxR X (rIxL K) := by subst h; exact ix_list
theorem ix_tupK (h : X.K = K := by rfl) : IxR X (rIxT K) := by subst h; exact ix_tup
theorem ix_seqK (h : X.K = K := by rfl) : IxR X (rIx K) := by subst h; exact ix_seq
theorem op_in_seqK (h : X.K = K := by rfl) : OpR X (compareOp .In) (rIn K false) := by subst h; exact op_in_seq
theorem op_notIn_seqK (h : X.K = K := by rfl) : OpR X (compareOp .NotIn) (rIn K true) := by subst h; exact op_notIn_seq
theorem sl_listK (h : X.K = K := by rfl) : SlR X (rSlL K) := by subst h; exact sl_list
theorem cr_sumK (hc : X.calm = true) (h : X.K = K := by rfl) : CallR X (.builtin "sum") (rSum K) := by subst h; exact cr_sum hc
theorem cr_allK (hc : X.calm = true) (h : X.K = K := by rfl) : CallR X (.builtin "all") (rAll K) := by subst h; exact cr_all hc
theorem cr_anyK (hc : X.calm = true) (h : X.K = K := by rfl) : CallR X (.builtin "any") (rAny K) := by subst h; exact cr_any hc
theorem call_isiK' (h : X.K = K := by rfl) : CallR X (.builtin "isinstance") (rIsi K) := by subst h; exact call_isi
theorem pi_listK {tg l : Expr} {tl : TE} (hl : PE X l tl) (h : X.K = K := by rfl) : PI X tg l (iList K tl) := by subst h; exact pi_list hl
theorem pi_tupK {tg l : Expr} {tl : TE} (hl : PE X l tl) (h : X.K = K := by rfl) : PI X tg l (iTup K tl) := by subst h; exact pi_tup hl
theorem pe_fldK {e : Expr} {ta : TE} {f : Str} {pos : Pos} (he : PE X e ta) (hb : attributeBase e f X.env (eval e X.env) = eval e X.env) (h : X.K = K := by rfl) : PE X (.Attribute e f pos) (tFld K ta f) := by subst h; exact pe_fld he hb
end
/-! ### heaps -/
theorem same_upd {H : Hp} {p : Addr} {o : HO} (h : H p = none) : Same H (upd H p o) := fun b x e => by
  rw [upd_ne (ne_of_none e h)]
  exact e
/-- all but what stands at b is as it was -/
def Keep (b : Addr) (H H' : Hp) : Prop := ∀ p o, H p = some o → p ≠ b → H' p = some o
theorem Keep.refl (b : Addr) (H : Hp) : Keep b H H := fun _ _ h _ => h
theorem Keep.trans {b : Addr} {H H1 H2 : Hp} (x : Keep b H H1) (y : Keep b H1 H2) : Keep b H H2 := fun p o h n => y p o (x p o h n) n
theorem Keep.ofSame {b : Addr} {H H1 : Hp} (x : Same H H1) : Keep b H H1 := fun p o h _ => x p o h
theorem Keep.upd {b : Addr} {H : Hp} {o : HO} : Keep b H (upd H b o) := fun p x h n => by
  rw [upd_ne n]
  exact h
theorem Keep.new {b p : Addr} {H : Hp} {o : HO} (h : H p = none) : Keep b H (L2.upd H p o) := .ofSame (same_upd h)
theorem Keep.seq {K : PySem.W.Frag} {b a : Addr} {H H' : Hp} {xs : List V} (e : Keep b H H') (n : a ≠ b) (h : SqL K H a xs) : SqL K H' a xs := by
  rcases h with (h | ⟨o, h⟩) | h
  · exact .inl (.inl (e _ _ h n))
  · exact .inl (.inr ⟨o, e _ _ h n⟩)
  · exact .inr h
theorem Keep.seqT {K : PySem.W.Frag} {b a : Addr} {H H' : Hp} {xs : List V} (e : Keep b H H') (n : a ≠ b) (h : SqT K H a xs) : SqT K H' a xs := by
  rcases h with (h | ⟨o, h⟩) | h
  · exact .inl (.inl (e _ _ h n))
  · exact .inl (.inr ⟨o, e _ _ h n⟩)
  · exact .inr h
theorem Same.seqT {K : PySem.W.Frag} {a : Addr} {H H' : Hp} {xs : List V} (e : Same H H') (h : SqT K H a xs) : SqT K H' a xs := by
  rcases h with (h | ⟨o, h⟩) | h
  · exact .inl (.inl (e _ _ h))
  · exact .inl (.inr ⟨o, e _ _ h⟩)
  · exact .inr h
/-- a drawing box: three ints, the last at most c -/
def BoxAt (c : Int) (H : Hp) (b : Addr) : Prop := ∃ x0 x1 x2 : Int, H b = some (.lst [.int x0, .int x1, .int x2]) ∧ 0 ≤ x0 ∧ 0 ≤ x1 ∧ x1 < 2147483647 ∧ 0 ≤ x2 ∧ x2 ≤ c
theorem BoxAt.mono {c d : Int} {H : Hp} {b : Addr} (h : BoxAt c H b) (l : c ≤ d) : BoxAt d H b := by
  obtain ⟨x0, x1, x2, e, a1, a2, a3, a4, a5⟩ := h
  exact ⟨x0, x1, x2, e, a1, a2, a3, a4, by omega⟩
theorem BoxAt.same {c : Int} {H H' : Hp} {b : Addr} (h : BoxAt c H b) (s : Same H H') : BoxAt c H' b := by
  obtain ⟨x0, x1, x2, e, r⟩ := h
  exact ⟨x0, x1, x2, s _ _ e, r⟩
theorem BoxAt.at {c : Int} {H H' : Hp} {b : Addr} (h : BoxAt c H b) (s : H' b = H b) : BoxAt c H' b := by
  obtain ⟨x0, x1, x2, e, r⟩ := h
  exact ⟨x0, x1, x2, by rw [s]; exact e, r⟩
theorem BoxAt.ne {c : Int} {H : Hp} {b p : Addr} (h : BoxAt c H b) (n : H p = none) : b ≠ p := by
  obtain ⟨x0, x1, x2, e, r⟩ := h
  exact ne_of_none e n
theorem e7 : (10 : Int) ^ ((7 : Int).toNat) = 10000000 := by decide
theorem e18 : (10 : Int) ^ ((18 : Int).toNat) = 1000000000000000000 := by decide
theorem divp_small {i j : Int} (h0 : 0 < j) (h1 : j < 2 ^ 250) : CDivP i j := by
  refine ⟨h0, ?_⟩
  show (decide ((if j == 0 then 0 else j.natAbs.log2 / 30 + 1) > 300) && _) = false
  rw [if_neg (show ¬ (j == 0) = true by simpa using (show j ≠ 0 by omega))]
  have hl : j.natAbs.log2 < 250 := PySem.Flt.log2_lt_of (by decide) (by omega)
  rw [decide_eq_false (show ¬ (j.natAbs.log2 / 30 + 1 > 300) by omega), Bool.false_and]
section
variable {P : Program} {w : World} {K : PySem.W.Frag} {mg : Str → Option Value} {base : Heap}
/-! ### _law_take -/
theorem scTake : FnScope ["_law_box_here", "_law_size", "_law_found", "_law_step", "_law_once", "_law_twice"] ["_law_box_here", "_law_size"] (defScope sTake) := ⟨rfl, rfl, rfl, by decide +kernel, rfl, by decide +kernel, by decide +kernel⟩
def spTake (k : Nat) : Sp := fun vs H Q _ => ∃ (b : Addr) (n c : Int), vs = [.ref b, .int n] ∧ BoxAt c H b ∧ 1 ≤ n ∧ n ≤ 10000000 ^ k ∧ n < 2 ^ 250 ∧ c + 2 ^ k ≤ 1000000000 ∧ 0 < k ∧
  ∀ (r : Int) (H' : Hp), 0 ≤ r → r < n → BoxAt (c + 2 ^ (k - 1)) H' b → Keep b H H' → Q (.int r) H'
theorem take_none {f : Addr} {fd : FuncData} : FnOk P w K mg base CX0 0 f fd ["_law_box_here", "_law_size"] (spTake 0) := by
  have no : ∀ vs H Q E, ¬ spTake 0 vs H Q E := fun vs H Q E h => by
    obtain ⟨b, n, c, _, _, _, _, _, _, h0, _⟩ := h
    omega
  exact ⟨fun vs H Q E h => absurd h (no vs H Q E), fun A outer s H args us vs Q E _ _ _ _ h => absurd h (no vs H Q E)⟩
theorem ok_take1 {f : Addr} {fd : FuncData} {k : Nat} (F : Fun K "_law_take" "_law_take" sTake f fd) (G : FnOk P w K mg base CX0 k f fd ["_law_box_here", "_law_size"] (spTake k)) (bf : Binds K fd ["_law_box_here", "_law_size"] []) (mf : mg "_law_take" = some (.ref f)) (B : Bl mg) :
    FnOk P w K mg base CX0 (k + 1) f fd ["_law_box_here", "_law_size"] (spTake (k + 1)) := by
  refine F.ok scTake (fun vs H Q E h => ?_) (fun cdv A outer s H vs Q E hr h => ?_)
  · obtain ⟨b, n, c, rfl, _⟩ := h
    rfl
  obtain ⟨b, n, c, rfl, hB, hn1, hnk, hn60, hc, _, q⟩ := h
  obtain ⟨x0, x1, x2, hb, h0, h1, h1', h2, h2'⟩ := hB
  have hp : (0 : Int) < 2 ^ k := Int.pow_pos (by decide)
  have hk2 : (2 : Int) ^ (k + 1) = 2 ^ k * 2 := Int.pow_succ 2 k
  refine ⟨_, pss_cons (ps_if (pt_cmpR op_gt (pe_ix ix_list (pv 0) pe_int (fun _ _ => rfl)) pe_int (nomark _))
      (pss_cons (ps_asg (pe_callB call_divmodW (by rfl) B.divmod boot_divmod (pa_cons (pe_ix ix_list (pv 0) pe_int (fun _ _ => rfl)) (pa_cons (pv 1) pa_nil)))
          (pg_tup (by rfl) (pgs_cons (pg_sub (pv 0) pe_int set_list) (pgs_cons (pg_name (i := 2) scTake.nd rfl (.inl rfl)) pgs_nil))))
        (pss_one (ps_ret (pv 2)))) pss_nil)
    (pss_cons (ps_if (pt_cmpR op_gt (pv 1) (pe_op op_pow pe_int pe_int) (nomark _))
      (pss_one (ps_ret (pe_op op_mod (pe_op op_add (pe_call G hr (by rfl) mf F.kp bf .nil pass0 (pa_cons (pv 0) (pa_cons (pe_op op_pow pe_int pe_int) pa_nil)))
          (pe_op op_mul (pe_op op_pow pe_int pe_int) (pe_call G hr (by rfl) mf F.kp bf .nil pass0 (pa_cons (pv 0) (pa_cons (pe_op op_add (pe_op op_fdiv (pe_op op_sub (pv 1) pe_int) (pe_op op_pow pe_int pe_int)) pe_int) pa_nil))))) (pv 1)))) pss_nil)
    (pss_cons (ps_asg (pe_op op_add (pe_ix ix_list (pv 0) pe_int (fun _ _ => rfl)) pe_int) (pg_sub (pv 0) pe_int set_list))
    (pss_cons (ps_set (i := 3) scTake.nd rfl (.inl rfl) (pe_op op_add pe_int (pe_op op_mul (pe_ix ix_list (pv 0) pe_int (fun _ _ => rfl)) (pe_ix ix_list (pv 0) pe_int (fun _ _ => rfl)))))
    (pss_cons (ps_set (i := 4) scTake.nd rfl (.inl rfl) (pe_op op_mod (pe_op op_mul (pe_op op_add (pe_ix ix_list (pv 0) pe_int (fun _ _ => rfl)) (pe_op op_mul pe_int (pe_ix ix_list (pv 0) pe_int (fun _ _ => rfl)))) (pv 3)) pe_int))
    (pss_cons (ps_set (i := 5) scTake.nd rfl (.inl rfl) (pe_op op_mod (pe_op op_add (pe_op op_mul (pv 4) (pe_op op_add (pe_op op_mod (pv 4) pe_int) pe_int)) (pe_ix ix_list (pv 0) pe_int (fun _ _ => rfl))) pe_int))
    (pss_one (ps_ret (pe_op op_mod (pe_op op_fdiv (pe_op op_mod (pe_op op_mul (pv 5) (pe_op op_add (pe_op op_mod (pv 5) pe_int) pe_int)) pe_int) pe_int) (pv 1))))))))), ?_⟩
  refine ⟨_, rfl, b, _, _, _, rfl, rfl, SqL.of hb, rfl, _, _, rfl, rfl, _, rfl, ite2 (fun cc => ?_) (fun cc => ?_)⟩
  · -- the great number's own digits
    refine ⟨_, rfl, b, _, _, _, rfl, rfl, SqL.of hb, rfl, _, rfl, _, _, rfl, divp_small (by omega) (by omega), fun p np => ?_⟩
    have nbp : b ≠ p := ne_of_none hb np
    refine ⟨p, _, rfl, .inl (.inl upd_same), rfl, _, _, rfl, _, rfl, b, _, _, 0, rfl, rfl, (by rw [upd_ne nbp]; exact hb), rfl, _, _, rfl, rfl, _, rfl, ?_⟩
    refine q _ _ (Int.emod_nonneg _ (by omega)) (Int.emod_lt_of_pos _ (by omega)) ⟨x0 / n, x1, x2, upd_same, Int.ediv_nonneg h0 (by omega), h1, h1', h2, by show x2 ≤ c + 2 ^ k; omega⟩ ?_
    exact Keep.trans (Keep.new np) Keep.upd
  · refine ⟨_, rfl, _, _, rfl, rfl, ⟨by decide, by decide, by decide⟩, _, _, rfl, rfl, _, rfl, ite2 (fun c2 => ?_) (fun c2 => ?_)⟩
    · -- two lesser draws
      have c3 : (10 : Int) ^ ((7 : Int).toNat) < n := of_decide_eq_true c2
      rw [e7] at c3
      have hk : 0 < k := by
        rcases Nat.eq_zero_or_pos k with z | z
        · subst z
          rw [show (10000000 : Int) ^ (0 + 1) = 10000000 by decide] at hnk
          omega
        · exact z
      obtain ⟨j, rfl⟩ : ∃ j, k = j + 1 := ⟨k - 1, by omega⟩
      have hj2 : (2 : Int) ^ (j + 1) = 2 ^ j * 2 := Int.pow_succ 2 j
      have hjp : (0 : Int) < 2 ^ j := Int.pow_pos (by decide)
      have h10 : (10000000 : Int) ≤ 10000000 ^ (j + 1) := by
        rw [Int.pow_succ]
        have : (0 : Int) < 10000000 ^ j := Int.pow_pos (by decide)
        omega
      have hdiv : (n - 1) / 10000000 + 1 ≤ 10000000 ^ (j + 1) := by
        rw [Int.pow_succ] at hnk
        have : n - 1 < 10000000 ^ (j + 1) * 10000000 := by omega
        have := Int.ediv_lt_of_lt_mul (by decide) this
        omega
      refine ⟨_, rfl, _, _, rfl, rfl, ⟨by decide, by decide, by decide⟩, b, _, c, rfl, ⟨x0, x1, x2, hb, h0, h1, h1', h2, h2'⟩, (by rw [e7]; decide), (by rw [e7]; exact h10), (by rw [e7]; decide), by omega, by omega, fun r1 H1 a1 a2 B1 k1 => ?_⟩
      refine ⟨_, _, rfl, rfl, ⟨by decide, by decide, by decide⟩, _, rfl, _, rfl, _, _, rfl, rfl, _, _, rfl, rfl, ⟨by decide, by decide, by decide⟩, _, _, rfl, rfl, (by rw [e7]; exact ⟨by decide, by decide⟩), _, _, rfl, rfl, ?_⟩
      rw [e7]
      refine ⟨b, _, c + 2 ^ j, rfl, B1, by omega, hdiv, by omega, by omega, by omega, fun r2 H2 a3 a4 B2 k2 => ?_⟩
      refine ⟨_, _, rfl, rfl, .inl ⟨by decide, by decide⟩, _, _, rfl, rfl, _, rfl, _, _, rfl, rfl, (by show (0 : Int) < n; omega), ?_⟩
      refine q _ _ (Int.emod_nonneg _ (by omega)) (Int.emod_lt_of_pos _ (by omega)) (B2.mono ?_) (k1.trans k2)
      show c + 2 ^ j + 2 ^ j ≤ c + 2 ^ (j + 1)
      omega
    · -- a turn of the wheel
      refine ⟨_, rfl, b, _, _, _, rfl, rfl, SqL.of hb, rfl, _, _, rfl, rfl, _, rfl, b, _, _, 2, rfl, rfl, hb, rfl, ?_⟩
      have hb2 : (upd H b (.lst [.int x0, .int x1, .int (x2 + 1)])) b = some (.lst [.int x0, .int x1, .int (x2 + 1)]) := upd_same
      refine ⟨_, rfl, b, _, _, _, rfl, rfl, SqL.of hb2, rfl, _, rfl, b, _, _, _, rfl, rfl, SqL.of hb2, rfl, _, _, rfl, rfl, .inl ⟨by omega, by omega⟩, _, _, rfl, rfl, ?_⟩
      refine ⟨_, rfl, b, _, _, _, rfl, rfl, SqL.of hb2, rfl, _, rfl, b, _, _, _, rfl, rfl, SqL.of hb2, rfl, _, _, rfl, rfl, .inl ⟨by omega, by omega⟩, _, _, rfl, rfl, _, rfl, _, _, rfl, rfl, .inl ⟨by omega, by omega⟩, _, _, rfl, rfl, (by show (0 : Int) < 2147483587; decide), ?_⟩
      generalize (x1 + 39373 * (x2 + 1)) * (69621 + (x2 + 1) * (x2 + 1)) = y
      have y1 := Int.emod_nonneg y (show (2147483587 : Int) ≠ 0 by decide)
      have y2 := Int.emod_lt_of_pos y (show (0 : Int) < 2147483587 by decide)
      refine ⟨_, rfl, _, rfl, _, _, rfl, rfl, (by show (0 : Int) < 30011; decide), _, _, rfl, rfl, _, _, rfl, rfl, .inl ⟨by omega, by omega⟩, _, rfl, b, _, _, _, rfl, rfl, SqL.of hb2, rfl, _, _, rfl, rfl, _, _, rfl, rfl, (by show (0 : Int) < 2147483563; decide), ?_⟩
      generalize (y % 2147483587 * (y % 2147483587 % 30011 + 5) + (x2 + 1)) = z
      have z1 := Int.emod_nonneg z (show (2147483563 : Int) ≠ 0 by decide)
      have z2 := Int.emod_lt_of_pos z (show (0 : Int) < 2147483563 by decide)
      refine ⟨_, rfl, _, rfl, _, _, rfl, rfl, (by show (0 : Int) < 1013; decide), _, _, rfl, rfl, _, _, rfl, rfl, .inl ⟨by omega, by omega⟩, _, _, rfl, rfl, (by show (0 : Int) < 998244353; decide), _, _, rfl, rfl, ⟨by decide, by decide⟩, _, rfl, _, _, rfl, rfl, (by show (0 : Int) < n; omega), ?_⟩
      refine q _ _ (Int.emod_nonneg _ (by omega)) (Int.emod_lt_of_pos _ (by omega)) ⟨x0, x1, x2 + 1, hb2, h0, h1, h1', by omega, by show x2 + 1 ≤ c + 2 ^ k; omega⟩ Keep.upd
theorem ok_take {f : Addr} {fd : FuncData} (F : Fun K "_law_take" "_law_take" sTake f fd) (bf : Binds K fd ["_law_box_here", "_law_size"] []) (mf : mg "_law_take" = some (.ref f)) (B : Bl mg) : ∀ k : Nat, FnOk P w K mg base CX0 k f fd ["_law_box_here", "_law_size"] (spTake k)
  | 0 => take_none
  | k + 1 => ok_take1 F (ok_take F bf mf B k) bf mf B
/-! ### _law_box -/
theorem scBox : FnScope ["_law_script", "_law_k", "_law_cell"] ["_law_script", "_law_k"] (defScope sBox) := ⟨rfl, rfl, rfl, by decide +kernel, rfl, by decide +kernel, by decide +kernel⟩
def spBox (K : PySem.W.Frag) : Sp := fun vs H Q _ => ∃ (a : Addr) (zs : List Int) (k : Int), vs = [.ref a, .int k] ∧ SqL K H a (zs.map V.int) ∧ 0 ≤ k ∧ k ≤ 1000 ∧
  ∀ (p : Addr) (H' : Hp), H p = none → Same H H' → BoxAt 0 H' p → Q (.ref p) H'
theorem b01 (b : Bool) : (-(2 ^ 64) < (if b = true then (1 : Int) else 0)) ∧ (if b = true then (1 : Int) else 0) < 2 ^ 64 := by cases b <;> decide
theorem b01n (b : Bool) : 0 ≤ (if b = true then (1 : Int) else 0) := by cases b <;> decide
theorem abs_nn (i : Int) : 0 ≤ (if i < 0 then -i else i) := by
  split <;> omega
theorem at_int {zs : List Int} {k : Int} (h0 : 0 ≤ k) (h : k < (zs.length : Int)) : ∃ v : Int, atI (zs.map V.int) k = some (.int v) ∧ zs[k.toNat]? = some v := by
  have hk : k.toNat < zs.length := by omega
  have ek : k = ((k.toNat : Nat) : Int) := by omega
  have q : atI (zs.map V.int) ((k.toNat : Nat) : Int) = some (.int zs[k.toNat]) := atI_nat (by rw [List.getElem?_map, List.getElem?_eq_getElem hk] <;> rfl)
  rw [← ek] at q
  exact ⟨zs[k.toNat], q, List.getElem?_eq_getElem hk⟩
theorem ok_box {f : Addr} {fd : FuncData} {k : Nat} (F : Fun K "_law_box" "_law_box" sBox f fd) (B : Bl mg) : FnOk P w K mg base CX0 (k + 1) f fd ["_law_script", "_law_k"] (spBox K) := by
  refine F.ok scBox (fun vs H Q E h => ?_) (fun cdv A outer s H vs Q E hr h => ?_)
  · obtain ⟨a, zs, k, rfl, _⟩ := h
    rfl
  obtain ⟨a, zs, k, rfl, hS, h0, h1, q⟩ := h
  refine ⟨_, pss_cons (ps_set (i := 2) scBox.nd rfl (.inl rfl) (pe_ifExp (pt_cmpR op_lt (pv 1) (pe_callB call_len_seq (by rfl) B.len PySem.boot_len (pa_cons (pv 0) pa_nil)) (nomark _)) (pe_ix ix_list (pv 0) (pv 1) (fun _ _ => rfl)) pe_int))
    (pss_one (ps_ret (pe_lst (pa_cons (pe_op op_mul (pe_callB call_abs (by rfl) B.abs boot_abs (pa_cons (pv 2) pa_nil)) (pe_callTy call_int1 (by rfl) B.int PyProof.Rows.boot_int (pa_cons (pe_cmpR op_ge (pe_callB call_abs (by rfl) B.abs boot_abs (pa_cons (pv 2) pa_nil)) (pe_op op_pow pe_int pe_int) (nomark _)) pa_nil)))
      (pa_cons (pe_op op_mod (pe_op op_mul (pe_op op_add (pe_op op_add (pe_op op_mod (pv 2) pe_int) (pe_op op_mul pe_int (pv 1))) pe_int) pe_int) pe_int) (pa_cons pe_int pa_nil)))))), ?_⟩
  refine ⟨_, rfl, _, rfl, a, _, rfl, .inl hS, _, _, rfl, rfl, _, rfl, ite2 (fun cc => ?_) (fun cc => ?_)⟩
  · have c1 : k < (((zs.map V.int).length : Nat) : Int) := of_decide_eq_true cc
    rw [List.length_map] at c1
    obtain ⟨v, hv, _⟩ := at_int h0 c1
    refine ⟨_, rfl, _, rfl, a, _, _, _, rfl, rfl, hS, hv, ?_⟩
    refine ⟨_, rfl, _, rfl, _, rfl, _, rfl, _, _, rfl, rfl, ⟨by decide, by decide, by decide⟩, _, _, rfl, rfl, .inr ⟨_, rfl, ?_⟩⟩
    refine ⟨_, _, rfl, rfl, .inr (b01 _), _, rfl, _, _, rfl, rfl, (by show (0 : Int) < 2147483629; decide), _, rfl, _, _, rfl, rfl, .inl ⟨by decide, by decide⟩, _, _, rfl, rfl, _, _, rfl, rfl, _, _, rfl, rfl, .inr ⟨by decide, by decide⟩, _, _, rfl, rfl, (by show (0 : Int) < 2147483647; decide), (by show 3 ≤ sizeLine; decide), fun p np => ?_⟩
    refine q p _ np (same_upd np) ⟨_, _, _, upd_same, Int.mul_nonneg (abs_nn v) (b01n _), Int.emod_nonneg _ (by decide), Int.emod_lt_of_pos _ (by decide), by decide, by decide⟩
  · refine ⟨_, rfl, _, rfl, _, rfl, _, rfl, _, _, rfl, rfl, ⟨by decide, by decide, by decide⟩, _, _, rfl, rfl, .inr ⟨_, rfl, ?_⟩⟩
    refine ⟨_, _, rfl, rfl, .inr (b01 _), _, rfl, _, _, rfl, rfl, (by show (0 : Int) < 2147483629; decide), _, rfl, _, _, rfl, rfl, .inl ⟨by decide, by decide⟩, _, _, rfl, rfl, _, _, rfl, rfl, _, _, rfl, rfl, .inr ⟨by decide, by decide⟩, _, _, rfl, rfl, (by show (0 : Int) < 2147483647; decide), (by show 3 ≤ sizeLine; decide), fun p np => ?_⟩
    refine q p _ np (same_upd np) ⟨_, _, _, upd_same, Int.mul_nonneg (abs_nn 0) (b01n _), Int.emod_nonneg _ (by decide), Int.emod_lt_of_pos _ (by decide), by decide, by decide⟩
theorem ty_lst {H : Hp} {a : Addr} {xs : List V} (h : SqL K H a xs) : TyX K H (.ref a) (.type "list") := by
  rcases h with (h | ⟨o, h⟩) | ⟨o, its, n, h1, h2, _⟩
  · exact .base (.lst h)
  · exact .base (.frz h)
  · exact .kList h1 h2
theorem ty_tup {H : Hp} {a : Addr} {xs : List V} (h : SqT K H a xs) : TyX K H (.ref a) (.type "tuple") := by
  rcases h with (h | ⟨o, h⟩) | ⟨o, its, n, h1, h2, _⟩
  · exact .base (.tup h)
  · exact .fTuple h
  · exact .kTuple h1 h2
theorem yesT {σ : L2.St} {H : Hp} {R S : Hp → Prop} (h : R H) : tYes σ H fun b H3 => if b = true then R H3 else S H3 := h
theorem repl_snoc {α : Type} (i : Nat) (x : α) : List.replicate i x ++ [x] = List.replicate (i + 1) x := List.replicate_succ'.symm
theorem all_repl (n : Nat) : (List.replicate n true).all id = true := by
  rw [List.all_eq_true]
  intro x hx
  rw [List.eq_of_mem_replicate hx]
  rfl
end
end GZ
namespace GM
theorem pow_pos' (n : Nat) : (0 : Int) < 2 ^ n := Int.pow_pos (by decide)
theorem pow_s (n : Nat) : (2 : Int) ^ (n + 1) = 2 ^ n * 2 := Int.pow_succ 2 n
theorem pow_le' {m n : Nat} (h : m ≤ n) : (2 : Int) ^ m ≤ 2 ^ n := by
  induction n with
  | zero =>
    have : m = 0 := by omega
    rw [this]
    exact Int.le_refl _
  | succ n ih =>
    by_cases e : m = n + 1
    · rw [e]
      exact Int.le_refl _
    · have := ih (by omega)
      have := pow_s n
      have := pow_pos' n
      omega
theorem pow_add' (m n : Nat) : (2 : Int) ^ (m + n) = 2 ^ m * 2 ^ n := Int.pow_add 2 m n
theorem bits_pow {x : Nat} {e : Nat} (h : x < 2 ^ e) : PySem.Builtin.Int.intBits (x : Int) ≤ e := PyProof.Rows.intBits_le (by rw [Int.natAbs_natCast]; exact h)
theorem bits_le_pow {x : Nat} {e : Nat} (h : 2 ^ e ≤ x) : e + 1 ≤ PySem.Builtin.Int.intBits (x : Int) := by
  have hx : x ≠ 0 := by
    have := Nat.two_pow_pos e
    omega
  unfold PySem.Builtin.Int.intBits
  rw [if_neg (by simpa using hx), Int.natAbs_natCast]
  have := (Nat.le_log2 hx).mpr h
  omega
theorem bits_unique {x e : Nat} (h1 : 2 ^ e ≤ x) (h2 : x < 2 ^ (e + 1)) : PySem.Builtin.Int.intBits (x : Int) = e + 1 := by
  have := bits_pow h2
  have := bits_le_pow h1
  omega
theorem bits_ex {x : Nat} (h : 0 < x) : ∃ e, 2 ^ e ≤ x ∧ x < 2 ^ (e + 1) := ⟨x.log2, Nat.log2_self_le (by omega), Nat.lt_log2_self⟩
theorem bits_half {x : Nat} (h : 0 < x) : PySem.Builtin.Int.intBits (x : Int) = PySem.Builtin.Int.intBits ((x / 2 : Nat) : Int) + 1 := by
  obtain ⟨e, h1, h2⟩ := bits_ex h
  rw [bits_unique h1 h2]
  cases e with
  | zero =>
    have : x = 1 := by
      simp at h1 h2
      omega
    rw [this]
    rfl
  | succ e =>
    rw [bits_unique (x := x / 2) (e := e)]
    · rw [Nat.pow_succ] at h1
      omega
    · rw [Nat.pow_succ] at h2
      omega
theorem bits_double {x m : Nat} (h : 0 < x) (hm : m ≤ 1) : PySem.Builtin.Int.intBits ((2 * x + m : Nat) : Int) = PySem.Builtin.Int.intBits (x : Int) + 1 := by
  rw [bits_half (x := 2 * x + m) (by omega), show (2 * x + m) / 2 = x by omega]
theorem shr_lt {x : Int} {a b : Nat} (h0 : 0 ≤ x) (h : x < 2 ^ (a + b)) : 0 ≤ x / 2 ^ b ∧ x / 2 ^ b < 2 ^ a := by
  have hb := pow_pos' b
  refine ⟨Int.ediv_nonneg h0 (by omega), ?_⟩
  rw [pow_add'] at h
  exact Int.ediv_lt_of_lt_mul hb h
end GM
namespace GM
/-! ### words: a sign, a scale of m bits, a tail of t bits -/
def bit (a : Int) (n : Nat) : Int := a / 2 ^ n % 2
def blr (a : Int) : Nat → List Int
  | 0 => []
  | n + 1 => bit a n :: blr a n
def wv : List Int → Int
  | [] => 0
  | d :: r => d * 2 ^ r.length + wv r
theorem blr_len (a : Int) : ∀ n, (blr a n).length = n
  | 0 => rfl
  | n + 1 => by
    show (blr a n).length + 1 = n + 1
    rw [blr_len a n]
theorem div_div (w : Int) (t m : Nat) : w / 2 ^ t / 2 ^ m = w / 2 ^ (t + m) := by
  rw [pow_add', Int.ediv_ediv_of_nonneg (Int.le_of_lt (pow_pos' t))]
theorem bit_div (w : Int) (t m : Nat) : bit (w / 2 ^ t) m = bit w (m + t) := by
  unfold bit
  rw [div_div, Nat.add_comm t m]
theorem blr_take (w : Int) (t : Nat) : ∀ m, (blr w (m + t)).take m = blr (w / 2 ^ t) m
  | 0 => rfl
  | m + 1 => by
    show (blr w ((m + 1) + t)).take (m + 1) = bit (w / 2 ^ t) m :: blr (w / 2 ^ t) m
    rw [show m + 1 + t = (m + t) + 1 by omega]
    show bit w (m + t) :: (blr w (m + t)).take m = _
    rw [blr_take w t m, bit_div]
theorem blr_drop (w : Int) (t : Nat) : ∀ m, (blr w (m + t)).drop m = blr w t
  | 0 => by rw [Nat.zero_add]; rfl
  | m + 1 => by
    rw [show m + 1 + t = (m + t) + 1 by omega]
    show (blr w (m + t)).drop m = _
    exact blr_drop w t m
theorem mod_step (a : Int) (n : Nat) : bit a n * 2 ^ n + a % 2 ^ n = a % 2 ^ (n + 1) := by
  unfold bit
  have hp := pow_pos' n
  have e1 := Int.emod_add_mul_ediv a (2 ^ n)
  have e2 := Int.emod_add_mul_ediv (a / 2 ^ n) 2
  have h1 := Int.emod_nonneg a (show (2 : Int) ^ n ≠ 0 by omega)
  have h2 := Int.emod_lt_of_pos a hp
  have e3 : 2 ^ n * (a / 2 ^ n) = a / 2 ^ n % 2 * 2 ^ n + a / 2 ^ n / 2 * (2 ^ n * 2) := by
    conv => lhs; rw [← e2]
    rw [Int.mul_add, Int.mul_comm (2 ^ n) (a / 2 ^ n % 2), ← Int.mul_assoc, Int.mul_comm (2 ^ n * 2) _]
  have key : (a / 2 ^ n % 2 * 2 ^ n + a % 2 ^ n) + a / 2 ^ n / 2 * 2 ^ (n + 1) = a := by
    rw [pow_s]
    omega
  have hb : 0 ≤ a / 2 ^ n % 2 * 2 ^ n + a % 2 ^ n ∧ a / 2 ^ n % 2 * 2 ^ n + a % 2 ^ n < 2 ^ (n + 1) := by
    rw [pow_s]
    have : a / 2 ^ n % 2 = 0 ∨ a / 2 ^ n % 2 = 1 := by omega
    rcases this with z | z <;> rw [z] <;> omega
  have em := Int.add_mul_emod_self_right (a / 2 ^ n % 2 * 2 ^ n + a % 2 ^ n) (a / 2 ^ n / 2) (2 ^ (n + 1))
  rw [key, Int.emod_eq_of_lt hb.1 hb.2] at em
  exact em.symm
theorem wv_blr (a : Int) : ∀ n, wv (blr a n) = a % 2 ^ n
  | 0 => by
    show (0 : Int) = a % 1
    omega
  | n + 1 => by
    show bit a n * 2 ^ (blr a n).length + wv (blr a n) = _
    rw [blr_len, wv_blr a n, ← mod_step a n]
theorem fold2 : ∀ (ds : List Int) (w : Int), ds.foldl (fun a b => a * 2 + b) w = w * 2 ^ ds.length + wv ds
  | [], w => by
    show w = w * 2 ^ 0 + 0
    rw [Int.pow_zero]
    omega
  | d :: r, w => by
    show r.foldl (fun a b => a * 2 + b) (w * 2 + d) = w * 2 ^ (r.length + 1) + (d * 2 ^ r.length + wv r)
    rw [fold2 r, pow_s, Int.add_mul, Int.mul_assoc, Int.mul_comm 2 (2 ^ r.length)]
    omega
theorem wv_ones : ∀ k, wv (List.replicate k 1) = 2 ^ k - 1
  | 0 => rfl
  | k + 1 => by
    rw [List.replicate_succ]
    show 1 * 2 ^ (List.replicate k (1 : Int)).length + wv (List.replicate k 1) = _
    rw [List.length_replicate, wv_ones k, pow_s]
    omega
/-- sign, scale, tail of a word -/
def sgn (m t : Nat) (w : Int) : Int := w / 2 ^ (m + t) % 2
def scl (m t : Nat) (w : Int) : Int := w / 2 ^ t % 2 ^ m
def tlp (t : Nat) (w : Int) : Int := w % 2 ^ t
theorem scl_tlp (m t : Nat) (w : Int) : scl m t w * 2 ^ t + tlp t w = w % 2 ^ (m + t) := by
  induction m with
  | zero =>
    unfold scl tlp
    rw [Int.pow_zero, Int.emod_one, Int.zero_mul, Int.zero_add, Nat.zero_add]
  | succ m ih =>
    have e := mod_step (w / 2 ^ t) m
    have e2 := mod_step w (m + t)
    rw [bit_div] at e
    unfold scl at ih ⊢
    rw [← e, Int.add_mul, show m + 1 + t = (m + t) + 1 by omega, ← e2, ← ih, Int.mul_assoc, ← pow_add']
    omega
theorem sgn_01 {m t : Nat} {w : Int} : sgn m t w = 0 ∨ sgn m t w = 1 := by
  unfold sgn
  omega
theorem word_eq {m t : Nat} {w : Int} (h0 : 0 ≤ w) (h1 : w < 2 ^ (1 + m + t)) : sgn m t w * 2 ^ (m + t) + w % 2 ^ (m + t) = w := by
  have e := mod_step w (m + t)
  rw [show m + t + 1 = 1 + m + t by omega, Int.emod_eq_of_lt h0 h1] at e
  exact e
theorem scl_nn (m t : Nat) (w : Int) : 0 ≤ scl m t w ∧ scl m t w < 2 ^ m := ⟨Int.emod_nonneg _ (by have := pow_pos' m; omega), Int.emod_lt_of_pos _ (pow_pos' m)⟩
theorem tlp_nn (t : Nat) (w : Int) : 0 ≤ tlp t w ∧ tlp t w < 2 ^ t := ⟨Int.emod_nonneg _ (by have := pow_pos' t; omega), Int.emod_lt_of_pos _ (pow_pos' t)⟩
/-- with the other sign -/
def trn (m t : Nat) (w : Int) : Int := (1 - sgn m t w) * 2 ^ (m + t) + w % 2 ^ (m + t)
theorem mk_parts {m t : Nat} {s r : Int} (hs : s = 0 ∨ s = 1) (h0 : 0 ≤ r) (h1 : r < 2 ^ (m + t)) : 0 ≤ s * 2 ^ (m + t) + r ∧ s * 2 ^ (m + t) + r < 2 ^ (1 + m + t) ∧ sgn m t (s * 2 ^ (m + t) + r) = s ∧ (s * 2 ^ (m + t) + r) % 2 ^ (m + t) = r := by
  have hp := pow_pos' (m + t)
  have e : (2 : Int) ^ (1 + m + t) = 2 ^ (m + t) * 2 := by rw [← pow_s]; congr 1; omega
  have em : (s * 2 ^ (m + t) + r) % 2 ^ (m + t) = r := by
    rw [Int.add_comm, Int.add_mul_emod_self_right, Int.emod_eq_of_lt h0 h1]
  have ed : (s * 2 ^ (m + t) + r) / 2 ^ (m + t) = s := by
    rw [Int.add_comm, Int.add_mul_ediv_right _ _ (by omega), Int.ediv_eq_zero_of_lt h0 h1, Int.zero_add]
  refine ⟨?_, ?_, ?_, em⟩
  · rcases hs with z | z <;> subst z <;> omega
  · rw [e]
    rcases hs with z | z <;> subst z <;> omega
  · unfold sgn
    rw [ed]
    omega
theorem trn_trn {m t : Nat} {w : Int} (h0 : 0 ≤ w) (h1 : w < 2 ^ (1 + m + t)) : trn m t (trn m t w) = w ∧ 0 ≤ trn m t w ∧ trn m t w < 2 ^ (1 + m + t) := by
  have hp := pow_pos' (m + t)
  have hs : 1 - sgn m t w = 0 ∨ 1 - sgn m t w = 1 := by
    have := sgn_01 (m := m) (t := t) (w := w)
    omega
  obtain ⟨a, b, c, d⟩ := mk_parts (m := m) (t := t) hs (Int.emod_nonneg w (show (2 : Int) ^ (m + t) ≠ 0 by omega)) (Int.emod_lt_of_pos w hp)
  refine ⟨?_, a, b⟩
  show (1 - sgn m t (trn m t w)) * 2 ^ (m + t) + trn m t w % 2 ^ (m + t) = w
  rw [show sgn m t (trn m t w) = 1 - sgn m t w from c, show trn m t w % 2 ^ (m + t) = w % 2 ^ (m + t) from d, show 1 - (1 - sgn m t w) = sgn m t w by omega]
  exact word_eq h0 h1
end GM
namespace GZ
open PySem PySem.Spec PyProof.Rows L2
theorem val0 (t : Tok) : Vals [V.int 0] [Value.int 0 t] := .cons ⟨_, rfl⟩ .nil
/-! ### keyword-only parameters -/
theorem kbn_of {K : PySem.W.Frag} {x qual : Str} {st : Stmt} {D : Addr} {an : Option Addr} {doc pm cdv ct : Value} {ps ks : List Str} {n : Nat} {ml : List (Str × Value)} {g : List Value → List Value → List Value} {gV : List V → List V → List V} (hml : ∀ q ∈ ml, PySem.W.nsIn K D q.1 = some (some q.2))
    (h : ∀ us ws : List Value, us.length = n → ws.length = ks.length → KwChain D ml (bindArgs (PySem.W.fnOf x qual (defArgs st) (defBody st) (defScope st) .none (.ref D) doc pm an cdv ct) ⟨us, ks.zip ws⟩) (ps.zip (g us ws)))
    (rel : ∀ {vs : List V} {us : List Value} {zs : List V} {ws : List Value}, vs.length = n → zs.length = ks.length → Vals vs us → Vals zs ws → Vals (gV vs zs) (g us ws)) :
    ∀ (s : Shared) (us ws : List Value), K.In s.heap → us.length = n → ws.length = ks.length → BindsTo s (PySem.W.fnOf x qual (defArgs st) (defBody st) (defScope st) .none (.ref D) doc pm an cdv ct) ⟨us, ks.zip ws⟩ (ps.zip (g us ws)) :=
  fun s us ws X l1 l2 => BindsTo.of_looks fun M => KwChain.looks X hml (h us ws l1 l2)
theorem bnd_of {K : PySem.W.Frag} {x qual : Str} {st : Stmt} {D : Addr} {an : Option Addr} {doc pm cdv ct : Value} {ps : List Str} {ml : List (Str × Value)} {ds : List Value} (hml : ∀ q ∈ ml, PySem.W.nsIn K D q.1 = some (some q.2))
    (h : ∀ us : List Value, us.length + ds.length = ps.length → KwChain D ml (bindArgs (PySem.W.fnOf x qual (defArgs st) (defBody st) (defScope st) .none (.ref D) doc pm an cdv ct) ⟨us, []⟩) (ps.zip (us ++ ds))) :
    Binds K (PySem.W.fnOf x qual (defArgs st) (defBody st) (defScope st) .none (.ref D) doc pm an cdv ct) ps ds := fun s us X hl => by
  rw [List.length_append] at hl
  exact BindsTo.of_looks fun M => KwChain.looks X hml (h us hl)
/-! ### a def whose defaults aren't asked for -/
structure FunA (K : PySem.W.Frag) (x qual : Str) (st : Stmt) (f : Addr) (fd : FuncData) : Prop where
  ex : ∃ (oc : Value) (od : Option Addr) (dV kV doc pm : Value) (an : Option Addr) (cdv ct : Value) (osl : Array (Option Value)),
    fd = PySem.W.fnOf x qual (defArgs st) (defBody st) (defScope st) dV kV doc pm an cdv ct ∧ K.lookup f = some ⟨oc, od, .func fd, osl⟩ ∧ PySem.W.codeIn K cdv qual = true
  kp : PySem.W.keepIn K (.ref f) = true
theorem FunA.ok {P : Program} {w : World} {K : PySem.W.Frag} {mg : Str → Option Value} {base : Heap} {x qual : Str} {st : Stmt} {f : Addr} {fd : FuncData} {N ps : List Str} {k : Nat} {sp : Sp} (F : FunA K x qual st f fd) (S : FnScope N ps (defScope st)) (len : ∀ vs H Q E, sp vs H Q E → vs.length = ps.length)
    (hbody : ∀ (cdv : Value) (A : Around) (outer : List Env) (s : Shared) (H : Hp) (vs : List V) (Q : VK) (E : XK), Room k (A.deeper (envOfC qual (defScope st) s.heap.objs.size f cdv)) → sp vs H Q E →
      ∃ t, PSs (cxOf CX0 P w K mg base N qual (defScope st) f cdv A outer s H E).nox (defBody st) t ∧ t { nx := fun _ H' => Q .non H', rt := Q } (start N vs) H) : FnOk P w K mg base CX0 (k + 1) f fd ps sp := by
  obtain ⟨oc, od, dV, kV, doc, pm, an, cdv, ct, osl, rfl, lk, hcd⟩ := F.ex
  refine fn_of lk hcd S len fun A outer s H vs Q E hr hsp => ?_
  obtain ⟨t, h, q⟩ := hbody cdv A outer s H vs Q E hr hsp
  exact ⟨t, h.nox, q⟩
theorem bindsA {K : PySem.W.Frag} {x qual : Str} {st : Stmt} {f T : Addr} {oc oT vT : Value} {od an dT : Option Addr} {osl sT : Array (Option Value)} {kV doc pm cdv ct : Value} {nT : Nat} {ps : List Str} (l : K.lookup f = some ⟨oc, od, .func (PySem.W.fnOf x qual (defArgs st) (defBody st) (defScope st) (.ref T) kV doc pm an cdv ct), osl⟩)
    (lT : K.lookup T = some ⟨oT, dT, .seq #[vT] nT, sT⟩)
    (h : ∀ (kV doc pm : Value) (an : Option Addr) (cdv ct : Value) (us : List Value), us.length = ps.length → ∃ k, bindArgs (PySem.W.fnOf x qual (defArgs st) (defBody st) (defScope st) (.ref T) kV doc pm an cdv ct) ⟨us, []⟩ = seqItems? (.ref T) >>= k ∧ k (some #[vT]) = pure (ps.zip us)) : Binds K (PySem.W.fnOf x qual (defArgs st) (defBody st) (defScope st) (.ref T) kV doc pm an cdv ct) ps [] := by
  intro s us X hl
  rw [List.append_nil] at hl ⊢
  obtain ⟨k, e1, e2⟩ := h kV doc pm an cdv ct us hl
  refine BindsTo.of_looks fun M => ?_
  rw [e1]
  exact looks_items X lT rfl (.of_pure e2)
theorem bindsAD {K : PySem.W.Frag} {x qual : Str} {st : Stmt} {f T : Addr} {oc oT vT : Value} {od an dT : Option Addr} {osl sT : Array (Option Value)} {kV doc pm cdv ct : Value} {nT : Nat} {ps : List Str} (l : K.lookup f = some ⟨oc, od, .func (PySem.W.fnOf x qual (defArgs st) (defBody st) (defScope st) (.ref T) kV doc pm an cdv ct), osl⟩)
    (lT : K.lookup T = some ⟨oT, dT, .seq #[vT] nT, sT⟩)
    (h : ∀ (kV doc pm : Value) (an : Option Addr) (cdv ct : Value) (us : List Value), us.length + 1 = ps.length → ∃ k, bindArgs (PySem.W.fnOf x qual (defArgs st) (defBody st) (defScope st) (.ref T) kV doc pm an cdv ct) ⟨us, []⟩ = seqItems? (.ref T) >>= k ∧ k (some #[vT]) = pure (ps.zip (us ++ [vT]))) : Binds K (PySem.W.fnOf x qual (defArgs st) (defBody st) (defScope st) (.ref T) kV doc pm an cdv ct) ps [vT] := by
  intro s us X hl
  rw [List.length_append] at hl
  obtain ⟨k, e1, e2⟩ := h kV doc pm an cdv ct us hl
  refine BindsTo.of_looks fun M => ?_
  rw [e1]
  exact looks_items X lT rfl (.of_pure e2)
theorem kbindsA {x1 : Str} {K : PySem.W.Frag} {x qual : Str} {st : Stmt} {f T : Addr} {oc oT vT : Value} {od an dT : Option Addr} {osl sT : Array (Option Value)} {kV doc pm cdv ct : Value} {nT : Nat} {ps : List Str} (l : K.lookup f = some ⟨oc, od, .func (PySem.W.fnOf x qual (defArgs st) (defBody st) (defScope st) (.ref T) kV doc pm an cdv ct), osl⟩)
    (lT : K.lookup T = some ⟨oT, dT, .seq #[vT] nT, sT⟩)
    (h : ∀ (kV doc pm : Value) (an : Option Addr) (cdv ct u w : Value), ∃ k, bindArgs (PySem.W.fnOf x qual (defArgs st) (defBody st) (defScope st) (.ref T) kV doc pm an cdv ct) ⟨[u], [(x1, w)]⟩ = seqItems? (.ref T) >>= k ∧ k (some #[vT]) = pure (ps.zip [u, w])) : KBn K (PySem.W.fnOf x qual (defArgs st) (defBody st) (defScope st) (.ref T) kV doc pm an cdv ct) ps 1 [x1] (fun us ws => us ++ ws) (fun us ws => us ++ ws) := by
  refine ⟨fun s us ws X l1 l2 => ?_, fun r1 r2 => r1.append r2⟩
  match us, ws, l1, l2 with
  | [u], [w], _, _ =>
    obtain ⟨k, e1, e2⟩ := h kV doc pm an cdv ct u w
    refine BindsTo.of_looks fun M => ?_
    show PySem.W.Looks M s.heap (bindArgs (PySem.W.fnOf x qual (defArgs st) (defBody st) (defScope st) (.ref T) kV doc pm an cdv ct) ⟨[u], [(x1, w)]⟩) (ps.zip [u, w])
    rw [e1]
    exact looks_items X lT rfl (.of_pure e2)
theorem funA_mk {K : PySem.W.Frag} {x qual : Str} {st : Stmt} {f : Addr} {oc : Value} {od an : Option Addr} {osl : Array (Option Value)} {dV kV doc pm cdv ct : Value} (l : K.lookup f = some ⟨oc, od, .func (PySem.W.fnOf x qual (defArgs st) (defBody st) (defScope st) dV kV doc pm an cdv ct), osl⟩)
    (c : PySem.W.codeIn K cdv qual = true) (k : PySem.W.keepIn K (.ref f) = true) : FunA K x qual st f (PySem.W.fnOf x qual (defArgs st) (defBody st) (defScope st) dV kV doc pm an cdv ct) := ⟨⟨oc, od, dV, kV, doc, pm, an, cdv, ct, osl, rfl, l, c⟩, k⟩
section
variable {P : Program} {w : World} {K : PySem.W.Frag} {mg : Str → Option Value} {base : Heap}
theorem cutG {Cd A : Int → Int → Hp → Prop} {B : Prop} (h1 : ∀ n p H, Cd n p H → A n p H) (h2 : (∀ n p H, Cd n p H → A n p H) → B) : B := h2 h1
theorem cutA {Cd A : Addr → Hp → Prop} {B : Prop} (h1 : ∀ a H, Cd a H → A a H) (h2 : (∀ a H, Cd a H → A a H) → B) : B := h2 h1
theorem cutH {H : Hp} {A : Hp → Prop} {B : Prop} (h1 : ∀ H', Same H H' → A H') (h2 : (∀ H', Same H H' → A H') → B) : B := h2 h1
theorem cutP {A B : Prop} (h1 : A) (h2 : A → B) : B := h2 h1
theorem gB {i : Nat} {v u : Bool} {σ : L2.St} {H : Hp} {D : L2.St → Hp → Prop} (e : v = u) (h : gName i (V.bl u) σ H D) : gName i (V.bl v) σ H D := e ▸ h
theorem gI {i : Nat} {v u : Int} {σ : L2.St} {H : Hp} {D : L2.St → Hp → Prop} (e : v = u) (h : gName i (V.int u) σ H D) : gName i (V.int v) σ H D := e ▸ h
theorem dvi (a b : Int) : decide (V.int a = V.int b) = decide (a = b) := by
  by_cases c : a = b
  · rw [decide_eq_true c, decide_eq_true (congrArg V.int c)]
  · rw [decide_eq_false c, decide_eq_false (fun z => c (V.int.inj z))]
theorem dvs (a b : Str) : decide (V.str a = V.str b) = decide (a = b) := by
  by_cases c : a = b
  · rw [decide_eq_true c, decide_eq_true (congrArg V.str c)]
  · rw [decide_eq_false c, decide_eq_false (fun z => c (V.str.inj z))]
theorem bx1 {c : Int} {H : Hp} {b : Addr} (h : BoxAt (c + 2 ^ (1 - 1)) H b) : BoxAt (c + 1) H b := h
theorem Keep.none {b p : Addr} {H H' : Hp} (k : Keep b H H') (n : p ≠ b) (h : H' p = none) : H p = none := by
  cases q : H p with
  | none => rfl
  | some o =>
    rw [k p o q n] at h
    cases h
theorem dp_ints {H : Hp} : ∀ ds : List Int, DpAll K H (ds.map V.int) (ds.map PyData.int)
  | [] => .nil
  | d :: ds => .cons (.int d) (dp_ints ds)
theorem eqv_ints (ds : List Int) : PyData.eqv (.list (ds.map PyData.int)) (.list (ds.map PyData.int)) = true := PySem.SeqAt.eqv_refl _ (PySem.SeqAt.canLay_of_shaped (PySem.W.shaped_ints ds))
/-! ### nets -/
def KeepS (S : List Addr) (H H' : Hp) : Prop := (∀ y o, H y = some o → y ∉ S → H' y = some o) ∧ ∀ y, H y ≠ none → H' y ≠ none
theorem KeepS.refl (S : List Addr) (H : Hp) : KeepS S H H := ⟨fun _ _ e _ => e, fun _ e => e⟩
theorem KeepS.trans {S : List Addr} {H H1 H2 : Hp} (a : KeepS S H H1) (b : KeepS S H1 H2) : KeepS S H H2 := ⟨fun y o e n => b.1 y o (a.1 y o e n) n, fun y e => b.2 y (a.2 y e)⟩
theorem some_ne {H : Hp} {y : Addr} {o : HO} (e : H y = some o) : H y ≠ none := fun z => by rw [z] at e; cases e
theorem KeepS.ofSame {S : List Addr} {H H1 : Hp} (s : Same H H1) : KeepS S H H1 := ⟨fun y o e _ => s y o e, fun y e => by
  cases q : H y with
  | none => exact absurd q e
  | some o => exact some_ne (s y o q)⟩
theorem KeepS.mono {S T : List Addr} {H H1 : Hp} (h : ∀ y ∈ S, y ∈ T) (a : KeepS S H H1) : KeepS T H H1 := ⟨fun y o e n => a.1 y o e (fun m => n (h y m)), a.2⟩
theorem KeepS.ofKeep {b : Addr} {S : List Addr} {H H1 : Hp} (k : Keep b H H1) (m : b ∈ S) (hb : H1 b ≠ none) : KeepS S H H1 := ⟨fun y o e n => k y o e (fun z => n (by rw [z]; exact m)), fun y e => by
  by_cases c : y = b
  · rw [c]
    exact hb
  · cases q : H y with
    | none => exact absurd q e
    | some o => exact some_ne (k y o q c)⟩
theorem KeepS.upd {S : List Addr} {H : Hp} {a : Addr} {o : HO} (m : a ∈ S) : KeepS S H (upd H a o) := ⟨fun y u e n => by rw [upd_ne (fun z => n (by rw [z]; exact m))]; exact e, fun y e => by
  by_cases c : y = a
  · rw [c, upd_same]
    exact fun z => by cases z
  · rw [upd_ne c]
    exact e⟩
theorem KeepS.new {S : List Addr} {H : Hp} {a : Addr} {o : HO} (n : H a = none) : KeepS S H (L2.upd H a o) := .ofSame (same_upd n)
theorem KeepS.keep {b : Addr} {H H1 : Hp} (k : KeepS [b] H H1) : Keep b H H1 := fun y o e n => k.1 y o e (by simp only [List.mem_singleton]; exact n)
theorem KeepS.same {H H1 : Hp} (k : KeepS [] H H1) : Same H H1 := fun y o e => k.1 y o e (fun z => nomatch z)
theorem KeepS.seq {K : PySem.W.Frag} {S : List Addr} {a : Addr} {H H' : Hp} {xs : List V} (e : KeepS S H H') (n : a ∉ S) (h : SqL K H a xs) : SqL K H' a xs := by
  rcases h with (h | ⟨o, h⟩) | h
  · exact .inl (.inl (e.1 _ _ h n))
  · exact .inl (.inr ⟨o, e.1 _ _ h n⟩)
  · exact .inr h
theorem KeepS.seqT {K : PySem.W.Frag} {S : List Addr} {a : Addr} {H H' : Hp} {xs : List V} (e : KeepS S H H') (n : a ∉ S) (h : SqT K H a xs) : SqT K H' a xs := by
  rcases h with (h | ⟨o, h⟩) | h
  · exact .inl (.inl (e.1 _ _ h n))
  · exact .inl (.inr ⟨o, e.1 _ _ h n⟩)
  · exact .inr h
theorem BoxAt.keepS {c : Int} {S : List Addr} {H H' : Hp} {b : Addr} (h : BoxAt c H b) (k : KeepS S H H') (n : b ∉ S) : BoxAt c H' b := by
  obtain ⟨x, y, z, e, r⟩ := h
  exact ⟨x, y, z, k.1 _ _ e n, r⟩
inductive Gt where
  | w (k : Str) (ws : List Nat)
  | fi (b : Nat)
def nts (ws : List Nat) : List V := ws.map fun (a : Nat) => V.int (a : Int)
theorem nts_at {ws : List Nat} {i : Nat} {x : V} (h : (nts ws)[i]? = some x) : ∃ v, ws[i]? = some v ∧ x = .int (v : Int) := by
  unfold nts at h
  rw [List.getElem?_map] at h
  cases q : ws[i]? with
  | none => rw [q] at h; cases h
  | some v => rw [q] at h; exact ⟨v, rfl, (Option.some.inj h).symm⟩
theorem nts_len (ws : List Nat) : (nts ws).length = ws.length := by
  unfold nts
  rw [List.length_map]
def Gt.row : Gt → List V
  | .w k ws => .str k :: nts ws
  | .fi b => [.str "fixed", .int (b : Int)]
def Gt.ok (n : Nat) : Gt → Prop
  | .w k ws => (((k = "both" ∨ k = "either" ∨ k = "unlike") ∧ ws.length = 2) ∨ (k = "other" ∧ ws.length = 1)) ∧ ∀ a ∈ ws, a < n
  | .fi b => b ≤ 1
def mx (l : List Int) : Int := l.foldl (fun m x => if x > m then x else m) 0
theorem mx_fold : ∀ (l : List Int) (a : Int), a ≤ l.foldl (fun m x => if x > m then x else m) a ∧ (∀ y ∈ l, y ≤ l.foldl (fun m x => if x > m then x else m) a) ∧ (l.foldl (fun m x => if x > m then x else m) a = a ∨ l.foldl (fun m x => if x > m then x else m) a ∈ l)
  | [], a => ⟨Int.le_refl _, (fun _ z => nomatch z), .inl rfl⟩
  | x :: l, a => by
    obtain ⟨h1, h2, h3⟩ := mx_fold l (if x > a then x else a)
    have e : a ≤ (if x > a then x else a) ∧ x ≤ (if x > a then x else a) ∧ ((if x > a then x else a) = a ∨ (if x > a then x else a) = x) := by split <;> omega
    rw [List.foldl_cons]
    refine ⟨by omega, fun y hy => ?_, ?_⟩
    · rcases List.mem_cons.mp hy with z | z
      · rw [z]
        omega
      · exact h2 y z
    · rcases h3 with z | z
      · rcases e.2.2 with u | u
        · exact .inl (z.trans u)
        · exact .inr (List.mem_cons.mpr (.inl (z.trans u)))
      · exact .inr (List.mem_cons.mpr (.inr z))
theorem mx_is {l : List Int} {m : Int} (h : m ∈ l) (hm : ∀ y ∈ l, y ≤ m) (h0 : ∀ y ∈ l, 0 ≤ y) : mx l = m := by
  obtain ⟨h1, h2, h3⟩ := mx_fold l 0
  have a := h2 m h
  have b := h0 m h
  unfold mx
  rcases h3 with z | z
  · omega
  · have := hm _ z
    omega
theorem mx_nn (l : List Int) : 0 ≤ mx l := (mx_fold l 0).1
def dep (ds : List Int) : Gt → Int
  | .w _ ws => 1 + mx (ws.map fun a => ds.getD a 0)
  | .fi _ => 0
theorem dep_nn (ds : List Int) (g : Gt) : 0 ≤ dep ds g := by
  cases g with
  | w k ws =>
    have := mx_nn (ws.map fun a => ds.getD a 0)
    show 0 ≤ 1 + mx (ws.map fun a => ds.getD a 0)
    omega
  | fi b => exact Int.le_refl _
def dps (m : Nat) (gs : List Gt) : List Int := gs.foldl (fun ds g => ds ++ [dep ds g]) (List.replicate m 0)
theorem dps_snoc (m : Nat) (gs : List Gt) (g : Gt) : dps m (gs ++ [g]) = dps m gs ++ [dep (dps m gs) g] := by
  unfold dps
  rw [List.foldl_append]
  rfl
theorem dps_fold : ∀ (gs : List Gt) (ds : List Int), (∀ d ∈ ds, 0 ≤ d) → (gs.foldl (fun ds g => ds ++ [dep ds g]) ds).length = ds.length + gs.length ∧ ∀ d ∈ gs.foldl (fun ds g => ds ++ [dep ds g]) ds, 0 ≤ d
  | [], ds, h => ⟨rfl, h⟩
  | g :: gs, ds, h => by
    have a := dps_fold gs (ds ++ [dep ds g]) (fun d hd => by
      rcases List.mem_append.mp hd with z | z
      · exact h d z
      · rw [List.mem_singleton.mp z]
        exact dep_nn ds g)
    rw [List.foldl_cons]
    refine ⟨?_, a.2⟩
    rw [a.1, List.length_append, List.length_cons, List.length_cons, List.length_nil]
    omega
theorem dps_len (m : Nat) (gs : List Gt) : (dps m gs).length = m + gs.length := by
  have a := (dps_fold gs (List.replicate m 0) (fun d hd => by rw [List.eq_of_mem_replicate hd]; exact Int.le_refl _)).1
  rw [List.length_replicate] at a
  exact a
theorem dps_nn (m : Nat) (gs : List Gt) : ∀ d ∈ dps m gs, 0 ≤ d := (dps_fold gs (List.replicate m 0) (fun d hd => by rw [List.eq_of_mem_replicate hd]; exact Int.le_refl _)).2
structure NetP where
  x : Addr
  lm : Addr
  ld : Addr
  dn : Addr
def GsAt (Z : List Addr) (H : Hp) (ps : List Addr) (gs : List Gt) : Prop := ps.length = gs.length ∧ ∀ (i : Nat) (q : Addr) (g : Gt), ps[i]? = some q → gs[i]? = some g → q ∉ Z ∧ H q = some (.tup g.row)
def NmAt (Z : List Addr) (H : Hp) (p : NetP) (kvs : List (Key × V)) (nm : List (Str × List Nat)) : Prop :=
  kvs.length = nm.length ∧ (nm.map (·.1)).Nodup ∧ ∀ (i : Nat) (k : Key) (v : V) (n : Str) (ws : List Nat), kvs[i]? = some (k, v) → nm[i]? = some (n, ws) → k = .inr n ∧ ∃ l, v = .ref l ∧ l ∉ Z ∧ l ≠ p.lm ∧ l ≠ p.ld ∧ H l = some (.lst (nts ws))
def NetAt (C : Addr) (Z : List Addr) (H : Hp) (p : NetP) (m : Nat) (gs : List Gt) (nm : List (Str × List Nat)) : Prop :=
  (∀ z ∈ Z, H z ≠ none) ∧ p.lm ≠ p.ld ∧ (p.x ∉ Z ∧ p.lm ∉ Z ∧ p.ld ∉ Z ∧ p.dn ∉ Z) ∧ ∃ dx ps kvs, H p.x = some (.ins C dx [("input_count", .int (m : Int)), ("made", .ref p.lm), ("depths", .ref p.ld), ("by_name", .ref p.dn)]) ∧
    H p.lm = some (.lst (ps.map V.ref)) ∧ H p.ld = some (.lst ((dps m gs).map V.int)) ∧ H p.dn = some (.dK kvs) ∧ GsAt Z H ps gs ∧ NmAt Z H p kvs nm
theorem NetAt.keep {C : Addr} {S Z : List Addr} {H H' : Hp} {p : NetP} {m : Nat} {gs : List Gt} {nm : List (Str × List Nat)} (h : NetAt C Z H p m gs nm) (k : KeepS S H H') (hs : ∀ y ∈ S, y ∈ Z) : NetAt C Z H' p m gs nm := by
  obtain ⟨a, b, ⟨c1, c2, c3, c4⟩, dx, ps, kvs, e1, e2, e3, e4, ⟨g1, g2⟩, n1, n2, n3⟩ := h
  have f : ∀ {y : Addr} {o : HO}, y ∉ Z → H y = some o → H' y = some o := fun n e => k.1 _ _ e (fun z => n (hs _ z))
  refine ⟨fun z hz => k.2 z (a z hz), b, ⟨c1, c2, c3, c4⟩, dx, ps, kvs, f c1 e1, f c2 e2, f c3 e3, f c4 e4, ⟨g1, fun i q g hi hg => ?_⟩, n1, n2, fun i k v n ws hi hn => ?_⟩
  · have := g2 i q g hi hg
    exact ⟨this.1, f this.1 this.2⟩
  · obtain ⟨ek, l, ev, l1, l2, l3, l4⟩ := n3 i k v n ws hi hn
    exact ⟨ek, l, ev, l1, l2, l3, f l1 l4⟩
theorem NetAt.same {C : Addr} {Z : List Addr} {H H' : Hp} {p : NetP} {m : Nat} {gs : List Gt} {nm : List (Str × List Nat)} (h : NetAt C Z H p m gs nm) (s : Same H H') : NetAt C Z H' p m gs nm := h.keep (S := []) (.ofSame s) (fun _ z => nomatch z)
theorem NetAt.keepB {C b : Addr} {Z : List Addr} {H H' : Hp} {p : NetP} {m : Nat} {gs : List Gt} {nm : List (Str × List Nat)} (h : NetAt C Z H p m gs nm) (k : Keep b H H') (hb : H' b ≠ none) (m' : b ∈ Z) : NetAt C Z H' p m gs nm := h.keep (S := [b]) (.ofKeep k (List.mem_singleton.mpr rfl) hb) (fun y hy => by rw [List.mem_singleton.mp hy]; exact m')
theorem BoxAt.some {c : Int} {H : Hp} {b : Addr} (h : BoxAt c H b) : H b ≠ none := by
  obtain ⟨_, _, _, e, _⟩ := h
  exact some_ne e
theorem made {C : Addr} {H : Hp} {x dx : Addr} (nx : H x = none) (nd : H dx = none) (ne : dx ≠ x) {H' : Hp} (k : ∀ p o, (upd (upd H dx (.own x)) x (.ins C dx [])) p = some o → p ≠ x → H' p = some o) : Same H H' := fun p o e =>
  k p o (by rw [upd_ne (ne_of_none e nx), upd_ne (ne_of_none e nd)]; exact e) (ne_of_none e nx)
theorem units1 {k : Nat} {A : Around} (r : Room k A) : A.units + 1 < cLine := by have := r.un; omega
theorem pi_or {X : Cx} {tg e : Expr} {i j : TI} (h1 : PI X tg e i) (h2 : PI X tg e j) : PI X tg e (fun σ H R => i σ H R ∨ j σ H R) := ⟨fun pins s σ H R I h => h.elim (fun a => h1.run pins s σ H R I a) (fun b => h2.run pins s σ H R I b)⟩
structure FT (K : PySem.W.Frag) (mg : Str → Option Value) (C : Addr) : Prop where
  cl : Cls K C
  n_input_count : NoAttr K C "input_count"
  n_made : NoAttr K C "made"
  n_depths : NoAttr K C "depths"
  n_by_name : NoAttr K C "by_name"
  mgC : mg "Net" = some (.ref C)
structure LL (K : PySem.W.Frag) (mg : Str → Option Value) (C : Addr) (a1 a2 a3 a4 a5 a6 a7 a8 a9 a10 a11 a12 a13 a14 a15 a16 a17 a18 a19 a20 a21 a22 a23 a24 a25 a26 a27 a28 a29 a30 a31 a32 a33 a34 a35 a36 a37 a38 : Addr) (l1 l2 l3 l4 l5 l6 l7 l8 l9 l10 l11 l12 l13 l14 l15 l16 l17 l18 l19 l20 l21 l22 l23 l24 l25 l26 l27 l28 l29 l30 l31 l32 l33 l34 l35 l36 l37 l38 : FuncData) : Prop where
  F_sum_wires : Fun K "sum_wires" "sum_wires" s_sum_wires a1 l1
  m_sum_wires : mg "sum_wires" = some (.ref a1)
  b_sum_wires : Binds K l1 ["net", "ones", "others", "carry"] []
  F_any_wire : Fun K "any_wire" "any_wire" s_any_wire a2 l2
  m_any_wire : mg "any_wire" = some (.ref a2)
  b_any_wire : Binds K l2 ["net", "wires"] []
  F_zero_wires : Fun K "zero_wires" "zero_wires" s_zero_wires a3 l3
  m_zero_wires : mg "zero_wires" = some (.ref a3)
  b_zero_wires : Binds K l3 ["net", "ones"] []
  F_first_wires : Fun K "first_wires" "first_wires" s_first_wires a4 l4
  m_first_wires : mg "first_wires" = some (.ref a4)
  b_first_wires : Binds K l4 ["net", "ones"] []
  F_mark_wires : Fun K "mark_wires" "mark_wires" s_mark_wires a5 l5
  m_mark_wires : mg "mark_wires" = some (.ref a5)
  b_mark_wires : Binds K l5 ["net", "ones", "others"] []
  F_chosen_wires : Fun K "chosen_wires" "chosen_wires" s_chosen_wires a6 l6
  m_chosen_wires : mg "chosen_wires" = some (.ref a6)
  b_chosen_wires : Binds K l6 ["net", "wire", "ones", "others"] []
  F_is_less_wire : Fun K "is_less_wire" "is_less_wire" s_is_less_wire a7 l7
  m_is_less_wire : mg "is_less_wire" = some (.ref a7)
  b_is_less_wire : Binds K l7 ["net", "ones", "others"] []
  F_lengthened : Fun K "lengthened" "lengthened" s_lengthened a8 l8
  m_lengthened : mg "lengthened" = some (.ref a8)
  b_lengthened : Binds K l8 ["net", "wires", "many"] []
  F_worth_of : Fun K "worth_of" "worth_of" s_worth_of a9 l9
  m_worth_of : mg "worth_of" = some (.ref a9)
  b_worth_of : Binds K l9 ["digits"] []
  F_turned_wires : Fun K "turned_wires" "turned_wires" s_turned_wires a10 l10
  m_turned_wires : mg "turned_wires" = some (.ref a10)
  b_turned_wires : Binds K l10 ["net", "wires"] []
  F_less_wires : Fun K "less_wires" "less_wires" s_less_wires a11 l11
  m_less_wires : mg "less_wires" = some (.ref a11)
  b_less_wires : Binds K l11 ["net", "ones", "others"] []
  F_wired_guess : Fun K "wired_guess" "wired_guess" s_wired_guess a12 l12
  m_wired_guess : mg "wired_guess" = some (.ref a12)
  b_wired_guess : Binds K l12 ["many"] []
  F_ran : Fun K "ran" "ran" s_ran a13 l13
  m_ran : mg "ran" = some (.ref a13)
  kb_ran : ∃ ds, Vals [.int 1] ds ∧ Binds K l13 ["net", "values", "many"] ds
  kb_ran_many : ∃ g, KBn K l13 ["net", "values", "many"] 2 ["many"] g (fun vs zs => vs ++ zs)
  F_gate_bits : Fun K "gate_bits" "gate_bits" s_gate_bits a14 l14
  m_gate_bits : mg "gate_bits" = some (.ref a14)
  b_gate_bits : Binds K l14 ["gate", "wires", "full"] []
  F_all_cases : Fun K "all_cases" "all_cases" s_all_cases a15 l15
  m_all_cases : mg "all_cases" = some (.ref a15)
  b_all_cases : Binds K l15 ["many"] []
  F_place_in_cases : Fun K "place_in_cases" "place_in_cases" s_place_in_cases a16 l16
  m_place_in_cases : mg "place_in_cases" = some (.ref a16)
  b_place_in_cases : Binds K l16 ["place", "many"] []
  F_one_case : Fun K "one_case" "one_case" s_one_case a17 l17
  m_one_case : mg "one_case" = some (.ref a17)
  b_one_case : Binds K l17 ["net", "word"] []
  F__law_box : Fun K "_law_box" "_law_box" sBox a18 l18
  m__law_box : mg "_law_box" = some (.ref a18)
  b__law_box : Binds K l18 ["_law_script", "_law_k"] []
  F__law_take : Fun K "_law_take" "_law_take" sTake a19 l19
  m__law_take : mg "_law_take" = some (.ref a19)
  b__law_take : Binds K l19 ["_law_box_here", "_law_size"] []
  F__law_guess : Fun K "_law_guess" "_law_guess" s__law_guess a20 l20
  m__law_guess : mg "_law_guess" = some (.ref a20)
  b__law_guess : Binds K l20 ["_law_one", "_law_other", "_law_size"] []
  F__law_due : Fun K "_law_due" "_law_due" s__law_due a21 l21
  m__law_due : mg "_law_due" = some (.ref a21)
  b__law_due : Binds K l21 ["_law_one", "_law_other", "_law_size"] []
  F__law_all_right : Fun K "_law_all_right" "_law_all_right" s__law_all_right a22 l22
  m__law_all_right : mg "_law_all_right" = some (.ref a22)
  b__law_all_right : Binds K l22 ["_law_size"] []
  F__law_pair : Fun K "_law_pair" "_law_pair" s__law_pair a23 l23
  m__law_pair : mg "_law_pair" = some (.ref a23)
  b__law_pair : Binds K l23 ["_law_box_here", "_law_size"] []
  T : FT K mg C
  M : Mk K C a24
  F_Net___init__ : Fun K "__init__" "Net.__init__" s_Net___init__ a24 l24
  b_Net___init__ : Binds K l24 ["self", "many"] []
  F_Net_both : Fun K "both" "Net.both" s_Net_both a25 l25
  b_Net_both : Binds K l25 ["self", "a", "b"] []
  M_Net_both : Meth K C "both" a25
  F_Net_either : Fun K "either" "Net.either" s_Net_either a26 l26
  b_Net_either : Binds K l26 ["self", "a", "b"] []
  M_Net_either : Meth K C "either" a26
  F_Net_unlike : Fun K "unlike" "Net.unlike" s_Net_unlike a27 l27
  b_Net_unlike : Binds K l27 ["self", "a", "b"] []
  M_Net_unlike : Meth K C "unlike" a27
  F_Net_other : Fun K "other" "Net.other" s_Net_other a28 l28
  b_Net_other : Binds K l28 ["self", "a"] []
  M_Net_other : Meth K C "other" a28
  F_Net_fixed : Fun K "fixed" "Net.fixed" s_Net_fixed a29 l29
  b_Net_fixed : Binds K l29 ["self", "bit"] []
  M_Net_fixed : Meth K C "fixed" a29
  F_Net_put : Fun K "put" "Net.put" s_Net_put a30 l30
  b_Net_put : Binds K l30 ["self", "kind", "wires"] []
  M_Net_put : Meth K C "put" a30
  F_Net_put_gate : Fun K "put_gate" "Net.put_gate" s_Net_put_gate a31 l31
  b_Net_put_gate : Binds K l31 ["self", "gate", "depth"] []
  M_Net_put_gate : Meth K C "put_gate" a31
  F_Net_need : Fun K "need" "Net.need" s_Net_need a32 l32
  b_Net_need : Binds K l32 ["self", "wires"] []
  M_Net_need : Meth K C "need" a32
  F_Net_give : Fun K "give" "Net.give" s_Net_give a33 l33
  b_Net_give : Binds K l33 ["self", "name", "wires"] []
  M_Net_give : Meth K C "give" a33
  F_Net_given : Fun K "given" "Net.given" s_Net_given a34 l34
  b_Net_given : Binds K l34 ["self", "name"] []
  M_Net_given : Meth K C "given" a34
  F_Net_names : Fun K "names" "Net.names" s_Net_names a35 l35
  b_Net_names : Binds K l35 ["self"] []
  M_Net_names : Meth K C "names" a35
  F_Net_inputs : Fun K "inputs" "Net.inputs" s_Net_inputs a36 l36
  b_Net_inputs : Binds K l36 ["self"] []
  M_Net_inputs : Meth K C "inputs" a36
  F_Net_gates : Fun K "gates" "Net.gates" s_Net_gates a37 l37
  b_Net_gates : Binds K l37 ["self"] []
  M_Net_gates : Meth K C "gates" a37
  F_Net___len__ : Fun K "__len__" "Net.__len__" s_Net___len__ a38 l38
  b_Net___len__ : Binds K l38 ["self"] []
  M_Net___len__ : Meth K C "__len__" a38
  z_sorted : mg "sorted" = none
  z_dict : mg "dict" = none
variable {C : Addr} {a1 a2 a3 a4 a5 a6 a7 a8 a9 a10 a11 a12 a13 a14 a15 a16 a17 a18 a19 a20 a21 a22 a23 a24 a25 a26 a27 a28 a29 a30 a31 a32 a33 a34 a35 a36 a37 a38 : Addr} {l1 l2 l3 l4 l5 l6 l7 l8 l9 l10 l11 l12 l13 l14 l15 l16 l17 l18 l19 l20 l21 l22 l23 l24 l25 l26 l27 l28 l29 l30 l31 l32 l33 l34 l35 l36 l37 l38 : FuncData}

end
theorem gset_if2 {i : Nat} {v : V} {σ : L2.St} {H : Hp} {c : TT} {t u r : TS} {D : Ends} (h : tIfS c t u { D with nx := r D } (σ.set i (some v)) H) : gName i v σ H ({ D with nx := tSeq (tIfS c t u) r D } : Ends).nx := h
theorem gset_if {σ : L2.St} {H : Hp} {c : TT} {t u r : TS} {D : Ends} (h : tIfS c t u { D with nx := r D } σ H) : tSeq (tIfS c t u) r D σ H := h
theorem ifS_cut {c : TT} {t u : TS} {D : Ends} {σ : L2.St} {H : Hp} (R : L2.St → Hp → Prop) (h : ∀ D' : Ends, (∀ σ' H', R σ' H' → D'.nx σ' H') → tIfS c t u D' σ H) (q : ∀ σ' H', R σ' H' → D.nx σ' H') : tIfS c t u D σ H := h D q
theorem ifS_ev {c : TT} {t u : TS} {D : Ends} {σ : L2.St} {H : Hp} (R : Bool → Hp → Prop) (h : ∀ Q : Bool → Hp → Prop, (∀ z H', R z H' → Q z H') → c σ H Q) (q1 : ∀ H', R true H' → t D σ H') (q2 : ∀ H', R false H' → u D σ H') : tIfS c t u D σ H := h _ fun z H' r => by
  cases z with
  | true => exact q1 H' r
  | false => exact q2 H' r
theorem if_ev {t : TT} {ta tb : TE} {σ : L2.St} {H : Hp} {Q : VK} (R : V → Hp → Prop) (h : ∀ Q : VK, (∀ z H', R z H' → Q z H') → tIf t ta tb σ H Q) (q : ∀ z H', R z H' → Q z H') : tIf t ta tb σ H Q := h Q q
theorem and_ev {ta tb : TE} {σ : L2.St} {H : Hp} {Q : VK} (R : V → Hp → Prop) (h : ∀ Q : VK, (∀ z H', R z H' → Q z H') → tAndV ta tb σ H Q) (q : ∀ z H', R z H' → Q z H') : tAndV ta tb σ H Q := h Q q
theorem or_ev {ta tb : TE} {σ : L2.St} {H : Hp} {Q : VK} (R : V → Hp → Prop) (h : ∀ Q : VK, (∀ z H', R z H' → Q z H') → tOrV ta tb σ H Q) (q : ∀ z H', R z H' → Q z H') : tOrV ta tb σ H Q := h Q q
theorem ifset_ev {c : TT} {e : TE} {k : Nat} {D : Ends} {σ : L2.St} {H : Hp} {old : V} (hσ : σ.set k (some old) = σ) (R : V → Hp → Prop) (h : ∀ Q : VK, (∀ z H', R z H' → Q z H') → c σ H (fun b H1 => if b = true then e σ H1 Q else Q old H1)) (q : ∀ z H', R z H' → D.nx (σ.set k (some z)) H') : tIfS c (tAsg e (gName k)) tNext D σ H := by
  have t := h (fun z H' => D.nx (σ.set k (some z)) H') q
  rw [hσ] at t
  exact t
theorem two_cut {t : TE} {g : TG} {c : TT} {a b r : TS} {D : Ends} {σ : L2.St} {H : Hp} (R : L2.St → Hp → Prop) (h : ∀ D' : Ends, (∀ σ' H', R σ' H' → D'.nx σ' H') → tSeq (tAsg t g) (tIfS c a b) D' σ H) (q : ∀ σ' H', R σ' H' → r D σ' H') : tSeq (tAsg t g) (tSeq (tIfS c a b) r) D σ H := h { D with nx := r D } q
theorem org80 {ta tb : TE} {σ : L2.St} {H : Hp} {Q : VK} {c d : Bool} (ha : ∀ Q : VK, Q (.bl c) H → ta σ H Q) (hb : ∀ Q : VK, Q (.bl d) H → tb σ H Q) (h : Q (.bl (c || d)) H) : tOrV ta tb σ H Q := by
  refine ha _ ⟨c, rfl, ?_⟩
  cases c
  · exact hb _ h
  · exact h
theorem gnext_if18 {σ : L2.St} {H : Hp} {c : TT} {t u : TS} {r : TS} {D : Ends} (h : tIfS c t u { D with nx := r D } σ H) : tNext ({ D with nx := tSeq (tIfS c t u) r D } : Ends) σ H := h
theorem ret_if18 {c : TT} {ta tb : TE} {D : Ends} {σ : L2.St} {H : Hp} (R : Bool → Hp → Prop) (h : ∀ Q : Bool → Hp → Prop, (∀ z H', R z H' → Q z H') → c σ H Q) (q1 : ∀ H', R true H' → ta σ H' D.rt) (q2 : ∀ H', R false H' → tb σ H' D.rt) : tRet (tIf c ta tb) D σ H := h _ fun z H' r => by
  cases z with
  | true => exact q1 H' r
  | false => exact q2 H' r
theorem gset_if3 {i : Nat} {v : V} {σ : L2.St} {H : Hp} {c : TT} {t u r : TS} {D : Ends} (h : tIfS c t u { D with nx := r D } (σ.set i (some v)) H) : gName i v σ H (tSeq (tIfS c t u) r D) := h
theorem asg_ev {t : TE} {i : Nat} {r : TS} {D : Ends} {σ : L2.St} {H : Hp} (R : V → Hp → Prop) (h : ∀ Q : VK, (∀ z H', R z H' → Q z H') → t σ H Q) (q : ∀ z H', R z H' → r D (σ.set i (some z)) H') : tSeq (tAsg t (gName i)) r D σ H := h _ q
/-! ### zip of two lists or tuples -/
def SqIt (t : Bool) (h : Heap) (i2 a : Addr) (i : Nat) : Prop := bif t then h.IsTupleIter i2 a i else h.IsListIter i2 a i
def SqIs (t : Bool) (h : Heap) (a : Addr) (its : Array Value) : Prop := bif t then h.IsTuple a its else h.IsList a its
theorem SqIt.ex {t : Bool} {h : Heap} {i2 a : Addr} {i : Nat} (s : SqIt t h i2 a i) : ∃ o, h.get? i2 = some o ∧ ∀ f, o.data ≠ .cell f := by
  cases t <;> obtain ⟨o, e, _, d⟩ := s <;> exact ⟨o, e, fun f q => by rw [d] at q; cases q⟩
theorem draws_sq {prog : Program} {w : World} {A : Around} (t : Bool) (hh : A.handled = none) (it l : Addr) (hne : l ≠ it) (items : Array Value) :
    Draws prog w A it [it, l] items.size (fun i v => items[i]? = some v) (fun i h => SqIt t h it l i ∧ SqIs t h l items) := by
  cases t
  · exact Draws.list hh it l hne items
  · exact Draws.tuple hh it l hne items
theorem sq_val {X : Cx} {t : Bool} {pins : List (Addr × Obj)} {σ : L2.St} {H : Hp} {s : Shared} {a : Addr} {ys : List V} (I : Inv X pins σ H s) (h : bif t then SqT X.K H a ys else SqL X.K H a ys) : ∃ its : List Value, Vals ys its ∧ SqIs t s.heap a its.toArray := by
  cases t
  · obtain ⟨its, rv, p, _⟩ := I.list h
    exact ⟨its, rv, p.isList⟩
  · obtain ⟨its, rv, p, _⟩ := I.tuple h
    exact ⟨its, rv, p⟩
theorem sq_inj {X : Cx} {t : Bool} {pins : List (Addr × Obj)} {σ : L2.St} {H : Hp} {s : Shared} {a : Addr} {ys zs : List V} (I : Inv X pins σ H s) (h : bif t then SqT X.K H a ys else SqL X.K H a ys) (h2 : bif t then SqT X.K H a zs else SqL X.K H a zs) : ys = zs := by
  cases t
  · exact I.list_inj h h2
  · exact I.tuple_inj h h2
theorem begins_sq (t : Bool) (l : Addr) (items : Array Value) : Begins (.ref l) { cls := .type (bif t then "tuple_iterator" else "list_iterator"), data := .fields #[.ref l, .int 0 0] } fun h => SqIs t h l items := by
  cases t
  · exact begins_list l items
  · exact begins_tuple l items
def Sq2 (t : Bool) (K : PySem.W.Frag) (H : Hp) (a : Addr) (xs : List V) : Prop := bif t then SqT K H a xs else SqL K H a xs
theorem Sq2.to {t : Bool} {K : PySem.W.Frag} {H : Hp} {a : Addr} {xs : List V} (h : Sq2 t K H a xs) : SqL K H a xs ∨ SqT K H a xs := by
  cases t
  · exact .inl h
  · exact .inr h
theorem Sq2.of {K : PySem.W.Frag} {H : Hp} {a : Addr} {xs : List V} (h : SqL K H a xs ∨ SqT K H a xs) : ∃ t, Sq2 t K H a xs := h.elim (fun z => ⟨false, z⟩) fun z => ⟨true, z⟩
def Itzb (t1 t2 : Bool) (K : PySem.W.Frag) (a b : Addr) : It :=
  ⟨fun i H => ∃ (xs ys : List V), Sq2 t1 K H a xs ∧ Sq2 t2 K H b ys ∧ i < xs.length ∧ i < ys.length,
   fun i H v H' => ∃ T x y, v = .ref T ∧ H T = none ∧ H' = upd H T (.tup [x, y]) ∧ (∀ xs, Sq2 t1 K H a xs → xs[i]? = some x) ∧ ∀ ys, Sq2 t2 K H b ys → ys[i]? = some y,
   fun i H => ∃ (xs ys : List V), Sq2 t1 K H a xs ∧ Sq2 t2 K H b ys ∧ i = min xs.length ys.length⟩
def StZb (t1 t2 : Bool) (a b z TI TO i1 i2 : Addr) (i : Nat) (h : Heap) : Prop :=
  IsZip h z TI TO .none ∧ IsTupOf2 h TI (.ref i1) (.ref i2) ∧ (∃ u v, IsTupOf2 h TO u v) ∧ SqIt t1 h i1 a i ∧ SqIt t2 h i2 b i
theorem turn_zb {P : Program} {w : World} {K : PySem.W.Frag} {elts : List Expr} {kk : Nat} {tpos : Pos} {t1 t2 : Bool} {a b z TI TO i1 i2 : Addr} (S : ZipSep2 z TI TO i1 i2 [i1, a] [i2, b]) (na : a ≠ i1) (nb : b ≠ i2) :
    Turn P w K (.Tuple elts kk tpos) (Itzb t1 t2 K a b) [z, TI, TO, i1, i2] z (StZb t1 t2 a b z TI TO i1 i2) where
  mem := List.mem_cons_self
  obj := by
    rintro i h ⟨a1, a2, ⟨u, v, a3⟩, s1, s2⟩ c hm
    simp only [List.mem_cons, List.not_mem_nil, or_false] at hm
    rcases hm with e | e | e | e | e <;> subst e
    · exact ⟨_, a1, (fun _ q => nomatch q)⟩
    · exact ⟨_, a2, (fun _ q => nomatch q)⟩
    · exact ⟨_, a3, (fun _ q => nomatch q)⟩
    · obtain ⟨o2, e2, n2⟩ := s1.ex
      exact ⟨o2, e2, n2⟩
    · obtain ⟨o2, e2, n2⟩ := s2.ex
      exact ⟨o2, e2, n2⟩
  keep := by
    rintro i h h' ⟨a1, a2, ⟨u, v, a3⟩, s1, s2⟩ k
    refine ⟨k z (by simp) _ a1, k TI (by simp) _ a2, ⟨u, v, k TO (by simp) _ a3⟩, ?_, ?_⟩
    · cases t1 <;> exact s1.at fun o q => k i1 (by simp) o q
    · cases t2 <;> exact s2.at fun o q => k i2 (by simp) o q
  item := by
    intro X hP hw hK hc i pins s σ H E I hf st hg
    subst hP hw hK
    obtain ⟨xs, ys, hx, hy, l1, l2⟩ := hg
    obtain ⟨its1, rv1, p1⟩ := sq_val I hx
    obtain ⟨its2, rv2, p2⟩ := sq_val I hy
    obtain ⟨u, hu, ru⟩ := rv1.get (List.getElem?_eq_getElem l1)
    obtain ⟨v, hv, rv⟩ := rv2.get (List.getElem?_eq_getElem l2)
    have W := WalksT.zipD2 (prog := X.prog) (w := X.w) (A := X.A) S (draws_sq (A := X.A.in1) t1 (I.ok.hd hc) i1 a na its1.toArray) (draws_sq (A := X.A.in1) t2 (I.ok.hd hc) i2 b nb its2.toArray)
    have hin : ∀ c ∈ [z, TO, i1, i2], c ∈ [z, TI, TO, i1, i2] := fun b hb => by
      simp only [List.mem_cons, List.not_mem_nil, or_false] at hb ⊢
      rcases hb with q | q | q | q <;> simp [q]
    obtain ⟨a1, a2, a3, s1, s2⟩ := id st
    have g1 := rv1.length
    have g2 := rv2.length
    refine W.item i s _ E (by simp only [List.size_toArray]; omega) ⟨a1, a2, a3, ⟨s1, p1⟩, ⟨s2, p2⟩⟩ fun T vals h1 tk pt hT isT mid k1 => ?_
    obtain ⟨u1, u2, e1, e2, rfl⟩ := pt
    rw [List.getElem?_toArray, hu] at e1
    rw [List.getElem?_toArray, hv] at e2
    cases e1
    cases e2
    refine ⟨.ref T, rfl, W.go elts kk tpos i T { s with heap := h1, toks := tk } _ E mid fun h2 st2 k2 => ?_⟩
    have nT : T ∉ [z, TO, i1, i2] := W.apart i T h1 mid
    have isT2 : h2.IsTuple T #[u, v] := isT.at fun o e => k2 T o nT e
    have new : ObjOk X.prog X.w (upd H T (.tup [xs[i], ys[i]])) h2 T (.tup [xs[i], ys[i]]) :=
      ⟨by show 2 ≤ sizeLine; decide, [u, v], .cons ru (.cons rv .nil), isT2⟩
    have I2 : Inv X pins σ (upd H T (.tup [xs[i], ys[i]])) { s with heap := h2, toks := tk } :=
      I.turnedNew (t' := tk) (ch := [z, TI, TO, i1, i2]) (fun b o nb e => k2 b o (fun q => nb (hin b q)) (k1 b o (fun q => nb (hin b q)) e)) hf hT new
    obtain ⟨b1, b2, b3, ⟨b4, _⟩, b5, _⟩ := st2
    refine ⟨.ref T, _, I2, rfl, ⟨T, _, _, rfl, I.hok.fresh hT, rfl, fun zs' hz' => ?_, fun zs' hz' => ?_⟩, ⟨b1, b2, b3, b4, b5⟩, fun b hb => ?_⟩
    · rw [sq_inj I hz' hx]
      exact List.getElem?_eq_getElem l1
    · rw [sq_inj I hz' hy]
      exact List.getElem?_eq_getElem l2
    have nb : b ≠ T := by
      obtain ⟨a1, a2, ⟨u, v, a3⟩, s1, s2⟩ := st
      obtain ⟨o1, e1, _⟩ := s1.ex
      obtain ⟨o2, e2, _⟩ := s2.ex
      have lt : b < s.heap.objs.size := by
        simp only [List.mem_cons, List.not_mem_nil, or_false] at hb
        rcases hb with q | q | q | q | q <;> subst q
        · exact Heap.lt_size a1
        · exact Heap.lt_size a2
        · exact Heap.lt_size a3
        · exact Heap.lt_size e1
        · exact Heap.lt_size e2
      exact Nat.ne_of_lt (Nat.lt_of_lt_of_le lt hT)
    rw [upd_ne nb]
    exact (hf b hb).1
  done := by
    intro X hP hw hK hc i pins s σ H E I hf st hg
    subst hP hw hK
    obtain ⟨xs, ys, hx, hy, hi⟩ := hg
    obtain ⟨its1, rv1, p1⟩ := sq_val I hx
    obtain ⟨its2, rv2, p2⟩ := sq_val I hy
    have W := WalksT.zipD2 (prog := X.prog) (w := X.w) (A := X.A) S (draws_sq (A := X.A.in1) t1 (I.ok.hd hc) i1 a na its1.toArray) (draws_sq (A := X.A.in1) t2 (I.ok.hd hc) i2 b nb its2.toArray)
    have hn : i = min its1.toArray.size its2.toArray.size := by
      have e1 := rv1.length
      have e2 := rv2.length
      simp only [List.size_toArray]
      omega
    subst hn
    obtain ⟨a1, a2, a3, s1, s2⟩ := id st
    refine W.done s _ E ⟨a1, a2, a3, ⟨s1, p1⟩, ⟨s2, p2⟩⟩ fun h1 tk k1 => ⟨rfl, I.turnedL (t' := tk) (ch := [z, TI, TO, i1, i2]) (fun b o nb e => k1 b o (fun q => nb ?_) e) hf⟩
    simp only [List.mem_cons, List.not_mem_nil, or_false] at q ⊢
    rcases q with q | q | q | q <;> simp [q]
  self := fun A i s Q E st h => wpAny_pyIter_zip st.1 h
def iZb (K : PySem.W.Frag) (ta : TA) : TI := fun σ H R => ta σ H fun vs H1 => ∃ (t1 t2 : Bool) (a b : Addr) (xs ys : List V), vs = [.ref a, .ref b] ∧ Sq2 t1 K H1 a xs ∧ Sq2 t2 K H1 b ys ∧ R (Itzb t1 t2 K a b) H1
theorem pi_zb {X : Cx} {e e2 : Expr} {ta : TA} {p pos tpos : Pos} {elts : List Expr} {kk : Nat} (hg : Gl X "zip") (hm : X.mg "zip" = none) (ha : PA X [e, e2] ta)
    (hs : starEach [e, e2] X.env = (false, eval e X.env) :: starEach [e2] X.env := by rfl) (hp : (backTo pos (starEach [e2] X.env)).any (·.1) = false := by rfl) :
    PI X (.Tuple elts kk tpos) (.Call (.Name "zip" p) [e, e2] [] pos) (iZb X.K ta) := by
  constructor
  intro pins s σ H R I h
  refine Call_ (ld_blt I hg hm PyProof.Rows.boot_zip (PyProof.Rows.callWith_type1 (thn (ha.run pos pins s σ H _ I h) fun us s1 hh => ?_) hs hp))
  obtain ⟨vs, H1, I1, r1, t1, t2, a, b, xs, ys, rfl, hx, hy, q⟩ := hh
  match us, r1 with
  | [v1, v2], .cons hv1 (.cons hv2 .nil) =>
    cases hv1
    cases hv2
    obtain ⟨its1, rv1, p1⟩ := sq_val I1 hx
    obtain ⟨its2, rv2, p2⟩ := sq_val I1 hy
    have la : a < s1.heap.objs.size := by
      cases t1 <;> obtain ⟨o, e, _⟩ := p1 <;> exact Heap.lt_size e
    have lb : b < s1.heap.objs.size := by
      cases t2 <;> obtain ⟨o, e, _⟩ := p2 <;> exact Heap.lt_size e
    refine zip_begins2 (begins_sq t1 a its1.toArray) (begins_sq t2 b its2.toArray) p1 p2 fun h' a1 a2 a3 g1 g2 _ k => wpAny_pyIter_zip a1 ?_
    have I2 : Inv X pins σ H1 { s1 with heap := h' } := I1.kept (t' := s1.toks) k
    have S : ZipSep2 (s1.heap.objs.size + 4) (s1.heap.objs.size + 2) (s1.heap.objs.size + 3) s1.heap.objs.size (s1.heap.objs.size + 1) [s1.heap.objs.size, a] [s1.heap.objs.size + 1, b] := zip_sep2 (fp1 := [a]) (fp2 := [b]) (fun c q => by rw [List.mem_singleton.mp q]; exact la) (fun c q => by rw [List.mem_singleton.mp q]; exact lb)
    have fr : ∀ c ∈ [s1.heap.objs.size + 4, s1.heap.objs.size + 2, s1.heap.objs.size + 3, s1.heap.objs.size, s1.heap.objs.size + 1], FpOk X pins H1 c := fun b hb => by
      have le : s1.heap.objs.size ≤ b := by
        simp only [List.mem_cons, List.not_mem_nil, or_false] at hb
        rcases hb with z | z | z | z | z <;> rw [z]
        · exact Nat.le_add_right _ _
        · exact Nat.le_add_right _ _
        · exact Nat.le_add_right _ _
        · exact Nat.le_refl _
        · exact Nat.le_add_right _ _
      exact I1.fpOk le (I1.hok.fresh le)
    refine ⟨s1.heap.objs.size + 4, [s1.heap.objs.size + 4, s1.heap.objs.size + 2, s1.heap.objs.size + 3, s1.heap.objs.size, s1.heap.objs.size + 1], _, _, H1, rfl, I2, turn_zb S (Nat.ne_of_lt la) (Nat.ne_of_lt (Nat.lt_succ_of_lt lb)), ⟨a1, a2, ⟨_, _, a3⟩, ?_, ?_⟩, fr, q⟩
    · cases t1 <;> exact ⟨_, g1, rfl, rfl⟩
    · cases t2 <;> exact ⟨_, g2, rfl, rfl⟩
theorem walk_zb {K : PySem.W.Frag} {t1 t2 : Bool} {a b : Addr} {xs ys : List V} {n : Nat} (hx : xs.length = n) (hy : ys.length = n) : Walk (Itzb t1 t2 K a b) n (fun H => Sq2 t1 K H a xs ∧ Sq2 t2 K H b ys) (YPair (fun i => xs[i]?) (fun i => ys[i]?)) := by
  refine ⟨fun i _ hi q => ⟨xs, ys, q.1, q.2, by omega, by omega⟩, fun _ q => ⟨xs, ys, q.1, q.2, by omega⟩, fun i H v H' hi q z => ?_⟩
  obtain ⟨T, c, y, h1, h2, h3, h4, h5⟩ := z
  exact ⟨T, _, _, h1, h2, h3, h4 xs q.1, h5 ys q.2⟩
/-! ### a list or a tuple walked -/
def Itq (t : Bool) (K : PySem.W.Frag) (a : Addr) : It := bif t then Itt K a else Itl K a
def iSq (K : PySem.W.Frag) (tl : TE) : TI := fun σ H R => tl σ H fun x H1 => ∃ (t : Bool) (a : Addr) (xs : List V), x = .ref a ∧ Sq2 t K H1 a xs ∧ R (Itq t K a) H1
theorem pi_sq {X : Cx} {tg l : Expr} {tl : TE} (hl : PE X l tl) : PI X tg l (iSq X.K tl) := by
  refine ⟨fun pins s σ H R I h => ?_⟩
  refine thn (hl.run pins s σ H _ I h) fun v s1 ⟨x, H1, I1, r1, q1⟩ => ?_
  obtain ⟨t, a, xs, e, hq, q⟩ := q1
  subst e
  cases r1
  cases t
  · obtain ⟨its, rv, p, hz⟩ := I1.list hq
    refine wpAny_pyIter_list p.isList ?_
    refine ⟨s1.heap.objs.size, [s1.heap.objs.size], _, _, H1, rfl, I1.kept (t' := s1.toks) fun b o e => Heap.get?_push_of_some _ e, turn_list a _, ⟨_, Heap.get?_push_size _ rfl, rfl, rfl⟩, fun b hb => ?_, q⟩
    have e : b = s1.heap.objs.size := by simpa using hb
    subst e
    exact I1.fpOk (Nat.le_refl _) (I1.hok.fresh (Nat.le_refl _))
  · obtain ⟨its, rv, p, hz⟩ := I1.tuple hq
    refine wpAny_pyIter_tuple (show s1.heap.IsTuple a its.toArray from p) ?_
    refine ⟨s1.heap.objs.size, [s1.heap.objs.size], _, _, H1, rfl, I1.kept (t' := s1.toks) fun b o e => Heap.get?_push_of_some _ e, turn_tuple a _, ⟨_, Heap.get?_push_size _ rfl, rfl, rfl⟩, fun b hb => ?_, q⟩
    have e : b = s1.heap.objs.size := by simpa using hb
    subst e
    exact I1.fpOk (Nat.le_refl _) (I1.hok.fresh (Nat.le_refl _))
theorem walk_q {t : Bool} {K : PySem.W.Frag} {a : Addr} {xs : List V} : Walk (Itq t K a) xs.length (fun H => Sq2 t K H a xs) (YAt xs) := by
  cases t
  · exact walk_list
  · exact walk_tup
theorem Sq2.len {t : Bool} {K : PySem.W.Frag} {H : Hp} {a : Addr} {xs : List V} (h : Sq2 t K H a xs) : SqL K H a xs ∨ SqT K H a xs := h.to
/-! ### zip of a text and a list or a tuple: new pairs of a sign and an item -/
def Itzl (t : Bool) (K : PySem.W.Frag) (x : Str) (a : Addr) : It :=
  ⟨fun i H => ∃ (ys : List V) (y : V), (bif t then SqT K H a ys else SqL K H a ys) ∧ i < x.cps.size ∧ ys[i]? = some y,
   fun i H v H' => ∃ T c y, v = .ref T ∧ H T = none ∧ H' = upd H T (.tup [.str ⟨#[c]⟩, y]) ∧ x.cps[i]? = some c ∧ ∀ ys, (bif t then SqT K H a ys else SqL K H a ys) → ys[i]? = some y,
   fun i H => ∃ ys : List V, (bif t then SqT K H a ys else SqL K H a ys) ∧ i = min x.cps.size ys.length⟩
def StZl (t : Bool) (x : Str) (tx : Tok) (a z TI TO i1 i2 : Addr) (i : Nat) (h : Heap) : Prop :=
  IsZip h z TI TO .none ∧ IsTupOf2 h TI (.ref i1) (.ref i2) ∧ (∃ u v, IsTupOf2 h TO u v) ∧ h.IsStrIter i1 (strIterType x) x tx i ∧ SqIt t h i2 a i
theorem turn_zl {P : Program} {w : World} {K : PySem.W.Frag} {elts : List Expr} {kk : Nat} {tpos : Pos} {t : Bool} {x : Str} {tx : Tok} {a z TI TO i1 i2 : Addr} (S : ZipSep2 z TI TO i1 i2 [i1] [i2, a]) (na : a ≠ i2) :
    Turn P w K (.Tuple elts kk tpos) (Itzl t K x a) [z, TI, TO, i1, i2] z (StZl t x tx a z TI TO i1 i2) where
  mem := List.mem_cons_self
  obj := by
    rintro i h ⟨a1, a2, ⟨u, v, a3⟩, ⟨o1, e1, _, d1⟩, s2⟩ c hm
    simp only [List.mem_cons, List.not_mem_nil, or_false] at hm
    rcases hm with e | e | e | e | e <;> subst e
    · exact ⟨_, a1, (fun _ q => nomatch q)⟩
    · exact ⟨_, a2, (fun _ q => nomatch q)⟩
    · exact ⟨_, a3, (fun _ q => nomatch q)⟩
    · exact ⟨o1, e1, (fun _ q => by rw [d1] at q; cases q)⟩
    · obtain ⟨o2, e2, n2⟩ := s2.ex
      exact ⟨o2, e2, n2⟩
  keep := by
    rintro i h h' ⟨a1, a2, ⟨u, v, a3⟩, s1, s2⟩ k
    obtain ⟨o1, e1, r1⟩ := s1
    refine ⟨k z (by simp) _ a1, k TI (by simp) _ a2, ⟨u, v, k TO (by simp) _ a3⟩, ⟨o1, k i1 (by simp) _ e1, r1⟩, ?_⟩
    cases t <;> exact s2.at fun o q => k i2 (by simp) o q
  item := by
    intro X hP hw hK hc i pins s σ H E I hf st hg
    subst hP hw hK
    obtain ⟨ys, y, hq, hi, hy⟩ := hg
    obtain ⟨its, rv, p⟩ := sq_val I hq
    obtain ⟨u, hu, ru⟩ := rv.get hy
    have W := WalksT.zipD2 (prog := X.prog) (w := X.w) (A := X.A) S (Draws.text (A := X.A.in1) (I.ok.hd hc) i1 x tx) (draws_sq (A := X.A.in1) t (I.ok.hd hc) i2 a na its.toArray)
    have hin : ∀ b ∈ [z, TO, i1, i2], b ∈ [z, TI, TO, i1, i2] := fun b hb => by
      simp only [List.mem_cons, List.not_mem_nil, or_false] at hb ⊢
      rcases hb with q | q | q | q <;> simp [q]
    obtain ⟨a1, a2, a3, s1, s2⟩ := id st
    have lt : i < its.length := by
      rw [← rv.length]
      obtain ⟨w, _⟩ := List.getElem?_eq_some_iff.mp hy
      exact w
    refine W.item i s _ E (by simp only [List.size_toArray]; omega) ⟨a1, a2, a3, s1, s2, p⟩ fun T vals h1 tk pt hT isT mid k1 => ?_
    obtain ⟨u1, u2, ⟨c, t1, hc1, rfl⟩, h2, rfl⟩ := pt
    rw [List.getElem?_toArray, hu] at h2
    cases h2
    refine ⟨.ref T, rfl, W.go elts kk tpos i T { s with heap := h1, toks := tk } _ E mid fun h2 st2 k2 => ?_⟩
    have nT : T ∉ [z, TO, i1, i2] := W.apart i T h1 mid
    have isT2 : h2.IsTuple T #[.str ⟨#[c]⟩ t1, u] := isT.at fun o e => k2 T o nT e
    have new : ObjOk X.prog X.w (upd H T (.tup [.str ⟨#[c]⟩, y])) h2 T (.tup [.str ⟨#[c]⟩, y]) :=
      ⟨by show 2 ≤ sizeLine; decide, [.str ⟨#[c]⟩ t1, u], .cons ⟨t1, rfl⟩ (.cons ru .nil), isT2⟩
    have I2 : Inv X pins σ (upd H T (.tup [.str ⟨#[c]⟩, y])) { s with heap := h2, toks := tk } :=
      I.turnedNew (t' := tk) (ch := [z, TI, TO, i1, i2]) (fun b o nb e => k2 b o (fun q => nb (hin b q)) (k1 b o (fun q => nb (hin b q)) e)) hf hT new
    obtain ⟨b1, b2, b3, b4, b5, _⟩ := st2
    refine ⟨.ref T, _, I2, rfl, ⟨T, c, y, rfl, I.hok.fresh hT, rfl, hc1, fun zs hz => ?_⟩, ⟨b1, b2, b3, b4, b5⟩, fun b hb => ?_⟩
    · rw [sq_inj I hz hq]
      exact hy
    have nb : b ≠ T := by
      obtain ⟨a1, a2, ⟨u, v, a3⟩, ⟨o1, e1, _⟩, s2⟩ := st
      obtain ⟨o2, e2, _⟩ := s2.ex
      have lt : b < s.heap.objs.size := by
        simp only [List.mem_cons, List.not_mem_nil, or_false] at hb
        rcases hb with q | q | q | q | q <;> subst q
        · exact Heap.lt_size a1
        · exact Heap.lt_size a2
        · exact Heap.lt_size a3
        · exact Heap.lt_size e1
        · exact Heap.lt_size e2
      exact Nat.ne_of_lt (Nat.lt_of_lt_of_le lt hT)
    rw [upd_ne nb]
    exact (hf b hb).1
  done := by
    intro X hP hw hK hc i pins s σ H E I hf st hg
    subst hP hw hK
    obtain ⟨ys, hq, hi⟩ := hg
    obtain ⟨its, rv, p⟩ := sq_val I hq
    have W := WalksT.zipD2 (prog := X.prog) (w := X.w) (A := X.A) S (Draws.text (A := X.A.in1) (I.ok.hd hc) i1 x tx) (draws_sq (A := X.A.in1) t (I.ok.hd hc) i2 a na its.toArray)
    have hn : i = min x.cps.size its.toArray.size := by
      have e1 := rv.length
      have e2 : its.toArray.size = its.length := List.size_toArray
      omega
    subst hn
    obtain ⟨a1, a2, a3, s1, s2⟩ := id st
    refine W.done s _ E ⟨a1, a2, a3, s1, s2, p⟩ fun h1 tk k1 => ⟨rfl, I.turnedL (t' := tk) (ch := [z, TI, TO, i1, i2]) (fun b o nb e => k1 b o (fun q => nb ?_) e) hf⟩
    simp only [List.mem_cons, List.not_mem_nil, or_false] at q ⊢
    rcases q with q | q | q | q <;> simp [q]
  self := fun A i s Q E st h => wpAny_pyIter_zip st.1 h
def iZl (K : PySem.W.Frag) (ta : TA) : TI := fun σ H R => ta σ H fun vs H1 => ∃ (t : Bool) (x : Str) (a : Addr) (ys : List V), vs = [.str x, .ref a] ∧ (bif t then SqT K H1 a ys else SqL K H1 a ys) ∧ R (Itzl t K x a) H1
theorem pi_zl {X : Cx} {e e2 : Expr} {ta : TA} {p pos tpos : Pos} {elts : List Expr} {kk : Nat} (hg : Gl X "zip") (hm : X.mg "zip" = none) (ha : PA X [e, e2] ta)
    (hs : starEach [e, e2] X.env = (false, eval e X.env) :: starEach [e2] X.env := by rfl) (hp : (backTo pos (starEach [e2] X.env)).any (·.1) = false := by rfl) :
    PI X (.Tuple elts kk tpos) (.Call (.Name "zip" p) [e, e2] [] pos) (iZl X.K ta) := by
  constructor
  intro pins s σ H R I h
  refine Call_ (ld_blt I hg hm PyProof.Rows.boot_zip (PyProof.Rows.callWith_type1 (thn (ha.run pos pins s σ H _ I h) fun us s1 hh => ?_) hs hp))
  obtain ⟨vs, H1, I1, r1, t, x, a, ys, rfl, hq, q⟩ := hh
  match us, r1 with
  | [v1, v2], .cons ⟨tx, hx⟩ (.cons hy .nil) =>
    subst hx
    cases hy
    obtain ⟨its, rv, pl⟩ := sq_val I1 hq
    have la : a < s1.heap.objs.size := by
      cases t <;> obtain ⟨o, e, _⟩ := pl <;> exact Heap.lt_size e
    refine zip_begins2 (begins_text x tx) (begins_sq t a its.toArray) trivial pl fun h' a1 a2 a3 g1 g2 _ k => wpAny_pyIter_zip a1 ?_
    have I2 : Inv X pins σ H1 { s1 with heap := h' } := I1.kept (t' := s1.toks) k
    have S : ZipSep2 (s1.heap.objs.size + 4) (s1.heap.objs.size + 2) (s1.heap.objs.size + 3) s1.heap.objs.size (s1.heap.objs.size + 1) [s1.heap.objs.size] [s1.heap.objs.size + 1, a] := zip_sep2 (fp1 := []) (fp2 := [a]) (fun _ q => nomatch q) (fun b q => by rw [List.mem_singleton.mp q]; exact la)
    have fr : ∀ b ∈ [s1.heap.objs.size + 4, s1.heap.objs.size + 2, s1.heap.objs.size + 3, s1.heap.objs.size, s1.heap.objs.size + 1], FpOk X pins H1 b := fun b hb => by
      have le : s1.heap.objs.size ≤ b := by
        simp only [List.mem_cons, List.not_mem_nil, or_false] at hb
        rcases hb with z | z | z | z | z <;> rw [z]
        · exact Nat.le_add_right _ _
        · exact Nat.le_add_right _ _
        · exact Nat.le_add_right _ _
        · exact Nat.le_refl _
        · exact Nat.le_add_right _ _
      exact I1.fpOk le (I1.hok.fresh le)
    refine ⟨s1.heap.objs.size + 4, [s1.heap.objs.size + 4, s1.heap.objs.size + 2, s1.heap.objs.size + 3, s1.heap.objs.size, s1.heap.objs.size + 1], _, _, H1, rfl, I2, turn_zl S (Nat.ne_of_lt (Nat.lt_succ_of_lt la)), ⟨a1, a2, ⟨_, _, a3⟩, ⟨_, g1, rfl, rfl⟩, ?_⟩, fr, q⟩
    cases t <;> exact ⟨_, g2, rfl, rfl⟩
theorem walk_zl {K : PySem.W.Frag} {t : Bool} {x : Str} {a : Addr} {ys : List V} {n : Nat} (hx : x.cps.size = n) (hy : ys.length = n) : Walk (Itzl t K x a) n (fun H => bif t then SqT K H a ys else SqL K H a ys) (YPair (fun i => (x.cps[i]?).map fun c => .str ⟨#[c]⟩) (fun i => ys[i]?)) := by
  refine ⟨fun i _ hi q => ⟨ys, ys[i]'(by omega), q, by omega, List.getElem?_eq_getElem (by omega)⟩, fun _ q => ⟨ys, q, by omega⟩, fun i H v H' hi q z => ?_⟩
  obtain ⟨T, c, y, h1, h2, h3, h4, h5⟩ := z
  exact ⟨T, _, _, h1, h2, h3, by simp only [h4]; rfl, h5 ys q⟩
/-! ### xs[::-1] of a list or a tuple; a starred name ahead of one -/
section
variable {prog : Program} {w : World} {A : Around} {E : Value → Shared → Prop} {s : Shared}
theorem fm_congr {α β : Type} {f g : α → Option β} : ∀ {l : List α}, (∀ x ∈ l, f x = g x) → l.filterMap f = l.filterMap g
  | [], _ => rfl
  | a :: l, h => by
    rw [List.filterMap_cons, List.filterMap_cons, h a (by simp), fm_congr fun x hx => h x (List.mem_cons_of_mem _ hx)]
theorem pick_rev (xs : Array Value) : ((List.range xs.size).filterMap fun (m : Nat) => xs[(((xs.size : Int) - 1) + (m : Int) * (-1)).toNat]?).toArray = xs.toList.reverse.toArray := by
  have e : (List.range xs.size).filterMap (fun (m : Nat) => xs[(((xs.size : Int) - 1) + (m : Int) * (-1)).toNat]?) = ((List.range xs.size).map fun k => xs.size - 1 - k).filterMap (xs[·]?) := by
    rw [List.filterMap_map]
    refine fm_congr fun m hm => ?_
    have := List.mem_range.mp hm
    show xs[(((xs.size : Int) - 1) + (m : Int) * (-1)).toNat]? = xs[xs.size - 1 - m]?
    rw [show (((xs.size : Int) - 1) + (m : Int) * (-1)).toNat = xs.size - 1 - m by omega]
  rw [e, PySem.W.krv_range, List.filterMap_reverse, PySem.W.krv_all]
theorem sliceApplied_rev {sl : Addr} {vs : Value} {n : Nat} {Q : Int × Int × Nat → Shared → Prop} (hs : s.heap.IsSliceOf sl .none .none vs) (ps : IsPart vs (some (-1)))
    (h : Q ((n : Int) - 1, -1, n) s) : wpAny (model prog w) A (Builtin.Slice.sliceApplied (.ref sl) (pure (n : Int))) Q E s := by
  obtain ⟨os, hos, hcs, hds⟩ := id hs
  unfold Builtin.Slice.sliceApplied Builtin.Slice.sliceFields
  refine wpAny_bind (wpAny_bind (wpAny_field hos hds (x := .none) rfl (wpAny_bind (wpAny_field hos hds (x := .none) rfl (wpAny_bind (wpAny_field hos hds (x := vs) rfl (wpAny_pure ?_)))))))
  refine wpAny_bind (HT.slicePart_ ps ?_)
  show wpAny _ _ (if ((-1 : Int) == 0) = true then _ else _) _ _ s
  rw [if_neg (by decide)]
  refine wpAny_bind (slicePart_none (wpAny_bind (slicePart_none (wpAny_bind (wpAny_pure ?_)))))
  have e : Builtin.Slice.slicePlaces ((n : Int) - 1) (-1) (-1) = n := by
    unfold Builtin.Slice.slicePlaces
    have h1 : ¬ ((-1 : Int) > 0) := by omega
    simp only [h1, if_false]
    split
    · rw [show (-(-1) : Int) = 1 by decide, Int.ediv_one]
      omega
    · omega
  show wpAny _ _ (pure (((n : Int) - 1), (-1 : Int), Builtin.Slice.slicePlaces ((n : Int) - 1) (-1) (-1))) _ _ s
  rw [e]
  exact wpAny_pure h
theorem getItem_tuple_rev {t sl : Addr} {items : Array Value} {vs : Value} {Q : Value → Shared → Prop} (ht : IsTup s.heap t items) (hs : s.heap.IsSliceOf sl .none .none vs) (ps : IsPart vs (some (-1)))
    (h : Q (.ref s.heap.objs.size) { s with heap := s.heap.push { cls := .type "tuple", data := .seq items.toList.reverse.toArray } })
    (hsz : items.size ≤ sizeLine) : wpAny (model prog w) A (getItem (.ref t) (.ref sl)) Q E s := by
  have htake : sizeOk (.seq items.toList.reverse.toArray) := by
    show items.toList.reverse.toArray.size ≤ sizeLine
    rw [List.size_toArray, List.length_reverse, Array.length_toList]
    exact hsz
  obtain ⟨os, hos, hcs, hds⟩ := id hs
  have hTs : s.TypeIs (.ref sl) "slice" := ⟨os, hos, hcs⟩
  unfold getItem
  try with_reducible refine wpAny_holding ?_
  first | refine wpAny_bind (wpAny_pure ?_) | skip
  refine wpAny_bind (wpAny_sequenceKey ht.typeIs (by decide) ?_)
  refine wpAny_bind (wpAny_callSpecial?_slot (name := Str.ofString "__getitem__") ht.typeIs PyProof.Rows.slot_tuple_getitem
    (wpAny_call_entry PyProof.Rows.slot_tuple_getitem ht.typeIs entry_tuple_getitem ?_ (args_tuple_getitem _ _)))
  show wpAny _ _ (Builtin.Tuple.tupleItemsOf (.ref t) >>= _) _ _ s
  refine wpAny_bind (tupleItemsOf_ ht ?_)
  refine wpAny_bind (wpAny_typeOf hTs ?_)
  rw [if_pos (by decide)]
  refine wpAny_bind (sliceApplied_rev hs ps ?_)
  have hno : ¬ ((((items.size : Int) - 1) == 0 && (-1 : Int) == 1 && items.size == items.size) = true) := by
    intro q
    rw [Bool.and_eq_true, Bool.and_eq_true] at q
    exact absurd q.1.2 (by decide)
  show wpAny _ _ (if (((items.size : Int) - 1) == 0 && (-1 : Int) == 1 && items.size == items.size) = true then _ else _) _ _ s
  rw [if_neg hno, pick_rev]
  first
    | exact wpAny_bind (m := Builtin.Tuple.tupleExact _) (wpAny_newObj_type (wpAny_pure ⟨_, rfl, wpAny_pure h⟩) htake)
    | exact wpAny_bind (m := Builtin.Tuple.tupleExact _) (wpAny_newObj_type (wpAny_bind (wpAny_pure (wpAny_pure ⟨_, rfl, wpAny_pure h⟩))) htake)
    | exact wpAny_bind (wpAny_bind (m := Builtin.Tuple.tupleExact _) (wpAny_newObj_type (wpAny_pure (wpAny_pure ⟨_, rfl, wpAny_pure h⟩)) htake))
    | exact wpAny_bind (wpAny_bind (m := Builtin.Tuple.tupleExact _) (wpAny_newObj_type (wpAny_pure ⟨_, rfl, wpAny_pure h⟩) htake))
end
section
variable {X : Cx}
def sqO (t : Bool) (xs : List V) : HO := bif t then .tup xs else .lst xs
def tRevS (K : PySem.W.Frag) (te : TE) : TE := fun σ H Q => te σ H fun x H1 => ∃ (t : Bool) (a : Addr) (xs : List V), x = .ref a ∧ Sq2 t K H1 a xs ∧ ∀ p, H1 p = none → Q (.ref p) (upd H1 p (sqO t xs.reverse))
theorem pe_revS {e : Expr} {te : TE} {k : Nat} {p1 p2 p3 pos : Pos} (he : PE X e te) : PE X (.Subscript e (.Slice none none (some (.UnaryOp .USub (.Constant (.int 1) k p1) p2)) p3) pos) (tRevS X.K te) := by
  refine ⟨fun pins s σ H Q I h => ?_⟩
  refine Subscript_ (thn (he.run pins s σ H _ I h) fun v s1 ⟨x, H1, I1, r1, q1⟩ => ?_)
  obtain ⟨t, a, xs, ex, hx, q⟩ := q1
  subst ex
  cases r1
  have hst : PO X (some (.UnaryOp .USub (.Constant (.int 1) k p1) p2)) (tPart (tUn (rU fun i => .int (-i)) (tC (.int 1)))) := po_some (pe_un un_neg pe_int)
  refine wpAny_Slice (thn (po_none.run pins s1 σ H1 (fun o H2 => o = none ∧ H2 = H1) I1 ⟨rfl, rfl⟩) fun vl s2 ⟨l, H2, I2, pl, el, e2⟩ => ?_)
  subst el e2
  refine thn (po_none.run pins s2 σ H2 (fun o H3 => o = none ∧ H3 = H2) I2 ⟨rfl, rfl⟩) fun vu s3 ⟨u, H3, I3, pu, eu, e3⟩ => ?_
  subst eu e3
  refine thn (hst.run pins s3 σ H3 (fun o H4 => o = some (-1) ∧ H4 = H3) I3 ⟨1, rfl, -1, rfl, rfl, rfl⟩) fun vs s4 ⟨o, H4, I4, ps, eo, e4⟩ => ?_
  subst eo e4
  have I5 : Inv X pins σ H4 { s4 with heap := s4.heap.push { cls := .type "slice", data := .fields #[vl, vu, vs] } } := I4.kept (t' := s4.toks) fun b ob q => Heap.get?_push_of_some _ q
  show wpAny (model X.prog X.w) X.A (subscriptTail e (.Slice none none (some (.UnaryOp .USub (.Constant (.int 1) k p1) p2)) p3) (.ref a) (.ref s4.heap.objs.size)) (EP X pins σ Q) X.xe { s4 with heap := s4.heap.push { cls := .type "slice", data := .fields #[vl, vu, vs] } }
  cases t
  · obtain ⟨its, r, ht, hz⟩ := I5.list hx
    have hlen := r.length
    refine tail_any (ops := [.ref a, .ref s4.heap.objs.size]) ht.isList.typeIs (PySem.slot_list_getitem.lookup) ?_ (by with_unfolding_all rfl)
    refine wpAny_getItem_list_slice ht.isList (Heap.IsSliceOf.new _ vl vu vs) pl pu ps (by decide) ?_ (by rw [List.size_toArray]; omega)
    rw [PySem.W.krv_pick]
    refine ⟨.ref _, _, I5.laid (t' := s4.toks) (o := .lst xs.reverse) (fun b ob q => Heap.get?_push_of_some _ q) (Nat.le_refl _) ?_, rfl, q _ (I5.hok.fresh (Nat.le_refl _))⟩
    exact ⟨by rw [List.length_reverse]; exact hz, _, 0, r.reverse, Heap.get?_push_size _ rfl⟩
  · obtain ⟨its, r, ht, hz⟩ := I5.tuple hx
    have hlen := r.length
    cases pl
    cases pu
    refine tail_any (ops := [.ref a, .ref s4.heap.objs.size]) ht.typeIs (PyProof.Rows.slot_tuple_getitem.lookup) ?_ (by with_unfolding_all rfl)
    refine getItem_tuple_rev ht (Heap.IsSliceOf.new _ _ _ vs) ps ?_ (by rw [List.size_toArray]; omega)
    refine ⟨.ref _, _, I5.laid (t' := s4.toks) (o := .tup xs.reverse) (fun b ob q => Heap.get?_push_of_some _ q) (Nat.le_refl _) ?_, rfl, q _ (I5.hok.fresh (Nat.le_refl _))⟩
    exact ⟨by rw [List.length_reverse]; exact hz, _, r.reverse, IsTup.new _ _⟩
theorem Sq2.new {t : Bool} {K : PySem.W.Frag} {H : Hp} {a : Addr} {xs : List V} : Sq2 t K (upd H a (sqO t xs)) a xs := by
  cases t
  · exact SqL.of upd_same
  · exact .inl (.inl upd_same)
/-- *xs, y = a list -/
def gStar1 (K : PySem.W.Frag) (t : TGs) : TG := fun v σ H Q => ∃ (a : Addr) (xs : List V) (y : V), v = .ref a ∧ SqL K H a (xs ++ [y]) ∧ xs.length ≤ 16000 ∧ ∀ D, H D = none → t [.ref D, y] σ (upd H D (.lst xs)) Q
theorem unpack_star1 {prog : Program} {w : World} {A : Around} {E : Value → Shared → Prop} {s : Shared} {l : Addr} {items : Array Value} {Q : List Value → Shared → Prop} (hl : s.heap.IsList l items) (hh : A.handled = none) (h0 : 1 ≤ items.size) (hz : items.size ≤ 16384)
    (h : ∀ (h₂ : Heap) (tk : Nat), (∀ b o, s.heap.get? b = some o → h₂.get? b = some o) → Q ([.ref h₂.objs.size] ++ items.toList.drop (items.size - 1)) { s with heap := h₂.push { cls := .type "list", data := .seq (items.toList.take (items.size - 1)).toArray 0 }, toks := tk }) : wpAny (model prog w) A (unpackItems (.ref l) 2 (some 0)) Q E s := by
  have hlt : l ≠ s.heap.objs.size := by obtain ⟨o, ho, _⟩ := hl; exact Nat.ne_of_lt (Heap.lt_size ho)
  unfold unpackItems
  refine wpAny_bind ?_
  unfold notIterableAtAll
  refine wpAny_bind (wpAny_specialOf hl.typeIs slot_list_iter.lookup ?_)
  refine wpAny_pure ?_
  simp only [Bool.false_eq_true, if_false]
  refine wpAny_bind (wpAny_holding (wpAny_pyIter_list hl ?_))
  refine wpAny_bind (wpAny_holding (PySem.W.kun_draw hlt 0 0 _ _ ⟨_, Heap.get?_push_size _ rfl, rfl, rfl⟩ (hl.push _) (by omega) fun h₁ hit₁ hs₁ => ?_))
  have hl₁ : h₁.IsList l items := (hl.push _).extBut hs₁.extBut hlt
  have hit₁' := hit₁
  obtain ⟨oi, hoi, _⟩ := hit₁'
  have hl₁' := hl₁
  obtain ⟨ol, hol, _⟩ := hl₁'
  rw [List.drop_zero, List.take_zero]
  rw [if_neg (show ¬ (([] : List Value).length < 0) by simp)]
  refine wpAny_bind (wpAny_holding (PySem.W.kun_collect (s := { s with heap := h₁ }) (T := "list_iterator") (.inr (.inr (.inl rfl))) (Walks.list (A := A.in1) hh s.heap.objs.size l hlt items) (fun j u st => st.1.typeIs) (k := 0) (by omega) ⟨hit₁, hl₁⟩ (Heap.lt_size hoi) (Heap.lt_size hol) (fun h₂ tk hk => ?_) (by rw [sizeLine_eq]; omega)))
  have hrl : (items.toList.drop 0).length = items.size := by rw [List.drop_zero, Array.length_toList]
  show wpAny _ _ (if (items.toList.drop 0).length < 2 - 1 - 0 then _ else _) _ _ _
  rw [if_neg (by rw [hrl]; omega)]
  show wpAny _ _ (newList ((items.toList.drop 0).take ((items.toList.drop 0).length - (2 - 1 - 0))) >>= fun d => pure ([] ++ [d] ++ (items.toList.drop 0).drop ((items.toList.drop 0).length - (2 - 1 - 0)))) _ _ _
  rw [hrl, List.drop_zero]
  have he : ∀ b o, s.heap.get? b = some o → h₂.get? b = some o := fun b o e => hk b o (Nat.ne_of_lt (Heap.lt_size e)) (hs₁.extBut b o (Nat.ne_of_lt (Heap.lt_size e)) (Heap.get?_push_of_some _ e))
  refine wpAny_bind ?_
  unfold newList
  refine wpAny_newObj_type (wpAny_pure ?_) (by show (items.toList.take (items.size - 1)).toArray.size ≤ sizeLine; rw [List.size_toArray, List.length_take, sizeLine_eq, Array.length_toList]; omega)
  exact h h₂ tk he
theorem pg_star1 {es : List Expr} {k : Nat} {pos : Pos} {t : TGs} (hc : X.calm = true) (h : PGs X es t)
    (hn : (assignEach es X.env).length = 2 := by rfl) (hst : (assignEach es X.env).findIdx? (·.1) = some 0 := by rfl) : PG X (.Tuple es k pos) (gStar1 X.K t) := by
  refine ⟨fun pins s σ H v u Q I r hw => ?_⟩
  obtain ⟨a, xs, y, e1, hq, hz, hw⟩ := hw
  subst e1
  cases r
  obtain ⟨its, rv, pl, hzz⟩ := I.list hq
  have hlen := rv.length
  rw [List.length_append, List.length_singleton] at hlen
  rw [PyProof.Rows.assign_Tuple]
  refine wpAny_bind (wpAny_standAt ?_)
  unfold unpack
  rw [hn, hst]
  refine wpAny_bind (wpAny_holding (unpack_star1 pl.isList (I.ok.hd hc) (by rw [List.size_toArray]; omega) (by rw [List.size_toArray]; omega) fun h' tk hx => ?_))
  have e3 : its.toArray.size - 1 = xs.length := by rw [List.size_toArray]; omega
  rw [e3]
  have rt := rv.take xs.length
  have rd := rv.drop xs.length
  rw [List.take_left' rfl] at rt
  rw [List.drop_left' rfl] at rd
  have I0 : Inv X pins σ H { s with heap := h', toks := tk } := I.kept (t' := tk) hx
  have I1 : Inv X pins σ (upd H h'.objs.size (.lst xs)) { s with heap := h'.push { cls := .type "list", data := .seq (its.take xs.length).toArray 0 }, toks := tk } := I0.laid (t' := tk) (o := .lst xs) (fun b u e => Heap.get?_push_of_some _ e) (Nat.le_refl _) ⟨by show xs.length ≤ sizeLine; rw [sizeLine_eq]; omega, _, 0, rt, Heap.get?_push_size _ rfl⟩
  exact h.run pins _ σ _ _ _ Q I1 (.cons (show RelV (.ref h'.objs.size) (.ref h'.objs.size) from rfl) rd) (hw _ (I0.hok.fresh (Nat.le_refl _)))
theorem pgs_star {e : Expr} {sp : Pos} {es : List Expr} {t : TG} {u : TGs} (h1 : PG X e t) (h2 : PGs X es u) : PGs X (.Starred e sp :: es) (gCons t u) := by
  refine ⟨fun pins s σ H vs us Q I r h => ?_⟩
  obtain ⟨v, vr, e1, h⟩ := h
  subst e1
  cases r with
  | cons r rr =>
    show wpAny _ _ (assignInOrder (assign e X.env :: (assignEach es X.env).map (·.2)) _) _ _ _
    refine assignInOrder_cons (thn (h1.run pins s σ H _ _ _ I r h) fun _ s1 ⟨σ1, H1, I1, q1⟩ => ?_)
    exact h2.run pins s1 σ1 H1 _ _ Q I1 rr q1
end
/-! ### a name, then a starred one: x, *ys = a list -/
section
variable {X : Cx}
def gStarE (K : PySem.W.Frag) (t : TGs) : TG := fun v σ H Q => ∃ (a : Addr) (x : V) (xs : List V), v = .ref a ∧ SqL K H a (x :: xs) ∧ xs.length ≤ 16000 ∧ ∀ D, H D = none → t [x, .ref D] σ (upd H D (.lst xs)) Q
theorem unpack_starE {prog : Program} {w : World} {A : Around} {E : Value → Shared → Prop} {s : Shared} {l : Addr} {items : Array Value} {Q : List Value → Shared → Prop} (hl : s.heap.IsList l items) (hh : A.handled = none) (h0 : 1 ≤ items.size) (hz : items.size ≤ 16384)
    (h : ∀ (h₂ : Heap) (tk : Nat), (∀ b o, s.heap.get? b = some o → h₂.get? b = some o) → Q (items.toList.take 1 ++ [.ref h₂.objs.size]) { s with heap := h₂.push { cls := .type "list", data := .seq (items.toList.drop 1).toArray 0 }, toks := tk }) : wpAny (model prog w) A (unpackItems (.ref l) 2 (some 1)) Q E s := by
  have hlt : l ≠ s.heap.objs.size := by obtain ⟨o, ho, _⟩ := hl; exact Nat.ne_of_lt (Heap.lt_size ho)
  unfold unpackItems
  refine wpAny_bind ?_
  unfold notIterableAtAll
  refine wpAny_bind (wpAny_specialOf hl.typeIs slot_list_iter.lookup ?_)
  refine wpAny_pure ?_
  simp only [Bool.false_eq_true, if_false]
  refine wpAny_bind (wpAny_holding (wpAny_pyIter_list hl ?_))
  refine wpAny_bind (wpAny_holding (PySem.W.kun_draw hlt 1 0 _ _ ⟨_, Heap.get?_push_size _ rfl, rfl, rfl⟩ (hl.push _) (by omega) fun h₁ hit₁ hs₁ => ?_))
  have hl₁ : h₁.IsList l items := (hl.push _).extBut hs₁.extBut hlt
  have hit₁' := hit₁
  obtain ⟨oi, hoi, _⟩ := hit₁'
  have hl₁' := hl₁
  obtain ⟨ol, hol, _⟩ := hl₁'
  rw [List.drop_zero]
  have hfl : (items.toList.take 1).length = 1 := by rw [List.length_take, Array.length_toList]; omega
  rw [if_neg (show ¬ ((items.toList.take 1).length < 1) by rw [hfl]; omega)]
  refine wpAny_bind (wpAny_holding (PySem.W.kun_collect (s := { s with heap := h₁ }) (T := "list_iterator") (.inr (.inr (.inl rfl))) (Walks.list (A := A.in1) hh s.heap.objs.size l hlt items) (fun j u st => st.1.typeIs) (k := 1) (by omega) ⟨hit₁, hl₁⟩ (Heap.lt_size hoi) (Heap.lt_size hol) (fun h₂ tk hk => ?_) (by rw [sizeLine_eq]; omega)))
  have hrl : (items.toList.drop 1).length = items.size - 1 := by rw [List.length_drop, Array.length_toList]
  show wpAny _ _ (if (items.toList.drop 1).length < 2 - 1 - 1 then _ else _) _ _ _
  rw [if_neg (by omega)]
  show wpAny _ _ (newList ((items.toList.drop 1).take ((items.toList.drop 1).length - (2 - 1 - 1))) >>= fun d => pure (items.toList.take 1 ++ [d] ++ (items.toList.drop 1).drop ((items.toList.drop 1).length - (2 - 1 - 1)))) _ _ _
  rw [show (2 - 1 - 1 : Nat) = 0 from rfl, Nat.sub_zero, List.take_length, List.drop_length]
  have he : ∀ b o, s.heap.get? b = some o → h₂.get? b = some o := fun b o e => hk b o (Nat.ne_of_lt (Heap.lt_size e)) (hs₁.extBut b o (Nat.ne_of_lt (Heap.lt_size e)) (Heap.get?_push_of_some _ e))
  refine wpAny_bind ?_
  unfold newList
  refine wpAny_newObj_type (wpAny_pure ?_) (by show (items.toList.drop 1).toArray.size ≤ sizeLine; rw [List.size_toArray, List.length_drop, sizeLine_eq, Array.length_toList]; omega)
  rw [List.append_nil]
  exact h h₂ tk he
theorem pg_starE {es : List Expr} {k : Nat} {pos : Pos} {t : TGs} (hc : X.calm = true) (h : PGs X es t)
    (hn : (assignEach es X.env).length = 2 := by rfl) (hst : (assignEach es X.env).findIdx? (·.1) = some 1 := by rfl) : PG X (.Tuple es k pos) (gStarE X.K t) := by
  refine ⟨fun pins s σ H v u Q I r hw => ?_⟩
  obtain ⟨a, x, xs, e1, hq, hz, hw⟩ := hw
  subst e1
  cases r
  obtain ⟨its, rv, pl, hzz⟩ := I.list hq
  have hlen := rv.length
  rw [List.length_cons] at hlen
  rw [PyProof.Rows.assign_Tuple]
  refine wpAny_bind (wpAny_standAt ?_)
  unfold unpack
  rw [hn, hst]
  refine wpAny_bind (wpAny_holding (unpack_starE pl.isList (I.ok.hd hc) (by rw [List.size_toArray]; omega) (by rw [List.size_toArray]; omega) fun h' tk hx => ?_))
  have rt := rv.take 1
  have rd := rv.drop 1
  have I0 : Inv X pins σ H { s with heap := h', toks := tk } := I.kept (t' := tk) hx
  have I1 : Inv X pins σ (upd H h'.objs.size (.lst xs)) { s with heap := h'.push { cls := .type "list", data := .seq (its.drop 1).toArray 0 }, toks := tk } := I0.laid (t' := tk) (o := .lst xs) (fun b u e => Heap.get?_push_of_some _ e) (Nat.le_refl _) ⟨by show xs.length ≤ sizeLine; rw [sizeLine_eq]; omega, _, 0, rd, Heap.get?_push_size _ rfl⟩
  exact h.run pins _ σ _ _ _ Q I1 (rt.append (.cons (show RelV (.ref h'.objs.size) (.ref h'.objs.size) from rfl) .nil)) (hw _ (I0.hok.fresh (Nat.le_refl _)))
end
section
variable {P : Program} {w : World} {K : PySem.W.Frag} {mg : Str → Option Value} {base : Heap}
variable {C : Addr} {a1 a2 a3 a4 a5 a6 a7 a8 a9 a10 a11 a12 a13 a14 a15 a16 a17 a18 a19 a20 a21 a22 a23 a24 a25 a26 a27 a28 a29 a30 a31 a32 a33 a34 a35 a36 a37 a38 : Addr} {l1 l2 l3 l4 l5 l6 l7 l8 l9 l10 l11 l12 l13 l14 l15 l16 l17 l18 l19 l20 l21 l22 l23 l24 l25 l26 l27 l28 l29 l30 l31 l32 l33 l34 l35 l36 l37 l38 : FuncData}
/-! ### a net's gates -/
theorem flat_rep (m : Nat) (v : V) : (List.replicate m [v]).flatten = List.replicate m v := by
  induction m with
  | zero => rfl
  | succ k ih =>
    rw [List.replicate_succ, List.flatten_cons, ih, List.replicate_succ]
    rfl
def spNetI (C : Addr) : Sp := fun vs H Q _ => ∃ (x dx : Addr) (m : Nat), vs = [.ref x, .int (m : Int)] ∧ H x = some (.ins C dx []) ∧ m ≤ 100000 ∧
  ∀ (p : NetP) (H' : Hp), p.x = x → (∀ y o, H y = some o → y ≠ x → H' y = some o) → (H p.lm = none ∧ H p.ld = none ∧ H p.dn = none) → (∀ Z : List Addr, (∀ z ∈ Z, z ≠ x ∧ H z ≠ none) → NetAt C Z H' p m [] []) → Q .non H'
theorem ok_Net___init__ (B : Bl mg) (L : LL K mg C a1 a2 a3 a4 a5 a6 a7 a8 a9 a10 a11 a12 a13 a14 a15 a16 a17 a18 a19 a20 a21 a22 a23 a24 a25 a26 a27 a28 a29 a30 a31 a32 a33 a34 a35 a36 a37 a38 l1 l2 l3 l4 l5 l6 l7 l8 l9 l10 l11 l12 l13 l14 l15 l16 l17 l18 l19 l20 l21 l22 l23 l24 l25 l26 l27 l28 l29 l30 l31 l32 l33 l34 l35 l36 l37 l38) : FnOk P w K mg base CX0 1 a24 l24 ["self", "many"] (spNetI C) := by
  refine L.F_Net___init__.ok sc_Net___init__ (fun vs H Q E h => ?_) (fun cdv A outer s H vs Q E hr h => ?_)
  · obtain ⟨x, dx, m, rfl, _⟩ := h
    rfl
  obtain ⟨x, dx, m, rfl, hx, hm, q⟩ := h
  refine ⟨_, (pss_cons (ps_fld (pv 0) (pv 1) rfl)
    (pss_cons (ps_fld (pv 0) (pe_lst pa_nil) rfl)
    (pss_cons (ps_fld (pv 0) (pe_op op_rep (pe_lst (pa_cons pe_int pa_nil)) (pv 1)) rfl)
    (pss_one (ps_fld (pv 0) pe_dnewK rfl))))), ?_⟩
  refine ⟨_, rfl, _, rfl, x, C, dx, _, rfl, hx, L.T.cl, L.T.n_input_count, (by show 0 < 1000; decide), ?_⟩
  have a1 : (upd H x (.ins C dx (putF "input_count" (.int (m : Int)) []))) x = some (.ins C dx [("input_count", .int (m : Int))]) := upd_same
  have f1 : ∀ y o, H y = some o → y ≠ x → (upd H x (.ins C dx (putF "input_count" (.int (m : Int)) []))) y = some o := fun y o e n => by rw [upd_ne n]; exact e
  generalize upd H x (.ins C dx (putF "input_count" (.int (m : Int)) [])) = H1 at *
  refine ⟨Nat.zero_le _, fun lm nlm => ?_⟩
  have n1 : x ≠ lm := ne_of_none a1 nlm
  refine ⟨_, rfl, x, C, dx, _, rfl, by rw [upd_ne n1]; exact a1, L.T.cl, L.T.n_made, (by show 1 < 1000; decide), ?_⟩
  have a2 : (upd (upd H1 lm (.lst [])) x (.ins C dx (putF "made" (.ref lm) [("input_count", .int (m : Int))]))) x = some (.ins C dx [("input_count", .int (m : Int)), ("made", .ref lm)]) := upd_same
  have b2 : (upd (upd H1 lm (.lst [])) x (.ins C dx (putF "made" (.ref lm) [("input_count", .int (m : Int))]))) lm = some (.lst []) := by rw [upd_ne n1.symm, upd_same]
  have f2 : ∀ y o, H1 y = some o → y ≠ x → (upd (upd H1 lm (.lst [])) x (.ins C dx (putF "made" (.ref lm) [("input_count", .int (m : Int))]))) y = some o := fun y o e n => by rw [upd_ne n, upd_ne (ne_of_none e nlm)]; exact e
  generalize upd (upd H1 lm (.lst [])) x (.ins C dx (putF "made" (.ref lm) [("input_count", .int (m : Int))])) = H2 at *
  refine ⟨(by show 1 ≤ sizeLine; decide), fun z nz => ?_⟩
  refine ⟨_, rfl, z, (m : Int), _, rfl, rfl, upd_same, by omega, by omega, (by show 1 * ((m : Int)).toNat ≤ _; rw [Int.toNat_natCast, Nat.one_mul]; exact Nat.le_trans hm (by decide)), fun ld nld => ?_⟩
  have e0 : (List.replicate ((m : Int)).toNat [V.int 0]).flatten = (dps m []).map V.int := by
    rw [Int.toNat_natCast]
    show _ = (List.replicate m 0).map V.int
    rw [List.map_replicate]
    exact flat_rep m _
  rw [e0]
  have z1 := ne_of_none a2 nz
  have z2 := ne_of_none b2 nz
  have sz := same_upd (o := .lst [V.int 0]) nz
  have sd := same_upd (o := .lst ((dps m []).map V.int)) nld
  have l1 := ne_of_none (sz _ _ a2) nld
  have l2 := ne_of_none (sz _ _ b2) nld
  refine ⟨_, rfl, x, C, dx, _, rfl, sd _ _ (sz _ _ a2), L.T.cl, L.T.n_depths, (by show 2 < 1000; decide), ?_⟩
  have sA := sz.trans sd
  have b3 := sd _ _ (sz _ _ b2)
  have d3 : (upd (upd H2 z (.lst [V.int 0])) ld (.lst ((dps m []).map V.int))) ld = some (.lst ((dps m []).map V.int)) := upd_same
  generalize upd (upd H2 z (.lst [V.int 0])) ld (.lst ((dps m []).map V.int)) = H3 at *
  have a4 : (upd H3 x (.ins C dx (putF "depths" (.ref ld) [("input_count", .int (m : Int)), ("made", .ref lm)]))) x = some (.ins C dx [("input_count", .int (m : Int)), ("made", .ref lm), ("depths", .ref ld)]) := upd_same
  have f4 : ∀ y o, H3 y = some o → y ≠ x → (upd H3 x (.ins C dx (putF "depths" (.ref ld) [("input_count", .int (m : Int)), ("made", .ref lm)]))) y = some o := fun y o e n => by rw [upd_ne n]; exact e
  have b4 := f4 _ _ b3 n1.symm
  have d4 := f4 _ _ d3 l1.symm
  generalize upd H3 x (.ins C dx (putF "depths" (.ref ld) [("input_count", .int (m : Int)), ("made", .ref lm)])) = H4 at *
  refine fun dn ndn => ?_
  have a5 := ne_of_none a4 ndn
  have b5 := ne_of_none b4 ndn
  have d5 := ne_of_none d4 ndn
  have s5 := same_upd (o := .dK []) ndn
  refine ⟨_, rfl, x, C, dx, _, rfl, s5 _ _ a4, L.T.cl, L.T.n_by_name, (by show 3 < 1000; decide), ?_⟩
  have nn : ∀ (y : Addr), (∀ o, H y = some o → y ≠ x → False) → y ≠ x → H y = none := fun y h n => by
    cases e : H y with
    | none => rfl
    | some o => exact (h o e n).elim
  refine q ⟨x, lm, ld, dn⟩ _ rfl (fun y o e n => ?_) ⟨nn lm (fun o e n => by have := f1 _ _ e n; rw [nlm] at this; cases this) n1.symm, nn ld (fun o e n => by have := sz _ _ (f2 _ _ (f1 _ _ e n) n); rw [nld] at this; cases this) l1.symm, nn dn (fun o e n => by have := f4 _ _ (sA _ _ (f2 _ _ (f1 _ _ e n) n)) n; rw [ndn] at this; cases this) a5.symm⟩ (fun Z hZ => ?_)
  · rw [upd_ne n]
    exact s5 _ _ (f4 _ _ (sA _ _ (f2 _ _ (f1 _ _ e n) n)) n)
  have zz : ∀ a ∈ Z, a ≠ x ∧ a ≠ lm ∧ a ≠ ld ∧ a ≠ dn ∧ H4 a ≠ none := fun a ha => by
    obtain ⟨nx, h0⟩ := hZ a ha
    cases e : H a with
    | none => exact absurd e h0
    | some o =>
      have e1 := f1 _ _ e nx
      have e2 := f2 _ _ e1 nx
      have e4 := f4 _ _ (sA _ _ e2) nx
      exact ⟨nx, ne_of_none e1 nlm, ne_of_none (sz _ _ e2) nld, ne_of_none e4 ndn, some_ne e4⟩
  refine ⟨fun a ha => ?_, l2, ⟨fun h => (zz _ h).1 rfl, fun h => (zz _ h).2.1 rfl, fun h => (zz _ h).2.2.1 rfl, fun h => (zz _ h).2.2.2.1 rfl⟩, dx, [], [], upd_same, ?_, ?_, ?_, ⟨rfl, fun i q g h => by simp at h⟩, rfl, List.nodup_nil, fun i k v n ws h => by simp at h⟩
  · rw [upd_ne (zz a ha).1, upd_ne (zz a ha).2.2.2.1]
    exact (zz a ha).2.2.2.2
  · show (upd (upd H4 dn (.dK [])) x _) lm = _
    rw [upd_ne n1.symm]
    exact s5 _ _ b4
  · show (upd (upd H4 dn (.dK [])) x _) ld = _
    rw [upd_ne l1.symm]
    exact s5 _ _ d4
  · show (upd (upd H4 dn (.dK [])) x _) dn = _
    rw [upd_ne a5.symm, upd_same]
/-! ### gates laid -/
def spNeed (K : PySem.W.Frag) (C : Addr) : Sp := fun vs H Q _ => ∃ (Z : List Addr) (p : NetP) (m : Nat) (gs : List Gt) (nm : List (Str × List Nat)) (t : Addr) (ws : List Nat), vs = [.ref p.x, .ref t] ∧ NetAt C Z H p m gs nm ∧ (SqL K H t (nts ws) ∨ SqT K H t (nts ws)) ∧ (∀ a ∈ ws, a < m + gs.length) ∧
  ∀ H', Same H H' → Q .non H'
theorem ok_Net_need (B : Bl mg) (L : LL K mg C a1 a2 a3 a4 a5 a6 a7 a8 a9 a10 a11 a12 a13 a14 a15 a16 a17 a18 a19 a20 a21 a22 a23 a24 a25 a26 a27 a28 a29 a30 a31 a32 a33 a34 a35 a36 a37 a38 l1 l2 l3 l4 l5 l6 l7 l8 l9 l10 l11 l12 l13 l14 l15 l16 l17 l18 l19 l20 l21 l22 l23 l24 l25 l26 l27 l28 l29 l30 l31 l32 l33 l34 l35 l36 l37 l38) : FnOk P w K mg base CX0 1 a32 l32 ["self", "wires"] (spNeed K C) := by
  refine L.F_Net_need.ok sc_Net_need (fun vs H Q E h => ?_) (fun cdv A outer s H vs Q E hr h => ?_)
  · obtain ⟨Z, p, m, gs, nm, t, ws, rfl, _⟩ := h
    rfl
  obtain ⟨Z, p, m, gs, nm, t, ws, rfl, hN, hT, hw, q⟩ := h
  refine ⟨_, (pss_one (ps_for PassesOwn.never rfl (pi_or (pi_list (pv 1)) (pi_tup (pv 1))) (pg_name (i := 2) sc_Net_need.nd rfl (.inl rfl)) (pss_one (ps_if (pt_not (pt_chain op_le op_lt pe_int (pv 2) (pe_callB call_len_seq (by rfl) B.len PySem.boot_len (pa_cons (pe_fld (pv 0) rfl) pa_nil)))) (pss_one ps_never) pss_nil)))), ?_⟩
  have turn : ∀ (a : Nat), a ∈ ws → ∀ (H9 : Hp) (y : Option V) (T : TS) (D : Ends), Same H H9 → D.nx [some (.ref p.x), some (.ref t), some (.int (a : Int))] H9 → True := fun _ _ _ _ _ _ _ _ => trivial
  rcases hT with hT | hT
  · refine .inl ⟨_, rfl, t, rfl, ⟨_, hT⟩, ?_⟩
    refine for_it (walk_list (K := K) (a := t) (xs := nts ws)) (fun j σ H9 => ∃ y : Option V, σ = [some (.ref p.x), some (.ref t), y] ∧ Same H H9) ⟨_, rfl, Same.refl _⟩ (fun j σ H9 _ ⟨_, _, s9⟩ => s9.seq hT) ?_ ?_
    · rintro j v σ H9 H10 hj ⟨y, rfl, s9⟩ ⟨rfl, hz⟩
      obtain ⟨a, ha, rfl⟩ := nts_at hz
      have la := hw a (List.mem_of_getElem? ha)
      obtain ⟨_, _, _, dx, ps, kvs, e1, e2, e3, _⟩ := hN.same s9
      dsimp only [gName]
      try simp only [L2.start, List.map_cons, List.map_nil, List.length_cons, List.length_nil, List.replicate_succ, List.replicate_zero, List.cons_append, List.nil_append, List.set_cons_succ, List.set_cons_zero, Nat.reduceAdd, Nat.reduceSub, Nat.zero_add]
      refine ⟨_, rfl, _, _, rfl, rfl, _, rfl, ?_⟩
      rw [if_pos (decide_eq_true (by omega))]
      refine ⟨_, rfl, p.x, C, dx, _, _, rfl, e1, L.T.cl, L.T.n_depths, rfl, ?_⟩
      refine ⟨p.ld, _, rfl, .inl (SqL.of e3), _, _, rfl, rfl, _, rfl, ?_⟩
      have lt : decide ((a : Int) < ((((dps m gs).map V.int).length : Nat) : Int)) = true := decide_eq_true (by rw [List.length_map, dps_len]; omega)
      rw [lt]
      refine iteF ?_
      exact ⟨_, rfl, s9⟩
    · rintro σ H9 ⟨y, rfl, s9⟩
      exact q _ s9
  · refine .inr ⟨_, rfl, t, rfl, ⟨_, hT⟩, ?_⟩
    refine for_it (walk_tup (K := K) (a := t) (xs := nts ws)) (fun j σ H9 => ∃ y : Option V, σ = [some (.ref p.x), some (.ref t), y] ∧ Same H H9) ⟨_, rfl, Same.refl _⟩ (fun j σ H9 _ ⟨_, _, s9⟩ => Same.seqT s9 hT) ?_ ?_
    · rintro j v σ H9 H10 hj ⟨y, rfl, s9⟩ ⟨rfl, hz⟩
      obtain ⟨a, ha, rfl⟩ := nts_at hz
      have la := hw a (List.mem_of_getElem? ha)
      obtain ⟨_, _, _, dx, ps, kvs, e1, e2, e3, _⟩ := hN.same s9
      dsimp only [gName]
      try simp only [L2.start, List.map_cons, List.map_nil, List.length_cons, List.length_nil, List.replicate_succ, List.replicate_zero, List.cons_append, List.nil_append, List.set_cons_succ, List.set_cons_zero, Nat.reduceAdd, Nat.reduceSub, Nat.zero_add]
      refine ⟨_, rfl, _, _, rfl, rfl, _, rfl, ?_⟩
      rw [if_pos (decide_eq_true (by omega))]
      refine ⟨_, rfl, p.x, C, dx, _, _, rfl, e1, L.T.cl, L.T.n_depths, rfl, ?_⟩
      refine ⟨p.ld, _, rfl, .inl (SqL.of e3), _, _, rfl, rfl, _, rfl, ?_⟩
      have lt : decide ((a : Int) < ((((dps m gs).map V.int).length : Nat) : Int)) = true := decide_eq_true (by rw [List.length_map, dps_len]; omega)
      rw [lt]
      refine iteF ?_
      exact ⟨_, rfl, s9⟩
    · rintro σ H9 ⟨y, rfl, s9⟩
      exact q _ s9
theorem refs_inj : ∀ {as bs : List Addr}, as.map V.ref = bs.map V.ref → as = bs
  | [], [], _ => rfl
  | [], b :: bs, h => by simp at h
  | a :: as, [], h => by simp at h
  | a :: as, b :: bs, h => by
    rw [List.map_cons, List.map_cons] at h
    injection h with h1 h2
    rw [V.ref.inj h1, refs_inj h2]
theorem NetAt.laid {C : Addr} {Z : List Addr} {H : Hp} {p : NetP} {m : Nat} {gs : List Gt} {nm : List (Str × List Nat)} {q : Addr} {g : Gt} {ps : List Addr}
    (h : NetAt C Z H p m gs nm) (eq : H q = some (.tup g.row)) (nq : q ∉ Z) (em : H p.lm = some (.lst (ps.map V.ref))) :
    NetAt C Z (upd (upd H p.lm (.lst (ps.map V.ref ++ [.ref q]))) p.ld (.lst ((dps m gs).map V.int ++ [.int (dep (dps m gs) g)]))) p m (gs ++ [g]) nm := by
  obtain ⟨a, b, ⟨c1, c2, c3, c4⟩, dx, ps', kvs, e1, e2, e3, e4, ⟨g1, g2⟩, n1, n2, n3⟩ := h
  have hps : ps' = ps := by
    rw [e2] at em
    have := HO.lst.inj (Option.some.inj em)
    exact refs_inj this
  subst hps
  have f : ∀ {y : Addr} {o : HO}, H y = some o → y ≠ p.lm → y ≠ p.ld → (upd (upd H p.lm (.lst (ps'.map V.ref ++ [.ref q]))) p.ld (.lst ((dps m gs).map V.int ++ [.int (dep (dps m gs) g)]))) y = some o := fun e x1 x2 => by
    rw [upd_ne x2, upd_ne x1]
    exact e
  have tn : ∀ {y : Addr} {xs : List V}, H y = some (.tup xs) → y ≠ p.lm ∧ y ≠ p.ld := fun e => ⟨(fun z => by rw [z, e2] at e; cases e), (fun z => by rw [z, e3] at e; cases e)⟩
  refine ⟨fun z hz => ?_, b, ⟨c1, c2, c3, c4⟩, dx, ps' ++ [q], kvs, f e1 (fun z => by rw [z, e2] at e1; cases e1) (fun z => by rw [z, e3] at e1; cases e1), ?_, ?_, f e4 (fun z => by rw [z, e2] at e4; cases e4) (fun z => by rw [z, e3] at e4; cases e4), ⟨?_, fun i r g' hi hg => ?_⟩, n1, n2, fun i k v n ws hi hn => ?_⟩
  · have z1 : z ≠ p.lm := fun y => c2 (y ▸ hz)
    have z2 : z ≠ p.ld := fun y => c3 (y ▸ hz)
    rw [upd_ne z2, upd_ne z1]
    exact a z hz
  · rw [upd_ne b, upd_same, List.map_append]
    rfl
  · rw [upd_same, dps_snoc, List.map_append]
    rfl
  · rw [List.length_append, List.length_append, g1]
    rfl
  · by_cases c : i < ps'.length
    · rw [List.getElem?_append_left c] at hi
      rw [List.getElem?_append_left (by omega)] at hg
      have := g2 i r g' hi hg
      exact ⟨this.1, f this.2 (tn this.2).1 (tn this.2).2⟩
    · have i0 : i = ps'.length := by
        have := (List.getElem?_eq_some_iff.mp hi).1
        rw [List.length_append, List.length_cons, List.length_nil] at this
        omega
      rw [List.getElem?_append_right (by omega), i0, Nat.sub_self] at hi
      rw [List.getElem?_append_right (by omega), i0, g1, Nat.sub_self] at hg
      cases hi
      cases hg
      exact ⟨nq, f eq (tn eq).1 (tn eq).2⟩
  · obtain ⟨ek, l, ev, l1, l2, l3, l4⟩ := n3 i k v n ws hi hn
    exact ⟨ek, l, ev, l1, l2, l3, f l4 l2 l3⟩
def spPutG (C : Addr) : Sp := fun vs H Q _ => ∃ (Z : List Addr) (p : NetP) (m : Nat) (gs : List Gt) (nm : List (Str × List Nat)) (q : Addr) (g : Gt), vs = [.ref p.x, .ref q, .int (dep (dps m gs) g)] ∧ NetAt C Z H p m gs nm ∧ H q = some (.tup g.row) ∧ q ∉ Z ∧ m + gs.length ≤ 500000 ∧
  ∀ H', KeepS [p.lm, p.ld] H H' → NetAt C Z H' p m (gs ++ [g]) nm → Q (.int ((m + gs.length : Nat) : Int)) H'
theorem ok_Net_put_gate (B : Bl mg) (L : LL K mg C a1 a2 a3 a4 a5 a6 a7 a8 a9 a10 a11 a12 a13 a14 a15 a16 a17 a18 a19 a20 a21 a22 a23 a24 a25 a26 a27 a28 a29 a30 a31 a32 a33 a34 a35 a36 a37 a38 l1 l2 l3 l4 l5 l6 l7 l8 l9 l10 l11 l12 l13 l14 l15 l16 l17 l18 l19 l20 l21 l22 l23 l24 l25 l26 l27 l28 l29 l30 l31 l32 l33 l34 l35 l36 l37 l38) : FnOk P w K mg base CX0 1 a31 l31 ["self", "gate", "depth"] (spPutG C) := by
  refine L.F_Net_put_gate.ok sc_Net_put_gate (fun vs H Q E h => ?_) (fun cdv A outer s H vs Q E hr h => ?_)
  · obtain ⟨Z, p, m, gs, nm, q, g, rfl, _⟩ := h
    rfl
  obtain ⟨Z, p, m, gs, nm, a, g, rfl, hN, ea, na, hl, q⟩ := h
  refine ⟨_, (pss_cons (ps_expr (pe_bm PySem.F.plainAttrs_list PySem.F.slot_list_append PySem.F.type_list_append mt_append (pe_fld (pv 0) rfl) (pa_cons (pv 1) pa_nil)))
    (pss_cons (ps_expr (pe_bm PySem.F.plainAttrs_list PySem.F.slot_list_append PySem.F.type_list_append mt_append (pe_fld (pv 0) rfl) (pa_cons (pv 2) pa_nil)))
    (pss_one (ps_ret (pe_op op_sub (pe_callB call_len_seq (by rfl) B.len PySem.boot_len (pa_cons (pe_fld (pv 0) rfl) pa_nil)) pe_int))))), ?_⟩
  obtain ⟨hz, b, _, dx, ps, kvs, e1, e2, e3, e4, g0⟩ := id hN
  have lps : ps.length = gs.length := g0.1.1
  have nx : p.x ≠ p.lm := fun z => by rw [z, e2] at e1; cases e1
  have nx' : p.x ≠ p.ld := fun z => by rw [z, e3] at e1; cases e1
  refine ⟨_, rfl, p.x, C, dx, _, _, rfl, e1, L.T.cl, L.T.n_made, rfl, .inl ⟨rfl, _, SqL.of e2⟩, _, rfl, p.lm, _, _, rfl, rfl, e2, by rw [List.length_map]; exact Nat.lt_of_le_of_lt (by omega) (show 500000 < sizeLine by decide), ?_⟩
  have f1 : (upd H p.lm (.lst (ps.map V.ref ++ [.ref a]))) p.x = _ := (upd_ne nx).trans e1
  have f3 : (upd H p.lm (.lst (ps.map V.ref ++ [.ref a]))) p.ld = _ := (upd_ne b.symm).trans e3
  refine ⟨_, rfl, p.x, C, dx, _, _, rfl, f1, L.T.cl, L.T.n_depths, rfl, .inl ⟨rfl, _, SqL.of f3⟩, _, rfl, p.ld, _, _, rfl, rfl, f3, by rw [List.length_map, dps_len]; exact Nat.lt_of_le_of_lt (by omega) (show 500000 < sizeLine by decide), ?_⟩
  have f1' : (upd (upd H p.lm (.lst (ps.map V.ref ++ [.ref a]))) p.ld (.lst ((dps m gs).map V.int ++ [.int (dep (dps m gs) g)]))) p.x = _ := (upd_ne nx').trans f1
  refine ⟨_, rfl, p.x, C, dx, _, _, rfl, f1', L.T.cl, L.T.n_depths, rfl, ?_⟩
  refine ⟨p.ld, _, rfl, .inl (SqL.of upd_same), _, _, rfl, rfl, ?_⟩
  have w := q _ ⟨fun y o e n => ?_, fun y e => ?_⟩ (hN.laid ea na e2)
  · have ev : (((((dps m gs).map V.int ++ [V.int (dep (dps m gs) g)]).length : Nat) : Int) - 1) = ((m + gs.length : Nat) : Int) := by
      rw [List.length_append, List.length_map, dps_len, List.length_cons, List.length_nil]
      omega
    rw [← ev] at w
    exact w
  · simp only [List.mem_cons, List.not_mem_nil, or_false, not_or] at n
    rw [upd_ne n.2, upd_ne n.1]
    exact e
  · exact ((KeepS.upd (S := [p.lm]) (by simp)).2 y e) |> fun h => (KeepS.upd (S := [p.ld]) (by simp)).2 y h
def spFixed (C : Addr) : Sp := fun vs H Q _ => ∃ (Z : List Addr) (p : NetP) (m : Nat) (gs : List Gt) (nm : List (Str × List Nat)) (b : Nat), vs = [.ref p.x, .int (b : Int)] ∧ NetAt C Z H p m gs nm ∧ m + gs.length ≤ 500000 ∧
  ∀ H', KeepS [p.lm, p.ld] H H' → NetAt C Z H' p m (gs ++ [.fi b]) nm → Q (.int ((m + gs.length : Nat) : Int)) H'
theorem ok_Net_fixed (B : Bl mg) (L : LL K mg C a1 a2 a3 a4 a5 a6 a7 a8 a9 a10 a11 a12 a13 a14 a15 a16 a17 a18 a19 a20 a21 a22 a23 a24 a25 a26 a27 a28 a29 a30 a31 a32 a33 a34 a35 a36 a37 a38 l1 l2 l3 l4 l5 l6 l7 l8 l9 l10 l11 l12 l13 l14 l15 l16 l17 l18 l19 l20 l21 l22 l23 l24 l25 l26 l27 l28 l29 l30 l31 l32 l33 l34 l35 l36 l37 l38) : FnOk P w K mg base CX0 2 a29 l29 ["self", "bit"] (spFixed C) := by
  have G_Net_put_gate : FnOk P w K mg base CX0 1 a31 l31 ["self", "gate", "depth"] (spPutG C) := (ok_Net_put_gate B L).mono (by decide)
  refine L.F_Net_fixed.ok sc_Net_fixed (fun vs H Q E h => ?_) (fun cdv A outer s H vs Q E hr h => ?_)
  · obtain ⟨Z, p, m, gs, nm, b, rfl, _⟩ := h
    rfl
  obtain ⟨Z, p, m, gs, nm, b, rfl, hN, hl, q⟩ := h
  refine ⟨_, (pss_one (ps_ret (pe_meth (pv 0) L.T.cl L.M_Net_put_gate G_Net_put_gate hr L.b_Net_put_gate .nil pass0 (pa_cons (pe_tup (pa_cons pe_str (pa_cons (pv 1) pa_nil))) (pa_cons pe_int pa_nil))))), ?_⟩
  obtain ⟨hz, _, _, dx, _, _, e1, _⟩ := id hN
  refine ⟨_, rfl, p.x, dx, _, rfl, e1, rfl, _, rfl, (by show 2 ≤ sizeLine; decide), fun a na => ?_⟩
  have sa := same_upd (o := .tup (Gt.fi b).row) na
  refine ⟨Z, p, m, gs, nm, a, .fi b, rfl, hN.same sa, upd_same, fun z => hz a z na, hl, fun H' k N' => q H' (.trans (.ofSame sa) k) N'⟩
def spPut (K : PySem.W.Frag) (C : Addr) : Sp := fun vs H Q _ => ∃ (Z : List Addr) (p : NetP) (m : Nat) (gs : List Gt) (nm : List (Str × List Nat)) (k : Str) (t : Addr) (ws : List Nat), vs = [.ref p.x, .str k, .ref t] ∧ NetAt C Z H p m gs nm ∧ SqT K H t (nts ws) ∧ ws ≠ [] ∧ ws.length ≤ 2 ∧ (∀ a ∈ ws, a < m + gs.length) ∧ m + gs.length ≤ 500000 ∧
  ∀ H', KeepS [p.lm, p.ld] H H' → NetAt C Z H' p m (gs ++ [.w k ws]) nm → Q (.int ((m + gs.length : Nat) : Int)) H'
theorem ok_Net_put (B : Bl mg) (L : LL K mg C a1 a2 a3 a4 a5 a6 a7 a8 a9 a10 a11 a12 a13 a14 a15 a16 a17 a18 a19 a20 a21 a22 a23 a24 a25 a26 a27 a28 a29 a30 a31 a32 a33 a34 a35 a36 a37 a38 l1 l2 l3 l4 l5 l6 l7 l8 l9 l10 l11 l12 l13 l14 l15 l16 l17 l18 l19 l20 l21 l22 l23 l24 l25 l26 l27 l28 l29 l30 l31 l32 l33 l34 l35 l36 l37 l38) : FnOk P w K mg base CX0 3 a30 l30 ["self", "kind", "wires"] (spPut K C) := by
  have G_Net_put_gate : FnOk P w K mg base CX0 2 a31 l31 ["self", "gate", "depth"] (spPutG C) := (ok_Net_put_gate B L).mono (by decide)
  have G_Net_need : FnOk P w K mg base CX0 2 a32 l32 ["self", "wires"] (spNeed K C) := (ok_Net_need B L).mono (by decide)
  refine L.F_Net_put.ok sc_Net_put (fun vs H Q E h => ?_) (fun cdv A outer s H vs Q E hr h => ?_)
  · obtain ⟨Z, p, m, gs, nm, k, t, ws, rfl, _⟩ := h
    rfl
  obtain ⟨Z, p, m, gs, nm, k, t, ws, rfl, hN, hT, w0, w2, hw, hl, q⟩ := h
  refine ⟨_, (pss_cons (ps_expr (pe_meth (pv 0) L.T.cl L.M_Net_need G_Net_need hr L.b_Net_need .nil pass0 (pa_cons (pv 2) pa_nil)))
    (pss_cons (ps_set (i := 3) sc_Net_put.nd rfl (.inl rfl) (pe_op op_add pe_int (pe_callB (cr_max rfl) (by rfl) B.max boot_max (pa_cons (pe_lc (own := [("wire", 4)]) (by rfl) sc_Net_put.nd (pi_tup (pv 2)) (blkOk_by (own := [("wire", 4)]) (N := ["self", "kind", "wires", "depth", "wire"]) (sc := defScope s_Net_put) (by decide +kernel)) (fun _ _ _ _ _ => pg_name (i := 4) sc_Net_put.nd rfl (Or.inl rfl)) (fun _ _ _ _ _ => pts_nil) (fun _ _ _ _ _ => (pe_ix (ix_listK (K := K)) (pe_fldK (K := K) (pv 0) rfl) (pv 4) (fun _ _ => rfl)))) pa_nil))))
    (pss_one (ps_ret (pe_meth (pv 0) L.T.cl L.M_Net_put_gate G_Net_put_gate hr L.b_Net_put_gate .nil pass0 (pa_cons (pe_tup (pa_cons (pv 1) (StX.pa_star (pv 2) pa_nil))) (pa_cons (pv 3) pa_nil))))))), ?_⟩
  obtain ⟨hz, _, _, dx, _, _, e1, _⟩ := id hN
  refine ⟨_, rfl, p.x, dx, _, rfl, e1, rfl, _, rfl, Z, p, m, gs, nm, t, ws, rfl, hN, .inr hT, hw, fun H1 s1 => ?_⟩
  have N1 := hN.same s1
  obtain ⟨_, _, _, _, ps, kvs, f1, f2, f3, _⟩ := id N1
  have hT1 := Same.seqT s1 hT
  refine ⟨_, rfl, t, rfl, ⟨_, hT1⟩, fun D nD => ?_⟩
  refine lc_it (walk_tup (K := K) (a := t) (xs := nts ws)) (fun i H9 => Same H1 H9 ∧ H9 D = some (.lst ((ws.take i).map fun a => V.int ((dps m gs).getD a 0)))) ⟨same_upd nD, upd_same⟩ (fun i H9 _ ⟨s9, _⟩ => Same.seqT s9 hT1) ?_ ?_
  · rintro j z H9 H10 hj ⟨s9, eD⟩ ⟨rfl, hz⟩
    obtain ⟨a, ha, rfl⟩ := nts_at hz
    have la := hw a (List.mem_of_getElem? ha)
    refine ⟨rfl, yesT ?_⟩
    have e1' := s9 _ _ f1
    have e3' := s9 _ _ f3
    have hat : atI ((dps m gs).map V.int) (a : Int) = some (.int ((dps m gs).getD a 0)) := atI_nat (by
      rw [List.getElem?_map, List.getElem?_eq_getElem (by rw [dps_len]; exact la)]
      simp [List.getD, List.getElem?_eq_getElem (show a < (dps m gs).length by rw [dps_len]; exact la)])
    refine ⟨_, rfl, p.x, C, _, _, _, rfl, e1', L.T.cl, L.T.n_depths, rfl, _, rfl, p.ld, _, _, _, rfl, rfl, SqL.of e3', hat, ?_⟩
    refine ⟨_, eD, ?_, fun y u e => ?_, ?_⟩
    · rw [List.length_map, List.length_take]
      exact Nat.lt_of_le_of_lt (Nat.min_le_right _ _) (small1000 (by omega))
    · rw [upd_ne (ne_of_none e nD)]
      exact s9 _ _ e
    · rw [upd_same, List.take_add_one, ha, List.map_append]
      rfl
  rintro H2 ⟨s2, eD⟩
  rw [nts_len, List.take_length] at eD
  have mx1 : ∀ y ∈ ws.map (fun a => (dps m gs).getD a 0), 0 ≤ y := fun y hy => by
    obtain ⟨a, ha, rfl⟩ := List.mem_map.mp hy
    have la := hw a ha
    have := dps_nn m gs ((dps m gs)[a]'(by rw [dps_len]; exact la)) (List.getElem_mem _)
    simp only [List.getD, List.getElem?_eq_getElem (show a < (dps m gs).length by rw [dps_len]; exact la), Option.getD_some]
    exact this
  refine ⟨D, ws.map (fun a => (dps m gs).getD a 0), rfl, SqL.of (by rw [List.map_map]; exact eD), by rw [List.length_map]; exact List.length_pos_iff.mpr w0, fun M hM hL => ?_⟩
  have eM := mx_is hM hL mx1
  refine ⟨_, _, rfl, rfl, ?_⟩
  try simp only [L2.start, List.map_cons, List.map_nil, List.length_cons, List.length_nil, List.replicate_succ, List.replicate_zero, List.cons_append, List.nil_append, List.set_cons_succ, List.set_cons_zero, Nat.reduceAdd, Nat.reduceSub, Nat.zero_add]
  have e1' := s2 _ _ f1
  have hT2 := Same.seqT s2 hT1
  refine ⟨_, rfl, p.x, _, _, rfl, e1', rfl, ?_⟩
  try simp only [L2.start, List.map_cons, List.map_nil, List.length_cons, List.length_nil, List.replicate_succ, List.replicate_zero, List.cons_append, List.nil_append, List.set_cons_succ, List.set_cons_zero, Nat.reduceAdd, Nat.reduceSub, Nat.zero_add]
  refine ⟨_, rfl, _, rfl, t, _, rfl, .inl hT2, ?_⟩
  dsimp only [tNil]
  rw [List.append_nil]
  refine ⟨by rw [List.length_cons, nts_len]; exact Nat.le_trans (show ws.length + 1 ≤ 3 by omega) (by decide), fun g ng => ?_⟩
  have sg := same_upd (o := .tup (Gt.w k ws).row) ng
  have ed : (1 + M : Int) = dep (dps m gs) (.w k ws) := by
    show _ = 1 + mx _
    rw [eM]
  have N2 := (N1.same s2).same sg
  refine ⟨_, rfl, Z, p, m, gs, nm, g, .w k ws, by rw [ed]; rfl, N2, upd_same, fun z => N1.1 g z (by
    cases e : H1 g with
    | none => rfl
    | some o =>
      rw [s2 _ _ e] at ng
      cases ng), hl, fun H' k' N' => q H' (.trans (.ofSame ((s1.trans s2).trans sg)) k') N'⟩
def spG2 (C : Addr) (k : Str) : Sp := fun vs H Q _ => ∃ (Z : List Addr) (p : NetP) (m : Nat) (gs : List Gt) (nm : List (Str × List Nat)) (a b : Nat), vs = [.ref p.x, .int (a : Int), .int (b : Int)] ∧ NetAt C Z H p m gs nm ∧ a < m + gs.length ∧ b < m + gs.length ∧ m + gs.length ≤ 500000 ∧
  ∀ H', KeepS [p.lm, p.ld] H H' → NetAt C Z H' p m (gs ++ [.w k [a, b]]) nm → Q (.int ((m + gs.length : Nat) : Int)) H'
theorem ok_Net_both (B : Bl mg) (L : LL K mg C a1 a2 a3 a4 a5 a6 a7 a8 a9 a10 a11 a12 a13 a14 a15 a16 a17 a18 a19 a20 a21 a22 a23 a24 a25 a26 a27 a28 a29 a30 a31 a32 a33 a34 a35 a36 a37 a38 l1 l2 l3 l4 l5 l6 l7 l8 l9 l10 l11 l12 l13 l14 l15 l16 l17 l18 l19 l20 l21 l22 l23 l24 l25 l26 l27 l28 l29 l30 l31 l32 l33 l34 l35 l36 l37 l38) : FnOk P w K mg base CX0 4 a25 l25 ["self", "a", "b"] (spG2 C "both") := by
  have G_Net_put : FnOk P w K mg base CX0 3 a30 l30 ["self", "kind", "wires"] (spPut K C) := (ok_Net_put B L).mono (by decide)
  refine L.F_Net_both.ok sc_Net_both (fun vs H Q E h => ?_) (fun cdv A outer s H vs Q E hr h => ?_)
  · obtain ⟨Z, p, m, gs, nm, a, b, rfl, _⟩ := h
    rfl
  obtain ⟨Z, p, m, gs, nm, a, b, rfl, hN, ha, hb, hl, q⟩ := h
  refine ⟨_, (pss_one (ps_ret (pe_meth (pv 0) L.T.cl L.M_Net_put G_Net_put hr L.b_Net_put .nil pass0 (pa_cons pe_str (pa_cons (pe_tup (pa_cons (pv 1) (pa_cons (pv 2) pa_nil))) pa_nil))))), ?_⟩
  obtain ⟨hz, _, _, dx, _, _, e1, _⟩ := id hN
  refine ⟨_, rfl, p.x, dx, _, rfl, e1, rfl, _, rfl, _, rfl, (by show 2 ≤ sizeLine; decide), fun t nt => ?_⟩
  have st := same_upd (o := .tup [.int (a : Int), .int (b : Int)]) nt
  refine ⟨Z, p, m, gs, nm, "both", t, [a, b], rfl, hN.same st, .inl (.inl upd_same), (fun z => nomatch z), (Nat.le_of_ble_eq_true rfl), fun x hx => ?_, hl, fun H' k N' => q H' (.trans (.ofSame st) k) N'⟩
  simp only [List.mem_cons, List.not_mem_nil, or_false] at hx
  rcases hx with z | z <;> rw [z] <;> assumption
theorem ok_Net_either (B : Bl mg) (L : LL K mg C a1 a2 a3 a4 a5 a6 a7 a8 a9 a10 a11 a12 a13 a14 a15 a16 a17 a18 a19 a20 a21 a22 a23 a24 a25 a26 a27 a28 a29 a30 a31 a32 a33 a34 a35 a36 a37 a38 l1 l2 l3 l4 l5 l6 l7 l8 l9 l10 l11 l12 l13 l14 l15 l16 l17 l18 l19 l20 l21 l22 l23 l24 l25 l26 l27 l28 l29 l30 l31 l32 l33 l34 l35 l36 l37 l38) : FnOk P w K mg base CX0 4 a26 l26 ["self", "a", "b"] (spG2 C "either") := by
  have G_Net_put : FnOk P w K mg base CX0 3 a30 l30 ["self", "kind", "wires"] (spPut K C) := (ok_Net_put B L).mono (by decide)
  refine L.F_Net_either.ok sc_Net_either (fun vs H Q E h => ?_) (fun cdv A outer s H vs Q E hr h => ?_)
  · obtain ⟨Z, p, m, gs, nm, a, b, rfl, _⟩ := h
    rfl
  obtain ⟨Z, p, m, gs, nm, a, b, rfl, hN, ha, hb, hl, q⟩ := h
  refine ⟨_, (pss_one (ps_ret (pe_meth (pv 0) L.T.cl L.M_Net_put G_Net_put hr L.b_Net_put .nil pass0 (pa_cons pe_str (pa_cons (pe_tup (pa_cons (pv 1) (pa_cons (pv 2) pa_nil))) pa_nil))))), ?_⟩
  obtain ⟨hz, _, _, dx, _, _, e1, _⟩ := id hN
  refine ⟨_, rfl, p.x, dx, _, rfl, e1, rfl, _, rfl, _, rfl, (by show 2 ≤ sizeLine; decide), fun t nt => ?_⟩
  have st := same_upd (o := .tup [.int (a : Int), .int (b : Int)]) nt
  refine ⟨Z, p, m, gs, nm, "either", t, [a, b], rfl, hN.same st, .inl (.inl upd_same), (fun z => nomatch z), (Nat.le_of_ble_eq_true rfl), fun x hx => ?_, hl, fun H' k N' => q H' (.trans (.ofSame st) k) N'⟩
  simp only [List.mem_cons, List.not_mem_nil, or_false] at hx
  rcases hx with z | z <;> rw [z] <;> assumption
theorem ok_Net_unlike (B : Bl mg) (L : LL K mg C a1 a2 a3 a4 a5 a6 a7 a8 a9 a10 a11 a12 a13 a14 a15 a16 a17 a18 a19 a20 a21 a22 a23 a24 a25 a26 a27 a28 a29 a30 a31 a32 a33 a34 a35 a36 a37 a38 l1 l2 l3 l4 l5 l6 l7 l8 l9 l10 l11 l12 l13 l14 l15 l16 l17 l18 l19 l20 l21 l22 l23 l24 l25 l26 l27 l28 l29 l30 l31 l32 l33 l34 l35 l36 l37 l38) : FnOk P w K mg base CX0 4 a27 l27 ["self", "a", "b"] (spG2 C "unlike") := by
  have G_Net_put : FnOk P w K mg base CX0 3 a30 l30 ["self", "kind", "wires"] (spPut K C) := (ok_Net_put B L).mono (by decide)
  refine L.F_Net_unlike.ok sc_Net_unlike (fun vs H Q E h => ?_) (fun cdv A outer s H vs Q E hr h => ?_)
  · obtain ⟨Z, p, m, gs, nm, a, b, rfl, _⟩ := h
    rfl
  obtain ⟨Z, p, m, gs, nm, a, b, rfl, hN, ha, hb, hl, q⟩ := h
  refine ⟨_, (pss_one (ps_ret (pe_meth (pv 0) L.T.cl L.M_Net_put G_Net_put hr L.b_Net_put .nil pass0 (pa_cons pe_str (pa_cons (pe_tup (pa_cons (pv 1) (pa_cons (pv 2) pa_nil))) pa_nil))))), ?_⟩
  obtain ⟨hz, _, _, dx, _, _, e1, _⟩ := id hN
  refine ⟨_, rfl, p.x, dx, _, rfl, e1, rfl, _, rfl, _, rfl, (by show 2 ≤ sizeLine; decide), fun t nt => ?_⟩
  have st := same_upd (o := .tup [.int (a : Int), .int (b : Int)]) nt
  refine ⟨Z, p, m, gs, nm, "unlike", t, [a, b], rfl, hN.same st, .inl (.inl upd_same), (fun z => nomatch z), (Nat.le_of_ble_eq_true rfl), fun x hx => ?_, hl, fun H' k N' => q H' (.trans (.ofSame st) k) N'⟩
  simp only [List.mem_cons, List.not_mem_nil, or_false] at hx
  rcases hx with z | z <;> rw [z] <;> assumption
def spG1 (C : Addr) : Sp := fun vs H Q _ => ∃ (Z : List Addr) (p : NetP) (m : Nat) (gs : List Gt) (nm : List (Str × List Nat)) (a : Nat), vs = [.ref p.x, .int (a : Int)] ∧ NetAt C Z H p m gs nm ∧ a < m + gs.length ∧ m + gs.length ≤ 500000 ∧
  ∀ H', KeepS [p.lm, p.ld] H H' → NetAt C Z H' p m (gs ++ [.w "other" [a]]) nm → Q (.int ((m + gs.length : Nat) : Int)) H'
theorem ok_Net_other (B : Bl mg) (L : LL K mg C a1 a2 a3 a4 a5 a6 a7 a8 a9 a10 a11 a12 a13 a14 a15 a16 a17 a18 a19 a20 a21 a22 a23 a24 a25 a26 a27 a28 a29 a30 a31 a32 a33 a34 a35 a36 a37 a38 l1 l2 l3 l4 l5 l6 l7 l8 l9 l10 l11 l12 l13 l14 l15 l16 l17 l18 l19 l20 l21 l22 l23 l24 l25 l26 l27 l28 l29 l30 l31 l32 l33 l34 l35 l36 l37 l38) : FnOk P w K mg base CX0 4 a28 l28 ["self", "a"] (spG1 C) := by
  have G_Net_put : FnOk P w K mg base CX0 3 a30 l30 ["self", "kind", "wires"] (spPut K C) := (ok_Net_put B L).mono (by decide)
  refine L.F_Net_other.ok sc_Net_other (fun vs H Q E h => ?_) (fun cdv A outer s H vs Q E hr h => ?_)
  · obtain ⟨Z, p, m, gs, nm, a, rfl, _⟩ := h
    rfl
  obtain ⟨Z, p, m, gs, nm, a, rfl, hN, ha, hl, q⟩ := h
  refine ⟨_, (pss_one (ps_ret (pe_meth (pv 0) L.T.cl L.M_Net_put G_Net_put hr L.b_Net_put .nil pass0 (pa_cons pe_str (pa_cons (pe_tup (pa_cons (pv 1) pa_nil)) pa_nil))))), ?_⟩
  obtain ⟨hz, _, _, dx, _, _, e1, _⟩ := id hN
  refine ⟨_, rfl, p.x, dx, _, rfl, e1, rfl, _, rfl, (by show 1 ≤ sizeLine; decide), fun t nt => ?_⟩
  have st := same_upd (o := .tup [.int (a : Int)]) nt
  refine ⟨Z, p, m, gs, nm, "other", t, [a], rfl, hN.same st, .inl (.inl upd_same), (fun z => nomatch z), (Nat.le_of_ble_eq_true rfl), fun x hx => ?_, hl, fun H' k N' => q H' (.trans (.ofSame st) k) N'⟩
  rw [List.mem_singleton.mp hx]
  exact ha
end
section
variable {P : Program} {w : World} {K : PySem.W.Frag} {mg : Str → Option Value} {base : Heap}
variable {C : Addr} {a1 a2 a3 a4 a5 a6 a7 a8 a9 a10 a11 a12 a13 a14 a15 a16 a17 a18 a19 a20 a21 a22 a23 a24 a25 a26 a27 a28 a29 a30 a31 a32 a33 a34 a35 a36 a37 a38 : Addr} {l1 l2 l3 l4 l5 l6 l7 l8 l9 l10 l11 l12 l13 l14 l15 l16 l17 l18 l19 l20 l21 l22 l23 l24 l25 l26 l27 l28 l29 l30 l31 l32 l33 l34 l35 l36 l37 l38 : FuncData}
/-! ### names of a net -/
theorem NmAt.keys {Z : List Addr} {H : Hp} {p : NetP} {kvs : List (Key × V)} {nm : List (Str × List Nat)} (h : NmAt Z H p kvs nm) : kvs.map (·.1) = nm.map fun x => (Sum.inr x.1 : Key) := by
  obtain ⟨h1, h2, h3⟩ := h
  refine List.ext_getElem? fun i => ?_
  rw [List.getElem?_map, List.getElem?_map]
  by_cases c : i < kvs.length
  · have c' : i < nm.length := by omega
    rw [List.getElem?_eq_getElem c, List.getElem?_eq_getElem c']
    have := (h3 i kvs[i].1 kvs[i].2 nm[i].1 nm[i].2 (List.getElem?_eq_getElem c) (List.getElem?_eq_getElem c')).1
    show some kvs[i].1 = some _
    rw [this]
  · rw [List.getElem?_eq_none (by omega), List.getElem?_eq_none (by omega)]
    rfl
theorem valV_out {kvs : List (Key × V)} {k : Key} (h : k ∉ kvs.map (·.1)) : valV kvs k = none := by
  have e := valV_any k kvs
  cases q : valV kvs k with
  | none => rfl
  | some v =>
    rw [q] at e
    obtain ⟨x, hx, hd⟩ := List.any_eq_true.mp e
    exact absurd (List.mem_map.mpr ⟨x, hx, of_decide_eq_true hd⟩) h
theorem valV_at : ∀ {kvs : List (Key × V)} {i : Nat} {k : Key} {v : V}, (kvs.map (·.1)).Nodup → kvs[i]? = some (k, v) → valV kvs k = some v
  | [], i, k, v, _, h => by simp at h
  | q :: kvs, 0, k, v, _, h => by
    cases Option.some.inj h
    exact valV_pos rfl
  | q :: kvs, i + 1, k, v, hn, h => by
    rw [List.map_cons, List.nodup_cons] at hn
    have h' : kvs[i]? = some (k, v) := h
    have : k ∈ kvs.map (·.1) := List.mem_map.mpr ⟨_, List.mem_of_getElem? h', rfl⟩
    rw [valV_neg (fun z => hn.1 (z ▸ this))]
    exact valV_at hn.2 h'
theorem NmAt.nodup {Z : List Addr} {H : Hp} {p : NetP} {kvs : List (Key × V)} {nm : List (Str × List Nat)} (h : NmAt Z H p kvs nm) : (kvs.map (·.1)).Nodup := by
  rw [h.keys]
  have := h.2.1
  rw [show (nm.map fun x => (Sum.inr x.1 : Key)) = (nm.map (·.1)).map Sum.inr from by rw [List.map_map]; rfl]
  exact List.Pairwise.map _ (fun a b n z => n (Sum.inr.inj z)) this
theorem NmAt.out {Z : List Addr} {H : Hp} {p : NetP} {kvs : List (Key × V)} {nm : List (Str × List Nat)} {n : Str} (h : NmAt Z H p kvs nm) (hn : n ∉ nm.map (·.1)) : valV kvs (.inr n) = none := by
  refine valV_out ?_
  rw [h.keys]
  intro z
  obtain ⟨x, hx, e⟩ := List.mem_map.mp z
  exact hn (List.mem_map.mpr ⟨x, hx, Sum.inr.inj e⟩)
theorem NmAt.in_ {Z : List Addr} {H : Hp} {p : NetP} {kvs : List (Key × V)} {nm : List (Str × List Nat)} {i : Nat} {n : Str} {ws : List Nat} (h : NmAt Z H p kvs nm) (hn : nm[i]? = some (n, ws)) : ∃ l, valV kvs (.inr n) = some (.ref l) ∧ H l = some (.lst (nts ws)) := by
  have c : i < kvs.length := by
    have := (List.getElem?_eq_some_iff.mp hn).1
    rw [h.1]
    exact this
  obtain ⟨ek, l, ev, _, _, _, el⟩ := h.2.2 i kvs[i].1 kvs[i].2 n ws (List.getElem?_eq_getElem c) hn
  refine ⟨l, ?_, el⟩
  rw [← ev, ← ek]
  exact valV_at h.nodup (List.getElem?_eq_getElem c)
def spGive (K : PySem.W.Frag) (C : Addr) : Sp := fun vs H Q _ => ∃ (Z : List Addr) (p : NetP) (m : Nat) (gs : List Gt) (nm : List (Str × List Nat)) (n : Str) (t : Addr) (ws : List Nat), vs = [.ref p.x, .str n, .ref t] ∧ NetAt C Z H p m gs nm ∧ n ∉ nm.map (·.1) ∧ (SqL K H t (nts ws) ∨ SqT K H t (nts ws)) ∧ (∀ a ∈ ws, a < m + gs.length) ∧ nm.length ≤ 900 ∧
  ∀ H', KeepS [p.dn] H H' → NetAt C Z H' p m gs (nm ++ [(n, ws)]) → Q .non H'
theorem ok_Net_give (B : Bl mg) (L : LL K mg C a1 a2 a3 a4 a5 a6 a7 a8 a9 a10 a11 a12 a13 a14 a15 a16 a17 a18 a19 a20 a21 a22 a23 a24 a25 a26 a27 a28 a29 a30 a31 a32 a33 a34 a35 a36 a37 a38 l1 l2 l3 l4 l5 l6 l7 l8 l9 l10 l11 l12 l13 l14 l15 l16 l17 l18 l19 l20 l21 l22 l23 l24 l25 l26 l27 l28 l29 l30 l31 l32 l33 l34 l35 l36 l37 l38) : FnOk P w K mg base CX0 2 a33 l33 ["self", "name", "wires"] (spGive K C) := by
  have G_Net_need : FnOk P w K mg base CX0 1 a32 l32 ["self", "wires"] (spNeed K C) := (ok_Net_need B L).mono (by decide)
  refine L.F_Net_give.ok sc_Net_give (fun vs H Q E h => ?_) (fun cdv A outer s H vs Q E hr h => ?_)
  · obtain ⟨Z, p, m, gs, nm, n, t, ws, rfl, _⟩ := h
    rfl
  obtain ⟨Z, p, m, gs, nm, n, t, ws, rfl, hN, hn, hT, hw, hl, q⟩ := h
  refine ⟨_, (pss_cons (ps_if (pt_cmp (pc_din (units1 hr) (pv 1) (pe_fld (pv 0) rfl)) (by rfl)) (pss_one ps_never) pss_nil)
    (pss_cons (ps_expr (pe_meth (pv 0) L.T.cl L.M_Net_need G_Net_need hr L.b_Net_need .nil pass0 (pa_cons (pv 2) pa_nil)))
    (pss_one (ps_dput (units1 hr) (pe_fld (pv 0) rfl) (pv 1) (pe_callTy call_list_of (by rfl) B.list PyProof.Rows.boot_list (pa_cons (pv 2) pa_nil)) rfl)))), ?_⟩
  obtain ⟨hz, hb, _, dx, ps, kvs, e1, e2, e3, e4, g0, n0⟩ := id hN
  refine ⟨_, rfl, _, rfl, p.x, C, dx, _, _, rfl, e1, L.T.cl, L.T.n_by_name, rfl, p.dn, _, rfl, DGet.k (k := .inr n) e4, ?_⟩
  rw [n0.out hn]
  refine ⟨_, rfl, iteF ?_⟩
  dsimp only [tNext]
  refine ⟨_, rfl, p.x, dx, _, rfl, e1, rfl, _, rfl, Z, p, m, gs, nm, t, ws, rfl, hN, hT, hw, fun H1 s1 => ?_⟩
  have N1 := hN.same s1
  obtain ⟨_, _, ⟨c1, c2, c3, c4⟩, dx1, ps1, kvs1, f1, f2, f3, f4, g1, n1⟩ := id N1
  have hT1 : SqL K H1 t (nts ws) ∨ SqT K H1 t (nts ws) := hT.elim (fun y => .inl (s1.seq y)) (fun y => .inr (Same.seqT s1 y))
  refine ⟨_, rfl, t, _, rfl, hT1, fun l nl => ?_⟩
  have sl := same_upd (o := .lst (nts ws)) nl
  refine ⟨_, rfl, p.x, C, dx1, _, _, rfl, sl _ _ f1, L.T.cl, L.T.n_by_name, rfl, _, rfl, p.dn, _, rfl, DPut.k (k := .inr n) (sl _ _ f4) (by rw [n1.1]; exact Nat.lt_of_le_of_lt hl (by decide)), ?_⟩
  rw [putK_new _ (n1.out hn)]
  have nlZ : l ∉ Z := fun z => N1.1 l z nl
  have nlm : l ≠ p.lm := (ne_of_none f2 nl).symm
  have nld : l ≠ p.ld := (ne_of_none f3 nl).symm
  have nln : l ≠ p.dn := (ne_of_none f4 nl).symm
  have N2 := N1.same sl
  have k2 : KeepS [p.dn] (upd H1 l (.lst (nts ws))) (upd (upd H1 l (.lst (nts ws))) p.dn (.dK (kvs1 ++ [(.inr n, .ref l)]))) := .upd (by simp)
  refine q _ ((KeepS.ofSame (s1.trans sl)).trans k2) ?_
  have fr : ∀ {y : Addr} {o : HO}, (upd H1 l (.lst (nts ws))) y = some o → y ≠ p.dn → (upd (upd H1 l (.lst (nts ws))) p.dn (.dK (kvs1 ++ [(.inr n, .ref l)]))) y = some o := fun e z => by
    rw [upd_ne z]
    exact e
  have g4 := sl _ _ f4
  refine ⟨fun z hz' => k2.2 z (N2.1 z hz'), hb, ⟨c1, c2, c3, c4⟩, dx1, ps1, kvs1 ++ [(.inr n, .ref l)], fr (sl _ _ f1) (fun z => by rw [z, f4] at f1; cases f1), fr (sl _ _ f2) (fun z => by rw [z, f4] at f2; cases f2), fr (sl _ _ f3) (fun z => by rw [z, f4] at f3; cases f3), upd_same, ⟨g1.1, fun i r g' hi hg => ?_⟩, ?_⟩
  · have := g1.2 i r g' hi hg
    exact ⟨this.1, fr (sl _ _ this.2) (fun z => by
      have := this.2
      rw [z, f4] at this
      cases this)⟩
  · refine ⟨by rw [List.length_append, List.length_append, n1.1]; rfl, ?_, fun i k v n' ws' hi hn' => ?_⟩
    · rw [List.map_append, List.nodup_append]
      refine ⟨n1.2.1, by simp, fun a ha b hb' => ?_⟩
      have hb' : b = n := by simpa using hb'
      rw [hb']
      exact fun z => hn (z ▸ ha)
    · by_cases c : i < kvs1.length
      · rw [List.getElem?_append_left c] at hi
        rw [List.getElem?_append_left (by rw [← n1.1]; exact c)] at hn'
        obtain ⟨ek, l', ev, l1, l2, l3, l4⟩ := n1.2.2 i k v n' ws' hi hn'
        exact ⟨ek, l', ev, l1, l2, l3, fr (sl _ _ l4) (fun z => by rw [z, f4] at l4; cases l4)⟩
      · have i0 : i = kvs1.length := by
          have := (List.getElem?_eq_some_iff.mp hi).1
          rw [List.length_append, List.length_cons, List.length_nil] at this
          omega
        rw [List.getElem?_append_right (by omega), i0, Nat.sub_self] at hi
        rw [List.getElem?_append_right (by rw [i0, n1.1]; exact Nat.le_refl _), i0, n1.1, Nat.sub_self] at hn'
        cases hi
        cases hn'
        exact ⟨rfl, l, rfl, nlZ, nlm, nld, fr upd_same nln⟩
def spGiven (C : Addr) : Sp := fun vs H Q _ => ∃ (Z : List Addr) (p : NetP) (m : Nat) (gs : List Gt) (nm : List (Str × List Nat)) (i : Nat) (n : Str) (ws : List Nat), vs = [.ref p.x, .str n] ∧ NetAt C Z H p m gs nm ∧ nm[i]? = some (n, ws) ∧
  ∀ t, H t = none → Q (.ref t) (upd H t (.lst (nts ws)))
theorem ok_Net_given (B : Bl mg) (L : LL K mg C a1 a2 a3 a4 a5 a6 a7 a8 a9 a10 a11 a12 a13 a14 a15 a16 a17 a18 a19 a20 a21 a22 a23 a24 a25 a26 a27 a28 a29 a30 a31 a32 a33 a34 a35 a36 a37 a38 l1 l2 l3 l4 l5 l6 l7 l8 l9 l10 l11 l12 l13 l14 l15 l16 l17 l18 l19 l20 l21 l22 l23 l24 l25 l26 l27 l28 l29 l30 l31 l32 l33 l34 l35 l36 l37 l38) : FnOk P w K mg base CX0 1 a34 l34 ["self", "name"] (spGiven C) := by
  refine L.F_Net_given.ok sc_Net_given (fun vs H Q E h => ?_) (fun cdv A outer s H vs Q E hr h => ?_)
  · obtain ⟨Z, p, m, gs, nm, i, n, ws, rfl, _⟩ := h
    rfl
  obtain ⟨Z, p, m, gs, nm, i, n, ws, rfl, hN, hn, q⟩ := h
  refine ⟨_, (pss_cons (ps_if (pt_cmp (pc_dnotin (units1 hr) (pv 1) (pe_fld (pv 0) rfl)) (by rfl)) (pss_one ps_never) pss_nil)
    (pss_one (ps_ret (pe_callTy call_list_of (by rfl) B.list PyProof.Rows.boot_list (pa_cons (pe_dget (units1 hr) (pe_fld (pv 0) rfl) (pv 1) (fun _ _ => rfl)) pa_nil))))), ?_⟩
  obtain ⟨hz, hb, _, dx, ps, kvs, e1, e2, e3, e4, g0, n0⟩ := id hN
  obtain ⟨l, ev, el⟩ := n0.in_ hn
  refine ⟨_, rfl, _, rfl, p.x, C, dx, _, _, rfl, e1, L.T.cl, L.T.n_by_name, rfl, p.dn, _, rfl, DGet.k (k := .inr n) e4, ?_⟩
  rw [ev]
  refine ⟨_, rfl, iteF ?_⟩
  dsimp only [tNext]
  refine ⟨_, rfl, p.x, C, dx, _, _, rfl, e1, L.T.cl, L.T.n_by_name, rfl, _, rfl, p.dn, .ref l, rfl, ?_, ?_⟩
  · rw [← ev]
    exact DGet.k (k := .inr n) e4
  exact ⟨l, _, rfl, .inl (SqL.of el), fun t nt => q t nt⟩
def spNames (C : Addr) : Sp := fun vs H Q _ => ∃ (Z : List Addr) (p : NetP) (m : Nat) (gs : List Gt) (nm : List (Str × List Nat)), vs = [.ref p.x] ∧ NetAt C Z H p m gs nm ∧ nm.length < 64 ∧
  ∀ (ys : List Str) (t : Addr) (H' : Hp), ys.Perm (nm.map (·.1)) → sortedS ys = true → Same H H' → H t = none → H' t = some (.lst (ys.map V.str)) → Q (.ref t) H'
theorem ok_Net_names (B : Bl mg) (L : LL K mg C a1 a2 a3 a4 a5 a6 a7 a8 a9 a10 a11 a12 a13 a14 a15 a16 a17 a18 a19 a20 a21 a22 a23 a24 a25 a26 a27 a28 a29 a30 a31 a32 a33 a34 a35 a36 a37 a38 l1 l2 l3 l4 l5 l6 l7 l8 l9 l10 l11 l12 l13 l14 l15 l16 l17 l18 l19 l20 l21 l22 l23 l24 l25 l26 l27 l28 l29 l30 l31 l32 l33 l34 l35 l36 l37 l38) : FnOk P w K mg base CX0 1 a35 l35 ["self"] (spNames C) := by
  refine L.F_Net_names.ok sc_Net_names (fun vs H Q E h => ?_) (fun cdv A outer s H vs Q E hr h => ?_)
  · obtain ⟨Z, p, m, gs, nm, rfl, _⟩ := h
    rfl
  obtain ⟨Z, p, m, gs, nm, rfl, hN, hl, q⟩ := h
  refine ⟨_, (pss_one (ps_ret (pe_callB cr_sortedS (by rfl) L.z_sorted boot_sorted (pa_cons (pe_callTy (call_listD rfl) (by rfl) B.list PyProof.Rows.boot_list (pa_cons (pe_fld (pv 0) rfl) pa_nil)) pa_nil)))), ?_⟩
  obtain ⟨hz, hb, _, dx, ps, kvs, e1, e2, e3, e4, g0, n0⟩ := id hN
  refine ⟨_, rfl, p.x, C, dx, _, _, rfl, e1, L.T.cl, L.T.n_by_name, rfl, p.dn, kvs, rfl, .inl e4, fun l nl => ?_⟩
  have ek : (kvs.map fun kv => kV kv.1) = (nm.map (·.1)).map V.str := by
    rw [show (kvs.map fun kv => kV kv.1) = (kvs.map (·.1)).map kV from by rw [List.map_map]; rfl, n0.keys, List.map_map, List.map_map]
    rfl
  rw [ek]
  have sl := same_upd (o := .lst ((nm.map (·.1)).map V.str)) nl
  refine ⟨l, _, rfl, SqL.of upd_same, by rw [List.length_map]; exact hl, fun ys t hp hs nt => ?_⟩
  refine q ys t _ hp hs (sl.trans (same_upd nt)) ?_ upd_same
  cases e : H t with
  | none => rfl
  | some o =>
    rw [sl _ _ e] at nt
    cases nt
def spInputs (C : Addr) : Sp := fun vs H Q _ => ∃ (Z : List Addr) (p : NetP) (m : Nat) (gs : List Gt) (nm : List (Str × List Nat)), vs = [.ref p.x] ∧ NetAt C Z H p m gs nm ∧ Q (.int (m : Int)) H
theorem ok_Net_inputs (B : Bl mg) (L : LL K mg C a1 a2 a3 a4 a5 a6 a7 a8 a9 a10 a11 a12 a13 a14 a15 a16 a17 a18 a19 a20 a21 a22 a23 a24 a25 a26 a27 a28 a29 a30 a31 a32 a33 a34 a35 a36 a37 a38 l1 l2 l3 l4 l5 l6 l7 l8 l9 l10 l11 l12 l13 l14 l15 l16 l17 l18 l19 l20 l21 l22 l23 l24 l25 l26 l27 l28 l29 l30 l31 l32 l33 l34 l35 l36 l37 l38) : FnOk P w K mg base CX0 1 a36 l36 ["self"] (spInputs C) := by
  refine L.F_Net_inputs.ok sc_Net_inputs (fun vs H Q E h => ?_) (fun cdv A outer s H vs Q E hr h => ?_)
  · obtain ⟨Z, p, m, gs, nm, rfl, _⟩ := h
    rfl
  obtain ⟨Z, p, m, gs, nm, rfl, hN, q⟩ := h
  refine ⟨_, (pss_one (ps_ret (pe_fld (pv 0) rfl))), ?_⟩
  obtain ⟨hz, hb, _, dx, ps, kvs, e1, _⟩ := id hN
  exact ⟨_, rfl, p.x, C, dx, _, _, rfl, e1, L.T.cl, L.T.n_input_count, rfl, q⟩
def spGates (C : Addr) : Sp := fun vs H Q _ => ∃ (Z : List Addr) (p : NetP) (m : Nat) (gs : List Gt) (nm : List (Str × List Nat)), vs = [.ref p.x] ∧ NetAt C Z H p m gs nm ∧
  ∀ (t : Addr) (ps : List Addr) , H t = none → ps.length = gs.length → (∀ (i : Nat) (r : Addr) (g : Gt), ps[i]? = some r → gs[i]? = some g → H r = some (.tup g.row)) → Q (.ref t) (upd H t (.lst (ps.map V.ref)))
theorem ok_Net_gates (B : Bl mg) (L : LL K mg C a1 a2 a3 a4 a5 a6 a7 a8 a9 a10 a11 a12 a13 a14 a15 a16 a17 a18 a19 a20 a21 a22 a23 a24 a25 a26 a27 a28 a29 a30 a31 a32 a33 a34 a35 a36 a37 a38 l1 l2 l3 l4 l5 l6 l7 l8 l9 l10 l11 l12 l13 l14 l15 l16 l17 l18 l19 l20 l21 l22 l23 l24 l25 l26 l27 l28 l29 l30 l31 l32 l33 l34 l35 l36 l37 l38) : FnOk P w K mg base CX0 1 a37 l37 ["self"] (spGates C) := by
  refine L.F_Net_gates.ok sc_Net_gates (fun vs H Q E h => ?_) (fun cdv A outer s H vs Q E hr h => ?_)
  · obtain ⟨Z, p, m, gs, nm, rfl, _⟩ := h
    rfl
  obtain ⟨Z, p, m, gs, nm, rfl, hN, q⟩ := h
  refine ⟨_, (pss_one (ps_ret (pe_callTy call_list_of (by rfl) B.list PyProof.Rows.boot_list (pa_cons (pe_fld (pv 0) rfl) pa_nil)))), ?_⟩
  obtain ⟨hz, hb, _, dx, ps, kvs, e1, e2, e3, e4, g0, n0⟩ := id hN
  exact ⟨_, rfl, p.x, C, dx, _, _, rfl, e1, L.T.cl, L.T.n_made, rfl, p.lm, _, rfl, .inl (SqL.of e2), fun t nt => q t ps nt g0.1 (fun i r g hi hg => (g0.2 i r g hi hg).2)⟩
end
section
variable {P : Program} {w : World} {K : PySem.W.Frag} {mg : Str → Option Value} {base : Heap}
variable {C : Addr} {a1 a2 a3 a4 a5 a6 a7 a8 a9 a10 a11 a12 a13 a14 a15 a16 a17 a18 a19 a20 a21 a22 a23 a24 a25 a26 a27 a28 a29 a30 a31 a32 a33 a34 a35 a36 a37 a38 : Addr} {l1 l2 l3 l4 l5 l6 l7 l8 l9 l10 l11 l12 l13 l14 l15 l16 l17 l18 l19 l20 l21 l22 l23 l24 l25 l26 l27 l28 l29 l30 l31 l32 l33 l34 l35 l36 l37 l38 : FuncData}
/-! ### bits -/
def tb (x : Int) (k : Nat) : Int := x / 2 ^ k % 2
theorem tb_01 (x : Int) (k : Nat) : tb x k = 0 ∨ tb x k = 1 := by
  unfold tb
  omega
theorem tb_succ (x : Int) (k : Nat) : tb x (k + 1) = tb (x / 2) k := by
  unfold tb
  rw [Int.ediv_ediv_of_nonneg (by decide)]
  rw [show (2 : Int) * 2 ^ k = 2 ^ (k + 1) from by rw [GM.pow_s, Int.mul_comm]]
theorem tb_zero (x : Int) : tb x 0 = x % 2 := by
  unfold tb
  rw [Int.pow_zero, Int.ediv_one]
theorem and_bit {a b : Int} (ha : a = 0 ∨ a = 1) (hb : b = 0 ∨ b = 1) : Builtin.bitAnd a b = if a = 1 ∧ b = 1 then 1 else 0 := by
  rcases ha with rfl | rfl <;> rcases hb with rfl | rfl <;> decide
theorem tb_and : ∀ (k : Nat) (x y : Int), tb (Builtin.bitAnd x y) k = Builtin.bitAnd (tb x k) (tb y k)
  | 0, x, y => by
    rw [tb_zero, tb_zero, tb_zero, PySem.W.kbt_halves, and_bit (a := x % 2) (b := y % 2) (by omega) (by omega)]
    split <;> omega
  | k + 1, x, y => by
    rw [tb_succ, tb_succ, tb_succ, ← tb_and k]
    congr 1
    rw [PySem.W.kbt_halves]
    split <;> omega
theorem or_halves (x y : Int) : Builtin.bitOr x y = 2 * Builtin.bitOr (x / 2) (y / 2) + (if x % 2 = 1 ∨ y % 2 = 1 then 1 else 0) := by
  rw [PyProof.Rows.bitOr_and, PyProof.Rows.bitOr_and, PySem.W.kbt_halves]
  split <;> split <;> omega
theorem or_bit {a b : Int} (ha : a = 0 ∨ a = 1) (hb : b = 0 ∨ b = 1) : Builtin.bitOr a b = if a = 1 ∨ b = 1 then 1 else 0 := by
  rcases ha with rfl | rfl <;> rcases hb with rfl | rfl <;> decide
theorem tb_or : ∀ (k : Nat) (x y : Int), tb (Builtin.bitOr x y) k = Builtin.bitOr (tb x k) (tb y k)
  | 0, x, y => by
    rw [tb_zero, tb_zero, tb_zero, or_halves, or_bit (a := x % 2) (b := y % 2) (by omega) (by omega)]
    split <;> omega
  | k + 1, x, y => by
    rw [tb_succ, tb_succ, tb_succ, ← tb_or k]
    congr 1
    rw [or_halves]
    split <;> omega
theorem xor_halves (x y : Int) : Builtin.bitXor x y = 2 * Builtin.bitXor (x / 2) (y / 2) + (if x % 2 = y % 2 then 0 else 1) := by
  rw [bitXor_and, bitXor_and, PySem.W.kbt_halves]
  split <;> split <;> omega
theorem xor_bit {a b : Int} (ha : a = 0 ∨ a = 1) (hb : b = 0 ∨ b = 1) : Builtin.bitXor a b = if a = b then 0 else 1 := by
  rcases ha with rfl | rfl <;> rcases hb with rfl | rfl <;> decide
theorem tb_xor : ∀ (k : Nat) (x y : Int), tb (Builtin.bitXor x y) k = Builtin.bitXor (tb x k) (tb y k)
  | 0, x, y => by
    rw [tb_zero, tb_zero, tb_zero, xor_halves, xor_bit (a := x % 2) (b := y % 2) (by omega) (by omega)]
    split <;> omega
  | k + 1, x, y => by
    rw [tb_succ, tb_succ, tb_succ, ← tb_xor k]
    congr 1
    rw [xor_halves]
    split <;> omega
theorem tb_full : ∀ {n k : Nat}, k < n → tb (2 ^ n - 1) k = 1
  | n + 1, 0, _ => by
    rw [tb_zero, GM.pow_s]
    omega
  | n + 1, k + 1, h => by
    rw [tb_succ, show ((2 : Int) ^ (n + 1) - 1) / 2 = 2 ^ n - 1 from by rw [GM.pow_s]; omega]
    exact tb_full (by omega)
theorem tb_nul (k : Nat) : tb 0 k = 0 := by
  unfold tb
  rw [Int.zero_ediv]
  rfl
theorem tb_mod {n k : Nat} (x : Int) (h : k < n) : tb (x % 2 ^ n) k = tb x k := by
  rw [← PySem.W.kbt_mask, tb_and, tb_full h]
  rcases tb_01 x k with z | z <;> rw [z] <;> decide
/-! ### wires run -/
def gvw (full x y : Int) (k : Str) : Int := if k = "other" then Builtin.bitXor x full else if k = "both" then Builtin.bitAnd x y else if k = "either" then Builtin.bitOr x y else Builtin.bitXor x y
def gv (full : Int) (ws : List Int) : Gt → Int
  | .fi b => if b = 1 then full else 0
  | .w k l => gvw full (ws.getD (l.getD 0 0) 0) (ws.getD (l.getD 1 0) 0) k
def rv (full : Int) (vals : List Int) (gs : List Gt) : List Int := gs.foldl (fun ws g => ws ++ [gv full ws g]) vals
theorem rv_snoc (full : Int) (vals : List Int) (gs : List Gt) (g : Gt) : rv full vals (gs ++ [g]) = rv full vals gs ++ [gv full (rv full vals gs) g] := by
  unfold rv
  rw [List.foldl_append]
  rfl
theorem rv_len : ∀ (gs : List Gt) (full : Int) (vals : List Int), (rv full vals gs).length = vals.length + gs.length
  | [], _, _ => rfl
  | g :: gs, full, vals => by
    have := rv_len gs full (vals ++ [gv full vals g])
    unfold rv at this ⊢
    rw [List.foldl_cons, this, List.length_append, List.length_cons, List.length_cons, List.length_nil]
    omega
theorem getD_map (ws : List Int) (i k : Nat) : (ws.map (tb · k)).getD i 0 = tb (ws.getD i 0) k := by
  simp only [List.getD, List.getElem?_map]
  cases ws[i]? with
  | none => exact (tb_nul k).symm
  | some v => rfl
theorem gv_bit {n k : Nat} (h : k < n) (ws : List Int) (g : Gt) : tb (gv (2 ^ n - 1) ws g) k = gv 1 (ws.map (tb · k)) g := by
  cases g with
  | fi b =>
    show tb (if b = 1 then _ else _) k = if b = 1 then 1 else 0
    split
    · exact tb_full h
    · exact tb_nul k
  | w nm l =>
    show tb (gvw (2 ^ n - 1) _ _ nm) k = gvw 1 _ _ nm
    rw [getD_map, getD_map]
    unfold gvw
    split
    · rw [tb_xor, tb_full h]
    split
    · rw [tb_and]
    split
    · rw [tb_or]
    · rw [tb_xor]
theorem rv_bit {n k : Nat} (h : k < n) : ∀ (gs : List Gt) (vals : List Int), (rv (2 ^ n - 1) vals gs).map (tb · k) = rv 1 (vals.map (tb · k)) gs
  | [], _ => rfl
  | g :: gs, vals => by
    have := rv_bit h gs (vals ++ [gv (2 ^ n - 1) vals g])
    unfold rv at this ⊢
    rw [List.foldl_cons, List.foldl_cons, this, List.map_append, List.map_cons, List.map_nil, gv_bit h]
/-! ### nets run -/
def wf (ds : List Int) : Int := ds.foldl (fun w d => 2 * w + d) 0
theorem wf_snoc (ds : List Int) (d : Int) : wf (ds ++ [d]) = 2 * wf ds + d := by
  unfold wf
  rw [List.foldl_append]
  rfl
theorem at_int46 {xs : List Int} {i : Nat} {x : V} (h : (xs.map V.int)[i]? = some x) : ∃ v, xs[i]? = some v ∧ x = .int v := by
  rw [List.getElem?_map] at h
  cases q : xs[i]? with
  | none => rw [q] at h; cases h
  | some v => rw [q] at h; exact ⟨v, rfl, (Option.some.inj h).symm⟩
def spWorthOf (K : PySem.W.Frag) : Sp := fun vs H Q _ => ∃ (t : Addr) (ds : List Int), vs = [.ref t] ∧ SqL K H t (ds.map V.int) ∧ Q (.int (wf ds)) H
theorem ok_worth_of (B : Bl mg) (L : LL K mg C a1 a2 a3 a4 a5 a6 a7 a8 a9 a10 a11 a12 a13 a14 a15 a16 a17 a18 a19 a20 a21 a22 a23 a24 a25 a26 a27 a28 a29 a30 a31 a32 a33 a34 a35 a36 a37 a38 l1 l2 l3 l4 l5 l6 l7 l8 l9 l10 l11 l12 l13 l14 l15 l16 l17 l18 l19 l20 l21 l22 l23 l24 l25 l26 l27 l28 l29 l30 l31 l32 l33 l34 l35 l36 l37 l38) : FnOk P w K mg base CX0 1 a9 l9 ["digits"] (spWorthOf K) := by
  refine L.F_worth_of.ok sc_worth_of (fun vs H Q E h => ?_) (fun cdv A outer s H vs Q E hr h => ?_)
  · obtain ⟨t, ds, rfl, _⟩ := h
    rfl
  obtain ⟨t, ds, rfl, hT, q⟩ := h
  refine ⟨_, (pss_cons (ps_set (i := 1) sc_worth_of.nd rfl (.inl rfl) pe_int)
    (pss_cons (ps_for PassesOwn.never rfl (pi_list (pv 0)) (pg_name (i := 2) sc_worth_of.nd rfl (.inl rfl)) (pss_one (ps_set (i := 1) sc_worth_of.nd rfl (.inl rfl) (pe_op op_add (pe_op op_mul pe_int (pv 1)) (pv 2)))))
    (pss_one (ps_ret (pv 1))))), ?_⟩
  refine ⟨_, rfl, t, rfl, ⟨_, hT⟩, ?_⟩
  refine for_it (walk_list (K := K) (a := t) (xs := ds.map V.int)) (fun j σ H9 => ∃ y : Option V, σ = [some (.ref t), some (.int (wf (ds.take j))), y] ∧ H9 = H) ⟨_, rfl, rfl⟩ (fun j σ H9 _ ⟨_, _, e⟩ => by rw [e]; exact hT) ?_ ?_
  · rintro j v σ H9 H10 hj ⟨y, rfl, rfl⟩ ⟨rfl, hz⟩
    obtain ⟨d, hd, rfl⟩ := at_int46 hz
    refine ⟨_, rfl, _, _, rfl, rfl, .inl ⟨by decide, by decide⟩, _, rfl, _, _, rfl, rfl, ?_⟩
    refine ⟨some (.int d), ?_, rfl⟩
    rw [List.take_add_one, hd]
    show _ = [some (V.ref t), some (.int (wf (ds.take j ++ [d]))), _]
    rw [wf_snoc]
    rfl
  · rintro σ H9 ⟨y, rfl, rfl⟩
    rw [List.length_map, List.take_length]
    exact ⟨_, rfl, q⟩
def spGateB : Sp := fun vs H Q _ => ∃ (g wl : Addr) (full : Int) (gt : Gt) (ws : List Int), vs = [.ref g, .ref wl, .int full] ∧ H g = some (.tup gt.row) ∧ H wl = some (.lst (ws.map V.int)) ∧ gt.ok ws.length ∧ Q (.int (gv full ws gt)) H
theorem at_getD {ws : List Int} {a : Nat} (h : a < ws.length) : atI (ws.map V.int) (a : Int) = some (.int (ws.getD a 0)) := atI_nat (by
  rw [List.getElem?_map, List.getElem?_eq_getElem h]
  simp [List.getD, List.getElem?_eq_getElem h])
theorem ok_gate_bits (B : Bl mg) (L : LL K mg C a1 a2 a3 a4 a5 a6 a7 a8 a9 a10 a11 a12 a13 a14 a15 a16 a17 a18 a19 a20 a21 a22 a23 a24 a25 a26 a27 a28 a29 a30 a31 a32 a33 a34 a35 a36 a37 a38 l1 l2 l3 l4 l5 l6 l7 l8 l9 l10 l11 l12 l13 l14 l15 l16 l17 l18 l19 l20 l21 l22 l23 l24 l25 l26 l27 l28 l29 l30 l31 l32 l33 l34 l35 l36 l37 l38) : FnOk P w K mg base CX0 1 a14 l14 ["gate", "wires", "full"] spGateB := by
  refine L.F_gate_bits.ok sc_gate_bits (fun vs H Q E h => ?_) (fun cdv A outer s H vs Q E hr h => ?_)
  · obtain ⟨g, wl, full, gt, ws, rfl, _⟩ := h
    rfl
  obtain ⟨g, wl, full, gt, ws, rfl, eg, ew, ok, q⟩ := h
  refine ⟨_, (pss_cons (ps_set (i := 3) sc_gate_bits.nd rfl (.inl rfl) (pe_ix ix_tup (pv 0) pe_int (fun _ _ => rfl)))
    (pss_cons (ps_if (pt_cmpR op_eq (pv 3) pe_str (nomark _)) (pss_one (ps_ret (pe_ifExp (pt_cmpR op_eq (pe_ix ix_tup (pv 0) pe_int (fun _ _ => rfl)) pe_int (nomark _)) (pv 2) pe_int))) pss_nil)
    (pss_cons (ps_set (i := 4) sc_gate_bits.nd rfl (.inl rfl) (pe_ix ix_list (pv 1) (pe_ix ix_tup (pv 0) pe_int (fun _ _ => rfl)) (fun _ _ => rfl)))
    (pss_cons (ps_if (pt_cmpR op_eq (pv 3) pe_str (nomark _)) (pss_one (ps_ret (pe_op op_xor (pv 4) (pv 2)))) pss_nil)
    (pss_cons (ps_set (i := 5) sc_gate_bits.nd rfl (.inl rfl) (pe_ix ix_list (pv 1) (pe_ix ix_tup (pv 0) pe_int (fun _ _ => rfl)) (fun _ _ => rfl)))
    (pss_cons (ps_if (pt_cmpR op_eq (pv 3) pe_str (nomark _)) (pss_one (ps_ret (pe_op op_and (pv 4) (pv 5)))) pss_nil)
    (pss_cons (ps_if (pt_cmpR op_eq (pv 3) pe_str (nomark _)) (pss_one (ps_ret (pe_op op_or (pv 4) (pv 5)))) pss_nil)
    (pss_one (ps_ret (pe_op op_xor (pv 4) (pv 5))))))))))), ?_⟩
  have nS : ∀ {x y : Str}, ¬ x = y → ¬ decide (V.str x = V.str y) = true := fun h z => h (V.str.inj (of_decide_eq_true z))
  cases gt with
  | fi b =>
    refine ⟨_, rfl, g, _, _, _, rfl, rfl, .inl (.inl eg), rfl, ?_⟩
    try simp only [L2.start, List.map_cons, List.map_nil, List.length_cons, List.length_nil, List.replicate_succ, List.replicate_zero, List.cons_append, List.nil_append, List.set_cons_succ, List.set_cons_zero, Nat.reduceAdd, Nat.reduceSub, Nat.zero_add]
    dsimp only [gName]
    try simp only [L2.start, List.map_cons, List.map_nil, List.length_cons, List.length_nil, List.replicate_succ, List.replicate_zero, List.cons_append, List.nil_append, List.set_cons_succ, List.set_cons_zero, Nat.reduceAdd, Nat.reduceSub, Nat.zero_add]
    refine ⟨_, rfl, rfl, _, rfl, ite2 (fun _ => ?_) (fun z => absurd (decide_eq_true rfl) z)⟩
    refine ⟨_, rfl, g, _, _, _, rfl, rfl, .inl (.inl eg), rfl, rfl, _, rfl, ite2 (fun z => ?_) (fun z => ?_)⟩
    · have e : (b : Int) = 1 := V.int.inj (of_decide_eq_true z)
      have q : Q (.int (if b = 1 then full else 0)) H := q
      rw [if_pos (by omega)] at q
      exact ⟨_, rfl, q⟩
    · have e : ¬ (b : Int) = 1 := fun y => z (decide_eq_true (congrArg V.int y))
      have q : Q (.int (if b = 1 then full else 0)) H := q
      rw [if_neg (by omega)] at q
      exact q
  | w k l =>
    have q : Q (.int (gvw full (ws.getD (l.getD 0 0) 0) (ws.getD (l.getD 1 0) 0) k)) H := q
    have nf : ¬ k = "fixed" := by
      rcases ok.1 with ⟨z | z | z, _⟩ | ⟨z, _⟩ <;> rw [z] <;> decide +kernel
    have l0 : 0 < l.length := by
      rcases ok.1 with ⟨_, z⟩ | ⟨_, z⟩ <;> omega
    have ea : (Gt.w k l).row[1]? = some (.int ((l.getD 0 0 : Nat) : Int)) := by
      match l, l0 with
      | a :: l, _ => rfl
    have la : l.getD 0 0 < ws.length := by
      match l, l0, ok with
      | a :: l, _, ok => exact ok.2 a (by simp)
    refine ⟨_, rfl, g, _, _, _, rfl, rfl, .inl (.inl eg), (show atI (Gt.w k l).row 0 = some (.str k) from atI_nat (j := 0) rfl), ?_⟩
    try simp only [L2.start, List.map_cons, List.map_nil, List.length_cons, List.length_nil, List.replicate_succ, List.replicate_zero, List.cons_append, List.nil_append, List.set_cons_succ, List.set_cons_zero, Nat.reduceAdd, Nat.reduceSub, Nat.zero_add]
    dsimp only [gName]
    try simp only [L2.start, List.map_cons, List.map_nil, List.length_cons, List.length_nil, List.replicate_succ, List.replicate_zero, List.cons_append, List.nil_append, List.set_cons_succ, List.set_cons_zero, Nat.reduceAdd, Nat.reduceSub, Nat.zero_add]
    refine ⟨_, rfl, rfl, _, rfl, ite2 (fun z => absurd z (nS nf)) (fun _ => ?_)⟩
    dsimp only [tNext]
    refine ⟨_, rfl, _, rfl, g, _, _, _, rfl, rfl, .inl (.inl eg), (atI_nat (j := 1) ea), wl, _, _, _, rfl, rfl, SqL.of ew, at_getD la, ?_⟩
    try simp only [L2.start, List.map_cons, List.map_nil, List.length_cons, List.length_nil, List.replicate_succ, List.replicate_zero, List.cons_append, List.nil_append, List.set_cons_succ, List.set_cons_zero, Nat.reduceAdd, Nat.reduceSub, Nat.zero_add]
    dsimp only [gName]
    try simp only [L2.start, List.map_cons, List.map_nil, List.length_cons, List.length_nil, List.replicate_succ, List.replicate_zero, List.cons_append, List.nil_append, List.set_cons_succ, List.set_cons_zero, Nat.reduceAdd, Nat.reduceSub, Nat.zero_add]
    unfold gvw at q
    refine ⟨_, rfl, rfl, _, rfl, ite2 (fun z => ?_) (fun z => ?_)⟩
    · rw [if_pos (V.str.inj (of_decide_eq_true z))] at q
      exact ⟨_, rfl, _, rfl, _, _, rfl, rfl, q⟩
    have no : ¬ k = "other" := fun y => z (decide_eq_true (congrArg V.str y))
    rw [if_neg no] at q
    dsimp only [tNext]
    have l2 : l.length = 2 := by
      rcases ok.1 with ⟨_, z⟩ | ⟨z, _⟩
      · exact z
      · exact absurd z no
    have eb : (Gt.w k l).row[2]? = some (.int ((l.getD 1 0 : Nat) : Int)) := by
      match l, l2 with
      | [a, b], _ => rfl
    have lb : l.getD 1 0 < ws.length := by
      match l, l2, ok with
      | [a, b], _, ok => exact ok.2 b (by simp)
    refine ⟨_, rfl, _, rfl, g, _, _, _, rfl, rfl, .inl (.inl eg), (atI_nat (j := 2) eb), wl, _, _, _, rfl, rfl, SqL.of ew, at_getD lb, ?_⟩
    try simp only [L2.start, List.map_cons, List.map_nil, List.length_cons, List.length_nil, List.replicate_succ, List.replicate_zero, List.cons_append, List.nil_append, List.set_cons_succ, List.set_cons_zero, Nat.reduceAdd, Nat.reduceSub, Nat.zero_add]
    dsimp only [gName]
    try simp only [L2.start, List.map_cons, List.map_nil, List.length_cons, List.length_nil, List.replicate_succ, List.replicate_zero, List.cons_append, List.nil_append, List.set_cons_succ, List.set_cons_zero, Nat.reduceAdd, Nat.reduceSub, Nat.zero_add]
    refine ⟨_, rfl, rfl, _, rfl, ite2 (fun z => ?_) (fun z => ?_)⟩
    · rw [if_pos (V.str.inj (of_decide_eq_true z))] at q
      exact ⟨_, rfl, _, rfl, _, _, rfl, rfl, q⟩
    rw [if_neg (fun y => z (decide_eq_true (congrArg V.str y)))] at q
    dsimp only [tNext]
    refine ⟨_, rfl, rfl, _, rfl, ite2 (fun z => ?_) (fun z => ?_)⟩
    · rw [if_pos (V.str.inj (of_decide_eq_true z))] at q
      exact ⟨_, rfl, _, rfl, _, _, rfl, rfl, q⟩
    rw [if_neg (fun y => z (decide_eq_true (congrArg V.str y)))] at q
    dsimp only [tNext]
    exact ⟨_, rfl, _, rfl, _, _, rfl, rfl, q⟩
/-- the rows that a run tells: by name, the wires' values -/
def RunAt (H0 H : Hp) (t : Addr) (ys : List Str) (nm : List (Str × List Nat)) (rs : List Int) : Prop := ∃ ts : List Addr, ts.length = ys.length ∧ H t = some (.lst (ts.map V.ref)) ∧
  ∀ (i : Nat) (u : Addr) (n : Str), ts[i]? = some u → ys[i]? = some n → ∃ (ws : List Nat) (l : Addr), (n, ws) ∈ nm ∧ H0 l = none ∧ H u = some (.tup [.str n, .ref l]) ∧ H l = some (.lst ((ws.map fun a => rs.getD a 0).map V.int))
def spRan (C : Addr) : Sp := fun vs H Q _ => ∃ (Z : List Addr) (p : NetP) (m : Nat) (gs : List Gt) (nm : List (Str × List Nat)) (vl : Addr) (vals : List Int) (n : Nat), vs = [.ref p.x, .ref vl, .int (n : Int)] ∧ NetAt C Z H p m gs nm ∧ H vl = some (.lst (vals.map V.int)) ∧ vals.length = m ∧ n ≤ 5000 ∧ m + gs.length ≤ 900 ∧ nm.length < 64 ∧
  (∀ (i : Nat) (g : Gt), gs[i]? = some g → g.ok (m + i)) ∧ (∀ x ∈ nm, x.2.length ≤ 900 ∧ ∀ a ∈ x.2, a < m + gs.length) ∧
  ∀ (ys : List Str) (t : Addr) (H' : Hp), ys.Perm (nm.map (·.1)) → sortedS ys = true → Same H H' → RunAt H H' t ys nm (rv (2 ^ n - 1) (vals.map (· % 2 ^ n)) gs) → Q (.ref t) H'
theorem ok_ran (B : Bl mg) (L : LL K mg C a1 a2 a3 a4 a5 a6 a7 a8 a9 a10 a11 a12 a13 a14 a15 a16 a17 a18 a19 a20 a21 a22 a23 a24 a25 a26 a27 a28 a29 a30 a31 a32 a33 a34 a35 a36 a37 a38 l1 l2 l3 l4 l5 l6 l7 l8 l9 l10 l11 l12 l13 l14 l15 l16 l17 l18 l19 l20 l21 l22 l23 l24 l25 l26 l27 l28 l29 l30 l31 l32 l33 l34 l35 l36 l37 l38) : FnOk P w K mg base CX0 2 a13 l13 ["net", "values", "many"] (spRan C) := by
  have G_gate_bits : FnOk P w K mg base CX0 1 a14 l14 ["gate", "wires", "full"] spGateB := (ok_gate_bits B L).mono (by decide)
  have G_Net_gates : FnOk P w K mg base CX0 1 a37 l37 ["self"] (spGates C) := (ok_Net_gates B L).mono (by decide)
  have G_Net_given : FnOk P w K mg base CX0 1 a34 l34 ["self", "name"] (spGiven C) := (ok_Net_given B L).mono (by decide)
  have G_Net_names : FnOk P w K mg base CX0 1 a35 l35 ["self"] (spNames C) := (ok_Net_names B L).mono (by decide)
  refine L.F_ran.ok sc_ran (fun vs H Q E h => ?_) (fun cdv A outer s H vs Q E hr h => ?_)
  · obtain ⟨Z, p, m, gs, nm, vl, vals, n, rfl, _⟩ := h
    rfl
  obtain ⟨Z, p, m, gs, nm, vl, vals, n, rfl, hN, ev, lv, hn, hl, hm, hok, hnm, q⟩ := h
  refine ⟨_, (pss_cons (ps_set (i := 3) sc_ran.nd rfl (.inr rfl) (pe_op op_sub (pe_op op_oneShl pe_int (pv 2)) pe_int))
    (pss_cons (ps_set (i := 4) sc_ran.nd rfl (.inr rfl) (pe_lc (own := [("value", 6)]) (by rfl) sc_ran.nd (pi_list (pv 1)) (blkOk_by (own := [("value", 6)]) (N := ["net", "values", "many", "full", "wires", "gate", "value", "name", "wire"]) (sc := defScope s_ran) (by decide +kernel)) (fun _ _ _ _ _ => pg_name (i := 6) sc_ran.nd rfl (Or.inl rfl)) (fun _ _ _ _ _ => pts_nil) (fun _ _ _ _ _ => (pe_op op_andM (pv 6) (pv 3)))))
    (pss_cons (ps_for PassesOwn.never rfl (pi_list (pe_meth0 (pv 0) L.T.cl L.M_Net_gates G_Net_gates hr L.b_Net_gates .nil pass0)) (pg_name (i := 5) sc_ran.nd rfl (.inl rfl)) (pss_one (ps_expr (pe_bm PySem.F.plainAttrs_list PySem.F.slot_list_append PySem.F.type_list_append mt_append (pv 4) (pa_cons (pe_call G_gate_bits hr (by rfl) L.m_gate_bits L.F_gate_bits.kp L.b_gate_bits .nil pass0 (pa_cons (pv 5) (pa_cons (pv 4) (pa_cons (pv 3) pa_nil)))) pa_nil)))))
    (pss_one (ps_ret (pe_lc (own := [("name", 7)]) (by rfl) sc_ran.nd (pi_list (pe_meth0 (pv 0) L.T.cl L.M_Net_names G_Net_names hr L.b_Net_names .nil pass0)) (blkOk_by (own := [("name", 7)]) (N := ["net", "values", "many", "full", "wires", "gate", "value", "name", "wire"]) (sc := defScope s_ran) (by decide +kernel)) (fun _ _ _ _ _ => pg_name (i := 7) sc_ran.nd rfl (Or.inl rfl)) (fun _ _ _ _ _ => pts_nil) (fun _ _ _ _ _ => (pe_tup (pa_cons (pv 7) (pa_cons (pe_lc (own := [("wire", 8)]) (by rfl) sc_ran.nd (pi_listK (K := K) (pe_meth (pv 0) L.T.cl L.M_Net_given G_Net_given hr L.b_Net_given .nil pass0 (pa_cons (pv 7) pa_nil))) (blkOk_by (own := [("wire", 8)]) (N := ["net", "values", "many", "full", "wires", "gate", "value", "name", "wire"]) (sc := ({ kind := ScopeKind.function, names := [(".0", NameKind.local), ("name", NameKind.local), ("net", NameKind.cell), ("wires", NameKind.cell)], isGenerator := false, isCoroutine := false } : Scope)) (by decide +kernel)) (fun _ _ _ _ _ => pg_name (i := 8) sc_ran.nd rfl (Or.inl rfl)) (fun _ _ _ _ _ => pts_nil) (fun _ _ _ _ _ => (pe_ix (ix_listK (K := K)) (pv 4) (pv 8) (fun _ _ => rfl)))) pa_nil)))))))))), ?_⟩
  refine ⟨_, rfl, n, rfl, rfl, by omega, _, _, rfl, rfl, ?_⟩
  try simp only [L2.start, List.map_cons, List.map_nil, List.length_cons, List.length_nil, List.replicate_succ, List.replicate_zero, List.cons_append, List.nil_append, List.set_cons_succ, List.set_cons_zero, Nat.reduceAdd, Nat.reduceSub, Nat.zero_add]
  refine ⟨_, rfl, vl, rfl, ⟨_, SqL.of ev⟩, fun W nW => ?_⟩
  refine lc_it (walk_list (K := K) (a := vl) (xs := vals.map V.int)) (fun i H9 => Same H H9 ∧ H9 W = some (.lst (((vals.map (· % 2 ^ n)).take i).map V.int))) ⟨same_upd nW, upd_same⟩ (fun i H9 _ ⟨s9, _⟩ => SqL.of (s9 _ _ ev)) ?_ ?_
  · rintro j z H9 H10 hj ⟨s9, eW⟩ ⟨rfl, hz⟩
    obtain ⟨v, hv, rfl⟩ := at_int46 hz
    refine ⟨rfl, yesT ?_⟩
    refine ⟨_, rfl, _, rfl, _, n, rfl, rfl, ?_⟩
    refine ⟨_, eW, ?_, fun y u e => ?_, ?_⟩
    · rw [List.length_map, List.length_take, List.length_map]
      exact Nat.lt_of_le_of_lt (Nat.min_le_right _ _) (small1000 (by omega))
    · rw [upd_ne (ne_of_none e nW)]
      exact s9 _ _ e
    · rw [upd_same, List.take_add_one, List.getElem?_map, hv, List.map_append]
      rfl
  rintro H1 ⟨s1, eW⟩
  rw [List.length_map, List.take_of_length_le (by rw [List.length_map]; exact Nat.le_refl _)] at eW
  try simp only [L2.start, List.map_cons, List.map_nil, List.length_cons, List.length_nil, List.replicate_succ, List.replicate_zero, List.cons_append, List.nil_append, List.set_cons_succ, List.set_cons_zero, Nat.reduceAdd, Nat.reduceSub, Nat.zero_add]
  obtain ⟨_, _, _, dx, _, _, e1, _⟩ := id hN
  have nWx : ∀ y o, H y = some o → y ≠ W := fun y o e => ne_of_none e nW
  refine ⟨_, rfl, p.x, dx, _, rfl, s1 _ _ e1, rfl, Z, p, m, gs, nm, rfl, hN.same s1, fun G ps nG lps hps => ?_⟩
  have sG := same_upd (o := .lst (ps.map V.ref)) nG
  have eWG := sG _ _ eW
  have nGW : G ≠ W := (ne_of_none eW nG).symm
  have eG0 : (upd H1 G (.lst (ps.map V.ref))) G = some (.lst (ps.map V.ref)) := upd_same
  have w1 := s1.trans sG
  have hps1 : ∀ (i : Nat) (r : Addr) (g : Gt), ps[i]? = some r → gs[i]? = some g → (upd H1 G (.lst (ps.map V.ref))) r = some (.tup g.row) := fun i r g hi hg => sG _ _ (hps i r g hi hg)
  generalize upd H1 G (.lst (ps.map V.ref)) = H2 at *
  refine ⟨G, rfl, ⟨_, SqL.of eG0⟩, ?_⟩
  refine for_it (walk_list (K := K) (a := G) (xs := ps.map V.ref)) (fun j σ H9 => ∃ y : Option V, σ = [some (.ref p.x), some (.ref vl), some (.int (n : Int)), some (.int (2 ^ n - 1)), some (.ref W), y, none, none, none] ∧ Keep W H2 H9 ∧ H9 W = some (.lst ((rv (2 ^ n - 1) (vals.map (· % 2 ^ n)) (gs.take j)).map V.int))) ⟨_, rfl, Keep.refl _ _, eWG⟩ (fun j σ H9 _ ⟨_, _, k9, _⟩ => SqL.of (k9 _ _ eG0 nGW)) ?_ ?_
  · rintro j z σ H9 H10 hj ⟨y, rfl, k9, eW9⟩ ⟨rfl, hz⟩
    rw [List.getElem?_map] at hz
    have hj' : j < ps.length := by
      rw [List.length_map] at hj
      exact hj
    rw [List.getElem?_eq_getElem hj'] at hz
    cases hz
    have hg : gs[j]? = some gs[j] := List.getElem?_eq_getElem (by omega)
    have er : H10 ps[j] = some (.tup (gs[j]'(by omega)).row) := k9 _ _ (hps1 j _ _ (List.getElem?_eq_getElem hj') hg) (fun z => by
      have := hps1 j _ _ (List.getElem?_eq_getElem hj') hg
      rw [z, eWG] at this
      cases this)
    try simp only [L2.start, List.map_cons, List.map_nil, List.length_cons, List.length_nil, List.replicate_succ, List.replicate_zero, List.cons_append, List.nil_append, List.set_cons_succ, List.set_cons_zero, Nat.reduceAdd, Nat.reduceSub, Nat.zero_add]
    refine ⟨_, rfl, .inl ⟨rfl, _, SqL.of eW9⟩, _, rfl, _, rfl, _, rfl, ps[j], W, _, _, _, rfl, er, eW9, ?_, ?_⟩
    · rw [rv_len, List.length_map, List.length_take, lv, Nat.min_eq_left (by omega)]
      exact hok j _ hg
    refine ⟨W, _, _, rfl, rfl, eW9, ?_, ?_⟩
    · rw [List.length_map, rv_len, List.length_map, List.length_take]
      exact small1000 (by omega)
    refine ⟨_, rfl, fun y' u e ny => ?_, ?_⟩
    · rw [upd_ne ny]
      exact k9 _ _ e ny
    · rw [upd_same, List.take_add_one, hg]
      show _ = some (HO.lst ((rv (2 ^ n - 1) (vals.map (· % 2 ^ n)) (gs.take j ++ [gs[j]])).map V.int))
      rw [rv_snoc, List.map_append]
      rfl
  rintro σ H9 ⟨y, rfl, k9, eW9⟩
  rw [List.length_map, List.take_of_length_le (by omega)] at eW9
  have s9 : Same H H9 := fun y u e => k9 _ _ (w1 _ _ e) (nWx _ _ e)
  have N9 := hN.same s9
  obtain ⟨_, _, _, dx9, _, _, f1, _⟩ := id N9
  refine ⟨_, rfl, p.x, dx9, _, rfl, f1, rfl, Z, p, m, gs, nm, rfl, N9, hm, fun ys Y HY hp hs sY nY eY => ?_⟩
  have eWY := sY _ _ eW9
  have NY := N9.same sY
  have lys : ys.length < 64 := by
    have := hp.length_eq
    rw [List.length_map] at this
    omega
  have lrv : (rv (2 ^ n - 1) (vals.map (· % 2 ^ n)) gs).length = m + gs.length := by rw [rv_len, List.length_map, lv]
  refine ⟨Y, rfl, ⟨_, SqL.of eY⟩, fun T nT => ?_⟩
  refine lc_it (walk_list (K := K) (a := Y) (xs := ys.map V.str)) (fun i H5 => Same HY H5 ∧ ∃ ts : List Addr, ts.length = i ∧ H5 T = some (.lst (ts.map V.ref)) ∧ ∀ (k : Nat) (u : Addr) (x : Str), ts[k]? = some u → ys[k]? = some x → ∃ (ws : List Nat) (l : Addr), (x, ws) ∈ nm ∧ H l = none ∧ l ≠ T ∧ H5 u = some (.tup [.str x, .ref l]) ∧ H5 l = some (.lst ((ws.map fun a => (rv (2 ^ n - 1) (vals.map (· % 2 ^ n)) gs).getD a 0).map V.int))) ⟨same_upd nT, [], rfl, upd_same, fun k u x h => by simp at h⟩ (fun i H5 _ ⟨s5, _⟩ => SqL.of (s5 _ _ eY)) ?_ ?_
  · rintro j z H5 H6 hj ⟨s5, ts, lt, eT, hts⟩ ⟨rfl, hz⟩
    rw [List.getElem?_map] at hz
    have hj' : j < ys.length := by
      rw [List.length_map] at hj
      exact hj
    have hy : ys[j]? = some ys[j] := List.getElem?_eq_getElem hj'
    rw [hy] at hz
    cases hz
    have N5 := NY.same s5
    obtain ⟨_, _, _, dx5, _, _, g1, _⟩ := id N5
    obtain ⟨⟨x, ws⟩, hx, ex⟩ := List.mem_map.mp (hp.mem_iff.mp (List.mem_of_getElem? hy))
    obtain ⟨i0, hi0, ei0⟩ := List.getElem_of_mem hx
    have hn0 : nm[i0]? = some (ys[j], ws) := by
      rw [List.getElem?_eq_getElem hi0, ei0, ← ex]
    have hws := hnm _ hx
    have hw1 : ws.length ≤ 900 := hws.1
    refine ⟨rfl, yesT ?_⟩
    refine ⟨_, rfl, _, rfl, p.x, dx5, _, rfl, g1, rfl, _, rfl, Z, p, m, gs, nm, i0, ys[j], ws, rfl, N5, hn0, fun g ng => ?_⟩
    have sg := same_upd (o := .lst (nts ws)) ng
    have eWg := sg _ _ (s5 _ _ eWY)
    have egg : (upd H6 g (.lst (nts ws))) g = some (.lst (nts ws)) := upd_same
    have eTg := sg _ _ eT
    generalize upd H6 g (.lst (nts ws)) = H7 at *
    refine ⟨g, rfl, ⟨_, SqL.of egg⟩, fun D nD => ?_⟩
    refine lc_it (walk_list (K := K) (a := g) (xs := nts ws)) (fun i H8 => Same H7 H8 ∧ H8 D = some (.lst (((ws.map fun a => (rv (2 ^ n - 1) (vals.map (· % 2 ^ n)) gs).getD a 0).take i).map V.int))) ⟨same_upd nD, upd_same⟩ (fun i H8 _ ⟨s8, _⟩ => SqL.of (s8 _ _ egg)) ?_ ?_
    · rintro k z H8 H8' hk ⟨s8, eD⟩ ⟨rfl, hz⟩
      obtain ⟨a, ha, rfl⟩ := nts_at hz
      have la := hws.2 a (List.mem_of_getElem? ha)
      refine ⟨rfl, yesT ?_⟩
      refine ⟨_, rfl, _, rfl, W, _, _, _, rfl, rfl, SqL.of (s8 _ _ eWg), at_getD (by rw [lrv]; exact la), ?_⟩
      refine ⟨_, eD, ?_, fun y u e => ?_, ?_⟩
      · rw [List.length_map, List.length_take, List.length_map]
        exact Nat.lt_of_le_of_lt (Nat.min_le_right _ _) (small1000 (by omega))
      · rw [upd_ne (ne_of_none e nD)]
        exact s8 _ _ e
      · rw [upd_same, List.take_add_one, List.getElem?_map, ha, List.map_append]
        rfl
    rintro H8 ⟨s8, eD⟩
    rw [nts_len, List.take_of_length_le (by rw [List.length_map]; exact Nat.le_refl _)] at eD
    have eT8 := s8 _ _ eTg
    have nD0 : H D = none := by
      cases e : H D with
      | none => rfl
      | some o =>
        have := sg _ _ (s5 _ _ (sY _ _ (s9 _ _ e)))
        rw [nD] at this
        cases this
    have nDT : D ≠ T := fun z => by
      rw [z, eTg] at nD
      cases nD
    refine ⟨(by show 2 ≤ sizeLine; decide), fun u nu => ?_⟩
    have su := same_upd (o := .tup [.str ys[j], .ref D]) nu
    have nuT : u ≠ T := fun z => by
      rw [z, eT8] at nu
      cases nu
    have sA : Same H6 (upd H8 u (.tup [.str ys[j], .ref D])) := fun y o e => su _ _ (s8 _ _ (sg _ _ e))
    refine ⟨_, su _ _ eT8, ?_, fun y o e => ?_, ts ++ [u], by rw [List.length_append, lt]; rfl, ?_, fun k u' x' hu hx' => ?_⟩
    · rw [List.length_map, lt]
      exact small1000 (by omega)
    · rw [upd_ne (ne_of_none e nT)]
      exact sA _ _ (s5 _ _ e)
    · rw [upd_same, List.map_append]
      rfl
    · by_cases c : k < ts.length
      · rw [List.getElem?_append_left c] at hu
        obtain ⟨ws', l', q1, q0, q2, q3, q4⟩ := hts k u' x' hu hx'
        refine ⟨ws', l', q1, q0, q2, ?_, ?_⟩
        · rw [upd_ne (fun z => by rw [z, eT] at q3; cases q3)]
          exact sA _ _ q3
        · rw [upd_ne q2]
          exact sA _ _ q4
      · have k0 : k = ts.length := by
          have := (List.getElem?_eq_some_iff.mp hu).1
          rw [List.length_append, List.length_cons, List.length_nil] at this
          omega
        rw [List.getElem?_append_right (by omega), k0, Nat.sub_self] at hu
        rw [k0, lt, hy] at hx'
        cases hu
        cases hx'
        refine ⟨ws, D, ?_, nD0, nDT, ?_, ?_⟩
        · rw [← ex]
          exact hx
        · rw [upd_ne nuT]
          exact upd_same
        · rw [upd_ne nDT]
          exact su _ _ eD
  · rintro H5 ⟨s5, ts, lt, eT, hts⟩
    refine q ys T H5 hp hs ((s9.trans sY).trans s5) ⟨ts, by rw [lt, List.length_map], eT, fun k u x hu hx => ?_⟩
    obtain ⟨ws, l, q1, q0, _, q3, q4⟩ := hts k u x hu hx
    exact ⟨ws, l, q1, q0, q3, q4⟩
end
section
variable {P : Program} {w : World} {K : PySem.W.Frag} {mg : Str → Option Value} {base : Heap}
variable {C : Addr} {a1 a2 a3 a4 a5 a6 a7 a8 a9 a10 a11 a12 a13 a14 a15 a16 a17 a18 a19 a20 a21 a22 a23 a24 a25 a26 a27 a28 a29 a30 a31 a32 a33 a34 a35 a36 a37 a38 : Addr} {l1 l2 l3 l4 l5 l6 l7 l8 l9 l10 l11 l12 l13 l14 l15 l16 l17 l18 l19 l20 l21 l22 l23 l24 l25 l26 l27 l28 l29 l30 l31 l32 l33 l34 l35 l36 l37 l38 : FuncData}
/-! ### cases -/
theorem tb_shl (x : Int) (s c : Nat) : tb (x * 2 ^ s) c = if c < s then 0 else tb x (c - s) := by
  have ps := GM.pow_pos' s
  have pc := GM.pow_pos' c
  split
  · rename_i h
    unfold tb
    obtain ⟨d, rfl⟩ : ∃ d, s = c + (d + 1) := ⟨s - c - 1, by omega⟩
    rw [GM.pow_add', ← Int.mul_assoc, Int.mul_comm x, Int.mul_assoc, Int.mul_ediv_cancel_left _ (by omega), GM.pow_s, ← Int.mul_assoc, Int.mul_emod_left]
  · rename_i h
    unfold tb
    obtain ⟨d, rfl⟩ : ∃ d, c = s + d := ⟨c - s, by omega⟩
    rw [GM.pow_add', Nat.add_sub_cancel_left, ← Int.ediv_ediv_of_nonneg (Int.le_of_lt ps), Int.mul_ediv_cancel _ (by omega)]
theorem tb_small {x : Int} {n c : Nat} (h0 : 0 ≤ x) (h : x < 2 ^ n) (hc : n ≤ c) : tb x c = 0 := by
  unfold tb
  have : (2 : Int) ^ n ≤ 2 ^ c := GM.pow_le' hc
  rw [Int.ediv_eq_zero_of_lt h0 (by omega)]
  rfl
theorem or_range {x y : Int} (hx : 0 ≤ x) (hy : 0 ≤ y) : x ≤ Builtin.bitOr x y ∧ Builtin.bitOr x y ≤ x + y := by
  have := bitAnd_range x hy
  rw [PyProof.Rows.bitOr_and]
  omega
def pcs (place : Nat) : Nat → Int
  | 0 => (2 ^ 2 ^ place - 1) * 2 ^ 2 ^ place
  | k + 1 => Builtin.bitOr (pcs place k) (pcs place k * 2 ^ 2 ^ (place + 1 + k))
theorem pcs_in (place : Nat) : ∀ k, 0 ≤ pcs place k ∧ pcs place k < 2 ^ 2 ^ (place + 1 + k)
  | 0 => by
    have ps := GM.pow_pos' (2 ^ place)
    have e : (2 : Int) ^ 2 ^ (place + 1 + 0) = 2 ^ 2 ^ place * 2 ^ 2 ^ place := by
      rw [← GM.pow_add']
      congr 1
      rw [Nat.add_zero, Nat.pow_succ]
      omega
    unfold pcs
    rw [e]
    exact ⟨Int.mul_nonneg (by omega) (by omega), Int.mul_lt_mul_of_pos_right (by omega) ps⟩
  | k + 1 => by
    obtain ⟨h0, h1⟩ := pcs_in place k
    have ps := GM.pow_pos' (2 ^ (place + 1 + k))
    have e : (2 : Int) ^ 2 ^ (place + 1 + (k + 1)) = 2 ^ 2 ^ (place + 1 + k) * 2 ^ 2 ^ (place + 1 + k) := by
      rw [← GM.pow_add']
      congr 1
      rw [← Nat.add_assoc, Nat.pow_succ]
      omega
    have y0 : 0 ≤ pcs place k * 2 ^ 2 ^ (place + 1 + k) := Int.mul_nonneg h0 (by omega)
    have r := or_range h0 y0
    have y1 : pcs place k * 2 ^ 2 ^ (place + 1 + k) ≤ (2 ^ 2 ^ (place + 1 + k) - 1) * 2 ^ 2 ^ (place + 1 + k) := Int.mul_le_mul_of_nonneg_right (by omega) (by omega)
    rw [Int.sub_mul, Int.one_mul] at y1
    show 0 ≤ Builtin.bitOr _ _ ∧ Builtin.bitOr _ _ < _
    rw [e]
    omega
theorem pcs_bit (place : Nat) : ∀ (k c : Nat), c < 2 ^ (place + 1 + k) → tb (pcs place k) c = ((c / 2 ^ place % 2 : Nat) : Int)
  | 0, c, h => by
    have h : c < 2 ^ place * 2 := by
      rw [Nat.add_zero, Nat.pow_succ] at h
      exact h
    have pp : 0 < 2 ^ place := Nat.pow_pos (by decide)
    unfold pcs
    rw [tb_shl]
    split
    · rename_i d
      rw [Nat.div_eq_of_lt d]
      rfl
    · rename_i d
      rw [tb_full (by omega)]
      have : c / 2 ^ place = 1 := by
        refine Nat.div_eq_of_lt_le (by omega) (by omega)
      rw [this]
      rfl
  | k + 1, c, h => by
    have h : c < 2 ^ (place + 1 + k) * 2 := by
      rw [← Nat.add_assoc, Nat.pow_succ] at h
      exact h
    obtain ⟨h0, h1⟩ := pcs_in place k
    have pp : 0 < 2 ^ place := Nat.pow_pos (by decide)
    unfold pcs
    rw [tb_or, tb_shl]
    by_cases d : c < 2 ^ (place + 1 + k)
    · rw [if_pos d, pcs_bit place k c d]
      rcases Nat.mod_two_eq_zero_or_one (c / 2 ^ place) with z | z <;> rw [z] <;> decide
    · rw [if_neg d, tb_small h0 h1 (by omega), pcs_bit place k _ (by omega)]
      have e : (c - 2 ^ (place + 1 + k)) / 2 ^ place % 2 = c / 2 ^ place % 2 := by
        have e1 : 2 ^ (place + 1 + k) = 2 ^ place * (2 * 2 ^ k) := by
          rw [← Nat.pow_add_one', ← Nat.pow_add]
          congr 1
          omega
        have e2 : c = (c - 2 ^ (place + 1 + k)) + 2 ^ place * (2 * 2 ^ k) := by omega
        have e3 : c / 2 ^ place = (c - 2 ^ (place + 1 + k)) / 2 ^ place + 2 * 2 ^ k := by
          conv => lhs; rw [e2]
          rw [Nat.add_mul_div_left _ _ pp]
        omega
      rw [e]
      rcases Nat.mod_two_eq_zero_or_one (c / 2 ^ place) with z | z <;> rw [z] <;> decide
def spPic : Sp := fun vs H Q _ => ∃ (place many : Nat), vs = [.int (place : Int), .int (many : Int)] ∧ place < many ∧ many ≤ 12 ∧ Q (.int (pcs place (many - 1 - place))) H
theorem ok_place_in_cases (B : Bl mg) (L : LL K mg C a1 a2 a3 a4 a5 a6 a7 a8 a9 a10 a11 a12 a13 a14 a15 a16 a17 a18 a19 a20 a21 a22 a23 a24 a25 a26 a27 a28 a29 a30 a31 a32 a33 a34 a35 a36 a37 a38 l1 l2 l3 l4 l5 l6 l7 l8 l9 l10 l11 l12 l13 l14 l15 l16 l17 l18 l19 l20 l21 l22 l23 l24 l25 l26 l27 l28 l29 l30 l31 l32 l33 l34 l35 l36 l37 l38) : FnOk P w K mg base CX0 1 a16 l16 ["place", "many"] spPic := by
  refine L.F_place_in_cases.ok sc_place_in_cases (fun vs H Q E h => ?_) (fun cdv A outer s H vs Q E hr h => ?_)
  · obtain ⟨place, many, rfl, _⟩ := h
    rfl
  obtain ⟨place, many, rfl, hp, hm, q⟩ := h
  refine ⟨_, (pss_cons (ps_set (i := 2) sc_place_in_cases.nd rfl (.inl rfl) (pe_op op_oneShl pe_int (pv 0)))
    (pss_cons (ps_set (i := 3) sc_place_in_cases.nd rfl (.inl rfl) (pe_op op_shlN (pe_op op_sub (pe_op op_oneShl pe_int (pv 2)) pe_int) (pv 2)))
    (pss_cons (ps_for PassesOwn.never rfl (pi_range2 (by rfl) B.range (pa_cons (pe_op op_add (pv 0) pe_int) (pa_cons (pv 1) pa_nil))) (pg_name (i := 4) sc_place_in_cases.nd rfl (.inl rfl)) (pss_one (ps_aug (i := 3) sc_place_in_cases.nd rfl (.inl rfl) (pe_op op_shlN (pv 3) (pe_op op_oneShl pe_int (pv 4))) iop_or)))
    (pss_one (ps_ret (pv 3)))))), ?_⟩
  have b12 : ∀ {k : Nat}, k ≤ 12 → (2 : Nat) ^ k ≤ 4096 := fun h => Nat.le_trans (Nat.pow_le_pow_right (by decide) h) (by decide)
  have c12 : ∀ k : Nat, (2 : Int) ^ k = ((2 ^ k : Nat) : Int) := fun k => (PySem.W.kbt_cast k).symm
  refine ⟨_, rfl, place, rfl, rfl, by omega, ?_⟩
  try simp only [L2.start, List.map_cons, List.map_nil, List.length_cons, List.length_nil, List.replicate_succ, List.replicate_zero, List.cons_append, List.nil_append, List.set_cons_succ, List.set_cons_zero, Nat.reduceAdd, Nat.reduceSub, Nat.zero_add]
  have bp := b12 (k := place) (by omega)
  have shl : ∀ {x : Int} {d j : Nat}, 0 ≤ x → x < 2 ^ 2 ^ d → d ≤ 12 → j ≤ 4096 → CShl x (j : Int) := fun {x d j} h0 h1 hd hj => by
    have e1 : (2 : Int) ^ 2 ^ d ≤ 2 ^ 4096 := GM.pow_le' (b12 hd)
    have e2 : ((2 ^ 4096 : Nat) : Int) = (2 : Int) ^ 4096 := PySem.W.kbt_cast _
    exact shl_ok (n := 4096) (by omega) (by omega)
  have s0 := GM.pow_pos' (2 ^ place)
  refine ⟨_, rfl, 2 ^ place, rfl, congrArg V.int (c12 place), by omega, _, _, rfl, rfl, _, rfl, _, 2 ^ place, rfl, congrArg V.int (c12 place), shl (d := place) (by omega) (by omega) (by omega) bp, ?_⟩
  try simp only [L2.start, List.map_cons, List.map_nil, List.length_cons, List.length_nil, List.replicate_succ, List.replicate_zero, List.cons_append, List.nil_append, List.set_cons_succ, List.set_cons_zero, Nat.reduceAdd, Nat.reduceSub, Nat.zero_add]
  refine ⟨_, rfl, _, _, rfl, rfl, _, rfl, _, _, rfl, ⟨by omega, by omega, by omega, by omega⟩, ?_⟩
  rw [show ((many : Int) - ((place : Int) + 1)).toNat = many - 1 - place by omega]
  refine for_range (n := many - 1 - place) (fun j σ H9 => ∃ y : Option V, σ = [some (.int (place : Int)), some (.int (many : Int)), some (.int (2 ^ place)), some (.int (pcs place j)), y] ∧ H9 = H) ⟨_, rfl, rfl⟩ ?_ ?_
  · rintro j σ H9 hj ⟨y, rfl, rfl⟩
    obtain ⟨h0, h1⟩ := pcs_in place j
    have bj := b12 (k := place + 1 + j) (by omega)
    try simp only [L2.start, List.map_cons, List.map_nil, List.length_cons, List.length_nil, List.replicate_succ, List.replicate_zero, List.cons_append, List.nil_append, List.set_cons_succ, List.set_cons_zero, Nat.reduceAdd, Nat.reduceSub, Nat.zero_add]
    refine ⟨_, rfl, _, rfl, _, rfl, place + 1 + j, rfl, congrArg V.int (by omega), by omega, _, 2 ^ (place + 1 + j), rfl, congrArg V.int (c12 _), shl (d := place + 1 + j) h0 h1 (by omega) bj, _, _, rfl, rfl, ?_⟩
    exact ⟨some _, rfl, rfl⟩
  · rintro σ H9 ⟨y, rfl, rfl⟩
    exact ⟨_, rfl, q⟩
def acs (m : Nat) : List Int := (List.range m).map fun i => pcs (m - 1 - i) i
theorem place46 {m i : Nat} (h : i < m) : (m : Int) - 1 + (i : Nat) * (-1) = ((m - 1 - i : Nat) : Int) := by omega
def spAllC : Sp := fun vs H Q _ => ∃ (m : Nat), vs = [.int (m : Int)] ∧ m ≤ 12 ∧ ∀ (t : Addr) (H' : Hp), H t = none → Same H H' → H' t = some (.lst ((acs m).map V.int)) → Q (.ref t) H'
theorem take_rng {f : Nat → Int} {m i : Nat} (h : i < m) : (((List.range m).map f).take (i + 1)) = ((List.range m).map f).take i ++ [f i] := by
  rw [List.take_add_one, List.getElem?_map, List.getElem?_range h]
  rfl
theorem ok_all_cases (B : Bl mg) (L : LL K mg C a1 a2 a3 a4 a5 a6 a7 a8 a9 a10 a11 a12 a13 a14 a15 a16 a17 a18 a19 a20 a21 a22 a23 a24 a25 a26 a27 a28 a29 a30 a31 a32 a33 a34 a35 a36 a37 a38 l1 l2 l3 l4 l5 l6 l7 l8 l9 l10 l11 l12 l13 l14 l15 l16 l17 l18 l19 l20 l21 l22 l23 l24 l25 l26 l27 l28 l29 l30 l31 l32 l33 l34 l35 l36 l37 l38) : FnOk P w K mg base CX0 2 a15 l15 ["many"] spAllC := by
  have G_place_in_cases : FnOk P w K mg base CX0 1 a16 l16 ["place", "many"] spPic := (ok_place_in_cases B L).mono (by decide)
  refine L.F_all_cases.ok sc_all_cases (fun vs H Q E h => ?_) (fun cdv A outer s H vs Q E hr h => ?_)
  · obtain ⟨m, rfl, _⟩ := h
    rfl
  obtain ⟨m, rfl, hm, q⟩ := h
  refine ⟨_, (pss_one (ps_ret (pe_lc (own := [("place", 1)]) (by rfl) sc_all_cases.nd (pi_range3 (by rfl) B.range (pa_cons (pe_op op_sub (pv 0) pe_int) (pa_cons (pe_un un_neg pe_int) (pa_cons (pe_un un_neg pe_int) pa_nil)))) (blkOk_by (own := [("place", 1)]) (N := ["many", "place"]) (sc := defScope s_all_cases) (by decide +kernel)) (fun _ _ _ _ _ => pg_name (i := 1) sc_all_cases.nd rfl (Or.inl rfl)) (fun _ _ _ _ _ => pts_nil) (fun _ _ _ _ _ => (pe_call G_place_in_cases hr (by rfl) L.m_place_in_cases L.F_place_in_cases.kp L.b_place_in_cases .nil pass0 (pa_cons (pv 1) (pa_cons (pv 0) pa_nil))))))), ?_⟩
  refine ⟨_, rfl, _, _, rfl, rfl, _, rfl, _, rfl, _, _, _, ((m : Int) - 1 - -1).toNat, rfl, RgC.neg (by omega) (by omega) (by decide) (by decide), fun D nD => ?_⟩
  rw [show ((m : Int) - 1 - -1).toNat = m by omega]
  refine lc_it walk_rangeC (fun i H3 => Same H H3 ∧ H3 D = some (.lst (((acs m).take i).map V.int))) ⟨same_upd nD, upd_same⟩ (fun _ _ _ _ => trivial) ?_ ?_
  · rintro i x H3 H4 hi ⟨s3, eD⟩ ⟨rfl, rfl⟩
    show gName _ (V.int ((m : Int) - 1 + (i : Nat) * (-1))) _ _ _
    rw [place46 hi]
    refine ⟨rfl, yesT ?_⟩
    refine ⟨_, rfl, _, rfl, m - 1 - i, m, rfl, by omega, hm, ?_⟩
    refine ⟨_, eD, ?_, fun b o e => ?_, ?_⟩
    · rw [List.length_map, List.length_take]
      exact Nat.lt_of_le_of_lt (Nat.min_le_left _ _) (small1000 (by omega))
    · rw [upd_ne (ne_of_none e nD)]
      exact s3 _ _ e
    · unfold acs
      rw [upd_same, take_rng hi, List.map_append, show m - 1 - (m - 1 - i) = i by omega]
      rfl
  rintro H3 ⟨s3, eD⟩
  rw [List.take_of_length_le (by unfold acs; rw [List.length_map, List.length_range]; exact Nat.le_refl _)] at eD
  exact q D H3 nD s3 eD
/-- one case -/
def vals1 (w : Int) (m : Nat) : List Int := (List.range m).map fun i => tb w (m - 1 - i)
def OneAt (H : Hp) (t : Addr) (ys : List Str) (nm : List (Str × List Nat)) (rs : List Int) : Prop := ∃ ts : List Addr, ts.length = ys.length ∧ H t = some (.lst (ts.map V.ref)) ∧
  ∀ (i : Nat) (u : Addr) (n : Str), ts[i]? = some u → ys[i]? = some n → ∃ ws : List Nat, (n, ws) ∈ nm ∧ H u = some (.tup [.str n, .int (wf (ws.map fun a => rs.getD a 0))])
def spOneC (C : Addr) : Sp := fun vs H Q _ => ∃ (Z : List Addr) (p : NetP) (m : Nat) (gs : List Gt) (nm : List (Str × List Nat)) (w : Int), vs = [.ref p.x, .int w] ∧ NetAt C Z H p m gs nm ∧ m + gs.length ≤ 900 ∧ nm.length < 64 ∧
  (∀ (i : Nat) (g : Gt), gs[i]? = some g → g.ok (m + i)) ∧ (∀ x ∈ nm, x.2.length ≤ 900 ∧ ∀ a ∈ x.2, a < m + gs.length) ∧
  ∀ (ys : List Str) (t : Addr) (H' : Hp), ys.Perm (nm.map (·.1)) → sortedS ys = true → Same H H' → OneAt H' t ys nm (rv 1 (vals1 w m) gs) → Q (.ref t) H'
theorem ok_one_case (B : Bl mg) (L : LL K mg C a1 a2 a3 a4 a5 a6 a7 a8 a9 a10 a11 a12 a13 a14 a15 a16 a17 a18 a19 a20 a21 a22 a23 a24 a25 a26 a27 a28 a29 a30 a31 a32 a33 a34 a35 a36 a37 a38 l1 l2 l3 l4 l5 l6 l7 l8 l9 l10 l11 l12 l13 l14 l15 l16 l17 l18 l19 l20 l21 l22 l23 l24 l25 l26 l27 l28 l29 l30 l31 l32 l33 l34 l35 l36 l37 l38) : FnOk P w K mg base CX0 3 a17 l17 ["net", "word"] (spOneC C) := by
  have G_ran : FnOk P w K mg base CX0 2 a13 l13 ["net", "values", "many"] (spRan C) := (ok_ran B L).mono (by decide)
  have G_Net_inputs : FnOk P w K mg base CX0 2 a36 l36 ["self"] (spInputs C) := (ok_Net_inputs B L).mono (by decide)
  have G_worth_of : FnOk P w K mg base CX0 2 a9 l9 ["digits"] (spWorthOf K) := (ok_worth_of B L).mono (by decide)
  refine L.F_one_case.ok sc_one_case (fun vs H Q E h => ?_) (fun cdv A outer s H vs Q E hr h => ?_)
  · obtain ⟨Z, p, m, gs, nm, w, rfl, _⟩ := h
    rfl
  obtain ⟨Z, p, m, gs, nm, wd, rfl, hN, hl, hm, hok, hnm, q⟩ := h
  refine ⟨_, (pss_cons (ps_setLc (i := 2) (own := [("place", 3)]) (by rfl) sc_one_case.nd rfl rfl (sw_true rfl rfl rfl (by decide +kernel)) (pi_range3 (by rfl) B.range (pa_cons (pe_op op_sub (pe_meth0 (pv 0) L.T.cl L.M_Net_inputs G_Net_inputs hr L.b_Net_inputs .nil pass0) pe_int) (pa_cons (pe_un un_neg pe_int) (pa_cons (pe_un un_neg pe_int) pa_nil)))) (blkOk_by (own := [("place", 3)]) (N := ["net", "word", "values", "place", "name", "bits"]) (sc := defScope s_one_case) (by decide +kernel)) (fun _ _ _ _ _ => pg_name (i := 3) sc_one_case.nd rfl (Or.inl rfl)) (fun _ _ _ _ _ => pts_nil) (fun _ _ _ _ _ => (pe_op op_andM (pe_op op_shrN (pv 1) (pv 3)) pe_int)))
    (pss_one (ps_ret (pe_lc (own := [("name", 4), ("bits", 5)]) (g := gTup K 2 (gCons (gName 4) (gCons (gName 5) gNil))) (by rfl) sc_one_case.nd (pi_list (pe_call G_ran hr (by rfl) L.m_ran L.F_ran.kp (L.kb_ran).choose_spec.2 (L.kb_ran).choose_spec.1 pass0 (pa_cons (pv 0) (pa_cons (pv 2) pa_nil)))) (blkOk_by (own := [("name", 4), ("bits", 5)]) (N := ["net", "word", "values", "place", "name", "bits"]) (sc := defScope s_one_case) (by decide +kernel)) (fun _ _ _ _ _ => pg_tup rfl (pgs_cons (pg_name (i := 4) sc_one_case.nd rfl (Or.inl rfl) (.inr rfl)) (pgs_cons (pg_name (i := 5) sc_one_case.nd rfl (Or.inl rfl) (.inr rfl)) pgs_nil))) (fun _ _ _ _ _ => pts_nil) (fun _ _ _ _ _ => (pe_tup (pa_cons (pv 4) (pa_cons (pe_call G_worth_of hr (by rfl) L.m_worth_of L.F_worth_of.kp L.b_worth_of .nil pass0 (pa_cons (pv 5) pa_nil)) pa_nil)))))))), ?_⟩
  obtain ⟨_, _, _, dx, _, _, e1, _⟩ := id hN
  refine ⟨_, rfl, p.x, dx, _, rfl, e1, rfl, Z, p, m, gs, nm, rfl, hN, ?_⟩
  refine ⟨_, _, rfl, rfl, _, rfl, _, rfl, _, _, _, ((m : Int) - 1 - -1).toNat, rfl, RgC.neg (by omega) (by omega) (by decide) (by decide), fun D nD => ?_⟩
  rw [show ((m : Int) - 1 - -1).toNat = m by omega]
  refine lc_it walk_rangeC (fun i H3 => Same H H3 ∧ H3 D = some (.lst (((vals1 wd m).take i).map V.int))) ⟨same_upd nD, upd_same⟩ (fun _ _ _ _ => trivial) ?_ ?_
  · rintro i x H3 H4 hi ⟨s3, eD⟩ ⟨rfl, rfl⟩
    show gName _ (V.int ((m : Int) - 1 + (i : Nat) * (-1))) _ _ _
    rw [place46 hi]
    refine ⟨rfl, yesT ?_⟩
    refine ⟨_, rfl, _, rfl, _, m - 1 - i, rfl, rfl, _, 1, rfl, rfl, ?_⟩
    refine ⟨_, eD, ?_, fun b o e => ?_, ?_⟩
    · rw [List.length_map, List.length_take]
      exact Nat.lt_of_le_of_lt (Nat.min_le_left _ _) (small1000 (by omega))
    · rw [upd_ne (ne_of_none e nD)]
      exact s3 _ _ e
    · unfold vals1
      rw [upd_same, take_rng hi, List.map_append]
      rfl
  rintro H3 ⟨s3, eD⟩
  have lv : (vals1 wd m).length = m := by
    unfold vals1
    rw [List.length_map, List.length_range]
  rw [List.take_of_length_le (by rw [lv]; exact Nat.le_refl _)] at eD
  try simp only [L2.start, List.map_cons, List.map_nil, List.length_cons, List.length_nil, List.replicate_succ, List.replicate_zero, List.cons_append, List.nil_append, List.set_cons_succ, List.set_cons_zero, Nat.reduceAdd, Nat.reduceSub, Nat.zero_add]
  refine ⟨_, rfl, _, rfl, Z, p, m, gs, nm, D, vals1 wd m, 1, rfl, hN.same s3, eD, lv, by decide, hl, hm, hok, hnm, fun ys t HT hp hs sT RT => ?_⟩
  rw [show ((2 : Int) ^ 1 - 1) = 1 from rfl, show (vals1 wd m).map (· % 2 ^ 1) = vals1 wd m from by
    unfold vals1
    rw [List.map_map]
    refine List.map_congr_left fun i _ => ?_
    show tb wd (m - 1 - i) % 2 ^ 1 = tb wd (m - 1 - i)
    have := tb_01 wd (m - 1 - i)
    have : (2 : Int) ^ 1 = 2 := rfl
    omega] at RT
  obtain ⟨ts, lt, eT, hts⟩ := RT
  have lys : ys.length < 64 := by
    have := hp.length_eq
    rw [List.length_map] at this
    omega
  refine ⟨t, rfl, ⟨_, SqL.of eT⟩, fun R nR => ?_⟩
  refine lc_it (walk_list (K := K) (a := t) (xs := ts.map V.ref)) (fun i H9 => Same HT H9 ∧ ∃ us : List Addr, us.length = i ∧ H9 R = some (.lst (us.map V.ref)) ∧ ∀ (k : Nat) (u : Addr) (x : Str), us[k]? = some u → ys[k]? = some x → ∃ ws : List Nat, (x, ws) ∈ nm ∧ H9 u = some (.tup [.str x, .int (wf (ws.map fun a => (rv 1 (vals1 wd m) gs).getD a 0))])) ⟨same_upd nR, [], rfl, upd_same, fun k u x h => by simp at h⟩ (fun i H9 _ ⟨s9, _⟩ => SqL.of (s9 _ _ eT)) ?_ ?_
  · rintro j z H9 H10 hj ⟨s9, us, lu, eR, hus⟩ ⟨rfl, hz⟩
    rw [List.getElem?_map] at hz
    have hj' : j < ts.length := by
      rw [List.length_map] at hj
      exact hj
    have hy : ys[j]? = some ys[j] := List.getElem?_eq_getElem (by omega)
    rw [List.getElem?_eq_getElem hj'] at hz
    cases hz
    obtain ⟨ws, l, hx, _, g1, g2⟩ := hts j _ _ (List.getElem?_eq_getElem hj') hy
    have f1 := s9 _ _ g1
    have f2 := s9 _ _ g2
    refine ⟨ts[j], _, rfl, .inl (.inl f1), rfl, _, _, rfl, _, _, rfl, rfl, rfl, yesT ?_⟩
    refine ⟨_, rfl, _, rfl, l, _, rfl, SqL.of f2, (by show 2 ≤ sizeLine; decide), fun u nu => ?_⟩
    have su := same_upd (o := .tup [.str (ys[j]'(by omega)), .int (wf (ws.map fun a => (rv 1 (vals1 wd m) gs).getD a 0))]) nu
    have nuR : u ≠ R := fun z => by
      rw [z, eR] at nu
      cases nu
    refine ⟨_, su _ _ eR, ?_, fun y o e => ?_, us ++ [u], by rw [List.length_append, lu]; rfl, ?_, fun k u' x' hu hx' => ?_⟩
    · rw [List.length_map, lu]
      exact small1000 (by omega)
    · rw [upd_ne (ne_of_none e nR)]
      exact su _ _ (s9 _ _ e)
    · rw [upd_same, List.map_append]
      rfl
    · by_cases c : k < us.length
      · rw [List.getElem?_append_left c] at hu
        obtain ⟨ws', q1, q3⟩ := hus k u' x' hu hx'
        refine ⟨ws', q1, ?_⟩
        rw [upd_ne (fun z => by rw [z, eR] at q3; cases q3)]
        exact su _ _ q3
      · have k0 : k = us.length := by
          have := (List.getElem?_eq_some_iff.mp hu).1
          rw [List.length_append, List.length_cons, List.length_nil] at this
          omega
        rw [List.getElem?_append_right (by omega), k0, Nat.sub_self] at hu
        rw [k0, lu, hy] at hx'
        cases hu
        cases hx'
        refine ⟨ws, hx, ?_⟩
        rw [upd_ne nuR]
        exact upd_same
  · rintro H9 ⟨s9, us, lu, eR, hus⟩
    refine q ys R H9 hp hs ((s3.trans sT).trans s9) ⟨us, by rw [lu, List.length_map, lt], eR, hus⟩
end
/-! ### one case of a run, in truths -/
def bi (b : Bool) : Int := if b = true then 1 else 0
theorem bi_01 (b : Bool) : bi b = 0 ∨ bi b = 1 := by cases b <;> simp [bi]
def gbw (x y : Bool) (k : Str) : Bool := if k = "other" then !x else if k = "both" then x && y else if k = "either" then x || y else xor x y
def gb (ws : List Bool) : Gt → Bool
  | .fi b => decide (b = 1)
  | .w k l => gbw (ws.getD (l.getD 0 0) false) (ws.getD (l.getD 1 0) false) k
def rb (vals : List Bool) (gs : List Gt) : List Bool := gs.foldl (fun ws g => ws ++ [gb ws g]) vals
theorem rb_app (vals : List Bool) (gs es : List Gt) : rb vals (gs ++ es) = rb (rb vals gs) es := by
  unfold rb
  rw [List.foldl_append]
theorem rb_pre : ∀ (gs : List Gt) (vals : List Bool), ∃ r, rb vals gs = vals ++ r ∧ r.length = gs.length
  | [], vals => ⟨[], (List.append_nil _).symm, rfl⟩
  | g :: gs, vals => by
    obtain ⟨r, e, l⟩ := rb_pre gs (vals ++ [gb vals g])
    refine ⟨gb vals g :: r, ?_, by rw [List.length_cons, List.length_cons, l]⟩
    unfold rb at e ⊢
    rw [List.foldl_cons, e, List.append_assoc]
    rfl
theorem rb_len (gs : List Gt) (vals : List Bool) : (rb vals gs).length = vals.length + gs.length := by
  obtain ⟨r, e, l⟩ := rb_pre gs vals
  rw [e, List.length_append, l]
def wb (vals : List Bool) (gs : List Gt) (a : Nat) : Bool := (rb vals gs).getD a false
theorem getD_app {α : Type} {xs ys : List α} {a : Nat} {d : α} (h : a < xs.length) : (xs ++ ys).getD a d = xs.getD a d := by
  simp only [List.getD, List.getElem?_append_left h]
theorem wb_app {vals : List Bool} {gs es : List Gt} {a : Nat} (h : a < vals.length + gs.length) : wb vals (gs ++ es) a = wb vals gs a := by
  unfold wb
  rw [rb_app]
  obtain ⟨r, e, _⟩ := rb_pre es (rb vals gs)
  rw [e]
  exact getD_app (by rw [rb_len]; exact h)
theorem wb_new {vals : List Bool} {gs : List Gt} {g : Gt} {n : Nat} (h : n = vals.length + gs.length) : wb vals (gs ++ [g]) n = gb (rb vals gs) g := by
  unfold wb
  rw [rb_app]
  show (rb vals gs ++ [gb (rb vals gs) g]).getD n false = _
  have : n = (rb vals gs).length := by rw [rb_len]; exact h
  subst this
  simp [List.getD]
theorem wb_both {vals : List Bool} {gs : List Gt} {a b n : Nat} (h : n = vals.length + gs.length) : wb vals (gs ++ [.w "both" [a, b]]) n = (wb vals gs a && wb vals gs b) := by
  rw [wb_new h]
  show gbw _ _ "both" = _
  unfold gbw
  rw [if_neg (by decide), if_pos rfl]
  rfl
theorem wb_either {vals : List Bool} {gs : List Gt} {a b n : Nat} (h : n = vals.length + gs.length) : wb vals (gs ++ [.w "either" [a, b]]) n = (wb vals gs a || wb vals gs b) := by
  rw [wb_new h]
  show gbw _ _ "either" = _
  unfold gbw
  rw [if_neg (by decide), if_neg (by decide), if_pos rfl]
  rfl
theorem wb_unlike {vals : List Bool} {gs : List Gt} {a b n : Nat} (h : n = vals.length + gs.length) : wb vals (gs ++ [.w "unlike" [a, b]]) n = (xor (wb vals gs a) (wb vals gs b)) := by
  rw [wb_new h]
  show gbw _ _ "unlike" = _
  unfold gbw
  rw [if_neg (by decide), if_neg (by decide), if_neg (by decide)]
  rfl
theorem wb_other {vals : List Bool} {gs : List Gt} {a n : Nat} (h : n = vals.length + gs.length) : wb vals (gs ++ [.w "other" [a]]) n = !(wb vals gs a) := by
  rw [wb_new h]
  show gbw _ _ "other" = _
  unfold gbw
  rw [if_pos rfl]
  rfl
theorem wb_fixed {vals : List Bool} {gs : List Gt} {b n : Nat} (h : n = vals.length + gs.length) : wb vals (gs ++ [.fi b]) n = decide (b = 1) := wb_new h
/-! ### nets that grow -/
def GsOk (m : Nat) (gs : List Gt) : Prop := ∀ (i : Nat) (g : Gt), gs[i]? = some g → g.ok (m + i)
def Ext (m : Nat) (gs gs' : List Gt) (n : Nat) : Prop := (∃ e, gs' = gs ++ e ∧ e.length ≤ n) ∧ (GsOk m gs → GsOk m gs')
theorem Ext.refl {m : Nat} {gs : List Gt} : Ext m gs gs 0 := ⟨⟨[], (List.append_nil _).symm, Nat.le_refl _⟩, id⟩
theorem Ext.trans {m : Nat} {gs g1 g2 : List Gt} {a b : Nat} (h : Ext m gs g1 a) (k : Ext m g1 g2 b) : Ext m gs g2 (a + b) := by
  obtain ⟨⟨e1, rfl, l1⟩, o1⟩ := h
  obtain ⟨⟨e2, rfl, l2⟩, o2⟩ := k
  exact ⟨⟨e1 ++ e2, List.append_assoc .., by rw [List.length_append]; omega⟩, fun o => o2 (o1 o)⟩
theorem Ext.mono {m : Nat} {gs g1 : List Gt} {a b : Nat} (h : Ext m gs g1 a) (k : a ≤ b) : Ext m gs g1 b := ⟨h.1.imp fun _ x => ⟨x.1, Nat.le_trans x.2 k⟩, h.2⟩
theorem Ext.one {m : Nat} {gs : List Gt} {g : Gt} (h : g.ok (m + gs.length)) : Ext m gs (gs ++ [g]) 1 := by
  refine ⟨⟨[g], rfl, Nat.le_refl _⟩, fun o i g' hi => ?_⟩
  by_cases c : i < gs.length
  · rw [List.getElem?_append_left c] at hi
    exact o i g' hi
  · rw [List.getElem?_append_right (by omega)] at hi
    have : i - gs.length = 0 := by
      have := (List.getElem?_eq_some_iff.mp hi).1
      rw [List.length_singleton] at this
      omega
    rw [this] at hi
    cases hi
    rw [show i = gs.length by omega]
    exact h
theorem Ext.len {m : Nat} {gs g1 : List Gt} {a : Nat} (h : Ext m gs g1 a) : gs.length ≤ g1.length ∧ g1.length ≤ gs.length + a := by
  obtain ⟨⟨e1, rfl, l1⟩, o1⟩ := h
  rw [List.length_append]
  omega
theorem Ext.wb {m : Nat} {gs g1 : List Gt} {a : Nat} (h : Ext m gs g1 a) {vals : List Bool} (hv : vals.length = m) {w : Nat} (hw : w < m + gs.length) : GZ.wb vals g1 w = GZ.wb vals gs w := by
  obtain ⟨⟨e1, rfl, l1⟩, o1⟩ := h
  exact wb_app (by rw [hv]; exact hw)
theorem Ext.wbs {m : Nat} {gs g1 : List Gt} {a : Nat} (h : Ext m gs g1 a) {vals : List Bool} (hv : vals.length = m) {ws : List Nat} (hw : ∀ w ∈ ws, w < m + gs.length) : ws.map (GZ.wb vals g1) = ws.map (GZ.wb vals gs) := List.map_congr_left fun w m' => h.wb hv (hw w m')
theorem Ext.both {m : Nat} {gs : List Gt} {a b : Nat} (ha : a < m + gs.length) (hb : b < m + gs.length) : Ext m gs (gs ++ [.w "both" [a, b]]) 1 := .one ⟨.inl ⟨.inl rfl, rfl⟩, by simp only [List.mem_cons, List.not_mem_nil, or_false]; rintro x (rfl | rfl) <;> assumption⟩
theorem Ext.either {m : Nat} {gs : List Gt} {a b : Nat} (ha : a < m + gs.length) (hb : b < m + gs.length) : Ext m gs (gs ++ [.w "either" [a, b]]) 1 := .one ⟨.inl ⟨.inr (.inl rfl), rfl⟩, by simp only [List.mem_cons, List.not_mem_nil, or_false]; rintro x (rfl | rfl) <;> assumption⟩
theorem Ext.unlike {m : Nat} {gs : List Gt} {a b : Nat} (ha : a < m + gs.length) (hb : b < m + gs.length) : Ext m gs (gs ++ [.w "unlike" [a, b]]) 1 := .one ⟨.inl ⟨.inr (.inr rfl), rfl⟩, by simp only [List.mem_cons, List.not_mem_nil, or_false]; rintro x (rfl | rfl) <;> assumption⟩
theorem Ext.other {m : Nat} {gs : List Gt} {a : Nat} (ha : a < m + gs.length) : Ext m gs (gs ++ [.w "other" [a]]) 1 := .one ⟨.inr ⟨rfl, rfl⟩, by simp only [List.mem_cons, List.not_mem_nil, or_false]; rintro x rfl; assumption⟩
theorem Ext.fixed {m : Nat} {gs : List Gt} {b : Nat} (hb : b ≤ 1) : Ext m gs (gs ++ [.fi b]) 1 := .one hb
theorem fold_inv {α β : Type} (P : Nat → β → Prop) (step : β → α → β) : ∀ (l : List α) (b : β), P 0 b → (∀ (i : Nat) (x : α) (b : β), l[i]? = some x → P i b → P (i + 1) (step b x)) → P l.length (l.foldl step b)
  | [], b, h, _ => h
  | x :: l, b, h, hs => fold_inv (fun i => P (i + 1)) step l (step b x) (hs 0 x b rfl h) fun i y b hi => hs (i + 1) y b hi
theorem fold_take {α β : Type} (step : β → α → β) {l : List α} {i : Nat} {x : α} (h : l[i]? = some x) (b : β) : (l.take (i + 1)).foldl step b = step ((l.take i).foldl step b) x := by
  rw [List.take_add_one, h, List.foldl_append]
  rfl
/-! ### numbers of bits, the greatest ahead -/
def numB (bs : List Bool) : Nat := bs.foldl (fun n b => 2 * n + b.toNat) 0
theorem numB_fold : ∀ (bs : List Bool) (k : Nat), bs.foldl (fun n b => 2 * n + b.toNat) k = k * 2 ^ bs.length + numB bs
  | [], k => by simp [numB]
  | b :: bs, k => by
    unfold numB
    rw [List.foldl_cons, List.foldl_cons, numB_fold bs, numB_fold bs (2 * 0 + b.toNat), List.length_cons, Nat.pow_succ, Nat.mul_comm (2 ^ bs.length) 2, ← Nat.mul_assoc, Nat.add_mul, Nat.add_mul, Nat.mul_comm k 2]
    omega
theorem numB_nil : numB [] = 0 := rfl
theorem numB_app (xs ys : List Bool) : numB (xs ++ ys) = numB xs * 2 ^ ys.length + numB ys := by
  unfold numB
  rw [List.foldl_append, numB_fold]
  rfl
theorem numB_cons (b : Bool) (bs : List Bool) : numB (b :: bs) = b.toNat * 2 ^ bs.length + numB bs := numB_app [b] bs |>.trans (by cases b <;> simp [numB])
theorem numB_snoc (bs : List Bool) (b : Bool) : numB (bs ++ [b]) = 2 * numB bs + b.toNat := by
  rw [numB_app]
  cases b <;> simp [numB] <;> omega
theorem numB_lt : ∀ bs : List Bool, numB bs < 2 ^ bs.length
  | [] => by decide
  | b :: bs => by
    have := numB_lt bs
    rw [numB_cons, List.length_cons, Nat.pow_succ]
    cases b <;> simp <;> omega
theorem numB_rep (n : Nat) : numB (List.replicate n false) = 0 := by
  induction n with
  | zero => rfl
  | succ k ih => rw [List.replicate_succ, numB_cons, ih]; simp
theorem numB_zero : ∀ {bs : List Bool}, numB bs = 0 → ∀ b ∈ bs, b = false
  | [], _, b, h => nomatch h
  | x :: bs, e, b, h => by
    rw [numB_cons] at e
    have hp : 0 < 2 ^ bs.length := Nat.pow_pos (by decide)
    cases x with
    | true => simp at e
    | false =>
      rcases List.mem_cons.mp h with rfl | h
      · rfl
      · exact numB_zero (by simpa using e) b h
theorem wf_num (bs : List Bool) : wf (bs.map bi) = (numB bs : Int) := by
  have key : ∀ (bs : List Bool) (n : Nat), (bs.map bi).foldl (fun w d => 2 * w + d) (n : Int) = ((bs.foldl (fun n b => 2 * n + b.toNat) n : Nat) : Int) := by
    intro bs
    induction bs with
    | nil => intro n; rfl
    | cons b bs ih =>
      intro n
      rw [List.map_cons, List.foldl_cons, List.foldl_cons, ← ih]
      congr 1
      cases b <;> simp [bi]
  exact key bs 0
/-! ### many cases at once -/
theorem tb_bi (x : Int) (k : Nat) : tb x k = bi (decide (tb x k = 1)) := by
  rcases tb_01 x k with h | h <;> rw [h] <;> decide
theorem gv_gb (ws : List Bool) (g : Gt) : gv 1 (ws.map bi) g = bi (gb ws g) := by
  have hg : ∀ i, (ws.map bi).getD i 0 = bi (ws.getD i false) := fun i => by
    simp only [List.getD, List.getElem?_map]
    cases ws[i]? <;> rfl
  cases g with
  | fi b =>
    show (if b = 1 then (1 : Int) else 0) = bi (decide (b = 1))
    by_cases c : b = 1 <;> simp [c, bi]
  | w k l =>
    show gvw 1 _ _ k = bi (gbw _ _ k)
    rw [hg, hg]
    generalize ws.getD (l.getD 0 0) false = x
    generalize ws.getD (l.getD 1 0) false = y
    unfold gvw gbw
    by_cases c1 : k = "other"
    · rw [if_pos c1, if_pos c1]; cases x <;> decide
    rw [if_neg c1, if_neg c1]
    by_cases c2 : k = "both"
    · rw [if_pos c2, if_pos c2]; cases x <;> cases y <;> decide
    rw [if_neg c2, if_neg c2]
    by_cases c3 : k = "either"
    · rw [if_pos c3, if_pos c3]; cases x <;> cases y <;> decide
    rw [if_neg c3, if_neg c3]
    cases x <;> cases y <;> decide
theorem rv_rb : ∀ (gs : List Gt) (vals : List Bool), rv 1 (vals.map bi) gs = (rb vals gs).map bi
  | [], _ => rfl
  | g :: gs, vals => by
    have := rv_rb gs (vals ++ [gb vals g])
    unfold rv rb at this ⊢
    rw [List.foldl_cons, List.foldl_cons, ← this, List.map_append, List.map_cons, List.map_nil, gv_gb]
def bitsOf (vals : List Int) (k : Nat) : List Bool := vals.map fun v => decide (tb v k = 1)
theorem bitsOf_len (vals : List Int) (k : Nat) : (bitsOf vals k).length = vals.length := by
  unfold bitsOf
  rw [List.length_map]
theorem rv_case {n k : Nat} (h : k < n) (gs : List Gt) (vals : List Int) (a : Nat) : tb ((rv (2 ^ n - 1) (vals.map (· % 2 ^ n)) gs).getD a 0) k = bi (wb (bitsOf vals k) gs a) := by
  rw [← getD_map, rv_bit h, List.map_map, show (vals.map ((tb · k) ∘ (· % 2 ^ n))) = (bitsOf vals k).map bi from by
    unfold bitsOf
    rw [List.map_map]
    exact List.map_congr_left fun v _ => (tb_mod v h).trans (tb_bi v k), rv_rb]
  unfold wb
  simp only [List.getD, List.getElem?_map]
  cases (rb (bitsOf vals k) gs)[a]? <;> rfl
/-! ### wires of parts, what they come to -/
structure W1 (m : Nat) (gs : List Gt) (n : Nat) (s : List Gt × Nat) (f : (Nat → Bool) → Bool) : Prop where
  ext : Ext m gs s.1 n
  lt : s.2 < m + s.1.length
  val : ∀ vals : List Bool, vals.length = m → wb vals s.1 s.2 = f (wb vals gs)
structure WL (m : Nat) (gs : List Gt) (n : Nat) (s : List Gt × List Nat) (f : (Nat → Bool) → List Bool) : Prop where
  ext : Ext m gs s.1 n
  lt : ∀ w ∈ s.2, w < m + s.1.length
  val : ∀ vals : List Bool, vals.length = m → s.2.map (wb vals s.1) = f (wb vals gs)
def anyW (m : Nat) (gs : List Gt) : List Nat → List Gt × Nat
  | [] => (gs ++ [.fi 0], m + gs.length)
  | w :: ws => ws.foldl (fun s x => (s.1 ++ [.w "either" [s.2, x]], m + s.1.length)) (gs, w)
theorem len1 {m : Nat} {gs : List Gt} {g : Gt} : m + gs.length < m + (gs ++ [g]).length := by
  rw [List.length_append, List.length_singleton]
  omega
theorem lt1 {m a : Nat} {gs : List Gt} {g : Gt} (h : a < m + gs.length) : a < m + (gs ++ [g]).length := Nat.lt_trans h len1
theorem anyW_ok {m : Nat} {gs : List Gt} {ws : List Nat} (hw : ∀ w ∈ ws, w < m + gs.length) : W1 m gs (ws.length + 1) (anyW m gs ws) (fun e => ws.any e) := by
  cases ws with
  | nil => exact ⟨(Ext.fixed (Nat.zero_le _)).mono (Nat.le_refl _), len1, fun vals hv => wb_fixed (hv ▸ rfl)⟩
  | cons w ws =>
    have h := fold_inv (fun i (s : List Gt × Nat) => Ext m gs s.1 i ∧ s.2 < m + s.1.length ∧ ∀ vals : List Bool, vals.length = m → wb vals s.1 s.2 = ((w :: ws).take (i + 1)).any (wb vals gs)) (fun s x => (s.1 ++ [Gt.w "either" [s.2, x]], m + s.1.length)) ws (gs, w) ⟨.refl, hw w (by simp), fun vals _ => by simp⟩ (fun i x s hx ⟨h1, h2, h3⟩ => by
      have lx : x < m + s.1.length := by
        have := hw x (List.mem_cons_of_mem _ (List.mem_of_getElem? hx))
        have := h1.len
        omega
      refine ⟨h1.trans (.either h2 lx), len1, fun vals hv => ?_⟩
      rw [wb_either (hv ▸ rfl), h3 vals hv, h1.wb hv (hw x (List.mem_cons_of_mem _ (List.mem_of_getElem? hx))), List.take_add_one (i := i + 1), List.getElem?_cons_succ, hx, List.any_append]
      simp)
    obtain ⟨h1, h2, h3⟩ := h
    refine ⟨h1.mono (by rw [List.length_cons]; omega), h2, fun vals hv => ?_⟩
    rw [show (w :: ws).any (wb vals gs) = ((w :: ws).take (ws.length + 1)).any (wb vals gs) from by rw [List.take_of_length_le (by simp)]]
    exact h3 vals hv
def chS (m w st : Nat) (s : List Gt × List Nat) (p : Nat × Nat) : List Gt × List Nat := (s.1 ++ [.w "both" [w, p.1]] ++ [.w "both" [st, p.2]] ++ [.w "either" [m + s.1.length, m + (s.1 ++ [Gt.w "both" [w, p.1]]).length]], s.2 ++ [m + (s.1 ++ [Gt.w "both" [w, p.1]] ++ [Gt.w "both" [st, p.2]]).length])
def chosenW (m : Nat) (gs : List Gt) (w : Nat) (ps : List (Nat × Nat)) : List Gt × List Nat := ps.foldl (chS m w (m + gs.length)) (gs ++ [.w "other" [w]], [])
theorem chosenW_ok {m w : Nat} {gs : List Gt} {ps : List (Nat × Nat)} (h0 : w < m + gs.length) (hw : ∀ p ∈ ps, p.1 < m + gs.length ∧ p.2 < m + gs.length) : WL m gs (3 * ps.length + 1) (chosenW m gs w ps) (fun e => ps.map fun p => if e w = true then e p.1 else e p.2) := by
  have h := fold_inv (fun i (s : List Gt × List Nat) => Ext m gs s.1 (3 * i + 1) ∧ (∀ w ∈ s.2, w < m + s.1.length) ∧ (∀ vals : List Bool, vals.length = m → wb vals s.1 (m + gs.length) = !(wb vals gs w)) ∧ m + gs.length < m + s.1.length ∧ ∀ vals : List Bool, vals.length = m → s.2.map (wb vals s.1) = (ps.take i).map fun p => if wb vals gs w = true then wb vals gs p.1 else wb vals gs p.2) (chS m w (m + gs.length)) ps (gs ++ [.w "other" [w]], []) ⟨(Ext.other h0).mono (by omega), (fun _ z => nomatch z), fun vals hv => wb_other (hv ▸ rfl), len1, fun _ _ => rfl⟩ (fun i p s hp ⟨h1, h2, h4, h5, h3⟩ => by
    obtain ⟨q1, q2⟩ := hw p (List.mem_of_getElem? hp)
    have l := h1.len
    have e1 : Ext m s.1 (s.1 ++ [.w "both" [w, p.1]]) 1 := .both (by omega) (by omega)
    have e2 : Ext m (s.1 ++ [.w "both" [w, p.1]]) (s.1 ++ [.w "both" [w, p.1]] ++ [.w "both" [m + gs.length, p.2]]) 1 := .both (lt1 h5) (lt1 (by omega))
    have e3 : Ext m (s.1 ++ [.w "both" [w, p.1]] ++ [.w "both" [m + gs.length, p.2]]) (s.1 ++ [.w "both" [w, p.1]] ++ [.w "both" [m + gs.length, p.2]] ++ [.w "either" [m + s.1.length, m + (s.1 ++ [Gt.w "both" [w, p.1]]).length]]) 1 := .either (lt1 len1) len1
    have e := (e1.trans e2).trans e3
    have l' := e.len
    refine ⟨(h1.trans e).mono (by omega), fun a ha => ?_, fun vals hv => ?_, Nat.lt_of_lt_of_le h5 (by show _ ≤ m + List.length (s.1 ++ _ ++ _ ++ _); omega), fun vals hv => ?_⟩
    · rcases List.mem_append.mp ha with z | z
      · exact lt1 (lt1 (lt1 (h2 a z)))
      · rw [List.mem_singleton.mp z]
        exact len1
    · exact (e.wb hv h5).trans (h4 vals hv)
    · show (s.2 ++ [_]).map _ = _
      rw [List.map_append, List.take_add_one, hp, List.map_append]
      congr 1
      · exact (e.wbs hv h2).trans (h3 vals hv)
      · show [_] = [_]
        congr 1
        show wb vals (s.1 ++ [.w "both" [w, p.1]] ++ [.w "both" [m + gs.length, p.2]] ++ [.w "either" [m + s.1.length, m + (s.1 ++ [Gt.w "both" [w, p.1]]).length]]) _ = _
        rw [wb_either (hv ▸ rfl), e2.wb hv len1, wb_both (hv ▸ rfl), wb_both (hv ▸ rfl), e1.wb hv h5, e1.wb hv (by omega), h4 vals hv, h1.wb hv h0, h1.wb hv q1, h1.wb hv q2]
        cases wb vals gs w <;> simp)
  obtain ⟨h1, h2, _, _, h3⟩ := h
  refine ⟨h1, h2, fun vals hv => ?_⟩
  rw [show chosenW m gs w ps = ps.foldl (chS m w (m + gs.length)) (gs ++ [.w "other" [w]], []) from rfl]
  rw [h3 vals hv, List.take_of_length_le (Nat.le_refl _)]
theorem chW_len (m w st : Nat) : ∀ (ps : List (Nat × Nat)) (s : List Gt × List Nat), s.1.length ≤ (ps.foldl (chS m w st) s).1.length
  | [], _ => Nat.le_refl _
  | p :: ps, s => Nat.le_trans (by unfold chS; simp only [List.length_append]; omega) (chW_len m w st ps (chS m w st s p))
/-! ### the first one, noughts ahead -/
def firstB : Bool → List Bool → List Bool
  | c, [] => [c]
  | c, b :: bs => (c && b) :: firstB (c && !b) bs
def fiS (m : Nat) (s : List Gt × List Nat × Nat) (a : Nat) : List Gt × List Nat × Nat := (s.1 ++ [.w "both" [s.2.2, a]] ++ [.w "other" [a]] ++ [.w "both" [s.2.2, m + (s.1 ++ [Gt.w "both" [s.2.2, a]]).length]], s.2.1 ++ [m + s.1.length], m + (s.1 ++ [Gt.w "both" [s.2.2, a]] ++ [Gt.w "other" [a]]).length)
def firstF (m : Nat) (gs : List Gt) (ws : List Nat) : List Gt × List Nat × Nat := ws.foldl (fiS m) (gs ++ [.fi 1], [], m + gs.length)
def firstW (m : Nat) (gs : List Gt) (ws : List Nat) : List Gt × List Nat := ((firstF m gs ws).1, (firstF m gs ws).2.1 ++ [(firstF m gs ws).2.2])
def clr : List Bool → Bool
  | [] => true
  | b :: bs => !b && clr bs
theorem clr_snoc : ∀ (xs : List Bool) (b : Bool), clr (xs ++ [b]) = (clr xs && !b)
  | [], b => by cases b <;> rfl
  | x :: xs, b => by
    rw [List.cons_append]
    show (!x && clr (xs ++ [b])) = ((!x && clr xs) && !b)
    rw [clr_snoc xs b, Bool.and_assoc]
def heads : List Bool → List Bool → List Bool
  | _, [] => []
  | pre, b :: bs => (clr pre && b) :: heads (pre ++ [b]) bs
theorem firstB_heads : ∀ (bs pre : List Bool), firstB (clr pre) bs = heads pre bs ++ [clr (pre ++ bs)]
  | [], pre => by
    rw [List.append_nil]
    rfl
  | b :: bs, pre => by
    show (clr pre && b) :: firstB (clr pre && !b) bs = (clr pre && b) :: (heads (pre ++ [b]) bs ++ [clr (pre ++ b :: bs)])
    rw [← clr_snoc, firstB_heads bs (pre ++ [b]), List.append_assoc]
    rfl
theorem heads_snoc : ∀ (bs pre : List Bool) (b : Bool), heads pre (bs ++ [b]) = heads pre bs ++ [clr (pre ++ bs) && b]
  | [], pre, b => by
    rw [List.append_nil]
    rfl
  | x :: bs, pre, b => by
    show (clr pre && x) :: heads (pre ++ [x]) (bs ++ [b]) = (clr pre && x) :: (heads (pre ++ [x]) bs ++ _)
    rw [heads_snoc bs, List.append_assoc]
    rfl
theorem firstW_ok {m : Nat} {gs : List Gt} {ws : List Nat} (hw : ∀ w ∈ ws, w < m + gs.length) : WL m gs (3 * ws.length + 1) (firstW m gs ws) (fun e => firstB true (ws.map e)) := by
  have h := fold_inv (fun i (s : List Gt × List Nat × Nat) => Ext m gs s.1 (3 * i + 1) ∧ (∀ w ∈ s.2.1, w < m + s.1.length) ∧ s.2.2 < m + s.1.length ∧ ∀ vals : List Bool, vals.length = m → wb vals s.1 s.2.2 = clr ((ws.take i).map (wb vals gs)) ∧ s.2.1.map (wb vals s.1) = heads [] ((ws.take i).map (wb vals gs))) (fiS m) ws (gs ++ [.fi 1], [], m + gs.length) ⟨(Ext.fixed (Nat.le_refl _)).mono (by omega), (fun _ z => nomatch z), len1, fun vals hv => ⟨wb_fixed (hv ▸ rfl), rfl⟩⟩ (fun i a s hp ⟨h1, h2, h4, h3⟩ => by
    have q := hw a (List.mem_of_getElem? hp)
    have l := h1.len
    have la : a < m + s.1.length := by omega
    have e1 : Ext m s.1 (s.1 ++ [.w "both" [s.2.2, a]]) 1 := .both h4 la
    have e2 : Ext m (s.1 ++ [.w "both" [s.2.2, a]]) (s.1 ++ [.w "both" [s.2.2, a]] ++ [.w "other" [a]]) 1 := .other (lt1 la)
    have e3 : Ext m (s.1 ++ [.w "both" [s.2.2, a]] ++ [.w "other" [a]]) (s.1 ++ [.w "both" [s.2.2, a]] ++ [.w "other" [a]] ++ [.w "both" [s.2.2, m + (s.1 ++ [Gt.w "both" [s.2.2, a]]).length]]) 1 := .both (lt1 (lt1 h4)) len1
    have e := (e1.trans e2).trans e3
    refine ⟨(h1.trans e).mono (by omega), fun b hb => ?_, len1, fun vals hv => ⟨?_, ?_⟩⟩
    · rcases List.mem_append.mp hb with z | z
      · exact lt1 (lt1 (lt1 (h2 b z)))
      · rw [List.mem_singleton.mp z]
        exact lt1 (lt1 len1)
    · show wb vals (s.1 ++ [.w "both" [s.2.2, a]] ++ [.w "other" [a]] ++ [.w "both" [s.2.2, m + (s.1 ++ [Gt.w "both" [s.2.2, a]]).length]]) _ = _
      rw [wb_both (hv ▸ rfl), (e1.trans e2).wb hv h4, wb_other (hv ▸ rfl), e1.wb hv la, (h3 vals hv).1, h1.wb hv q, List.take_add_one, hp, List.map_append]
      exact (clr_snoc _ _).symm
    · show (s.2.1 ++ [_]).map (wb vals (s.1 ++ [Gt.w "both" [s.2.2, a]] ++ [Gt.w "other" [a]] ++ [Gt.w "both" [s.2.2, m + (s.1 ++ [Gt.w "both" [s.2.2, a]]).length]])) = _
      rw [List.map_append, e.wbs hv h2, (h3 vals hv).2, List.take_add_one, hp, List.map_append]
      show _ = heads [] (_ ++ [_])
      rw [heads_snoc]
      congr 1
      show [_] = [_]
      congr 1
      rw [(e2.trans e3).wb hv len1, wb_both (hv ▸ rfl), (h3 vals hv).1, h1.wb hv q]
      rfl)
  obtain ⟨h1, h2, h4, h3⟩ := h
  refine ⟨h1, fun w hw' => ?_, fun vals hv => ?_⟩
  · rcases List.mem_append.mp hw' with z | z
    · exact h2 w z
    · rw [List.mem_singleton.mp z]
      exact h4
  · obtain ⟨e1, e2⟩ := h3 vals hv
    show List.map (wb vals _) (_ ++ [_]) = firstB (clr []) _
    rw [firstB_heads, List.map_append]
    rw [List.take_of_length_le (Nat.le_refl _)] at e1 e2
    exact congr (congrArg HAppend.hAppend e2) (congrArg (fun b => [b]) e1)
/-- the place of the first one, or how many there are -/
def fst1 : List Bool → Nat
  | [] => 0
  | true :: _ => 0
  | false :: bs => fst1 bs + 1
theorem fst1_le : ∀ bs : List Bool, fst1 bs ≤ bs.length
  | [] => Nat.le_refl _
  | true :: _ => Nat.zero_le _
  | false :: bs => Nat.succ_le_succ (fst1_le bs)
theorem firstB_len : ∀ (bs : List Bool) (c : Bool), (firstB c bs).length = bs.length + 1
  | [], _ => rfl
  | _ :: bs, c => congrArg (· + 1) (firstB_len bs _)
theorem firstB_false : ∀ (bs : List Bool) (j : Nat), (firstB false bs).getD j false = false
  | [], 0 => rfl
  | [], j + 1 => rfl
  | b :: bs, 0 => rfl
  | b :: bs, j + 1 => firstB_false bs j
theorem firstB_at : ∀ (bs : List Bool) (j : Nat), (firstB true bs).getD j false = decide (j = fst1 bs)
  | [], 0 => rfl
  | [], j + 1 => by show false = decide (j + 1 = 0); simp
  | true :: bs, 0 => rfl
  | true :: bs, j + 1 => (firstB_false bs j).trans (by show false = decide (j + 1 = 0); simp)
  | false :: bs, 0 => by show false = decide (0 = fst1 bs + 1); simp
  | false :: bs, j + 1 => (firstB_at bs j).trans (by show decide (j = fst1 bs) = decide (j + 1 = fst1 bs + 1); simp)
def selN (place : Nat) (l : List Nat) : List Nat := ((List.range l.length).filter (·.testBit place)).map fun i => l.getD i 0
theorem selN_mem {place : Nat} {l : List Nat} {x : Nat} (h : x ∈ selN place l) : x ∈ l := by
  obtain ⟨i, hi, rfl⟩ := List.mem_map.mp h
  have := List.mem_range.mp (List.mem_filter.mp hi).1
  simp only [List.getD, List.getElem?_eq_getElem this, Option.getD_some]
  exact List.getElem_mem _
theorem selN_len (place : Nat) (l : List Nat) : (selN place l).length ≤ l.length := by
  unfold selN
  rw [List.length_map]
  exact Nat.le_trans (List.length_filter_le _ _) (by rw [List.length_range]; exact Nat.le_refl _)
def downs (k : Nat) : List Nat := (List.range k).reverse
def zeS (m : Nat) (fs : List Nat) (s : List Gt × List Nat) (place : Nat) : List Gt × List Nat := ((anyW m s.1 (selN place fs)).1, s.2 ++ [(anyW m s.1 (selN place fs)).2])
def zeroW (m : Nat) (gs : List Gt) (ws : List Nat) (k : Nat) : List Gt × List Nat := (downs k).foldl (zeS m (firstW m gs ws).2) ((firstW m gs ws).1, [])
theorem any_sel {α : Type} (e : Nat → Bool) (place : Nat) (l : List Nat) : (selN place l).any e = (List.range l.length).any fun i => i.testBit place && e (l.getD i 0) := by
  unfold selN
  rw [List.any_map, List.any_filter]
  rfl
theorem numB_downs (J : Nat) : ∀ k : Nat, numB ((downs k).map fun p => J.testBit p) = J % 2 ^ k
  | 0 => by
    rw [Nat.pow_zero, Nat.mod_one]
    rfl
  | k + 1 => by
    show numB (((List.range (k + 1)).reverse).map _) = _
    rw [List.range_succ, List.reverse_append, List.reverse_singleton, List.singleton_append, List.map_cons, numB_cons]
    have := numB_downs J k
    unfold downs at this
    rw [this, List.length_map, List.length_reverse, List.length_range, Nat.pow_succ, Nat.mod_mul, Nat.testBit_eq_decide_div_mod_eq, Nat.add_comm, Nat.mul_comm]
    congr 2
    rcases Nat.mod_two_eq_zero_or_one (J / 2 ^ k) with z | z <;> rw [z] <;> rfl
theorem zeroW_ok {m k : Nat} {gs : List Gt} {ws : List Nat} (hw : ∀ w ∈ ws, w < m + gs.length) : WL m gs (3 * ws.length + 1 + k * (ws.length + 2)) (zeroW m gs ws k) (fun e => (downs k).map fun p => (fst1 (ws.map e)).testBit p) := by
  have F := firstW_ok hw
  generalize hfs : firstW m gs ws = F0 at F
  have lf : F0.2.length = ws.length + 1 := by
    have := congrArg List.length (F.val (List.replicate m false) (by simp))
    rw [List.length_map, firstB_len, List.length_map] at this
    exact this
  have h := fold_inv (fun i (s : List Gt × List Nat) => Ext m F0.1 s.1 (i * (ws.length + 2)) ∧ (∀ w ∈ s.2, w < m + s.1.length) ∧ ∀ vals : List Bool, vals.length = m → s.2.map (wb vals s.1) = ((downs k).take i).map fun p => (fst1 (ws.map (wb vals gs))).testBit p) (zeS m F0.2) (downs k) (F0.1, []) ⟨Ext.refl.mono (Nat.zero_le _), (fun _ z => nomatch z), fun _ _ => rfl⟩ (fun i p s hp ⟨h1, h2, h3⟩ => by
    have l := h1.len
    have hs : ∀ w ∈ selN p F0.2, w < m + s.1.length := fun w hw' => by
      have := F.lt w (selN_mem hw')
      omega
    have A := anyW_ok hs
    refine ⟨(h1.trans A.ext).mono ?_, fun w hw' => ?_, fun vals hv => ?_⟩
    · have := selN_len p F0.2
      rw [Nat.succ_mul]
      omega
    · have := A.ext.len
      rcases List.mem_append.mp hw' with z | z
      · exact Nat.lt_of_lt_of_le (h2 w z) (by show m + s.1.length ≤ m + (anyW m s.1 (selN p F0.2)).1.length; omega)
      · rw [List.mem_singleton.mp z]
        exact A.lt
    · show List.map (wb vals (anyW m s.1 (selN p F0.2)).1) (_ ++ [_]) = _
      rw [List.map_append, A.ext.wbs hv h2, h3 vals hv, List.take_add_one, hp, List.map_append]
      congr 1
      show [_] = [_]
      congr 1
      rw [A.val vals hv, any_sel (α := Nat), lf, Bool.eq_iff_iff, List.any_eq_true]
      have at' : ∀ j, j < ws.length + 1 → wb vals s.1 (F0.2.getD j 0) = decide (j = fst1 (ws.map (wb vals gs))) := fun j hj => by
        rw [← firstB_at, ← F.val vals hv]
        have e : F0.2.getD j 0 ∈ F0.2 := by
          simp only [List.getD, List.getElem?_eq_getElem (show j < F0.2.length by omega), Option.getD_some]
          exact List.getElem_mem _
        rw [h1.wb hv (F.lt _ e)]
        simp only [List.getD, List.getElem?_map, List.getElem?_eq_getElem (show j < F0.2.length by omega), Option.getD_some, Option.map_some]
      have lJ := fst1_le (ws.map (wb vals gs))
      rw [List.length_map] at lJ
      constructor
      · rintro ⟨j, hj, e⟩
        rw [at' j (List.mem_range.mp hj)] at e
        have e := Bool.and_eq_true_iff.mp e
        rw [← of_decide_eq_true e.2]
        exact e.1
      · intro e
        refine ⟨fst1 (ws.map (wb vals gs)), List.mem_range.mpr (by omega), ?_⟩
        exact Bool.and_eq_true_iff.mpr ⟨e, (at' _ (by omega)).trans (decide_eq_true rfl)⟩)
  obtain ⟨h1, h2, h3⟩ := h
  have lk : (downs k).length = k := by
    unfold downs
    rw [List.length_reverse, List.length_range]
  have ez : zeroW m gs ws k = (downs k).foldl (zeS m F0.2) (F0.1, []) := by
    unfold zeroW
    rw [hfs]
  rw [ez]
  refine ⟨(F.ext.trans h1).mono (by rw [lk]; omega), h2, fun vals hv => ?_⟩
  rw [h3 vals hv, List.take_of_length_le (Nat.le_refl _)]
theorem numB_fst1 : ∀ bs : List Bool, (numB bs = 0 ∧ fst1 bs = bs.length) ∨ (fst1 bs < bs.length ∧ 2 ^ (bs.length - 1 - fst1 bs) ≤ numB bs ∧ numB bs < 2 ^ (bs.length - fst1 bs))
  | [] => .inl ⟨rfl, rfl⟩
  | true :: bs => by
    have h := numB_lt bs
    refine .inr ⟨by simp [fst1], ?_, ?_⟩
    · rw [numB_cons]
      simp [fst1]
    · rw [numB_cons]
      simp only [fst1, List.length_cons, Nat.sub_zero, Nat.pow_succ, Bool.toNat_true]
      omega
  | false :: bs => by
    have e : numB (false :: bs) = numB bs := by rw [numB_cons]; simp
    rw [e, List.length_cons]
    rcases numB_fst1 bs with ⟨a, b⟩ | ⟨a, b, c⟩
    · exact .inl ⟨a, by show fst1 bs + 1 = _; omega⟩
    · refine .inr ⟨by show fst1 bs + 1 < _; omega, ?_, ?_⟩
      · rw [show bs.length + 1 - 1 - fst1 (false :: bs) = bs.length - 1 - fst1 bs from by show _ - (fst1 bs + 1) = _; omega]
        exact b
      · rw [show bs.length + 1 - fst1 (false :: bs) = bs.length - fst1 bs from by show _ - (fst1 bs + 1) = _; omega]
        exact c
/-! ### marks of two rows of wires -/
def dgS (m : Nat) (s : List Gt × List Nat) (p : Nat × Nat) : List Gt × List Nat := (s.1 ++ [.w "unlike" [p.1, p.2]], s.2 ++ [m + s.1.length])
theorem digW_ok {m : Nat} {gs : List Gt} {ps : List (Nat × Nat)} (hw : ∀ p ∈ ps, p.1 < m + gs.length ∧ p.2 < m + gs.length) : WL m gs ps.length (ps.foldl (dgS m) (gs, [])) (fun e => ps.map fun p => xor (e p.1) (e p.2)) := by
  have h := fold_inv (fun i (s : List Gt × List Nat) => Ext m gs s.1 i ∧ (∀ w ∈ s.2, w < m + s.1.length) ∧ ∀ vals : List Bool, vals.length = m → s.2.map (wb vals s.1) = (ps.take i).map fun p => xor (wb vals gs p.1) (wb vals gs p.2)) (dgS m) ps (gs, []) ⟨.refl, (fun _ z => nomatch z), fun _ _ => rfl⟩ (fun i p s hp ⟨h1, h2, h3⟩ => by
    obtain ⟨q1, q2⟩ := hw p (List.mem_of_getElem? hp)
    have l := h1.len
    have e : Ext m s.1 (s.1 ++ [.w "unlike" [p.1, p.2]]) 1 := .unlike (by omega) (by omega)
    refine ⟨h1.trans e, fun a ha => ?_, fun vals hv => ?_⟩
    · rcases List.mem_append.mp ha with z | z
      · exact lt1 (h2 a z)
      · rw [List.mem_singleton.mp z]
        exact len1
    · show (s.2 ++ [_]).map (wb vals (s.1 ++ [Gt.w "unlike" [p.1, p.2]])) = _
      rw [List.map_append, e.wbs hv h2, h3 vals hv, List.take_add_one, hp, List.map_append]
      congr 1
      show [_] = [_]
      congr 1
      rw [wb_unlike (hv ▸ rfl), h1.wb hv q1, h1.wb hv q2])
  obtain ⟨h1, h2, h3⟩ := h
  exact ⟨h1, h2, fun vals hv => by rw [h3 vals hv, List.take_of_length_le (Nat.le_refl _)]⟩
def barW (m : Nat) (os ds : List Nat) (gs : List Gt) (p : Nat) : List Gt × Nat := if p = 0 then (gs ++ [.w "unlike" [os.getD p 0, os.getD (p + 1) 0]], m + gs.length) else (gs ++ [.w "unlike" [os.getD p 0, os.getD (p + 1) 0]] ++ [.w "unlike" [m + gs.length, ds.getD (p - 1) 0]], m + (gs ++ [Gt.w "unlike" [os.getD p 0, os.getD (p + 1) 0]]).length)
theorem barW_ok {m p : Nat} {os ds : List Nat} {gs : List Gt} (h0 : os.getD p 0 < m + gs.length) (h1 : os.getD (p + 1) 0 < m + gs.length) (h2 : p ≠ 0 → ds.getD (p - 1) 0 < m + gs.length) : W1 m gs 2 (barW m os ds gs p) (fun e => xor (xor (e (os.getD p 0)) (e (os.getD (p + 1) 0))) (if p = 0 then false else e (ds.getD (p - 1) 0))) := by
  have e1 : Ext m gs (gs ++ [.w "unlike" [os.getD p 0, os.getD (p + 1) 0]]) 1 := .unlike h0 h1
  unfold barW
  by_cases c : p = 0
  · rw [if_pos c]
    refine ⟨e1.mono (by decide), len1, fun vals hv => ?_⟩
    show wb vals (gs ++ [.w "unlike" [os.getD p 0, os.getD (p + 1) 0]]) (m + gs.length) = _
    rw [wb_unlike (hv ▸ rfl), if_pos c]
    simp
  · rw [if_neg c]
    have e2 : Ext m (gs ++ [.w "unlike" [os.getD p 0, os.getD (p + 1) 0]]) (gs ++ [.w "unlike" [os.getD p 0, os.getD (p + 1) 0]] ++ [.w "unlike" [m + gs.length, ds.getD (p - 1) 0]]) 1 := .unlike len1 (lt1 (h2 c))
    refine ⟨e1.trans e2, len1, fun vals hv => ?_⟩
    show wb vals (gs ++ [.w "unlike" [os.getD p 0, os.getD (p + 1) 0]] ++ [.w "unlike" [m + gs.length, ds.getD (p - 1) 0]]) (m + (gs ++ [Gt.w "unlike" [os.getD p 0, os.getD (p + 1) 0]]).length) = _
    rw [wb_unlike (hv ▸ rfl), wb_unlike (hv ▸ rfl), e1.wb hv (h2 c), if_neg c]
def maS (m : Nat) (os ds : List Nat) (s : List Gt × List Nat) (p : Nat) : List Gt × List Nat :=
  ((barW m os ds s.1 p).1 ++ [.w "both" [ds.getD (p + 1) 0, (barW m os ds s.1 p).2]] ++ [.w "other" [m + (barW m os ds s.1 p).1.length]] ++ [.w "both" [ds.getD p 0, m + ((barW m os ds s.1 p).1 ++ [Gt.w "both" [ds.getD (p + 1) 0, (barW m os ds s.1 p).2]]).length]],
    s.2 ++ [m + ((barW m os ds s.1 p).1 ++ [Gt.w "both" [ds.getD (p + 1) 0, (barW m os ds s.1 p).2]] ++ [Gt.w "other" [m + (barW m os ds s.1 p).1.length]]).length])
def markD (m : Nat) (gs : List Gt) (os ts : List Nat) : List Gt × List Nat := (os.zip ts).foldl (dgS m) (gs, [])
def markM (m : Nat) (gs : List Gt) (os ts : List Nat) : List Gt × List Nat := (List.range (os.length - 1)).foldl (maS m os (markD m gs os ts).2) ((markD m gs os ts).1, [])
def markW (m : Nat) (gs : List Gt) (os ts : List Nat) : List Gt × List Nat := ((markM m gs os ts).1, (markM m gs os ts).2 ++ (markD m gs os ts).2.drop (os.length - 1))
def dB (os ts : List Bool) (p : Nat) : Bool := xor (os.getD p false) (ts.getD p false)
def mkB (os ts : List Bool) (p : Nat) : Bool := dB os ts p && !(dB os ts (p + 1) && xor (xor (os.getD p false) (os.getD (p + 1) false)) (if p = 0 then false else dB os ts (p - 1)))
def markB (os ts : List Bool) : List Bool := (List.range os.length).map (mkB os ts)
theorem getD_mapB {l : List Nat} {e : Nat → Bool} {p : Nat} (h : p < l.length) : (l.map e).getD p false = e (l.getD p 0) := by
  simp only [List.getD, List.getElem?_map, List.getElem?_eq_getElem h, Option.map_some, Option.getD_some]
theorem getD_in {l : List Nat} {p : Nat} (h : p < l.length) : l.getD p 0 ∈ l := by
  simp only [List.getD, List.getElem?_eq_getElem h, Option.getD_some]
  exact List.getElem_mem _
theorem markW_ok {m : Nat} {gs : List Gt} {os ts : List Nat} (hl : os.length = ts.length) (h0 : 0 < os.length) (ho : ∀ w ∈ os, w < m + gs.length) (ht : ∀ w ∈ ts, w < m + gs.length) : WL m gs (6 * os.length) (markW m gs os ts) (fun e => markB (os.map e) (ts.map e)) := by
  have D := digW_ok (m := m) (gs := gs) (ps := os.zip ts) (fun p hp => ⟨ho _ (List.of_mem_zip hp).1, ht _ (List.of_mem_zip hp).2⟩)
  have lz : (os.zip ts).length = os.length := by rw [List.length_zip]; omega
  rw [lz] at D
  have ed : (os.zip ts).foldl (dgS m) (gs, []) = markD m gs os ts := rfl
  rw [ed] at D
  have eM : markM m gs os ts = (List.range (os.length - 1)).foldl (maS m os (markD m gs os ts).2) ((markD m gs os ts).1, []) := rfl
  have eW : markW m gs os ts = ((markM m gs os ts).1, (markM m gs os ts).2 ++ (markD m gs os ts).2.drop (os.length - 1)) := rfl
  generalize markD m gs os ts = S0 at *
  have ld : S0.2.length = os.length := by
    have := congrArg List.length (D.val (List.replicate m false) (by simp))
    rw [List.length_map, List.length_map, lz] at this
    exact this
  have dv : ∀ (vals : List Bool), vals.length = m → ∀ p, p < os.length → wb vals S0.1 (S0.2.getD p 0) = dB (os.map (wb vals gs)) (ts.map (wb vals gs)) p := fun vals hv p hp => by
    rw [← getD_mapB (e := wb vals S0.1) (by omega), D.val vals hv]
    unfold dB
    rw [getD_mapB hp, getD_mapB (by omega)]
    simp only [List.getD, List.getElem?_map, List.getElem?_zip_eq_some, List.getElem?_eq_getElem (show p < (os.zip ts).length by omega), List.getElem_zip, Option.map_some, Option.getD_some, List.getElem?_eq_getElem hp, List.getElem?_eq_getElem (show p < ts.length by omega)]
  have h := fold_inv (fun i (s : List Gt × List Nat) => Ext m S0.1 s.1 (5 * i) ∧ (∀ w ∈ s.2, w < m + s.1.length) ∧ ∀ vals : List Bool, vals.length = m → s.2.map (wb vals s.1) = (List.range i).map (mkB (os.map (wb vals gs)) (ts.map (wb vals gs)))) (maS m os S0.2) (List.range (os.length - 1)) (S0.1, []) ⟨.refl, (fun _ z => nomatch z), fun _ _ => rfl⟩ (fun i p s hp ⟨h1, h2, h3⟩ => by
    obtain ⟨hi, rfl⟩ := List.getElem?_eq_some_iff.mp hp
    rw [List.length_range] at hi
    rw [List.getElem_range] at hp ⊢
    have l := h1.len
    have lD := D.ext.len
    have dlt : ∀ q, q < os.length → S0.2.getD q 0 < m + S0.1.length := fun q hq => D.lt _ (getD_in (by omega))
    have olt : ∀ q, q < os.length → os.getD q 0 < m + gs.length := fun q hq => ho _ (getD_in hq)
    have B := barW_ok (m := m) (p := i) (os := os) (ds := S0.2) (gs := s.1) (by have := olt i (by omega); omega) (by have := olt (i + 1) (by omega); omega) (fun _ => by have := dlt (i - 1) (by omega); omega)
    have hms : maS m os S0.2 s i = ((barW m os S0.2 s.1 i).1 ++ [.w "both" [S0.2.getD (i + 1) 0, (barW m os S0.2 s.1 i).2]] ++ [.w "other" [m + (barW m os S0.2 s.1 i).1.length]] ++ [.w "both" [S0.2.getD i 0, m + ((barW m os S0.2 s.1 i).1 ++ [Gt.w "both" [S0.2.getD (i + 1) 0, (barW m os S0.2 s.1 i).2]]).length]],
      s.2 ++ [m + ((barW m os S0.2 s.1 i).1 ++ [Gt.w "both" [S0.2.getD (i + 1) 0, (barW m os S0.2 s.1 i).2]] ++ [Gt.w "other" [m + (barW m os S0.2 s.1 i).1.length]]).length]) := rfl
    rw [hms]
    clear hms
    generalize barW m os S0.2 s.1 i = b at *
    have lb := B.ext.len
    have d0 := dlt i (by omega)
    have d1 := dlt (i + 1) (by omega)
    have e1 : Ext m b.1 (b.1 ++ [.w "both" [S0.2.getD (i + 1) 0, b.2]]) 1 := .both (by omega) B.lt
    have e2 : Ext m (b.1 ++ [.w "both" [S0.2.getD (i + 1) 0, b.2]]) (b.1 ++ [.w "both" [S0.2.getD (i + 1) 0, b.2]] ++ [.w "other" [m + b.1.length]]) 1 := .other len1
    have e3 : Ext m (b.1 ++ [.w "both" [S0.2.getD (i + 1) 0, b.2]] ++ [.w "other" [m + b.1.length]]) (b.1 ++ [.w "both" [S0.2.getD (i + 1) 0, b.2]] ++ [.w "other" [m + b.1.length]] ++ [.w "both" [S0.2.getD i 0, m + (b.1 ++ [Gt.w "both" [S0.2.getD (i + 1) 0, b.2]]).length]]) 1 := .both (lt1 (lt1 (by omega))) len1
    have e := (e1.trans e2).trans e3
    have E := B.ext.trans e
    refine ⟨(h1.trans E).mono (by omega), fun a ha => ?_, fun vals hv => ?_⟩
    · rcases List.mem_append.mp ha with z | z
      · have := h2 a z
        have := E.len
        show a < m + (b.1 ++ [Gt.w "both" [S0.2.getD (i + 1) 0, b.2]] ++ [Gt.w "other" [m + b.1.length]] ++ [Gt.w "both" [S0.2.getD i 0, m + (b.1 ++ [Gt.w "both" [S0.2.getD (i + 1) 0, b.2]]).length]]).length
        omega
      · rw [List.mem_singleton.mp z]
        exact len1
    · show (s.2 ++ [_]).map (wb vals (b.1 ++ [Gt.w "both" [S0.2.getD (i + 1) 0, b.2]] ++ [Gt.w "other" [m + b.1.length]] ++ [Gt.w "both" [S0.2.getD i 0, m + (b.1 ++ [Gt.w "both" [S0.2.getD (i + 1) 0, b.2]]).length]])) = _
      rw [List.map_append, E.wbs hv h2, h3 vals hv, List.range_succ, List.map_append]
      congr 1
      show [_] = [_]
      congr 1
      rw [wb_both (hv ▸ rfl), (e1.trans e2).wb hv (by omega), wb_other (hv ▸ rfl), wb_both (hv ▸ rfl), B.ext.wb hv (by omega), B.ext.wb hv (by omega), B.val vals hv, h1.wb hv d0, h1.wb hv d1, dv vals hv i (by omega), dv vals hv (i + 1) (by omega)]
      unfold mkB
      rw [getD_mapB (by omega), getD_mapB (by omega), (D.ext.trans h1).wb hv (olt i (by omega)), (D.ext.trans h1).wb hv (olt (i + 1) (by omega))]
      by_cases c : i = 0
      · rw [if_pos c, if_pos c]
      · rw [if_neg c, if_neg c, h1.wb hv (dlt (i - 1) (by omega)), dv vals hv (i - 1) (by omega)])
  rw [← eM] at h
  generalize markM m gs os ts = S1 at *
  obtain ⟨h1, h2, h3⟩ := h
  rw [List.length_range] at h1 h3
  rw [eW]
  have l1 := h1.len
  refine ⟨(D.ext.trans h1).mono (by omega), fun w hw => ?_, fun vals hv => ?_⟩
  · rcases List.mem_append.mp hw with z | z
    · exact h2 w z
    · have := D.lt w (List.mem_of_mem_drop z)
      show w < m + S1.1.length
      omega
  · show (S1.2 ++ S0.2.drop (os.length - 1)).map (wb vals S1.1) = _
    unfold markB
    rw [List.map_append, h3 vals hv, List.length_map]
    conv => rhs; rw [show os.length = os.length - 1 + 1 from by omega, List.range_succ, List.map_append]
    congr 1
    have es : S0.2.drop (os.length - 1) = [S0.2.getD (os.length - 1) 0] := by
      rw [List.drop_eq_getElem_cons (by omega), List.drop_eq_nil_of_le (by omega)]
      simp only [List.getD, List.getElem?_eq_getElem (show os.length - 1 < S0.2.length by omega), Option.getD_some]
    rw [es]
    show [_] = [_]
    congr 1
    rw [h1.wb hv (D.lt _ (getD_in (by omega))), dv vals hv _ (by omega)]
    unfold mkB
    have e0 : dB (os.map (wb vals gs)) (ts.map (wb vals gs)) (os.length - 1 + 1) = false := by
      unfold dB
      rw [show os.length - 1 + 1 = os.length from by omega]
      simp [List.getD, hl]
    rw [e0]
    simp
/-! ### sums, products, orders of wires -/
theorem mem_zipR {os ts : List Nat} {p : Nat × Nat} (h : p ∈ os.reverse.zip ts.reverse) : p.1 ∈ os ∧ p.2 ∈ ts := ⟨List.mem_reverse.mp (List.of_mem_zip h).1, List.mem_reverse.mp (List.of_mem_zip h).2⟩
theorem zipR_len {os ts : List Nat} (h : os.length = ts.length) : (os.reverse.zip ts.reverse).length = os.length := by
  rw [List.length_zip, List.length_reverse, List.length_reverse]
  omega
theorem zipR_map (e : Nat → Bool) (os ts : List Nat) : (os.reverse.zip ts.reverse).map (fun p => (e p.1, e p.2)) = (os.map e).reverse.zip (ts.map e).reverse := by
  rw [← List.map_reverse, ← List.map_reverse, List.zip_map]
  rfl
theorem numB_rev_snoc (xs : List Bool) (b : Bool) : numB (xs ++ [b]).reverse = b.toNat * 2 ^ xs.length + numB xs.reverse := by
  rw [List.reverse_append, List.reverse_singleton, List.singleton_append, numB_cons, List.length_reverse]
theorem fst_zip' {α β : Type} : ∀ {l : List α} {r : List β}, l.length = r.length → (l.zip r).map (·.1) = l
  | [], [], _ => rfl
  | a :: l, b :: r, h => congrArg (a :: ·) (fst_zip' (Nat.succ.inj h))
theorem snd_zip' {α β : Type} : ∀ {l : List α} {r : List β}, l.length = r.length → (l.zip r).map (·.2) = r
  | [], [], _ => rfl
  | a :: l, b :: r, h => congrArg (b :: ·) (snd_zip' (Nat.succ.inj h))
def adF (s : List Bool × Bool) (p : Bool × Bool) : List Bool × Bool := (s.1 ++ [xor (xor p.1 p.2) s.2], (p.1 && p.2) || (xor p.1 p.2 && s.2))
def sumB (os ts : List Bool) (c : Bool) : List Bool := ((os.reverse.zip ts.reverse).foldl adF ([], c)).2 :: ((os.reverse.zip ts.reverse).foldl adF ([], c)).1.reverse
theorem adF_num (c : Bool) (ps : List (Bool × Bool)) : (ps.foldl adF ([], c)).1.length = ps.length ∧ numB (ps.foldl adF ([], c)).1.reverse + 2 ^ ps.length * (ps.foldl adF ([], c)).2.toNat = numB (ps.map (·.1)).reverse + numB (ps.map (·.2)).reverse + c.toNat := by
  have h := fold_inv (fun i (s : List Bool × Bool) => s.1.length = i ∧ numB s.1.reverse + 2 ^ i * s.2.toNat = numB ((ps.take i).map (·.1)).reverse + numB ((ps.take i).map (·.2)).reverse + c.toNat) adF ps ([], c) ⟨rfl, by simp [numB]⟩ (fun i p s hp ⟨h1, h2⟩ => by
    obtain ⟨hi, e⟩ := List.getElem?_eq_some_iff.mp hp
    have lt : (ps.take i).length = i := by rw [List.length_take]; omega
    refine ⟨by show (s.1 ++ [_]).length = _; rw [List.length_append, h1]; rfl, ?_⟩
    rw [List.take_add_one, hp]
    show numB (s.1 ++ [_]).reverse + 2 ^ (i + 1) * ((p.1 && p.2) || (xor p.1 p.2 && s.2)).toNat = numB ((ps.take i ++ [p]).map (·.1)).reverse + numB ((ps.take i ++ [p]).map (·.2)).reverse + c.toNat
    rw [List.map_append, List.map_append]
    show numB (s.1 ++ [_]).reverse + _ = numB ((ps.take i).map (·.1) ++ [p.1]).reverse + numB ((ps.take i).map (·.2) ++ [p.2]).reverse + _
    rw [numB_rev_snoc, numB_rev_snoc, numB_rev_snoc, h1, List.length_map, List.length_map, lt, Nat.pow_succ]
    generalize numB ((ps.take i).map (·.1)).reverse = A at *
    generalize numB ((ps.take i).map (·.2)).reverse = B at *
    generalize numB s.1.reverse = D at *
    generalize 2 ^ i = K at *
    generalize s.2 = d at *
    generalize p.1 = a
    generalize p.2 = b
    cases a <;> cases b <;> cases d <;> simp at h2 ⊢ <;> omega)
  rw [List.take_of_length_le (Nat.le_refl _)] at h
  exact h
theorem sumB_num {os ts : List Bool} {c : Bool} (h : os.length = ts.length) : numB (sumB os ts c) = numB os + numB ts + c.toNat := by
  have hz : (os.reverse.zip ts.reverse).length = os.length := by rw [List.length_zip, List.length_reverse, List.length_reverse]; omega
  obtain ⟨h1, h2⟩ := adF_num c (os.reverse.zip ts.reverse)
  rw [fst_zip' (by simpa using h), snd_zip' (by simpa using h), List.reverse_reverse, List.reverse_reverse] at h2
  unfold sumB
  rw [numB_cons, List.length_reverse, h1]
  rw [Nat.mul_comm] at h2
  omega
theorem sumB_len {os ts : List Bool} {c : Bool} (h : os.length = ts.length) : (sumB os ts c).length = os.length + 1 := by
  have hz : (os.reverse.zip ts.reverse).length = os.length := by rw [List.length_zip, List.length_reverse, List.length_reverse]; omega
  obtain ⟨h1, _⟩ := adF_num c (os.reverse.zip ts.reverse)
  unfold sumB
  rw [List.length_cons, List.length_reverse, h1, hz]
def suS (m : Nat) (s : List Gt × List Nat × Nat) (p : Nat × Nat) : List Gt × List Nat × Nat :=
  let g1 := s.1 ++ [.w "unlike" [p.1, p.2]]
  let g2 := g1 ++ [.w "unlike" [m + s.1.length, s.2.2]]
  let g3 := g2 ++ [.w "both" [p.1, p.2]]
  let g4 := g3 ++ [.w "both" [m + s.1.length, s.2.2]]
  let g5 := g4 ++ [.w "either" [m + g2.length, m + g3.length]]
  (g5, s.2.1 ++ [m + g1.length], m + g4.length)
def sumF (m : Nat) (gs : List Gt) (ps : List (Nat × Nat)) (c : Nat) : List Gt × List Nat × Nat := ps.foldl (suS m) (gs, [], c)
def sumW (m : Nat) (gs : List Gt) (os ts : List Nat) (c : Nat) : List Gt × List Nat := ((sumF m gs (os.reverse.zip ts.reverse) c).1, (sumF m gs (os.reverse.zip ts.reverse) c).2.2 :: (sumF m gs (os.reverse.zip ts.reverse) c).2.1.reverse)
theorem sumF_ok {m : Nat} {gs : List Gt} {ps : List (Nat × Nat)} {c : Nat} (hw : ∀ p ∈ ps, p.1 < m + gs.length ∧ p.2 < m + gs.length) (hc : c < m + gs.length) : ∀ i, i ≤ ps.length → ∀ s, s = sumF m gs (ps.take i) c → Ext m gs s.1 (5 * i) ∧ s.1.length = gs.length + 5 * i ∧ s.2.1.length = i ∧ (∀ w ∈ s.2.1, w < m + s.1.length) ∧ s.2.2 < m + s.1.length ∧ ∀ vals : List Bool, vals.length = m → (s.2.1.map (wb vals s.1), wb vals s.1 s.2.2) = ((ps.take i).map fun p => (wb vals gs p.1, wb vals gs p.2)).foldl adF ([], wb vals gs c) := by
  intro i
  induction i with
  | zero => exact fun _ s e => by subst e; exact ⟨.refl, rfl, rfl, (fun _ z => nomatch z), hc, fun vals _ => rfl⟩
  | succ i ih =>
    intro hi s e
    obtain ⟨p, hp⟩ : ∃ p, ps[i]? = some p := ⟨ps[i], List.getElem?_eq_getElem (by omega)⟩
    have es : sumF m gs (ps.take (i + 1)) c = suS m (sumF m gs (ps.take i) c) p := fold_take _ hp _
    obtain ⟨h1, hl, ht, h2, h4, h3⟩ := ih (by omega) _ rfl
    rw [e, es]
    clear e es
    generalize sumF m gs (ps.take i) c = s at *
    obtain ⟨q1, q2⟩ := hw p (List.mem_of_getElem? hp)
    have l := h1.len
    obtain ⟨g1, eg1⟩ : ∃ g, g = s.1 ++ [.w "unlike" [p.1, p.2]] := ⟨_, rfl⟩
    obtain ⟨g2, eg2⟩ : ∃ g, g = g1 ++ [.w "unlike" [m + s.1.length, s.2.2]] := ⟨_, rfl⟩
    obtain ⟨g3, eg3⟩ : ∃ g, g = g2 ++ [.w "both" [p.1, p.2]] := ⟨_, rfl⟩
    obtain ⟨g4, eg4⟩ : ∃ g, g = g3 ++ [.w "both" [m + s.1.length, s.2.2]] := ⟨_, rfl⟩
    obtain ⟨g5, eg5⟩ : ∃ g, g = g4 ++ [.w "either" [m + g2.length, m + g3.length]] := ⟨_, rfl⟩
    have hs : suS m s p = (g5, s.2.1 ++ [m + g1.length], m + g4.length) := by rw [eg5, eg4, eg3, eg2, eg1]; rfl
    have l1 : g1.length = s.1.length + 1 := by rw [eg1]; simp
    have l2 : g2.length = s.1.length + 2 := by rw [eg2]; simp [l1]
    have l3 : g3.length = s.1.length + 3 := by rw [eg3]; simp [l2]
    have l4 : g4.length = s.1.length + 4 := by rw [eg4]; simp [l3]
    have l5 : g5.length = s.1.length + 5 := by rw [eg5]; simp [l4]
    have e1 : Ext m s.1 g1 1 := eg1 ▸ .unlike (by omega) (by omega)
    have e2 : Ext m g1 g2 1 := eg2 ▸ .unlike (by omega) (by omega)
    have e3 : Ext m g2 g3 1 := eg3 ▸ .both (by omega) (by omega)
    have e4 : Ext m g3 g4 1 := eg4 ▸ .both (by omega) (by omega)
    have e5 : Ext m g4 g5 1 := eg5 ▸ .either (by omega) (by omega)
    have e35 := (e3.trans e4).trans e5
    have e25 := e2.trans e35
    have e := e1.trans e25
    rw [hs]
    refine ⟨(h1.trans e).mono (by omega), by show g5.length = _; omega, by show (s.2.1 ++ [_]).length = _; rw [List.length_append, ht]; rfl, fun a ha => ?_, by show m + g4.length < m + g5.length; omega, fun vals hv => ?_⟩
    · rcases List.mem_append.mp ha with z | z
      · have := h2 a z
        show a < m + g5.length
        omega
      · rw [List.mem_singleton.mp z]
        show m + g1.length < m + g5.length
        omega
    · have ef : ((ps.take (i + 1)).map (fun p => (wb vals gs p.1, wb vals gs p.2))).foldl adF ([], wb vals gs c) = adF (((ps.take i).map (fun p => (wb vals gs p.1, wb vals gs p.2))).foldl adF ([], wb vals gs c)) (wb vals gs p.1, wb vals gs p.2) := by
        rw [List.take_add_one, hp, List.map_append, List.foldl_append]
        rfl
      rw [ef, ← h3 vals hv]
      have v1 : wb vals g1 (m + s.1.length) = xor (wb vals gs p.1) (wb vals gs p.2) := by
        rw [eg1, wb_unlike (hv ▸ rfl), h1.wb hv q1, h1.wb hv q2]
      have v2 : wb vals g2 (m + g1.length) = xor (xor (wb vals gs p.1) (wb vals gs p.2)) (wb vals s.1 s.2.2) := by
        rw [eg2, wb_unlike (hv ▸ rfl), v1, e1.wb hv h4]
      have v3 : wb vals g3 (m + g2.length) = (wb vals gs p.1 && wb vals gs p.2) := by
        rw [eg3, wb_both (hv ▸ rfl), (e1.trans e2).wb hv (by omega), (e1.trans e2).wb hv (by omega), h1.wb hv q1, h1.wb hv q2]
      have v4 : wb vals g4 (m + g3.length) = (xor (wb vals gs p.1) (wb vals gs p.2) && wb vals s.1 s.2.2) := by
        rw [eg4, wb_both (hv ▸ rfl), (e2.trans e3).wb hv (by omega), ((e1.trans e2).trans e3).wb hv h4, v1]
      have v5 : wb vals g5 (m + g4.length) = ((wb vals gs p.1 && wb vals gs p.2) || (xor (wb vals gs p.1) (wb vals gs p.2) && wb vals s.1 s.2.2)) := by
        rw [eg5, wb_either (hv ▸ rfl), e4.wb hv (by omega), v3, v4]
      show ((s.2.1 ++ [m + g1.length]).map (wb vals g5), wb vals g5 (m + g4.length)) = (s.2.1.map (wb vals s.1) ++ [_], _)
      rw [List.map_append, e.wbs hv h2, v5]
      congr 1
      congr 1
      show [_] = [_]
      congr 1
      rw [e35.wb hv (by omega), v2]
theorem sumW_ok {m : Nat} {gs : List Gt} {os ts : List Nat} {c : Nat} (hl : os.length = ts.length) (ho : ∀ w ∈ os, w < m + gs.length) (ht : ∀ w ∈ ts, w < m + gs.length) (hc : c < m + gs.length) : WL m gs (5 * os.length) (sumW m gs os ts c) (fun e => sumB (os.map e) (ts.map e) (e c)) := by
  obtain ⟨h1, _, _, h2, h4, h3⟩ := sumF_ok (ps := os.reverse.zip ts.reverse) (fun p hp => ⟨ho _ (mem_zipR hp).1, ht _ (mem_zipR hp).2⟩) hc _ (Nat.le_refl _) _ rfl
  rw [List.take_length] at h1 h2 h4 h3
  rw [zipR_len hl] at h1
  unfold sumW
  generalize sumF m gs (os.reverse.zip ts.reverse) c = s at *
  refine ⟨h1, fun w hw => ?_, fun vals hv => ?_⟩
  · rcases List.mem_cons.mp hw with z | z
    · exact z ▸ h4
    · exact h2 w (List.mem_reverse.mp z)
  · show (s.2.2 :: s.2.1.reverse).map (wb vals s.1) = _
    have h := h3 vals hv
    unfold sumB
    rw [← zipR_map, ← h, List.map_cons, List.map_reverse]
theorem sumW_len {m : Nat} {gs : List Gt} {os ts : List Nat} {c : Nat} (hl : os.length = ts.length) (ho : ∀ w ∈ os, w < m + gs.length) (ht : ∀ w ∈ ts, w < m + gs.length) (hc : c < m + gs.length) : (sumW m gs os ts c).2.length = os.length + 1 := by
  have := congrArg List.length ((sumW_ok hl ho ht hc).val (List.replicate m false) (by simp))
  rw [List.length_map, sumB_len (by rw [List.length_map, List.length_map, hl]), List.length_map] at this
  exact this
/-! ### less -/
def leF (l : Bool) (p : Bool × Bool) : Bool := (!p.1 && p.2) || ((!p.1 || p.2) && l)
def lessB (os ts : List Bool) : Bool := (os.reverse.zip ts.reverse).foldl leF false
theorem leF_num (ps : List (Bool × Bool)) : ps.foldl leF false = decide (numB (ps.map (·.1)).reverse < numB (ps.map (·.2)).reverse) := by
  have h := fold_inv (fun i (s : Bool) => s = decide (numB ((ps.take i).map (·.1)).reverse < numB ((ps.take i).map (·.2)).reverse)) leF ps false (by simp [numB]) (fun i p s hp h2 => by
    obtain ⟨hi, e⟩ := List.getElem?_eq_some_iff.mp hp
    have lt : (ps.take i).length = i := by rw [List.length_take]; omega
    rw [List.take_add_one, hp]
    show leF s p = decide (numB ((ps.take i ++ [p]).map (·.1)).reverse < numB ((ps.take i ++ [p]).map (·.2)).reverse)
    rw [List.map_append, List.map_append]
    show _ = decide (numB ((ps.take i).map (·.1) ++ [p.1]).reverse < numB ((ps.take i).map (·.2) ++ [p.2]).reverse)
    have b1 := numB_lt ((ps.take i).map (·.1)).reverse
    have b2 := numB_lt ((ps.take i).map (·.2)).reverse
    rw [List.length_reverse, List.length_map, lt] at b1 b2
    rw [numB_rev_snoc, numB_rev_snoc, List.length_map, List.length_map, lt, h2]
    generalize numB ((ps.take i).map (·.1)).reverse = A at *
    generalize numB ((ps.take i).map (·.2)).reverse = B at *
    generalize 2 ^ i = K at *
    unfold leF
    generalize p.1 = a
    generalize p.2 = b
    cases a <;> cases b <;> simp <;> omega)
  rw [List.take_of_length_le (Nat.le_refl _)] at h
  exact h
theorem lessB_num {os ts : List Bool} (h : os.length = ts.length) : lessB os ts = decide (numB os < numB ts) := by
  unfold lessB
  rw [leF_num, fst_zip' (by simpa using h), snd_zip' (by simpa using h), List.reverse_reverse, List.reverse_reverse]
def leS (m : Nat) (s : List Gt × Nat) (p : Nat × Nat) : List Gt × Nat :=
  let g1 := s.1 ++ [.w "other" [p.1]]
  let g2 := g1 ++ [.w "both" [m + s.1.length, p.2]]
  let g3 := g2 ++ [.w "either" [m + s.1.length, p.2]]
  let g4 := g3 ++ [.w "both" [m + g2.length, s.2]]
  let g5 := g4 ++ [.w "either" [m + g1.length, m + g3.length]]
  (g5, m + g4.length)
def lessF (m : Nat) (gs : List Gt) (ps : List (Nat × Nat)) : List Gt × Nat := ps.foldl (leS m) (gs ++ [.fi 0], m + gs.length)
def lessW (m : Nat) (gs : List Gt) (os ts : List Nat) : List Gt × Nat := lessF m gs (os.reverse.zip ts.reverse)
theorem lessF_ok {m : Nat} {gs : List Gt} {ps : List (Nat × Nat)} (hw : ∀ p ∈ ps, p.1 < m + gs.length ∧ p.2 < m + gs.length) : ∀ i, i ≤ ps.length → ∀ s, s = lessF m gs (ps.take i) → Ext m gs s.1 (5 * i + 1) ∧ s.1.length = gs.length + 5 * i + 1 ∧ s.2 < m + s.1.length ∧ ∀ vals : List Bool, vals.length = m → wb vals s.1 s.2 = ((ps.take i).map fun p => (wb vals gs p.1, wb vals gs p.2)).foldl leF false := by
  intro i
  induction i with
  | zero =>
    intro _ s e
    subst e
    refine ⟨(Ext.fixed (Nat.zero_le _)).mono (Nat.le_refl _), by show (gs ++ [_]).length = _; simp, len1, fun vals hv => ?_⟩
    show wb vals (gs ++ [.fi 0]) (m + gs.length) = false
    rw [wb_fixed (hv ▸ rfl)]
    rfl
  | succ i ih =>
    intro hi s e
    obtain ⟨p, hp⟩ : ∃ p, ps[i]? = some p := ⟨ps[i], List.getElem?_eq_getElem (by omega)⟩
    have es : lessF m gs (ps.take (i + 1)) = leS m (lessF m gs (ps.take i)) p := fold_take _ hp _
    obtain ⟨h1, hl, h4, h3⟩ := ih (by omega) _ rfl
    rw [e, es]
    clear e es
    generalize lessF m gs (ps.take i) = s at *
    obtain ⟨q1, q2⟩ := hw p (List.mem_of_getElem? hp)
    have l := h1.len
    obtain ⟨g1, eg1⟩ : ∃ g, g = s.1 ++ [.w "other" [p.1]] := ⟨_, rfl⟩
    obtain ⟨g2, eg2⟩ : ∃ g, g = g1 ++ [.w "both" [m + s.1.length, p.2]] := ⟨_, rfl⟩
    obtain ⟨g3, eg3⟩ : ∃ g, g = g2 ++ [.w "either" [m + s.1.length, p.2]] := ⟨_, rfl⟩
    obtain ⟨g4, eg4⟩ : ∃ g, g = g3 ++ [.w "both" [m + g2.length, s.2]] := ⟨_, rfl⟩
    obtain ⟨g5, eg5⟩ : ∃ g, g = g4 ++ [.w "either" [m + g1.length, m + g3.length]] := ⟨_, rfl⟩
    have hs : leS m s p = (g5, m + g4.length) := by rw [eg5, eg4, eg3, eg2, eg1]; rfl
    have l1 : g1.length = s.1.length + 1 := by rw [eg1]; simp
    have l2 : g2.length = s.1.length + 2 := by rw [eg2]; simp [l1]
    have l3 : g3.length = s.1.length + 3 := by rw [eg3]; simp [l2]
    have l4 : g4.length = s.1.length + 4 := by rw [eg4]; simp [l3]
    have l5 : g5.length = s.1.length + 5 := by rw [eg5]; simp [l4]
    have e1 : Ext m s.1 g1 1 := eg1 ▸ .other (by omega)
    have e2 : Ext m g1 g2 1 := eg2 ▸ .both (by omega) (by omega)
    have e3 : Ext m g2 g3 1 := eg3 ▸ .either (by omega) (by omega)
    have e4 : Ext m g3 g4 1 := eg4 ▸ .both (by omega) (by omega)
    have e5 : Ext m g4 g5 1 := eg5 ▸ .either (by omega) (by omega)
    have e12 := e1.trans e2
    have e13 := e12.trans e3
    have e := (e13.trans e4).trans e5
    rw [hs]
    refine ⟨(h1.trans e).mono (by omega), by show g5.length = _; omega, by show m + g4.length < m + g5.length; omega, fun vals hv => ?_⟩
    · have ef : ((ps.take (i + 1)).map (fun p => (wb vals gs p.1, wb vals gs p.2))).foldl leF false = leF (((ps.take i).map (fun p => (wb vals gs p.1, wb vals gs p.2))).foldl leF false) (wb vals gs p.1, wb vals gs p.2) := by
        rw [List.take_add_one, hp, List.map_append, List.foldl_append]
        rfl
      rw [ef, ← h3 vals hv]
      have v1 : wb vals g1 (m + s.1.length) = !(wb vals gs p.1) := by
        rw [eg1, wb_other (hv ▸ rfl), h1.wb hv q1]
      have v2 : wb vals g2 (m + g1.length) = (!(wb vals gs p.1) && wb vals gs p.2) := by
        rw [eg2, wb_both (hv ▸ rfl), v1, e1.wb hv (by omega), h1.wb hv q2]
      have v3 : wb vals g3 (m + g2.length) = (!(wb vals gs p.1) || wb vals gs p.2) := by
        rw [eg3, wb_either (hv ▸ rfl), e2.wb hv (by omega), v1, e12.wb hv (by omega), h1.wb hv q2]
      have v4 : wb vals g4 (m + g3.length) = ((!(wb vals gs p.1) || wb vals gs p.2) && wb vals s.1 s.2) := by
        rw [eg4, wb_both (hv ▸ rfl), v3, e13.wb hv h4]
      show wb vals g5 (m + g4.length) = leF (wb vals s.1 s.2) (wb vals gs p.1, wb vals gs p.2)
      rw [eg5, wb_either (hv ▸ rfl), (e3.trans e4).wb hv (by omega), v2, v4]
      rfl
theorem lessW_ok {m : Nat} {gs : List Gt} {os ts : List Nat} (hl : os.length = ts.length) (ho : ∀ w ∈ os, w < m + gs.length) (ht : ∀ w ∈ ts, w < m + gs.length) : W1 m gs (5 * os.length + 1) (lessW m gs os ts) (fun e => lessB (os.map e) (ts.map e)) := by
  obtain ⟨h1, _, h4, h3⟩ := lessF_ok (ps := os.reverse.zip ts.reverse) (fun p hp => ⟨ho _ (mem_zipR hp).1, ht _ (mem_zipR hp).2⟩) _ (Nat.le_refl _) _ rfl
  rw [List.take_length] at h1 h4 h3
  rw [zipR_len hl] at h1
  unfold lessW
  refine ⟨h1, h4, fun vals hv => ?_⟩
  have h := h3 vals hv
  unfold lessB
  rw [← zipR_map, ← h]
/-! ### one more by a bit -/
def raS (m : Nat) (s : List Gt × List Nat × Nat) (a : Nat) : List Gt × List Nat × Nat :=
  let g1 := s.1 ++ [.w "unlike" [a, s.2.2]]
  let g2 := g1 ++ [.w "both" [a, s.2.2]]
  (g2, s.2.1 ++ [m + s.1.length], m + g1.length)
def raiF (m : Nat) (gs : List Gt) (os : List Nat) (w : Nat) : List Gt × List Nat × Nat := os.foldl (raS m) (gs, [], w)
def raiW (m : Nat) (gs : List Gt) (os : List Nat) (w : Nat) : List Gt × List Nat := ((raiF m gs os.reverse w).1, (raiF m gs os.reverse w).2.2 :: (raiF m gs os.reverse w).2.1.reverse)
def raF (s : List Bool × Bool) (a : Bool) : List Bool × Bool := (s.1 ++ [xor a s.2], a && s.2)
def raiB (os : List Bool) (w : Bool) : List Bool := (os.reverse.foldl raF ([], w)).2 :: (os.reverse.foldl raF ([], w)).1.reverse
theorem raF_num (c : Bool) (ps : List Bool) : (ps.foldl raF ([], c)).1.length = ps.length ∧ numB (ps.foldl raF ([], c)).1.reverse + 2 ^ ps.length * (ps.foldl raF ([], c)).2.toNat = numB ps.reverse + c.toNat := by
  have h := fold_inv (fun i (s : List Bool × Bool) => s.1.length = i ∧ numB s.1.reverse + 2 ^ i * s.2.toNat = numB (ps.take i).reverse + c.toNat) raF ps ([], c) ⟨rfl, by simp [numB]⟩ (fun i p s hp ⟨h1, h2⟩ => by
    obtain ⟨hi, e⟩ := List.getElem?_eq_some_iff.mp hp
    have lt : (ps.take i).length = i := by rw [List.length_take]; omega
    refine ⟨by show (s.1 ++ [_]).length = _; rw [List.length_append, h1]; rfl, ?_⟩
    rw [List.take_add_one, hp]
    show numB (s.1 ++ [_]).reverse + 2 ^ (i + 1) * (p && s.2).toNat = numB (ps.take i ++ [p]).reverse + c.toNat
    rw [numB_rev_snoc, numB_rev_snoc, h1, lt, Nat.pow_succ]
    generalize numB (ps.take i).reverse = A at *
    generalize numB s.1.reverse = D at *
    generalize 2 ^ i = K at *
    generalize s.2 = d at *
    cases p <;> cases d <;> simp at h2 ⊢ <;> omega)
  rw [List.take_of_length_le (Nat.le_refl _)] at h
  exact h
theorem raiB_num {os : List Bool} {c : Bool} : numB (raiB os c) = numB os + c.toNat := by
  obtain ⟨h1, h2⟩ := raF_num c os.reverse
  rw [List.reverse_reverse, Nat.mul_comm] at h2
  unfold raiB
  rw [numB_cons, List.length_reverse, h1]
  omega
theorem raiB_len {os : List Bool} {c : Bool} : (raiB os c).length = os.length + 1 := by
  obtain ⟨h1, _⟩ := raF_num c os.reverse
  unfold raiB
  rw [List.length_cons, List.length_reverse, h1, List.length_reverse]
theorem raiF_ok {m : Nat} {gs : List Gt} {ps : List Nat} {c : Nat} (hw : ∀ p ∈ ps, p < m + gs.length) (hc : c < m + gs.length) : ∀ i, i ≤ ps.length → ∀ s, s = raiF m gs (ps.take i) c → Ext m gs s.1 (2 * i) ∧ s.1.length = gs.length + 2 * i ∧ s.2.1.length = i ∧ (∀ w ∈ s.2.1, w < m + s.1.length) ∧ s.2.2 < m + s.1.length ∧ ∀ vals : List Bool, vals.length = m → (s.2.1.map (wb vals s.1), wb vals s.1 s.2.2) = ((ps.take i).map (wb vals gs)).foldl raF ([], wb vals gs c) := by
  intro i
  induction i with
  | zero => exact fun _ s e => by subst e; exact ⟨.refl, rfl, rfl, (fun _ z => nomatch z), hc, fun vals _ => rfl⟩
  | succ i ih =>
    intro hi s e
    obtain ⟨p, hp⟩ : ∃ p, ps[i]? = some p := ⟨ps[i], List.getElem?_eq_getElem (by omega)⟩
    have es : raiF m gs (ps.take (i + 1)) c = raS m (raiF m gs (ps.take i) c) p := fold_take _ hp _
    obtain ⟨h1, hl, ht, h2, h4, h3⟩ := ih (by omega) _ rfl
    rw [e, es]
    clear e es
    generalize raiF m gs (ps.take i) c = s at *
    have q1 := hw p (List.mem_of_getElem? hp)
    have l := h1.len
    obtain ⟨g1, eg1⟩ : ∃ g, g = s.1 ++ [.w "unlike" [p, s.2.2]] := ⟨_, rfl⟩
    obtain ⟨g2, eg2⟩ : ∃ g, g = g1 ++ [.w "both" [p, s.2.2]] := ⟨_, rfl⟩
    have hs : raS m s p = (g2, s.2.1 ++ [m + s.1.length], m + g1.length) := by rw [eg2, eg1]; rfl
    have l1 : g1.length = s.1.length + 1 := by rw [eg1]; simp
    have l2 : g2.length = s.1.length + 2 := by rw [eg2]; simp [l1]
    have e1 : Ext m s.1 g1 1 := eg1 ▸ .unlike (by omega) (by omega)
    have e2 : Ext m g1 g2 1 := eg2 ▸ .both (by omega) (by omega)
    have e := e1.trans e2
    rw [hs]
    refine ⟨(h1.trans e).mono (by omega), by show g2.length = _; omega, by show (s.2.1 ++ [_]).length = _; rw [List.length_append, ht]; rfl, fun a ha => ?_, by show m + g1.length < m + g2.length; omega, fun vals hv => ?_⟩
    · rcases List.mem_append.mp ha with z | z
      · have := h2 a z
        show a < m + g2.length
        omega
      · rw [List.mem_singleton.mp z]
        show m + s.1.length < m + g2.length
        omega
    · have ef : ((ps.take (i + 1)).map (wb vals gs)).foldl raF ([], wb vals gs c) = raF (((ps.take i).map (wb vals gs)).foldl raF ([], wb vals gs c)) (wb vals gs p) := by
        rw [List.take_add_one, hp, List.map_append, List.foldl_append]
        rfl
      rw [ef, ← h3 vals hv]
      have v1 : wb vals g1 (m + s.1.length) = xor (wb vals gs p) (wb vals s.1 s.2.2) := by
        rw [eg1, wb_unlike (hv ▸ rfl), h1.wb hv q1]
      have v2 : wb vals g2 (m + g1.length) = (wb vals gs p && wb vals s.1 s.2.2) := by
        rw [eg2, wb_both (hv ▸ rfl), e1.wb hv (by omega), e1.wb hv h4, h1.wb hv q1]
      show ((s.2.1 ++ [m + s.1.length]).map (wb vals g2), wb vals g2 (m + g1.length)) = (s.2.1.map (wb vals s.1) ++ [_], _)
      rw [List.map_append, e.wbs hv h2, v2]
      congr 1
      congr 1
      show [_] = [_]
      congr 1
      rw [e2.wb hv (by omega), v1]
theorem raiW_ok {m : Nat} {gs : List Gt} {os : List Nat} {c : Nat} (ho : ∀ w ∈ os, w < m + gs.length) (hc : c < m + gs.length) : WL m gs (2 * os.length) (raiW m gs os c) (fun e => raiB (os.map e) (e c)) := by
  obtain ⟨h1, _, _, h2, h4, h3⟩ := raiF_ok (ps := os.reverse) (fun p hp => ho _ (List.mem_reverse.mp hp)) hc _ (Nat.le_refl _) _ rfl
  rw [List.take_length] at h1 h2 h4 h3
  rw [List.length_reverse] at h1
  unfold raiW
  generalize raiF m gs os.reverse c = s at *
  refine ⟨h1, fun w hw => ?_, fun vals hv => ?_⟩
  · rcases List.mem_cons.mp hw with z | z
    · exact z ▸ h4
    · exact h2 w (List.mem_reverse.mp z)
  · show (s.2.2 :: s.2.1.reverse).map (wb vals s.1) = _
    have h := h3 vals hv
    unfold raiB
    rw [← List.map_reverse, ← h, List.map_cons, List.map_reverse]
theorem raiW_len {m : Nat} {gs : List Gt} {os : List Nat} {c : Nat} (ho : ∀ w ∈ os, w < m + gs.length) (hc : c < m + gs.length) : (raiW m gs os c).2.length = os.length + 1 := by
  have := congrArg List.length ((raiW_ok ho hc).val (List.replicate m false) (by simp))
  rw [List.length_map, raiB_len, List.length_map] at this
  exact this
/-! ### products -/
def rwS (m o : Nat) (s : List Gt × List Nat) (a : Nat) : List Gt × List Nat := (s.1 ++ [.w "both" [a, o]], s.2 ++ [m + s.1.length])
def rowW (m : Nat) (gs : List Gt) (os : List Nat) (o : Nat) : List Gt × List Nat := os.foldl (rwS m o) (gs, [])
theorem rowW_at {m o : Nat} {gs : List Gt} : ∀ (os : List Nat) (s : List Gt × List Nat), (os.foldl (rwS m o) s).1.length = s.1.length + os.length ∧ (os.foldl (rwS m o) s).2.length = s.2.length + os.length
  | [], s => ⟨rfl, rfl⟩
  | a :: l, s => by
    obtain ⟨h1, h2⟩ := rowW_at (gs := gs) l (rwS m o s a)
    rw [List.foldl_cons, h1, h2]
    unfold rwS
    simp only [List.length_append, List.length_cons, List.length_nil]
    omega
theorem rowW_ok {m o : Nat} {gs : List Gt} {os : List Nat} (hw : ∀ p ∈ os, p < m + gs.length) (hO : o < m + gs.length) : WL m gs os.length (rowW m gs os o) (fun e => os.map fun p => (e p && e o)) := by
  have h := fold_inv (fun i (s : List Gt × List Nat) => Ext m gs s.1 i ∧ (∀ w ∈ s.2, w < m + s.1.length) ∧ ∀ vals : List Bool, vals.length = m → s.2.map (wb vals s.1) = (os.take i).map fun p => (wb vals gs p && wb vals gs o)) (rwS m o) os (gs, []) ⟨.refl, (fun _ z => nomatch z), fun _ _ => rfl⟩ (fun i p s hp ⟨h1, h2, h3⟩ => by
    have q1 := hw p (List.mem_of_getElem? hp)
    have l := h1.len
    have e : Ext m s.1 (s.1 ++ [.w "both" [p, o]]) 1 := .both (by omega) (by omega)
    refine ⟨h1.trans e, fun a ha => ?_, fun vals hv => ?_⟩
    · rcases List.mem_append.mp ha with z | z
      · exact lt1 (h2 a z)
      · rw [List.mem_singleton.mp z]
        exact len1
    · show (s.2 ++ [_]).map (wb vals (s.1 ++ [Gt.w "both" [p, o]])) = _
      rw [List.map_append, e.wbs hv h2, h3 vals hv, List.take_add_one, hp, List.map_append]
      congr 1
      show [_] = [_]
      congr 1
      rw [wb_both (hv ▸ rfl), h1.wb hv q1, h1.wb hv hO])
  obtain ⟨h1, h2, h3⟩ := h
  exact ⟨h1, h2, fun vals hv => by
    rw [List.take_of_length_le (Nat.le_refl _)] at h3
    exact h3 vals hv⟩
theorem rowB_num (b : Bool) : ∀ os : List Bool, numB (os.map (· && b)) = numB os * b.toNat
  | [] => by simp [numB]
  | a :: os => by
    rw [List.map_cons, numB_cons, numB_cons, List.length_map, rowB_num b os]
    cases a <;> cases b <;> simp
def tiS (m : Nat) (os : List Nat) (z : Nat) (s : List Gt × List Nat × List Nat) (o : Nat) : List Gt × List Nat × List Nat :=
  let R := rowW m s.1 os o
  let S := sumW m R.1 s.2.1 R.2 z
  (S.1, S.2.dropLast, s.2.2 ++ [S.2.getLastD 0])
def timF (m : Nat) (gs : List Gt) (os ts : List Nat) : List Gt × List Nat × List Nat := ts.foldl (tiS m os (m + gs.length)) (gs ++ [.fi 0], List.replicate os.length (m + gs.length), [])
def timW (m : Nat) (gs : List Gt) (os ts : List Nat) : List Gt × List Nat := ((timF m gs os ts.reverse).1, (timF m gs os ts.reverse).2.1 ++ (timF m gs os ts.reverse).2.2.reverse)
theorem dl_last {α : Type} {l : List α} {d : α} (h : l ≠ []) : l = l.dropLast ++ [l.getLastD d] := by
  have := (List.dropLast_concat_getLast h).symm
  rw [List.getLastD_eq_getLast?, List.getLast?_eq_some_getLast h]
  exact this
theorem timF_ok {m : Nat} {gs : List Gt} {os ts : List Nat} (ho : ∀ p ∈ os, p < m + gs.length) (ht : ∀ p ∈ ts, p < m + gs.length) (h0 : 0 < os.length) : ∀ i, i ≤ ts.length → ∀ s, s = timF m gs os (ts.take i) → Ext m gs s.1 (6 * os.length * i + 1) ∧ gs.length < s.1.length ∧ s.2.1.length = os.length ∧ s.2.2.length = i ∧ (∀ w ∈ s.2.1, w < m + s.1.length) ∧ (∀ w ∈ s.2.2, w < m + s.1.length) ∧ (∀ vals : List Bool, vals.length = m → wb vals s.1 (m + gs.length) = false) ∧ ∀ vals : List Bool, vals.length = m → numB (s.2.1.map (wb vals s.1)) * 2 ^ i + numB (s.2.2.map (wb vals s.1)).reverse = numB (os.map (wb vals gs)) * numB ((ts.take i).map (wb vals gs)).reverse := by
  intro i
  induction i with
  | zero =>
    intro _ s e
    subst e
    have e0 : Ext m gs (gs ++ [.fi 0]) 1 := .fixed (Nat.zero_le _)
    have v0 : ∀ vals : List Bool, vals.length = m → wb vals (gs ++ [.fi 0]) (m + gs.length) = false := fun vals hv => by
      rw [wb_fixed (hv ▸ rfl)]
      rfl
    refine ⟨e0.mono (Nat.le_add_left _ _), by show _ < (gs ++ [_]).length; simp, by show (List.replicate _ _).length = _; simp, rfl, fun w hw => ?_, (fun _ z => nomatch z), v0, fun vals hv => ?_⟩
    · have : w = m + gs.length := (List.mem_replicate.mp hw).2
      rw [this]
      exact len1
    · show numB ((List.replicate os.length (m + gs.length)).map (wb vals (gs ++ [.fi 0]))) * 2 ^ 0 + 0 = numB _ * 0
      rw [List.map_replicate, v0 vals hv, numB_rep]
      simp
  | succ i ih =>
    intro hi s e
    obtain ⟨p, hp⟩ : ∃ p, ts[i]? = some p := ⟨ts[i], List.getElem?_eq_getElem (by omega)⟩
    have es : timF m gs os (ts.take (i + 1)) = tiS m os (m + gs.length) (timF m gs os (ts.take i)) p := fold_take _ hp _
    obtain ⟨h1, hl, ht1, ht2, h2, h2', h4, h3⟩ := ih (by omega) _ rfl
    rw [e, es]
    clear e es
    generalize timF m gs os (ts.take i) = s at *
    have q1 := ht p (List.mem_of_getElem? hp)
    have l := h1.len
    have R := rowW_ok (m := m) (o := p) (gs := s.1) (os := os) (fun a ha => by have := ho a ha; omega) (by omega)
    have hs : tiS m os (m + gs.length) s p = ((sumW m (rowW m s.1 os p).1 s.2.1 (rowW m s.1 os p).2 (m + gs.length)).1, (sumW m (rowW m s.1 os p).1 s.2.1 (rowW m s.1 os p).2 (m + gs.length)).2.dropLast, s.2.2 ++ [(sumW m (rowW m s.1 os p).1 s.2.1 (rowW m s.1 os p).2 (m + gs.length)).2.getLastD 0]) := rfl
    rw [hs]
    clear hs
    have lR : (rowW m s.1 os p).2.length = os.length := by
      have := (rowW_at (m := m) (o := p) (gs := gs) os (s.1, [])).2
      rw [List.length_nil, Nat.zero_add] at this
      exact this
    have lRe := R.ext.len
    generalize rowW m s.1 os p = R0 at *
    have hl2 : s.2.1.length = R0.2.length := by omega
    have S := sumW_ok (m := m) (gs := R0.1) (os := s.2.1) (ts := R0.2) (c := m + gs.length) hl2 (fun a ha => by have := h2 a ha; omega) R.lt (by omega)
    have lS := sumW_len (m := m) (gs := R0.1) (os := s.2.1) (ts := R0.2) (c := m + gs.length) hl2 (fun a ha => by have := h2 a ha; omega) R.lt (by omega)
    generalize sumW m R0.1 s.2.1 R0.2 (m + gs.length) = S0 at *
    have lSe := S.ext.len
    have hne : S0.2 ≠ [] := fun z => by rw [z] at lS; cases lS
    have dl := dl_last (d := 0) hne
    have lD : S0.2.dropLast.length = os.length := by rw [List.length_dropLast]; omega
    have eRS := R.ext.trans S.ext
    refine ⟨((h1.trans R.ext).trans S.ext).mono ?_, by show _ < S0.1.length; omega, lD, by show (s.2.2 ++ [_]).length = _; rw [List.length_append, ht2]; rfl, fun w hw => S.lt w (List.dropLast_subset _ hw), fun w hw => ?_, fun vals hv => ?_, fun vals hv => ?_⟩
    · rw [ht1, Nat.mul_succ, show 6 * os.length = 5 * os.length + os.length by omega]
      omega
    · show w < m + S0.1.length
      rcases List.mem_append.mp hw with z | z
      · have := h2' w z
        omega
      · rw [List.mem_singleton.mp z]
        refine S.lt _ ?_
        have t : S0.2.getLastD 0 ∈ S0.2.dropLast ++ [S0.2.getLastD 0] := List.mem_append.mpr (.inr (List.mem_singleton.mpr rfl))
        rw [← dl] at t
        exact t
    · exact (eRS.wb hv (by omega)).trans (h4 vals hv)
    · have v := S.val vals hv
      rw [dl, List.map_append] at v
      have vn := congrArg numB v
      rw [sumB_num (by simpa using hl2)] at vn
      rw [R.ext.wbs hv h2, R.val vals hv] at vn
      have z0 : wb vals R0.1 (m + gs.length) = false := (R.ext.wb hv (by omega)).trans (h4 vals hv)
      rw [z0] at vn
      have er : (os.map fun q => (wb vals s.1 q && wb vals s.1 p)) = (os.map (wb vals gs)).map (· && wb vals gs p) := by
        rw [List.map_map]
        refine List.map_congr_left fun q hq => ?_
        show _ = (wb vals gs q && wb vals gs p)
        rw [h1.wb hv (ho q hq), h1.wb hv q1]
      rw [er, rowB_num] at vn
      have e1 : numB (List.map (wb vals S0.1) S0.2.dropLast ++ List.map (wb vals S0.1) [S0.2.getLastD 0]) = 2 * numB (S0.2.dropLast.map (wb vals S0.1)) + (wb vals S0.1 (S0.2.getLastD 0)).toNat := numB_snoc _ _
      rw [e1] at vn
      have h := h3 vals hv
      show numB (S0.2.dropLast.map (wb vals S0.1)) * 2 ^ (i + 1) + numB ((s.2.2 ++ [S0.2.getLastD 0]).map (wb vals S0.1)).reverse = _
      rw [List.map_append, eRS.wbs hv h2']
      show _ + numB (List.map (wb vals s.1) s.2.2 ++ [_]).reverse = _
      rw [numB_rev_snoc, List.length_map, ht2, List.take_add_one, hp, List.map_append]
      show _ = numB _ * numB ((ts.take i).map (wb vals gs) ++ [_]).reverse
      rw [numB_rev_snoc, List.length_map, show (ts.take i).length = i by rw [List.length_take]; omega, Nat.mul_add, ← h]
      generalize numB (S0.2.dropLast.map (wb vals S0.1)) = D at *
      generalize (wb vals S0.1 (S0.2.getLastD 0)).toNat = L at *
      generalize numB (s.2.1.map (wb vals s.1)) = T at *
      generalize numB (os.map (wb vals gs)) = O at *
      generalize (wb vals gs p).toNat = B at *
      generalize numB (s.2.2.map (wb vals s.1)).reverse = F at *
      have vn' : (2 * D + L) * 2 ^ i = (T + O * B) * 2 ^ i := by
        rw [vn]
        simp
      rw [Nat.add_mul, Nat.add_mul, Nat.mul_assoc O, Nat.mul_comm 2 D, Nat.mul_assoc D 2] at vn'
      rw [Nat.pow_succ, Nat.mul_comm (2 ^ i) 2]
      omega
theorem timW_ok {m : Nat} {gs : List Gt} {os ts : List Nat} (ho : ∀ p ∈ os, p < m + gs.length) (ht : ∀ p ∈ ts, p < m + gs.length) (h0 : 0 < os.length) : Ext m gs (timW m gs os ts).1 (6 * os.length * ts.length + 1) ∧ (timW m gs os ts).2.length = os.length + ts.length ∧ (∀ w ∈ (timW m gs os ts).2, w < m + (timW m gs os ts).1.length) ∧ ∀ vals : List Bool, vals.length = m → numB ((timW m gs os ts).2.map (wb vals (timW m gs os ts).1)) = numB (os.map (wb vals gs)) * numB (ts.map (wb vals gs)) := by
  obtain ⟨h1, _, ht1, ht2, h2, h2', _, h3⟩ := timF_ok (ts := ts.reverse) ho (fun p hp => ht p (List.mem_reverse.mp hp)) h0 _ (Nat.le_refl _) _ rfl
  rw [List.take_length] at h1 ht1 ht2 h2 h2' h3
  rw [List.length_reverse] at h1 ht2 h3
  unfold timW
  generalize timF m gs os ts.reverse = s at *
  refine ⟨h1, by rw [List.length_append, List.length_reverse, ht1, ht2], fun w hw => ?_, fun vals hv => ?_⟩
  · rcases List.mem_append.mp hw with z | z
    · exact h2 w z
    · exact h2' w (List.mem_reverse.mp z)
  · have h := h3 vals hv
    show numB ((s.2.1 ++ s.2.2.reverse).map (wb vals s.1)) = _
    rw [List.map_append, numB_app, List.length_map, List.length_reverse, ht2, List.map_reverse, h, List.map_reverse, List.reverse_reverse]
/-! ### differences of wires, and the guess's net -/
def noS (m : Nat) (s : List Gt × List Nat) (a : Nat) : List Gt × List Nat := (s.1 ++ [.w "other" [a]], s.2 ++ [m + s.1.length])
def notW (m : Nat) (gs : List Gt) (ws : List Nat) : List Gt × List Nat := ws.foldl (noS m) (gs, [])
theorem notW_at {m : Nat} : ∀ (os : List Nat) (s : List Gt × List Nat), (os.foldl (noS m) s).1.length = s.1.length + os.length ∧ (os.foldl (noS m) s).2.length = s.2.length + os.length
  | [], s => ⟨rfl, rfl⟩
  | a :: l, s => by
    obtain ⟨h1, h2⟩ := notW_at l (noS m s a)
    rw [List.foldl_cons, h1, h2]
    unfold noS
    simp only [List.length_append, List.length_cons, List.length_nil]
    omega
theorem notW_ok {m : Nat} {gs : List Gt} {os : List Nat} (hw : ∀ p ∈ os, p < m + gs.length) : WL m gs os.length (notW m gs os) (fun e => os.map fun p => !(e p)) := by
  have h := fold_inv (fun i (s : List Gt × List Nat) => Ext m gs s.1 i ∧ (∀ w ∈ s.2, w < m + s.1.length) ∧ ∀ vals : List Bool, vals.length = m → s.2.map (wb vals s.1) = (os.take i).map fun p => !(wb vals gs p)) (noS m) os (gs, []) ⟨.refl, (fun _ z => nomatch z), fun _ _ => rfl⟩ (fun i p s hp ⟨h1, h2, h3⟩ => by
    have q1 := hw p (List.mem_of_getElem? hp)
    have l := h1.len
    have e : Ext m s.1 (s.1 ++ [.w "other" [p]]) 1 := .other (by omega)
    refine ⟨h1.trans e, fun a ha => ?_, fun vals hv => ?_⟩
    · rcases List.mem_append.mp ha with z | z
      · exact lt1 (h2 a z)
      · rw [List.mem_singleton.mp z]
        exact len1
    · show (s.2 ++ [_]).map (wb vals (s.1 ++ [Gt.w "other" [p]])) = _
      rw [List.map_append, e.wbs hv h2, h3 vals hv, List.take_add_one, hp, List.map_append]
      congr 1
      show [_] = [_]
      congr 1
      rw [wb_other (hv ▸ rfl), h1.wb hv q1])
  obtain ⟨h1, h2, h3⟩ := h
  exact ⟨h1, h2, fun vals hv => by
    rw [List.take_of_length_le (Nat.le_refl _)] at h3
    exact h3 vals hv⟩
theorem numB_not : ∀ bs : List Bool, numB (bs.map (!·)) + numB bs + 1 = 2 ^ bs.length
  | [] => rfl
  | b :: bs => by
    have := numB_not bs
    rw [List.map_cons, numB_cons, numB_cons, List.length_map, List.length_cons, Nat.pow_succ]
    cases b <;> simp <;> omega
def lsW (m : Nat) (gs : List Gt) (os ts : List Nat) : List Gt × List Nat := sumW m ((notW m gs ts).1 ++ [.fi 1]) os (notW m gs ts).2 (m + (notW m gs ts).1.length)
theorem lsW_ok {m : Nat} {gs : List Gt} {os ts : List Nat} (hl : os.length = ts.length) (ho : ∀ w ∈ os, w < m + gs.length) (ht : ∀ w ∈ ts, w < m + gs.length) : Ext m gs (lsW m gs os ts).1 (6 * os.length + 1) ∧ (lsW m gs os ts).2.length = os.length + 1 ∧ (∀ w ∈ (lsW m gs os ts).2, w < m + (lsW m gs os ts).1.length) ∧
    ∀ vals : List Bool, vals.length = m → numB (ts.map (wb vals gs)) ≤ numB (os.map (wb vals gs)) → numB ((lsW m gs os ts).2.tail.map (wb vals (lsW m gs os ts).1)) = numB (os.map (wb vals gs)) - numB (ts.map (wb vals gs)) := by
  have T := notW_ok (m := m) ht
  have lT := (notW_at (m := m) ts (gs, [])).2
  rw [show ts.foldl (noS m) (gs, []) = notW m gs ts from rfl] at lT
  dsimp only [List.length_nil] at lT
  unfold lsW
  generalize notW m gs ts = T0 at *
  have lTe := T.ext.len
  have e1 : Ext m T0.1 (T0.1 ++ [.fi 1]) 1 := .fixed (Nat.le_refl _)
  have l1 : (T0.1 ++ [Gt.fi 1]).length = T0.1.length + 1 := by simp
  have hl2 : os.length = T0.2.length := by omega
  have ho' : ∀ w ∈ os, w < m + (T0.1 ++ [Gt.fi 1]).length := fun w h => by have := ho w h; omega
  have ht' : ∀ w ∈ T0.2, w < m + (T0.1 ++ [Gt.fi 1]).length := fun w h => by have := T.lt w h; omega
  have S := sumW_ok (m := m) (gs := T0.1 ++ [.fi 1]) (os := os) (ts := T0.2) (c := m + T0.1.length) hl2 ho' ht' len1
  have lS := sumW_len (m := m) (gs := T0.1 ++ [.fi 1]) (os := os) (ts := T0.2) (c := m + T0.1.length) hl2 ho' ht' len1
  generalize sumW m (T0.1 ++ [.fi 1]) os T0.2 (m + T0.1.length) = S0 at *
  refine ⟨((T.ext.trans e1).trans S.ext).mono (by omega), lS, S.lt, fun vals hv hle => ?_⟩
  have v := congrArg numB (S.val vals hv)
  rw [sumB_num (by simpa using hl2)] at v
  have ec : wb vals (T0.1 ++ [.fi 1]) (m + T0.1.length) = true := by
    rw [wb_fixed (hv ▸ rfl)]
    rfl
  rw [ec, (T.ext.trans e1).wbs hv ho, e1.wbs hv T.lt, T.val vals hv] at v
  have en : (ts.map fun p => !(wb vals gs p)) = (ts.map (wb vals gs)).map (!·) := by rw [List.map_map]; rfl
  rw [en] at v
  have hn := numB_not (ts.map (wb vals gs))
  rw [List.length_map] at hn
  cases hS : S0.2 with
  | nil => rw [hS] at lS; cases lS
  | cons x xs =>
    rw [hS] at v lS
    rw [List.map_cons, numB_cons, List.length_map] at v
    rw [List.length_cons] at lS
    have lx : xs.length = ts.length := by omega
    have b1 := numB_lt (xs.map (wb vals S0.1))
    rw [List.length_map] at b1
    have b2 := numB_lt (os.map (wb vals gs))
    rw [List.length_map, hl] at b2
    show numB (xs.map (wb vals S0.1)) = _
    rw [lx] at v b1
    simp only [Bool.toNat_true] at v
    generalize numB ((ts.map (wb vals gs)).map (!·)) = A at *
    generalize numB (ts.map (wb vals gs)) = B at *
    generalize numB (os.map (wb vals gs)) = O at *
    generalize numB (xs.map (wb vals S0.1)) = R at *
    generalize 2 ^ ts.length = P at *
    generalize wb vals S0.1 x = b at *
    cases b
    · simp at v
      omega
    · simp at v
      omega
section
variable {P : Program} {w : World} {K : PySem.W.Frag} {mg : Str → Option Value} {base : Heap}
variable {C : Addr} {a1 a2 a3 a4 a5 a6 a7 a8 a9 a10 a11 a12 a13 a14 a15 a16 a17 a18 a19 a20 a21 a22 a23 a24 a25 a26 a27 a28 a29 a30 a31 a32 a33 a34 a35 a36 a37 a38 : Addr} {l1 l2 l3 l4 l5 l6 l7 l8 l9 l10 l11 l12 l13 l14 l15 l16 l17 l18 l19 l20 l21 l22 l23 l24 l25 l26 l27 l28 l29 l30 l31 l32 l33 l34 l35 l36 l37 l38 : FuncData}
/-! ### wires of parts: the program's own -/
theorem at_nts {ws : List Nat} {a : Nat} (h : a < ws.length) : atI (nts ws) (a : Int) = some (.int ((ws.getD a 0 : Nat) : Int)) := atI_nat (by
  unfold nts
  rw [List.getElem?_map, List.getElem?_eq_getElem h]
  simp [List.getD, List.getElem?_eq_getElem h])
theorem cutN_to (ws : List Nat) (p : Nat) (h : p ≤ ws.length) : cutV (nts ws) none (some (p : Int)) = nts (ws.take p) := by
  unfold cutV nts
  rw [HT.sIx_none, HT.sIx_nat, List.drop_zero, List.length_map, Nat.sub_zero, Nat.min_eq_left h, List.map_take]
theorem cutN_from (ws : List Nat) (p : Nat) (h : p ≤ ws.length) : cutV (nts ws) (some (p : Int)) none = nts (ws.drop p) := by
  unfold cutV nts
  rw [HT.sIx_none, HT.sIx_nat, List.length_map, Nat.min_eq_left h, ← List.map_drop, List.take_of_length_le (by rw [List.length_map, List.length_drop]; exact Nat.le_refl _)]
theorem nts_app (a b : List Nat) : nts (a ++ b) = nts a ++ nts b := List.map_append
theorem big_lt {n : Nat} (h : n ≤ 500000) : n < sizeLine := Nat.lt_of_le_of_lt h (by decide)
theorem ks_none {S : List Addr} {H H' : Hp} (k : KeepS S H H') {a : Addr} (h : H' a = none) : H a = none := by
  cases e : H a with
  | none => rfl
  | some o => exact absurd h (k.2 a (some_ne e))
theorem ks_updN {S : List Addr} {H H' : Hp} (k : KeepS S H H') {D : Addr} {o : HO} (n : H D = none) : KeepS S H (upd H' D o) := ⟨fun y u e z => by
  rw [upd_ne (ne_of_none e n)]
  exact k.1 y u e z, fun y e => by
  rw [upd_ne (show y ≠ D from fun z => e (by rw [z]; exact n))]
  exact k.2 y e⟩
theorem NetAt.nin {C : Addr} {Z : List Addr} {H : Hp} {p : NetP} {m : Nat} {gs : List Gt} {nm : List (Str × List Nat)} (h : NetAt C Z H p m gs nm) {a : Addr} (n : H a = none) : a ∉ [p.lm, p.ld] := by
  obtain ⟨_, _, _, dx, ps, kvs, e1, e2, e3, _⟩ := h
  intro z
  rcases List.mem_cons.mp z with rfl | z
  · rw [e2] at n; cases n
  · rw [List.mem_singleton.mp z, e3] at n; cases n
theorem NetAt.add {C : Addr} {Z : List Addr} {H : Hp} {p : NetP} {m : Nat} {gs : List Gt} {nm : List (Str × List Nat)} {D : Addr} {o : HO} (h : NetAt C Z H p m gs nm) (n : H D = none) : NetAt C (D :: Z) (upd H D o) p m gs nm := by
  have k := same_upd (o := o) n
  obtain ⟨a, b, ⟨c1, c2, c3, c4⟩, dx, ps, kvs, e1, e2, e3, e4, ⟨g1, g2⟩, n1, n2, n3⟩ := h
  have ne : ∀ {y : Addr} {u : HO}, H y = some u → y ≠ D := fun e z => by rw [z, n] at e; cases e
  have ni : ∀ {y : Addr} {u : HO}, H y = some u → y ∉ Z → y ∉ D :: Z := fun e z y => by
    rcases List.mem_cons.mp y with w | w
    · exact ne e w
    · exact z w
  refine ⟨fun z hz => ?_, b, ⟨ni e1 c1, ni e2 c2, ni e3 c3, ni e4 c4⟩, dx, ps, kvs, k _ _ e1, k _ _ e2, k _ _ e3, k _ _ e4, ⟨g1, fun i q g hi hg => ?_⟩, n1, n2, fun i k' v n' ws hi hn => ?_⟩
  · rcases List.mem_cons.mp hz with w | w
    · rw [w, upd_same]
      exact fun z => nomatch z
    · exact (KeepS.ofSame (S := []) k).2 z (a z w)
  · have := g2 i q g hi hg
    exact ⟨ni this.2 this.1, k _ _ this.2⟩
  · obtain ⟨ek, l, ev, l1, l2, l3, l4⟩ := n3 i k' v n' ws hi hn
    exact ⟨ek, l, ev, ni l4 l1, l2, l3, k _ _ l4⟩
theorem NetAt.less {C : Addr} {Z : List Addr} {H : Hp} {p : NetP} {m : Nat} {gs : List Gt} {nm : List (Str × List Nat)} {D : Addr} (h : NetAt C (D :: Z) H p m gs nm) : NetAt C Z H p m gs nm := by
  obtain ⟨a, b, ⟨c1, c2, c3, c4⟩, dx, ps, kvs, e1, e2, e3, e4, ⟨g1, g2⟩, n1, n2, n3⟩ := h
  have ni : ∀ {y : Addr}, y ∉ D :: Z → y ∉ Z := fun z y => z (List.mem_cons_of_mem _ y)
  refine ⟨fun z hz => a z (List.mem_cons_of_mem _ hz), b, ⟨ni c1, ni c2, ni c3, ni c4⟩, dx, ps, kvs, e1, e2, e3, e4, ⟨g1, fun i q g hi hg => ?_⟩, n1, n2, fun i k' v n' ws hi hn => ?_⟩
  · have := g2 i q g hi hg
    exact ⟨ni this.1, this.2⟩
  · obtain ⟨ek, l, ev, l1, l2, l3, l4⟩ := n3 i k' v n' ws hi hn
    exact ⟨ek, l, ev, ni l1, l2, l3, l4⟩
theorem NetAt.put {C : Addr} {Z : List Addr} {H : Hp} {p : NetP} {m : Nat} {gs : List Gt} {nm : List (Str × List Nat)} {D : Addr} {o : HO} (h : NetAt C Z H p m gs nm) (hD : D ∈ Z) : NetAt C Z (upd H D o) p m gs nm := h.keep (S := [D]) (.upd (List.mem_singleton.mpr rfl)) (fun y hy => by rw [List.mem_singleton.mp hy]; exact hD)
theorem Sq2.keepS {t : Bool} {K : PySem.W.Frag} {S : List Addr} {a : Addr} {H H' : Hp} {xs : List V} (h : Sq2 t K H a xs) (e : KeepS S H H') (n : a ∉ S) : Sq2 t K H' a xs := by
  cases t
  · exact e.seq n h
  · exact e.seqT n h
theorem nts_zip {os ts : List Nat} {i : Nat} {x y : V} (hx : (nts os)[i]? = some x) (hy : (nts ts)[i]? = some y) : ∃ a b, (os.zip ts)[i]? = some (a, b) ∧ x = .int ((a : Nat) : Int) ∧ y = .int ((b : Nat) : Int) := by
  obtain ⟨a, ha, rfl⟩ := nts_at hx
  obtain ⟨b, hb, rfl⟩ := nts_at hy
  exact ⟨a, b, List.getElem?_zip_eq_some.mpr ⟨ha, hb⟩, rfl, rfl⟩
theorem Sq2.at {t : Bool} {K : PySem.W.Frag} {H : Hp} {a : Addr} {xs : List V} {i : Int} {v : V} {y : Str → Prop} {Q : VK} (h : Sq2 t K H a xs) (e : atI xs i = some v) (q : Q v H) : rIx K (.ref a) (.int i) H Q := by
  cases t
  · exact .inl ⟨a, xs, i, v, rfl, rfl, h, e, q⟩
  · exact .inr (.inl ⟨a, xs, i, v, rfl, rfl, h, e, q⟩)
/-! ### sums of wires, walked -/
theorem ks_drop {S : List Addr} {H H2 H9 : Hp} {R : Addr} (a : KeepS S H H2) (b : KeepS (R :: S) H2 H9) (n : H R = none) : KeepS S H H9 := ⟨fun y o e ny => b.1 y o (a.1 y o e ny) (fun z => by
  rcases List.mem_cons.mp z with z | z
  · rw [z, n] at e
    cases e
  · exact ny z), fun y e => b.2 y (a.2 y e)⟩
theorem nts_rev (ws : List Nat) : (nts ws).reverse = nts ws.reverse := List.map_reverse.symm
theorem ninR {R a : Addr} {S : List Addr} (h : a ∉ S) (n : a ≠ R) : a ∉ R :: S := fun z => by
  rcases List.mem_cons.mp z with z | z
  · exact n z
  · exact h z
def spSum (K : PySem.W.Frag) (C : Addr) : Sp := fun vs H Q _ => ∃ (Z : List Addr) (p : NetP) (m : Nat) (gs : List Gt) (nm : List (Str × List Nat)) (t u : Addr) (b1 b2 : Bool) (os ts : List Nat) (c : Nat), vs = [.ref p.x, .ref t, .ref u, .int (c : Int)] ∧ NetAt C Z H p m gs nm ∧ Sq2 b1 K H t (nts os) ∧ Sq2 b2 K H u (nts ts) ∧ os.length = ts.length ∧ (∀ w ∈ os, w < m + gs.length) ∧ (∀ w ∈ ts, w < m + gs.length) ∧ c < m + gs.length ∧ os.length ≤ 2000 ∧ m + gs.length ≤ 300000 ∧
  ∀ D H', KeepS [p.lm, p.ld] H H' → NetAt C Z H' p m (sumW m gs os ts c).1 nm → H D = none → H' D = some (.lst (nts (sumW m gs os ts c).2)) → Q (.ref D) H'
theorem ok_sum_wires (B : Bl mg) (L : LL K mg C a1 a2 a3 a4 a5 a6 a7 a8 a9 a10 a11 a12 a13 a14 a15 a16 a17 a18 a19 a20 a21 a22 a23 a24 a25 a26 a27 a28 a29 a30 a31 a32 a33 a34 a35 a36 a37 a38 l1 l2 l3 l4 l5 l6 l7 l8 l9 l10 l11 l12 l13 l14 l15 l16 l17 l18 l19 l20 l21 l22 l23 l24 l25 l26 l27 l28 l29 l30 l31 l32 l33 l34 l35 l36 l37 l38) : FnOk P w K mg base CX0 5 a1 l1 ["net", "ones", "others", "carry"] (spSum K C) := by
  have G_Net_unlike : FnOk P w K mg base CX0 4 a27 l27 ["self", "a", "b"] (spG2 C "unlike") := (ok_Net_unlike B L).mono (by decide)
  have G_Net_both : FnOk P w K mg base CX0 4 a25 l25 ["self", "a", "b"] (spG2 C "both") := (ok_Net_both B L).mono (by decide)
  have G_Net_either : FnOk P w K mg base CX0 4 a26 l26 ["self", "a", "b"] (spG2 C "either") := (ok_Net_either B L).mono (by decide)
  refine L.F_sum_wires.ok sc_sum_wires (fun vs H Q E h => ?_) (fun cdv A outer s H vs Q E hr h => ?_)
  · obtain ⟨Z, p, m, gs, nm, t, u, b1, b2, os, ts, c, rfl, _⟩ := h
    rfl
  obtain ⟨Z, p, m, gs, nm, t, u, b1, b2, os, ts, c, rfl, hN, hT, hU, hlen, ho, hs, hc, hl, hl2, q⟩ := h
  refine ⟨_, (pss_cons (ps_set (i := 4) sc_sum_wires.nd rfl (.inl rfl) (pe_lst pa_nil))
    (pss_cons (ps_for PassesOwn.never rfl (pi_zb (by rfl) B.zip (pa_cons (pe_revS (pv 1)) (pa_cons (pe_revS (pv 2)) pa_nil))) (pg_tup (by rfl) (pgs_cons (pg_name (i := 5) sc_sum_wires.nd rfl (.inl rfl)) (pgs_cons (pg_name (i := 6) sc_sum_wires.nd rfl (.inl rfl)) pgs_nil))) (pss_cons (ps_set (i := 7) sc_sum_wires.nd rfl (.inl rfl) (pe_meth (pv 0) L.T.cl L.M_Net_unlike G_Net_unlike hr L.b_Net_unlike .nil pass0 (pa_cons (pv 5) (pa_cons (pv 6) pa_nil))))
    (pss_cons (ps_expr (pe_bm PySem.F.plainAttrs_list PySem.F.slot_list_append PySem.F.type_list_append mt_append (pv 4) (pa_cons (pe_meth (pv 0) L.T.cl L.M_Net_unlike G_Net_unlike hr L.b_Net_unlike .nil pass0 (pa_cons (pv 7) (pa_cons (pv 3) pa_nil))) pa_nil)))
    (pss_one (ps_set (i := 3) sc_sum_wires.nd rfl (.inl rfl) (pe_meth (pv 0) L.T.cl L.M_Net_either G_Net_either hr L.b_Net_either .nil pass0 (pa_cons (pe_meth (pv 0) L.T.cl L.M_Net_both G_Net_both hr L.b_Net_both .nil pass0 (pa_cons (pv 5) (pa_cons (pv 6) pa_nil))) (pa_cons (pe_meth (pv 0) L.T.cl L.M_Net_both G_Net_both hr L.b_Net_both .nil pass0 (pa_cons (pv 7) (pa_cons (pv 3) pa_nil))) pa_nil))))))))
    (pss_one (ps_ret (pe_lst (pa_cons (pv 3) (StX.pa_star (pe_revL (pv 4)) pa_nil))))))), ?_⟩
  refine ⟨Nat.zero_le _, fun R nR => ?_⟩
  have nR2 := hN.nin nR
  have N0 := hN.add (o := .lst []) nR
  have k0 : KeepS [p.lm, p.ld] H (upd H R (.lst [])) := KeepS.new nR
  have eR0 : (upd H R (.lst [])) R = some (.lst []) := upd_same
  have hT0 := hT.keepS (S := []) (KeepS.new (o := .lst []) nR) (fun z => nomatch z)
  have hU0 := hU.keepS (S := []) (KeepS.new (o := .lst []) nR) (fun z => nomatch z)
  generalize upd H R (.lst []) = H0 at *
  try simp only [L2.start, List.map_cons, List.map_nil, List.length_cons, List.length_nil, List.replicate_succ, List.replicate_zero, List.cons_append, List.nil_append, List.set_cons_succ, List.set_cons_zero, Nat.reduceAdd, Nat.reduceSub, Nat.zero_add]
  dsimp only [gName]
  try simp only [L2.start, List.map_cons, List.map_nil, List.length_cons, List.length_nil, List.replicate_succ, List.replicate_zero, List.cons_append, List.nil_append, List.set_cons_succ, List.set_cons_zero, Nat.reduceAdd, Nat.reduceSub, Nat.zero_add]
  refine ⟨_, rfl, b1, t, _, rfl, hT0, fun A1 nA1 => ?_⟩
  rw [nts_rev]
  have sA1 := same_upd (o := sqO b1 (nts os.reverse)) nA1
  have eA1 : Sq2 b1 K (upd H0 A1 (sqO b1 (nts os.reverse))) A1 (nts os.reverse) := Sq2.new
  have nA12 := N0.nin nA1
  have nA1R : A1 ≠ R := fun z => by rw [z, eR0] at nA1; cases nA1
  have N1 := N0.same sA1
  have hU1 := hU0.keepS (S := []) (.ofSame sA1) (fun z => nomatch z)
  have eR1 := sA1 _ _ eR0
  have k1 := k0.trans (.ofSame sA1)
  generalize upd H0 A1 (sqO b1 (nts os.reverse)) = H1 at *
  refine ⟨_, rfl, b2, u, _, rfl, hU1, fun A2 nA2 => ?_⟩
  rw [nts_rev]
  have sA2 := same_upd (o := sqO b2 (nts ts.reverse)) nA2
  have eA2 : Sq2 b2 K (upd H1 A2 (sqO b2 (nts ts.reverse))) A2 (nts ts.reverse) := Sq2.new
  have nA22 := N1.nin nA2
  have nA2R : A2 ≠ R := fun z => by rw [z, eR1] at nA2; cases nA2
  have N2 := N1.same sA2
  have eA1' := eA1.keepS (S := []) (.ofSame sA2) (fun z => nomatch z)
  have eR2 := sA2 _ _ eR1
  have k2 := k1.trans (.ofSame sA2)
  generalize upd H1 A2 (sqO b2 (nts ts.reverse)) = H2 at *
  refine ⟨b1, b2, A1, A2, _, _, rfl, eA1', eA2, ?_⟩
  have hF := fun i hi => sumF_ok (m := m) (gs := gs) (ps := os.reverse.zip ts.reverse) (c := c) (fun p hp => ⟨ho _ (mem_zipR hp).1, hs _ (mem_zipR hp).2⟩) hc i hi _ rfl
  have lz := zipR_len hlen
  rw [lz] at hF
  refine for_it (walk_zb (K := K) (t1 := b1) (t2 := b2) (a := A1) (b := A2) (xs := nts os.reverse) (ys := nts ts.reverse) (n := os.length) (by rw [nts_len, List.length_reverse]) (by rw [nts_len, List.length_reverse, hlen])) (fun j σ H9 => ∃ y5 y6 y7 : Option V, σ = [some (.ref p.x), some (.ref t), some (.ref u), some (.int ((sumF m gs ((os.reverse.zip ts.reverse).take j) c).2.2 : Nat)), some (.ref R), y5, y6, y7] ∧ KeepS [R, p.lm, p.ld] H2 H9 ∧ NetAt C (R :: Z) H9 p m (sumF m gs ((os.reverse.zip ts.reverse).take j) c).1 nm ∧ H9 R = some (.lst (nts (sumF m gs ((os.reverse.zip ts.reverse).take j) c).2.1))) ⟨_, _, _, rfl, KeepS.refl _ _, N2, eR2⟩ (fun j σ H9 _ ⟨_, _, _, _, k9, _⟩ => ⟨eA1'.keepS k9 (ninR nA12 nA1R), eA2.keepS k9 (ninR nA22 nA2R)⟩) ?_ ?_
  · rintro j v σ H9 H10 hj ⟨y5, y6, y7, rfl, k9, N9, eR⟩ ⟨T, x, y, rfl, nT, rfl, hx, hy⟩
    obtain ⟨a, b, hab, rfl, rfl⟩ := nts_zip hx hy
    have hp := List.mem_of_getElem? hab
    have la := ho _ (mem_zipR hp).1
    have lb := hs _ (mem_zipR hp).2
    have estep : sumF m gs ((os.reverse.zip ts.reverse).take (j + 1)) c = suS m (sumF m gs ((os.reverse.zip ts.reverse).take j) c) (a, b) := fold_take _ hab _
    rw [estep]
    obtain ⟨_, lg, lt', _, l4, _⟩ := hF j (by omega)
    generalize sumF m gs ((os.reverse.zip ts.reverse).take j) c = S at *
    have sT := same_upd (o := .tup [.int (a : Int), .int (b : Int)]) nT
    have N10 := N9.same sT
    have eT : (upd H9 T (.tup [.int (a : Int), .int (b : Int)])) T = some (.tup [.int (a : Int), .int (b : Int)]) := upd_same
    have eR10 := sT _ _ eR
    have k10 := k9.trans (.ofSame sT)
    generalize upd H9 T (.tup [.int (a : Int), .int (b : Int)]) = H10 at *
    refine ⟨T, _, rfl, .inl (.inl eT), rfl, _, _, rfl, _, _, rfl, rfl, ?_⟩
    try simp only [L2.start, List.map_cons, List.map_nil, List.length_cons, List.length_nil, List.replicate_succ, List.replicate_zero, List.cons_append, List.nil_append, List.set_cons_succ, List.set_cons_zero, Nat.reduceAdd, Nat.reduceSub, Nat.zero_add]
    obtain ⟨_, _, _, dx2, _, _, f1, _⟩ := id N10
    refine ⟨_, rfl, p.x, dx2, _, rfl, f1, rfl, _, rfl, _, rfl, R :: Z, p, m, S.1, nm, a, b, rfl, N10, by omega, by omega, by omega, fun H3 k3 N3 => ?_⟩
    have l1 : (S.1 ++ [Gt.w "unlike" [a, b]]).length = S.1.length + 1 := by simp
    have eR3 := k3.1 _ _ eR10 nR2
    dsimp only [gName]
    try simp only [L2.start, List.map_cons, List.map_nil, List.length_cons, List.length_nil, List.replicate_succ, List.replicate_zero, List.cons_append, List.nil_append, List.set_cons_succ, List.set_cons_zero, Nat.reduceAdd, Nat.reduceSub, Nat.zero_add]
    obtain ⟨_, _, _, dx3, _, _, f3, _⟩ := id N3
    refine ⟨_, rfl, .inl ⟨rfl, _, SqL.of eR3⟩, _, rfl, p.x, dx3, _, rfl, f3, rfl, _, rfl, _, rfl, R :: Z, p, m, _, nm, m + S.1.length, S.2.2, rfl, N3, by omega, by omega, by omega, fun H4 k4 N4 => ?_⟩
    have l2 : (S.1 ++ [Gt.w "unlike" [a, b]] ++ [Gt.w "unlike" [m + S.1.length, S.2.2]]).length = S.1.length + 2 := by simp
    have eR4 := k4.1 _ _ eR3 nR2
    have k34 := k3.trans k4
    refine ⟨R, _, _, rfl, rfl, eR4, by rw [nts_len]; exact big_lt (by omega), ?_⟩
    have N5 := N4.put (D := R) (o := .lst (nts S.2.1 ++ [.int ((m + (S.1 ++ [Gt.w "unlike" [a, b]]).length : Nat) : Int)])) (by simp)
    have k5 : KeepS [R, p.lm, p.ld] H2 (upd H4 R (.lst (nts S.2.1 ++ [.int ((m + (S.1 ++ [Gt.w "unlike" [a, b]]).length : Nat) : Int)]))) := (k10.trans (k34.mono fun y hy => List.mem_cons_of_mem _ hy)).trans (KeepS.upd (by simp))
    have eR5 : (upd H4 R (.lst (nts S.2.1 ++ [.int ((m + (S.1 ++ [Gt.w "unlike" [a, b]]).length : Nat) : Int)]))) R = some (.lst (nts (S.2.1 ++ [m + (S.1 ++ [Gt.w "unlike" [a, b]]).length]))) := by
      rw [upd_same, nts_app]
      rfl
    generalize upd H4 R (.lst (nts S.2.1 ++ [.int ((m + (S.1 ++ [Gt.w "unlike" [a, b]]).length : Nat) : Int)])) = H5 at *
    obtain ⟨_, _, _, dx5, _, _, f5, _⟩ := id N5
    refine ⟨_, rfl, p.x, dx5, _, rfl, f5, rfl, ?_⟩
    refine ⟨_, rfl, p.x, dx5, _, rfl, f5, rfl, _, rfl, _, rfl, R :: Z, p, m, _, nm, a, b, rfl, N5, by omega, by omega, by omega, fun H6 k6 N6 => ?_⟩
    have l3 : (S.1 ++ [Gt.w "unlike" [a, b]] ++ [Gt.w "unlike" [m + S.1.length, S.2.2]] ++ [Gt.w "both" [a, b]]).length = S.1.length + 3 := by simp
    obtain ⟨_, _, _, dx6, _, _, f6, _⟩ := id N6
    refine ⟨_, rfl, p.x, dx6, _, rfl, f6, rfl, _, rfl, _, rfl, R :: Z, p, m, _, nm, m + S.1.length, S.2.2, rfl, N6, by omega, by omega, by omega, fun H7 k7 N7 => ?_⟩
    have l4' : (S.1 ++ [Gt.w "unlike" [a, b]] ++ [Gt.w "unlike" [m + S.1.length, S.2.2]] ++ [Gt.w "both" [a, b]] ++ [Gt.w "both" [m + S.1.length, S.2.2]]).length = S.1.length + 4 := by simp
    refine ⟨R :: Z, p, m, _, nm, _, _, rfl, N7, by omega, by omega, by omega, fun H8 k8 N8 => ?_⟩
    have k68 := (k6.trans k7).trans k8
    exact ⟨_, _, _, rfl, k5.trans (k68.mono fun y hy => List.mem_cons_of_mem _ hy), N8, k68.1 _ _ eR5 nR2⟩
  · rintro σ H9 ⟨y5, y6, y7, rfl, k9, N9, eR⟩
    rw [← lz, List.take_length] at N9 eR
    have eW : sumW m gs os ts c = ((sumF m gs (os.reverse.zip ts.reverse) c).1, (sumF m gs (os.reverse.zip ts.reverse) c).2.2 :: (sumF m gs (os.reverse.zip ts.reverse) c).2.1.reverse) := rfl
    have hF' := hF _ (Nat.le_refl _)
    rw [← lz, List.take_length] at hF' ⊢
    rw [eW] at q
    obtain ⟨_, _, lt', _, _, _⟩ := hF'
    generalize sumF m gs (os.reverse.zip ts.reverse) c = S at *
    dsimp only at q
    try simp only [L2.start, List.map_cons, List.map_nil, List.length_cons, List.length_nil, List.replicate_succ, List.replicate_zero, List.cons_append, List.nil_append, List.set_cons_succ, List.set_cons_zero, Nat.reduceAdd, Nat.reduceSub, Nat.zero_add]
    refine ⟨_, rfl, _, rfl, R, _, rfl, SqL.of eR, fun B nB => ?_⟩
    rw [nts_rev]
    have sB := same_upd (o := .lst (nts S.2.1.reverse)) nB
    have eB : (upd H9 B (.lst (nts S.2.1.reverse))) B = some (.lst (nts S.2.1.reverse)) := upd_same
    generalize upd H9 B (.lst (nts S.2.1.reverse)) = H10 at *
    refine ⟨B, _, rfl, .inr (SqL.of eB), ?_⟩
    have k9' := ks_drop k2 k9 nR
    refine ⟨by
      rw [List.append_nil, List.length_cons, nts_len, List.length_reverse]
      exact Nat.le_of_lt (big_lt (by omega)), fun D nD => ?_⟩
    rw [List.append_nil]
    have sD := same_upd (o := .lst (.int (S.2.2 : Int) :: nts S.2.1.reverse)) nD
    exact q D _ (k9'.trans (.ofSame (sB.trans sD))) (N9.less.same (sB.trans sD)) (ks_none (k9'.trans (.ofSame sB)) nD) upd_same
def spAny (K : PySem.W.Frag) (C : Addr) : Sp := fun vs H Q _ => ∃ (Z : List Addr) (p : NetP) (m : Nat) (gs : List Gt) (nm : List (Str × List Nat)) (t : Addr) (ws : List Nat), vs = [.ref p.x, .ref t] ∧ NetAt C Z H p m gs nm ∧ SqL K H t (nts ws) ∧ t ∉ [p.lm, p.ld] ∧ (∀ w ∈ ws, w < m + gs.length) ∧ m + gs.length + ws.length ≤ 400000 ∧
  ∀ H', KeepS [p.lm, p.ld] H H' → NetAt C Z H' p m (anyW m gs ws).1 nm → Q (.int ((anyW m gs ws).2 : Nat)) H'
theorem ok_any_wire (B : Bl mg) (L : LL K mg C a1 a2 a3 a4 a5 a6 a7 a8 a9 a10 a11 a12 a13 a14 a15 a16 a17 a18 a19 a20 a21 a22 a23 a24 a25 a26 a27 a28 a29 a30 a31 a32 a33 a34 a35 a36 a37 a38 l1 l2 l3 l4 l5 l6 l7 l8 l9 l10 l11 l12 l13 l14 l15 l16 l17 l18 l19 l20 l21 l22 l23 l24 l25 l26 l27 l28 l29 l30 l31 l32 l33 l34 l35 l36 l37 l38) : FnOk P w K mg base CX0 5 a2 l2 ["net", "wires"] (spAny K C) := by
  have G_Net_fixed : FnOk P w K mg base CX0 4 a29 l29 ["self", "bit"] (spFixed C) := (ok_Net_fixed B L).mono (by decide)
  have G_Net_either : FnOk P w K mg base CX0 4 a26 l26 ["self", "a", "b"] (spG2 C "either") := (ok_Net_either B L).mono (by decide)
  refine L.F_any_wire.ok sc_any_wire (fun vs H Q E h => ?_) (fun cdv A outer s H vs Q E hr h => ?_)
  · obtain ⟨Z, p, m, gs, nm, t, ws, rfl, _⟩ := h
    rfl
  obtain ⟨Z, p, m, gs, nm, t, ws, rfl, hN, hT, nt, hw, hl, q⟩ := h
  refine ⟨_, (pss_cons (ps_if (pt_cmpR op_eq (pe_callB call_len_seq (by rfl) B.len PySem.boot_len (pa_cons (pv 1) pa_nil)) pe_int (nomark _)) (pss_one (ps_ret (pe_meth (pv 0) L.T.cl L.M_Net_fixed G_Net_fixed hr L.b_Net_fixed .nil pass0 (pa_cons pe_int pa_nil)))) pss_nil)
    (pss_cons (ps_set (i := 2) sc_any_wire.nd rfl (.inl rfl) (pe_ix ix_list (pv 1) pe_int (fun _ _ => rfl)))
    (pss_cons (ps_for PassesOwn.never rfl (pi_list (pe_slice sl_list (pv 1) (po_some pe_int) po_none)) (pg_name (i := 3) sc_any_wire.nd rfl (.inl rfl)) (pss_one (ps_set (i := 2) sc_any_wire.nd rfl (.inl rfl) (pe_meth (pv 0) L.T.cl L.M_Net_either G_Net_either hr L.b_Net_either .nil pass0 (pa_cons (pv 2) (pa_cons (pv 3) pa_nil))))))
    (pss_one (ps_ret (pv 2)))))), ?_⟩
  obtain ⟨_, _, _, dx, _, _, e1, _⟩ := id hN
  refine ⟨_, rfl, t, _, rfl, .inl hT, rfl, _, rfl, ?_⟩
  cases ws with
  | nil =>
    refine iteT ?_
    exact ⟨_, rfl, p.x, dx, _, rfl, e1, rfl, Z, p, m, gs, nm, 0, rfl, hN, by omega, fun H' k N' => q H' k N'⟩
  | cons w ws =>
    refine iteF ?_
    dsimp only [tNext]
    refine ⟨_, rfl, t, _, _, _, rfl, rfl, hT, atI_nat (j := 0) rfl, ?_⟩
    try simp only [L2.start, List.map_cons, List.map_nil, List.length_cons, List.length_nil, List.replicate_succ, List.replicate_zero, List.cons_append, List.nil_append, List.set_cons_succ, List.set_cons_zero, Nat.reduceAdd, Nat.reduceSub, Nat.zero_add]
    dsimp only [gName]
    try simp only [L2.start, List.map_cons, List.map_nil, List.length_cons, List.length_nil, List.replicate_succ, List.replicate_zero, List.cons_append, List.nil_append, List.set_cons_succ, List.set_cons_zero, Nat.reduceAdd, Nat.reduceSub, Nat.zero_add]
    refine ⟨_, rfl, _, rfl, t, _, rfl, hT, fun u nu => ?_⟩
    rw [show cutV (nts (w :: ws)) (some 1) none = nts ws from cutN_from (w :: ws) 1 (by rw [List.length_cons]; omega)]
    have su := same_upd (o := .lst (nts ws)) nu
    have nU := hN.nin nu
    have N1 := hN.same su
    have eu : (upd H u (.lst (nts ws))) u = some (.lst (nts ws)) := upd_same
    generalize upd H u (.lst (nts ws)) = H1 at *
    refine ⟨u, rfl, ⟨_, SqL.of eu⟩, ?_⟩
    refine for_it (walk_list (K := K) (a := u) (xs := nts ws)) (fun j σ H9 => ∃ y : Option V, σ = [some (.ref p.x), some (.ref t), some (.int ((anyW m gs (w :: ws.take j)).2 : Nat)), y] ∧ KeepS [p.lm, p.ld] H1 H9 ∧ NetAt C Z H9 p m (anyW m gs (w :: ws.take j)).1 nm) ⟨_, rfl, KeepS.refl _ _, N1⟩ (fun j σ H9 _ ⟨_, _, k9, _⟩ => k9.seq nU (SqL.of eu)) ?_ ?_
    · rintro j v σ H9 H10 hj ⟨y, rfl, k9, N9⟩ ⟨rfl, hz⟩
      obtain ⟨a, ha, rfl⟩ := nts_at hz
      have A := anyW_ok (m := m) (gs := gs) (ws := w :: ws.take j) (fun x hx => by
        rcases List.mem_cons.mp hx with z | z
        · exact hw x (by rw [z]; simp)
        · exact hw x (List.mem_cons_of_mem _ (List.mem_of_mem_take z)))
      have lA := A.ext.len
      have ltA := A.lt
      have la := hw a (List.mem_cons_of_mem _ (List.mem_of_getElem? ha))
      have lt' : (ws.take j).length ≤ ws.length := by rw [List.length_take]; exact Nat.min_le_right _ _
      simp only [List.length_cons] at lA hl
      have estep : anyW m gs (w :: ws.take (j + 1)) = ((anyW m gs (w :: ws.take j)).1 ++ [.w "either" [(anyW m gs (w :: ws.take j)).2, a]], m + (anyW m gs (w :: ws.take j)).1.length) := fold_take _ ha (gs, w)
      generalize anyW m gs (w :: ws.take j) = S at *
      obtain ⟨_, _, _, dx9, _, _, f1, _⟩ := id N9
      dsimp only [gName]
      try simp only [L2.start, List.map_cons, List.map_nil, List.length_cons, List.length_nil, List.replicate_succ, List.replicate_zero, List.cons_append, List.nil_append, List.set_cons_succ, List.set_cons_zero, Nat.reduceAdd, Nat.reduceSub, Nat.zero_add]
      refine ⟨_, rfl, p.x, dx9, _, rfl, f1, rfl, _, rfl, _, rfl, Z, p, m, S.1, nm, S.2, a, rfl, N9, ltA, by omega, by omega, fun H' k' N' => ?_⟩
      refine ⟨some (.int (a : Int)), ?_, k9.trans k', ?_⟩
      · rw [estep]
        rfl
      · rw [estep]
        exact N'
    · rintro σ H9 ⟨y, rfl, k9, N9⟩
      rw [nts_len, List.take_of_length_le (Nat.le_refl _)] at N9 ⊢
      exact ⟨_, rfl, q H9 ((KeepS.ofSame su).trans k9) N9⟩
def spChosen (K : PySem.W.Frag) (C : Addr) : Sp := fun vs H Q _ => ∃ (Z : List Addr) (p : NetP) (m : Nat) (gs : List Gt) (nm : List (Str × List Nat)) (t u : Addr) (w : Nat) (os ts : List Nat) (b1 b2 : Bool), vs = [.ref p.x, .int (w : Int), .ref t, .ref u] ∧ NetAt C Z H p m gs nm ∧ Sq2 b1 K H t (nts os) ∧ Sq2 b2 K H u (nts ts) ∧ t ∉ [p.lm, p.ld] ∧ u ∉ [p.lm, p.ld] ∧ os.length = ts.length ∧ w < m + gs.length ∧ (∀ w ∈ os, w < m + gs.length) ∧ (∀ w ∈ ts, w < m + gs.length) ∧ m + gs.length + 3 * os.length ≤ 400000 ∧
  ∀ D H', KeepS [p.lm, p.ld] H H' → NetAt C Z H' p m (chosenW m gs w (os.zip ts)).1 nm → H D = none → H' D = some (.lst (nts (chosenW m gs w (os.zip ts)).2)) → Q (.ref D) H'
theorem ok_chosen_wires (B : Bl mg) (L : LL K mg C a1 a2 a3 a4 a5 a6 a7 a8 a9 a10 a11 a12 a13 a14 a15 a16 a17 a18 a19 a20 a21 a22 a23 a24 a25 a26 a27 a28 a29 a30 a31 a32 a33 a34 a35 a36 a37 a38 l1 l2 l3 l4 l5 l6 l7 l8 l9 l10 l11 l12 l13 l14 l15 l16 l17 l18 l19 l20 l21 l22 l23 l24 l25 l26 l27 l28 l29 l30 l31 l32 l33 l34 l35 l36 l37 l38) : FnOk P w K mg base CX0 5 a6 l6 ["net", "wire", "ones", "others"] (spChosen K C) := by
  have G_Net_other : FnOk P w K mg base CX0 4 a28 l28 ["self", "a"] (spG1 C) := (ok_Net_other B L).mono (by decide)
  have G_Net_either : FnOk P w K mg base CX0 4 a26 l26 ["self", "a", "b"] (spG2 C "either") := (ok_Net_either B L).mono (by decide)
  have G_Net_both : FnOk P w K mg base CX0 4 a25 l25 ["self", "a", "b"] (spG2 C "both") := (ok_Net_both B L).mono (by decide)
  refine L.F_chosen_wires.ok sc_chosen_wires (fun vs H Q E h => ?_) (fun cdv A outer s H vs Q E hr h => ?_)
  · obtain ⟨Z, p, m, gs, nm, t, u, w, os, ts, b1, b2, rfl, _⟩ := h
    rfl
  obtain ⟨Z, p, m, gs, nm, t, u, w, os, ts, b1, b2, rfl, hN, hT, hU, nt, nu, hlen, hw, ho, hs, hl, q⟩ := h
  refine ⟨_, (pss_cons (ps_set (i := 4) sc_chosen_wires.nd rfl (.inr rfl) (pe_meth (pv 0) L.T.cl L.M_Net_other G_Net_other hr L.b_Net_other .nil pass0 (pa_cons (pv 1) pa_nil)))
    (pss_one (ps_ret (pe_lc (own := [("one", 5), ("other", 6)]) (g := gTup K 2 (gCons (gName 5) (gCons (gName 6) gNil))) (by rfl) sc_chosen_wires.nd (pi_zb (by rfl) B.zip (pa_cons (pv 2) (pa_cons (pv 3) pa_nil))) (blkOk_by (own := [("one", 5), ("other", 6)]) (N := ["net", "wire", "ones", "others", "stays", "one", "other"]) (sc := defScope s_chosen_wires) (by decide +kernel)) (fun _ _ _ _ _ => pg_tup rfl (pgs_cons (pg_name (i := 5) sc_chosen_wires.nd rfl (Or.inl rfl) (.inr rfl)) (pgs_cons (pg_name (i := 6) sc_chosen_wires.nd rfl (Or.inl rfl) (.inr rfl)) pgs_nil))) (fun _ _ _ _ _ => pts_nil) (fun _ _ _ _ _ => (pe_meth (pv 0) L.T.cl L.M_Net_either G_Net_either hr L.b_Net_either .nil pass0 (pa_cons (pe_meth (pv 0) L.T.cl L.M_Net_both G_Net_both hr L.b_Net_both .nil pass0 (pa_cons (pv 1) (pa_cons (pv 5) pa_nil))) (pa_cons (pe_meth (pv 0) L.T.cl L.M_Net_both G_Net_both hr L.b_Net_both .nil pass0 (pa_cons (pv 4) (pa_cons (pv 6) pa_nil))) pa_nil)))))))), ?_⟩
  obtain ⟨_, _, _, dx, _, _, e1, _⟩ := id hN
  refine ⟨_, rfl, p.x, dx, _, rfl, e1, rfl, _, rfl, Z, p, m, gs, nm, w, rfl, hN, hw, by omega, fun H1 k1 N1 => ?_⟩
  try simp only [L2.start, List.map_cons, List.map_nil, List.length_cons, List.length_nil, List.replicate_succ, List.replicate_zero, List.cons_append, List.nil_append, List.set_cons_succ, List.set_cons_zero, Nat.reduceAdd, Nat.reduceSub, Nat.zero_add]
  dsimp only [gName]
  try simp only [L2.start, List.map_cons, List.map_nil, List.length_cons, List.length_nil, List.replicate_succ, List.replicate_zero, List.cons_append, List.nil_append, List.set_cons_succ, List.set_cons_zero, Nat.reduceAdd, Nat.reduceSub, Nat.zero_add]
  refine ⟨_, rfl, _, rfl, b1, b2, t, u, _, _, rfl, hT.keepS k1 nt, hU.keepS k1 nu, fun D nD => ?_⟩
  have nD1 := N1.nin nD
  have N2 := N1.add (o := .lst []) nD
  refine lc_it (walk_zb (K := K) (t1 := b1) (t2 := b2) (a := t) (b := u) (xs := nts os) (ys := nts ts) (n := os.length) (nts_len os) (by rw [nts_len, hlen])) (fun j H9 => KeepS [p.lm, p.ld] H1 H9 ∧ NetAt C (D :: Z) H9 p m (((os.zip ts).take j).foldl (chS m w (m + gs.length)) (gs ++ [Gt.w "other" [w]], [])).1 nm ∧ H9 D = some (.lst (nts (((os.zip ts).take j).foldl (chS m w (m + gs.length)) (gs ++ [Gt.w "other" [w]], [])).2))) ⟨KeepS.new nD, N2, upd_same⟩ (fun j H9 _ ⟨k9, _⟩ => ⟨(hT.keepS k1 nt).keepS k9 nt, (hU.keepS k1 nu).keepS k9 nu⟩) ?_ ?_
  · rintro j v H9 H10 hj ⟨k9, N9, eD⟩ ⟨T, x, y, rfl, nT, rfl, hx, hy⟩
    obtain ⟨a, b, hab, rfl, rfl⟩ := nts_zip hx hy
    have sT := same_upd (o := .tup [.int (a : Int), .int (b : Int)]) nT
    have N10 := N9.same sT
    have hp := List.mem_of_getElem? hab
    have la := ho _ (List.of_mem_zip hp).1
    have lb := hs _ (List.of_mem_zip hp).2
    have W := chosenW_ok (m := m) (w := w) (gs := gs) (ps := (os.zip ts).take j) hw (fun p hp => ⟨ho _ (List.of_mem_zip (List.mem_of_mem_take hp)).1, hs _ (List.of_mem_zip (List.mem_of_mem_take hp)).2⟩)
    have lW := W.ext.len
    have lz : ((os.zip ts).take j).length ≤ os.length := by
      rw [List.length_take, List.length_zip]
      omega
    have st : m + gs.length < m + (chosenW m gs w ((os.zip ts).take j)).1.length := by
      have := chW_len m w (m + gs.length) ((os.zip ts).take j) (gs ++ [Gt.w "other" [w]], [])
      simp only [List.length_append, List.length_singleton] at this
      unfold chosenW
      omega
    have wlt : w < m + (chosenW m gs w ((os.zip ts).take j)).1.length := by omega
    have estep : ((os.zip ts).take (j + 1)).foldl (chS m w (m + gs.length)) (gs ++ [Gt.w "other" [w]], []) = chS m w (m + gs.length) (chosenW m gs w ((os.zip ts).take j)) (a, b) := fold_take _ hab _
    have eS : ((os.zip ts).take j).foldl (chS m w (m + gs.length)) (gs ++ [Gt.w "other" [w]], []) = chosenW m gs w ((os.zip ts).take j) := rfl
    rw [eS] at N10 eD
    rw [estep]
    have nw := W.lt
    generalize chosenW m gs w ((os.zip ts).take j) = S at *
    have eD10 := sT _ _ eD
    refine ⟨T, _, rfl, .inl (.inl upd_same), rfl, _, _, rfl, _, _, rfl, rfl, rfl, ?_⟩
    refine yesT ?_
    try simp only [L2.start, List.map_cons, List.map_nil, List.length_cons, List.length_nil, List.replicate_succ, List.replicate_zero, List.cons_append, List.nil_append, List.set_cons_succ, List.set_cons_zero, Nat.reduceAdd, Nat.reduceSub, Nat.zero_add]
    obtain ⟨_, _, _, dx2, _, _, f1, _⟩ := id N10
    refine ⟨_, rfl, p.x, dx2, _, rfl, f1, rfl, ?_⟩
    refine ⟨_, rfl, p.x, dx2, _, rfl, f1, rfl, _, rfl, _, rfl, D :: Z, p, m, S.1, nm, w, a, rfl, N10, wlt, by omega, by omega, fun H3 k3 N3 => ?_⟩
    have l0 := len1 (m := m) (gs := S.1) (g := Gt.w "both" [w, a])
    obtain ⟨_, _, _, dx3, _, _, f3, _⟩ := id N3
    have lS1 : (S.1 ++ [Gt.w "both" [w, a]]).length = S.1.length + 1 := by simp
    refine ⟨_, rfl, p.x, dx3, _, rfl, f3, rfl, _, rfl, _, rfl, D :: Z, p, m, _, nm, m + gs.length, b, rfl, N3, by omega, by omega, by omega, fun H4 k4 N4 => ?_⟩
    have lS2 : (S.1 ++ [Gt.w "both" [w, a]] ++ [Gt.w "both" [m + gs.length, b]]).length = S.1.length + 2 := by simp
    refine ⟨D :: Z, p, m, _, nm, _, _, rfl, N4, by omega, by omega, by omega, fun H5 k5 N5 => ?_⟩
    have kk : KeepS [p.lm, p.ld] H9 H5 := (((KeepS.ofSame sT).trans k3).trans k4).trans k5
    have eD5 := kk.1 _ _ eD nD1
    have lS : S.2.length ≤ 3 * os.length + 1 := by
      have := congrArg List.length (W.val (List.replicate m false) (by simp))
      rw [List.length_map, List.length_map] at this
      omega
    refine ⟨_, eD5, by rw [nts_len]; exact big_lt (by omega), ks_updN (k9.trans kk) nD, N5.put (by simp), ?_⟩
    rw [upd_same]
    show _ = some (HO.lst (nts (S.2 ++ [_])))
    rw [nts_app]
    rfl
  · rintro H9 ⟨k9, N9, eD⟩
    rw [List.take_of_length_le (by rw [List.length_zip]; omega)] at N9 eD
    exact q D H9 (k1.trans k9) N9.less (ks_none k1 nD) eD
def spFirst (K : PySem.W.Frag) (C : Addr) : Sp := fun vs H Q _ => ∃ (Z : List Addr) (p : NetP) (m : Nat) (gs : List Gt) (nm : List (Str × List Nat)) (t : Addr) (b : Bool) (ws : List Nat), vs = [.ref p.x, .ref t] ∧ NetAt C Z H p m gs nm ∧ Sq2 b K H t (nts ws) ∧ t ∉ [p.lm, p.ld] ∧ (∀ w ∈ ws, w < m + gs.length) ∧ m + gs.length + 3 * ws.length ≤ 400000 ∧
  ∀ D H', KeepS [p.lm, p.ld] H H' → NetAt C Z H' p m (firstW m gs ws).1 nm → H D = none → H' D = some (.lst (nts (firstW m gs ws).2)) → Q (.ref D) H'
theorem firstF_lt {m : Nat} : ∀ (ws : List Nat) (s : List Gt × List Nat × Nat), s.2.2 < m + s.1.length → (ws.foldl (fiS m) s).2.2 < m + (ws.foldl (fiS m) s).1.length
  | [], s, h => h
  | a :: ws, s, h => firstF_lt ws (fiS m s a) len1
theorem firstF_len {m : Nat} : ∀ (ws : List Nat) (s : List Gt × List Nat × Nat), (ws.foldl (fiS m) s).1.length = s.1.length + 3 * ws.length ∧ (ws.foldl (fiS m) s).2.1.length = s.2.1.length + ws.length
  | [], s => ⟨rfl, rfl⟩
  | a :: ws, s => by
    obtain ⟨h1, h2⟩ := firstF_len ws (fiS m s a)
    rw [List.foldl_cons, h1, h2]
    unfold fiS
    simp only [List.length_append, List.length_cons, List.length_nil]
    omega
theorem ok_first_wires (B : Bl mg) (L : LL K mg C a1 a2 a3 a4 a5 a6 a7 a8 a9 a10 a11 a12 a13 a14 a15 a16 a17 a18 a19 a20 a21 a22 a23 a24 a25 a26 a27 a28 a29 a30 a31 a32 a33 a34 a35 a36 a37 a38 l1 l2 l3 l4 l5 l6 l7 l8 l9 l10 l11 l12 l13 l14 l15 l16 l17 l18 l19 l20 l21 l22 l23 l24 l25 l26 l27 l28 l29 l30 l31 l32 l33 l34 l35 l36 l37 l38) : FnOk P w K mg base CX0 5 a4 l4 ["net", "ones"] (spFirst K C) := by
  have G_Net_fixed : FnOk P w K mg base CX0 4 a29 l29 ["self", "bit"] (spFixed C) := (ok_Net_fixed B L).mono (by decide)
  have G_Net_both : FnOk P w K mg base CX0 4 a25 l25 ["self", "a", "b"] (spG2 C "both") := (ok_Net_both B L).mono (by decide)
  have G_Net_other : FnOk P w K mg base CX0 4 a28 l28 ["self", "a"] (spG1 C) := (ok_Net_other B L).mono (by decide)
  refine L.F_first_wires.ok sc_first_wires (fun vs H Q E h => ?_) (fun cdv A outer s H vs Q E hr h => ?_)
  · obtain ⟨Z, p, m, gs, nm, t, b, ws, rfl, _⟩ := h
    rfl
  obtain ⟨Z, p, m, gs, nm, t, b, ws, rfl, hN, hT, nt, hw, hl, q⟩ := h
  refine ⟨_, (pss_cons (ps_set (i := 2) sc_first_wires.nd rfl (.inl rfl) (pe_lst pa_nil))
    (pss_cons (ps_set (i := 3) sc_first_wires.nd rfl (.inl rfl) (pe_meth (pv 0) L.T.cl L.M_Net_fixed G_Net_fixed hr L.b_Net_fixed .nil pass0 (pa_cons pe_int pa_nil)))
    (pss_cons (ps_for PassesOwn.never rfl (pi_sq (pv 1)) (pg_name (i := 4) sc_first_wires.nd rfl (.inl rfl)) (pss_cons (ps_expr (pe_bm PySem.F.plainAttrs_list PySem.F.slot_list_append PySem.F.type_list_append mt_append (pv 2) (pa_cons (pe_meth (pv 0) L.T.cl L.M_Net_both G_Net_both hr L.b_Net_both .nil pass0 (pa_cons (pv 3) (pa_cons (pv 4) pa_nil))) pa_nil)))
    (pss_one (ps_set (i := 3) sc_first_wires.nd rfl (.inl rfl) (pe_meth (pv 0) L.T.cl L.M_Net_both G_Net_both hr L.b_Net_both .nil pass0 (pa_cons (pv 3) (pa_cons (pe_meth (pv 0) L.T.cl L.M_Net_other G_Net_other hr L.b_Net_other .nil pass0 (pa_cons (pv 4) pa_nil)) pa_nil)))))))
    (pss_one (ps_ret (pe_lst (StX.pa_star (pv 2) (pa_cons (pv 3) pa_nil)))))))), ?_⟩
  refine ⟨Nat.zero_le _, fun F nF => ?_⟩
  have nF2 := hN.nin nF
  have N0 := hN.add (o := .lst []) nF
  have T0 : Sq2 b K (upd H F (.lst [])) t (nts ws) := hT.keepS (KeepS.new (S := []) nF) (fun z => nomatch z)
  obtain ⟨_, _, _, dx, _, _, e1, _⟩ := id N0
  try simp only [L2.start, List.map_cons, List.map_nil, List.length_cons, List.length_nil, List.replicate_succ, List.replicate_zero, List.cons_append, List.nil_append, List.set_cons_succ, List.set_cons_zero, Nat.reduceAdd, Nat.reduceSub, Nat.zero_add]
  dsimp only [gName]
  try simp only [L2.start, List.map_cons, List.map_nil, List.length_cons, List.length_nil, List.replicate_succ, List.replicate_zero, List.cons_append, List.nil_append, List.set_cons_succ, List.set_cons_zero, Nat.reduceAdd, Nat.reduceSub, Nat.zero_add]
  refine ⟨_, rfl, p.x, dx, _, rfl, e1, rfl, F :: Z, p, m, gs, nm, 1, rfl, N0, by omega, fun H1 k1 N1 => ?_⟩
  have T1 := T0.keepS k1 nt
  have eF1 := k1.1 _ _ upd_same nF2
  have k01 : KeepS [p.lm, p.ld] H H1 := (KeepS.new nF).trans k1
  try simp only [L2.start, List.map_cons, List.map_nil, List.length_cons, List.length_nil, List.replicate_succ, List.replicate_zero, List.cons_append, List.nil_append, List.set_cons_succ, List.set_cons_zero, Nat.reduceAdd, Nat.reduceSub, Nat.zero_add]
  dsimp only [gName]
  try simp only [L2.start, List.map_cons, List.map_nil, List.length_cons, List.length_nil, List.replicate_succ, List.replicate_zero, List.cons_append, List.nil_append, List.set_cons_succ, List.set_cons_zero, Nat.reduceAdd, Nat.reduceSub, Nat.zero_add]
  refine ⟨_, rfl, b, t, _, rfl, T1, ?_⟩
  refine for_it (walk_q (K := K) (t := b) (a := t) (xs := nts ws)) (fun j σ H9 => ∃ y : Option V, σ = [some (.ref p.x), some (.ref t), some (.ref F), some (.int ((firstF m gs (ws.take j)).2.2 : Nat)), y] ∧ KeepS [p.lm, p.ld] H H9 ∧ Sq2 b K H9 t (nts ws) ∧ NetAt C (F :: Z) H9 p m (firstF m gs (ws.take j)).1 nm ∧ H9 F = some (.lst (nts (firstF m gs (ws.take j)).2.1))) ⟨_, rfl, k01, T1, N1, eF1⟩ (fun j σ H9 _ ⟨_, _, _, T9, _⟩ => T9) ?_ ?_
  · rintro j v σ H9 H10 hj ⟨y, rfl, k9, T9, N9, eF⟩ ⟨rfl, hz⟩
    obtain ⟨a, ha, rfl⟩ := nts_at hz
    have la := hw a (List.mem_of_getElem? ha)
    obtain ⟨l1, l2⟩ := firstF_len (m := m) (ws.take j) (gs ++ [.fi 1], [], m + gs.length)
    have lc := firstF_lt (m := m) (ws.take j) (gs ++ [.fi 1], [], m + gs.length) len1
    have lj : (ws.take j).length ≤ ws.length := by rw [List.length_take]; omega
    simp only [List.length_append, List.length_cons, List.length_nil] at l1 l2
    have estep : firstF m gs (ws.take (j + 1)) = fiS m (firstF m gs (ws.take j)) a := fold_take _ ha _
    rw [show (ws.take j).foldl (fiS m) (gs ++ [.fi 1], [], m + gs.length) = firstF m gs (ws.take j) from rfl] at l1 l2 lc
    rw [estep]
    generalize firstF m gs (ws.take j) = S at *
    obtain ⟨_, _, _, dx9, _, _, f1, _⟩ := id N9
    dsimp only [gName]
    try simp only [L2.start, List.map_cons, List.map_nil, List.length_cons, List.length_nil, List.replicate_succ, List.replicate_zero, List.cons_append, List.nil_append, List.set_cons_succ, List.set_cons_zero, Nat.reduceAdd, Nat.reduceSub, Nat.zero_add]
    refine ⟨_, rfl, .inl ⟨rfl, _, SqL.of eF⟩, _, rfl, p.x, dx9, _, rfl, f1, rfl, _, rfl, _, rfl, F :: Z, p, m, S.1, nm, S.2.2, a, rfl, N9, lc, by omega, by omega, fun H3 k3 N3 => ?_⟩
    have eF3 := k3.1 _ _ eF nF2
    refine ⟨F, _, _, rfl, rfl, eF3, by rw [nts_len]; exact big_lt (by omega), ?_⟩
    have k4 := ks_updN (k9.trans k3) (D := F) (o := .lst (nts S.2.1 ++ [.int ((m + S.1.length : Nat) : Int)])) nF
    have N4 := N3.put (D := F) (o := .lst (nts S.2.1 ++ [.int ((m + S.1.length : Nat) : Int)])) (by simp)
    have T4 : Sq2 b K (upd H3 F (.lst (nts S.2.1 ++ [.int ((m + S.1.length : Nat) : Int)]))) t (nts ws) := hT.keepS k4 nt
    have eF4 : (upd H3 F (.lst (nts S.2.1 ++ [.int ((m + S.1.length : Nat) : Int)]))) F = some (.lst (nts S.2.1 ++ [.int ((m + S.1.length : Nat) : Int)])) := upd_same
    generalize upd H3 F (.lst (nts S.2.1 ++ [.int ((m + S.1.length : Nat) : Int)])) = H4 at *
    dsimp only
    obtain ⟨_, _, _, dx4, _, _, f4, _⟩ := id N4
    have lS1 : (S.1 ++ [Gt.w "both" [S.2.2, a]]).length = S.1.length + 1 := by simp
    have l0 := len1 (m := m) (gs := S.1) (g := Gt.w "both" [S.2.2, a])
    refine ⟨_, rfl, p.x, dx4, _, rfl, f4, rfl, _, rfl, ?_⟩
    refine ⟨_, rfl, p.x, dx4, _, rfl, f4, rfl, _, rfl, F :: Z, p, m, _, nm, a, rfl, N4, by omega, by omega, fun H5 k5 N5 => ?_⟩
    have lS2 : (S.1 ++ [Gt.w "both" [S.2.2, a]] ++ [Gt.w "other" [a]]).length = S.1.length + 2 := by simp
    refine ⟨F :: Z, p, m, _, nm, S.2.2, _, rfl, N5, by omega, by omega, by omega, fun H6 k6 N6 => ?_⟩
    refine ⟨some (.int (a : Int)), rfl, (k4.trans k5).trans k6, (T4.keepS k5 nt).keepS k6 nt, N6, ?_⟩
    rw [k6.1 _ _ (k5.1 _ _ eF4 nF2) nF2]
    show _ = some (HO.lst (nts (S.2.1 ++ [_])))
    rw [nts_app]
    rfl
  · rintro σ H9 ⟨y, rfl, k9, T9, N9, eF⟩
    rw [nts_len, List.take_of_length_le (Nat.le_refl _)] at N9 eF ⊢
    obtain ⟨l1, l2⟩ := firstF_len (m := m) ws (gs ++ [.fi 1], [], m + gs.length)
    simp only [List.length_append, List.length_cons, List.length_nil] at l1 l2
    refine ⟨_, rfl, F, _, rfl, .inr (SqL.of eF), _, rfl, ?_⟩
    dsimp only [tNil]
    rw [show nts (firstF m gs ws).2.1 ++ [V.int ((firstF m gs ws).2.2 : Nat)] = nts (firstW m gs ws).2 from by
      show _ = nts ((firstF m gs ws).2.1 ++ [(firstF m gs ws).2.2])
      rw [nts_app]
      rfl]
    have hlen : (nts (firstW m gs ws).2).length ≤ sizeLine := by
      rw [nts_len]
      show ((firstF m gs ws).2.1 ++ [_]).length ≤ _
      rw [List.length_append, show (firstF m gs ws).2.1.length = 0 + ws.length from l2]
      exact Nat.le_of_lt (big_lt (by show 0 + ws.length + 1 ≤ 500000; omega))
    refine ⟨hlen, fun D nD => ?_⟩
    have sD := same_upd (o := .lst (nts (firstW m gs ws).2)) nD
    exact q D _ (k9.trans (.ofSame sD)) (N9.less.same sD) (ks_none k9 nD) upd_same
def spZero (K : PySem.W.Frag) (C : Addr) : Sp := fun vs H Q _ => ∃ (Z : List Addr) (p : NetP) (m : Nat) (gs : List Gt) (nm : List (Str × List Nat)) (t : Addr) (b : Bool) (ws : List Nat), vs = [.ref p.x, .ref t] ∧ NetAt C Z H p m gs nm ∧ Sq2 b K H t (nts ws) ∧ t ∉ [p.lm, p.ld] ∧ (∀ w ∈ ws, w < m + gs.length) ∧ ws.length ≤ 2000 ∧ m + gs.length ≤ 300000 ∧
  ∀ D H', KeepS [p.lm, p.ld] H H' → NetAt C Z H' p m (zeroW m gs ws (Builtin.Int.intBits (ws.length : Int))).1 nm → H D = none → H' D = some (.lst (nts (zeroW m gs ws (Builtin.Int.intBits (ws.length : Int))).2)) → Q (.ref D) H'
theorem and_pow : ∀ (b : Nat) (x : Nat), Builtin.bitAnd (x : Int) (2 ^ b) = if x.testBit b = true then 2 ^ b else 0
  | 0, x => by
    rw [PySem.W.kbt_halves, Int.pow_zero, show (1 : Int) / 2 = 0 from rfl]
    have e : Builtin.bitAnd ((x : Int) / 2) 0 = 0 := by
      have := PySem.W.kbt_mask ((x : Int) / 2) 0
      rw [Int.pow_zero, Int.sub_self, Int.emod_one] at this
      exact this
    rw [e, Nat.testBit_zero]
    by_cases c : x % 2 = 1
    · rw [if_pos (by omega), if_pos (decide_eq_true c)]
      rfl
    · rw [if_neg (by omega), if_neg (by rw [decide_eq_true_eq]; exact c)]
      rfl
  | b + 1, x => by
    have p := GM.pow_pos' b
    rw [PySem.W.kbt_halves, GM.pow_s, show (2 ^ b * 2 : Int) / 2 = 2 ^ b from by omega, show ((x : Int) / 2) = ((x / 2 : Nat) : Int) from by omega, and_pow b (x / 2), Nat.testBit_succ, if_neg (show ¬ ((x : Int) % 2 = 1 ∧ (2 ^ b * 2 : Int) % 2 = 1) from by omega)]
    split <;> omega
theorem and_test (b x : Nat) : (!decide (V.int (Builtin.bitAnd (x : Int) (2 ^ b)) = V.int 0)) = x.testBit b := by
  have p := GM.pow_pos' b
  rw [and_pow]
  cases x.testBit b
  · rfl
  · show (!decide (V.int (2 ^ b) = V.int 0)) = true
    rw [decide_eq_false (fun z => by have := V.int.inj z; omega)]
    rfl
theorem downs_at {k j : Nat} (h : j < k) : (downs k)[j]? = some (k - 1 - j) := by
  unfold downs
  rw [List.getElem?_reverse (by rw [List.length_range]; exact h), List.length_range, List.getElem?_range (by omega)]
theorem selN_snoc {place : Nat} {l : List Nat} {i : Nat} (h : i < l.length) : selN place (l.take (i + 1)) = if i.testBit place = true then selN place (l.take i) ++ [l.getD i 0] else selN place (l.take i) := by
  have l1 : (l.take (i + 1)).length = i + 1 := by rw [List.length_take]; omega
  have l0 : (l.take i).length = i := by rw [List.length_take]; omega
  have key : ∀ j ∈ (List.range i).filter (·.testBit place), (l.take (i + 1)).getD j 0 = (l.take i).getD j 0 := fun j hj => by
    have := List.mem_range.mp (List.mem_filter.mp hj).1
    simp only [List.getD, List.getElem?_take, if_pos (show j < i + 1 by omega), if_pos this]
  have last : (l.take (i + 1)).getD i 0 = l.getD i 0 := by
    simp only [List.getD, List.getElem?_take, if_pos (show i < i + 1 by omega)]
  unfold selN
  rw [l1, l0, List.range_succ, List.filter_append, List.map_append]
  split
  · rename_i c
    rw [show [i].filter (·.testBit place) = [i] from by simp [c]]
    rw [List.map_congr_left key]
    show _ ++ [(l.take (i + 1)).getD i 0] = _
    rw [last]
  · rename_i c
    rw [show [i].filter (·.testBit place) = [] from by simp [c]]
    rw [List.map_congr_left key, List.map_nil, List.append_nil]
theorem anyW_len {m : Nat} {gs : List Gt} : ∀ ws : List Nat, gs.length ≤ (anyW m gs ws).1.length ∧ (anyW m gs ws).1.length ≤ gs.length + ws.length + 1
  | [] => by show gs.length ≤ (gs ++ [_]).length ∧ _; rw [List.length_append, List.length_singleton]; exact ⟨by omega, by show (gs ++ [_]).length ≤ _; rw [List.length_append, List.length_singleton]; exact Nat.le_refl _⟩
  | w :: ws => by
    have key : ∀ (ws : List Nat) (s : List Gt × Nat), (ws.foldl (fun s x => (s.1 ++ [Gt.w "either" [s.2, x]], m + s.1.length)) s).1.length = s.1.length + ws.length := by
      intro ws
      induction ws with
      | nil => exact fun _ => rfl
      | cons a ws ih =>
        intro s
        rw [List.foldl_cons, ih, List.length_append, List.length_singleton, List.length_cons]
        omega
    have := key ws (gs, w)
    show gs.length ≤ (ws.foldl _ (gs, w)).1.length ∧ (ws.foldl _ (gs, w)).1.length ≤ _
    rw [this, List.length_cons]
    dsimp only
    omega
theorem zeS_len {m : Nat} {fs : List Nat} : ∀ (l : List Nat) (s : List Gt × List Nat), s.1.length ≤ (l.foldl (zeS m fs) s).1.length ∧ (l.foldl (zeS m fs) s).1.length ≤ s.1.length + l.length * (fs.length + 1) ∧ (l.foldl (zeS m fs) s).2.length = s.2.length + l.length
  | [], s => by simp
  | p :: l, s => by
    obtain ⟨h1, h2, h3⟩ := zeS_len (m := m) (fs := fs) l (zeS m fs s p)
    have a := anyW_len (m := m) (gs := s.1) (selN p fs)
    have b := selN_len p fs
    rw [List.foldl_cons, List.length_cons, Nat.succ_mul, h3]
    have e1 : (zeS m fs s p).1 = (anyW m s.1 (selN p fs)).1 := rfl
    have e2 : (zeS m fs s p).2.length = s.2.length + 1 := by show (s.2 ++ [_]).length = _; rw [List.length_append]; rfl
    rw [e1] at h1 h2
    rw [e2]
    omega
theorem ok_zero_wires (B : Bl mg) (L : LL K mg C a1 a2 a3 a4 a5 a6 a7 a8 a9 a10 a11 a12 a13 a14 a15 a16 a17 a18 a19 a20 a21 a22 a23 a24 a25 a26 a27 a28 a29 a30 a31 a32 a33 a34 a35 a36 a37 a38 l1 l2 l3 l4 l5 l6 l7 l8 l9 l10 l11 l12 l13 l14 l15 l16 l17 l18 l19 l20 l21 l22 l23 l24 l25 l26 l27 l28 l29 l30 l31 l32 l33 l34 l35 l36 l37 l38) : FnOk P w K mg base CX0 7 a3 l3 ["net", "ones"] (spZero K C) := by
  have G_first_wires : FnOk P w K mg base CX0 6 a4 l4 ["net", "ones"] (spFirst K C) := (ok_first_wires B L).mono (by decide)
  have G_any_wire : FnOk P w K mg base CX0 6 a2 l2 ["net", "wires"] (spAny K C) := (ok_any_wire B L).mono (by decide)
  refine L.F_zero_wires.ok sc_zero_wires (fun vs H Q E h => ?_) (fun cdv A outer s H vs Q E hr h => ?_)
  · obtain ⟨Z, p, m, gs, nm, t, b, ws, rfl, _⟩ := h
    rfl
  obtain ⟨Z, p, m, gs, nm, t, b, ws, rfl, hN, hT, nt, hw, hl, hl2, q⟩ := h
  refine ⟨_, (pss_cons (ps_set (i := 2) sc_zero_wires.nd rfl (.inl rfl) (pe_call G_first_wires hr (by rfl) L.m_first_wires L.F_first_wires.kp L.b_first_wires .nil pass0 (pa_cons (pv 0) (pa_cons (pv 1) pa_nil))))
    (pss_cons (ps_set (i := 3) sc_zero_wires.nd rfl (.inl rfl) (pe_lst pa_nil))
    (pss_cons (ps_for PassesOwn.never rfl (pi_range3 (by rfl) B.range (pa_cons (pe_op op_sub (pe_bits (pe_callB call_len_seq (by rfl) B.len PySem.boot_len (pa_cons (pv 1) pa_nil))) pe_int) (pa_cons (pe_un un_neg pe_int) (pa_cons (pe_un un_neg pe_int) pa_nil)))) (pg_name (i := 4) sc_zero_wires.nd rfl (.inr rfl)) (pss_one (ps_expr (pe_bm PySem.F.plainAttrs_list PySem.F.slot_list_append PySem.F.type_list_append mt_append (pv 3) (pa_cons (pe_call G_any_wire hr (by rfl) L.m_any_wire L.F_any_wire.kp L.b_any_wire .nil pass0 (pa_cons (pv 0) (pa_cons (pe_lc (own := [("zeros", 5), ("wire", 6)]) (g := gTup K 2 (gCons (gName 5) (gCons (gName 6) gNil))) (by rfl) sc_zero_wires.nd (pi_enum (by rfl) B.enumerate (pa_cons (pv 2) pa_nil)) (blkOk_by (own := [("zeros", 5), ("wire", 6)]) (N := ["net", "ones", "firsts", "bits", "place", "zeros", "wire"]) (sc := defScope s_zero_wires) (by decide +kernel)) (fun _ _ _ _ _ => pg_tup rfl (pgs_cons (pg_name (i := 5) sc_zero_wires.nd rfl (Or.inl rfl) (.inr rfl)) (pgs_cons (pg_name (i := 6) sc_zero_wires.nd rfl (Or.inl rfl) (.inr rfl)) pgs_nil))) (fun _ _ _ _ _ => pts_one (pt_cmpR op_ne (pe_op op_and (pv 5) (pe_op op_oneShl pe_int (pv 4))) pe_int (nomark _))) (fun _ _ _ _ _ => (pv 6))) pa_nil))) pa_nil)))))
    (pss_one (ps_ret (pv 3)))))), ?_⟩
  refine ⟨_, rfl, _, rfl, Z, p, m, gs, nm, t, b, ws, rfl, hN, hT, nt, hw, by omega, fun F H1 k1 N1 nF eF => ?_⟩
  have nF2 := hN.nin nF
  have W := firstW_ok hw
  have lW := W.ext.len
  have lF : (firstW m gs ws).2.length = ws.length + 1 := by
    have := congrArg List.length (W.val (List.replicate m false) (by simp))
    rw [List.length_map, firstB_len, List.length_map] at this
    exact this
  have nf : (nts (firstW m gs ws).2).length = ws.length + 1 := by rw [nts_len, lF]
  have T1 := hT.keepS k1 nt
  try simp only [L2.start, List.map_cons, List.map_nil, List.length_cons, List.length_nil, List.replicate_succ, List.replicate_zero, List.cons_append, List.nil_append, List.set_cons_succ, List.set_cons_zero, Nat.reduceAdd, Nat.reduceSub, Nat.zero_add]
  dsimp only [gName]
  try simp only [L2.start, List.map_cons, List.map_nil, List.length_cons, List.length_nil, List.replicate_succ, List.replicate_zero, List.cons_append, List.nil_append, List.set_cons_succ, List.set_cons_zero, Nat.reduceAdd, Nat.reduceSub, Nat.zero_add]
  refine ⟨Nat.zero_le _, fun R nR => ?_⟩
  have nR2 := N1.nin nR
  have N2 := N1.add (o := .lst []) nR
  have nRH := ks_none k1 nR
  have k2 := ks_updN k1 (o := .lst []) nRH
  have nFR : F ≠ R := ne_of_none eF nR
  have eF2 : (upd H1 R (.lst [])) F = _ := (upd_ne nFR).trans eF
  have eR2 : (upd H1 R (.lst [])) R = some (.lst []) := upd_same
  have T2 : Sq2 b K (upd H1 R (.lst [])) t (nts ws) := hT.keepS k2 nt
  generalize upd H1 R (.lst []) = H2 at *
  dsimp only
  try simp only [L2.start, List.map_cons, List.map_nil, List.length_cons, List.length_nil, List.replicate_succ, List.replicate_zero, List.cons_append, List.nil_append, List.set_cons_succ, List.set_cons_zero, Nat.reduceAdd, Nat.reduceSub, Nat.zero_add]
  dsimp only [gName]
  try simp only [L2.start, List.map_cons, List.map_nil, List.length_cons, List.length_nil, List.replicate_succ, List.replicate_zero, List.cons_append, List.nil_append, List.set_cons_succ, List.set_cons_zero, Nat.reduceAdd, Nat.reduceSub, Nat.zero_add]
  refine ⟨_, rfl, t, _, rfl, T2.to, ?_⟩
  rw [nts_len]
  have kb : Builtin.Int.intBits (ws.length : Int) ≤ 11 := PyProof.Rows.intBits_le (by
    show ((ws.length : Int)).natAbs < 2 ^ 11
    rw [Int.natAbs_natCast]
    omega)
  obtain ⟨k, hk⟩ : ∃ k, k = Builtin.Int.intBits (ws.length : Int) := ⟨_, rfl⟩
  rw [← hk] at q kb
  refine ⟨_, rfl, _, _, rfl, rfl, _, rfl, _, rfl, ((k : Int) - 1), (-1), (-1), ((k : Int) - 1 - -1).toNat, by rw [hk], RgC.neg (by omega) (by omega) (by decide) (by decide), ?_⟩
  rw [show ((k : Int) - 1 - -1).toNat = k by omega]
  refine for_it walk_rangeC (fun j σ H9 => ∃ y : Option V, σ = [some (.ref p.x), some (.ref t), some (.ref F), some (.ref R), y, none, none] ∧ KeepS [p.lm, p.ld] H H9 ∧ H9 F = some (.lst (nts (firstW m gs ws).2)) ∧ NetAt C (R :: Z) H9 p m (((downs k).take j).foldl (zeS m (firstW m gs ws).2) ((firstW m gs ws).1, [])).1 nm ∧ H9 R = some (.lst (nts (((downs k).take j).foldl (zeS m (firstW m gs ws).2) ((firstW m gs ws).1, [])).2))) ⟨_, rfl, k2, eF2, N2, eR2⟩ (fun _ _ _ _ _ => trivial) ?_ ?_
  · rintro j v σ H9 H10 hj ⟨y, rfl, k9, eF9, N9, eR9⟩ ⟨rfl, rfl⟩
    have dj := downs_at hj
    dsimp only
    rw [show (k : Int) - 1 + (j : Nat) * (-1) = ((k - 1 - j : Nat) : Int) from by omega]
    have estep : ((downs k).take (j + 1)).foldl (zeS m (firstW m gs ws).2) ((firstW m gs ws).1, []) = zeS m (firstW m gs ws).2 (((downs k).take j).foldl (zeS m (firstW m gs ws).2) ((firstW m gs ws).1, [])) (k - 1 - j) := fold_take _ dj _
    rw [estep]
    have hpl : k - 1 - j < 11 := by omega
    generalize k - 1 - j = place at *
    dsimp only [gName]
    try simp only [L2.start, List.map_cons, List.map_nil, List.length_cons, List.length_nil, List.replicate_succ, List.replicate_zero, List.cons_append, List.nil_append, List.set_cons_succ, List.set_cons_zero, Nat.reduceAdd, Nat.reduceSub, Nat.zero_add]
    refine ⟨_, rfl, .inl ⟨rfl, _, SqL.of eR9⟩, _, rfl, _, rfl, F, _, rfl, SqL.of eF9, fun D nD => ?_⟩
    have nD2 := N9.nin nD
    have fRD : R ≠ D := ne_of_none eR9 nD
    refine lc_it (walk_enum (K := K) (a := F) (xs := nts (firstW m gs ws).2)) (fun i H8 => Same H10 H8 ∧ H8 D = some (.lst (nts (selN place ((firstW m gs ws).2.take i))))) ⟨same_upd nD, upd_same⟩ (fun i H8 _ ⟨s8, _⟩ => SqL.of (s8 _ _ eF9)) ?_ ?_
    · rintro i v H8 H7 hi ⟨s8, eD⟩ ⟨T, x, z, rfl, nT, rfl, hx, hz⟩
      cases hx
      obtain ⟨a, ha, rfl⟩ := nts_at hz
      have hi' := (List.getElem?_eq_some_iff.mp ha).1
      have ea : a = (firstW m gs ws).2.getD i 0 := by
        simp only [List.getD, ha, Option.getD_some]
      have sT := same_upd (o := .tup [.int (i : Int), .int (a : Int)]) nT
      refine ⟨T, _, rfl, .inl (.inl upd_same), rfl, _, _, rfl, _, _, rfl, rfl, rfl, ?_⟩
      try simp only [L2.start, List.map_cons, List.map_nil, List.length_cons, List.length_nil, List.replicate_succ, List.replicate_zero, List.cons_append, List.nil_append, List.set_cons_succ, List.set_cons_zero, Nat.reduceAdd, Nat.reduceSub, Nat.zero_add]
      dsimp only [tTest, tOp, tVar, tC, rNe]
      refine ⟨_, rfl, _, rfl, place, rfl, rfl, by omega, _, _, rfl, rfl, rfl, _, rfl, ?_⟩
      rw [and_test, selN_snoc hi']
      have s7 := s8.trans sT
      have eD7 := sT _ _ eD
      cases hb : i.testBit place with
      | false => exact ⟨s7, eD7⟩
      | true =>
        refine ⟨_, rfl, _, eD7, ?_, fun y u e => ?_, ?_⟩
        · rw [nts_len]
          have := selN_len place ((firstW m gs ws).2.take i)
          rw [List.length_take] at this
          exact big_lt (by omega)
        · rw [upd_ne (ne_of_none e nD)]
          exact s7 _ _ e
        · rw [upd_same, if_pos rfl, ea, nts_app]
          rfl
    rintro H8 ⟨s8, eD⟩
    rw [nf, List.take_of_length_le (by rw [lF]; exact Nat.le_refl _)] at eD
    have N8 := N9.same s8
    obtain ⟨z1, z2, z3⟩ := zeS_len (m := m) (fs := (firstW m gs ws).2) ((downs k).take j) ((firstW m gs ws).1, [])
    have lt' : ((downs k).take j).length ≤ 11 := by
      rw [List.length_take]
      omega
    have z4 : ((downs k).take j).length * ((firstW m gs ws).2.length + 1) ≤ 11 * 2002 := Nat.mul_le_mul lt' (by omega)
    generalize ((downs k).take j).foldl (zeS m (firstW m gs ws).2) ((firstW m gs ws).1, []) = S at *
    dsimp only at z1 z2
    have hsel := selN_len place (firstW m gs ws).2
    refine ⟨R :: Z, p, m, S.1, nm, D, selN place (firstW m gs ws).2, rfl, N8, SqL.of eD, nD2, fun w hw' => ?_, by omega, fun H5 k5 N5 => ?_⟩
    · have := W.lt w (selN_mem hw')
      omega
    have eR5 := k5.1 _ _ (s8 _ _ eR9) nR2
    have eF5 := k5.1 _ _ (s8 _ _ eF9) nF2
    refine ⟨R, _, _, rfl, rfl, eR5, by rw [nts_len]; simp only [List.length_nil] at z3; exact big_lt (by omega), some (.int (place : Int)), rfl, ks_updN ((k9.trans (.ofSame s8)).trans k5) nRH, ?_, N5.put (by simp), ?_⟩
    · rw [upd_ne nFR]
      exact eF5
    · rw [upd_same]
      show _ = some (HO.lst (nts (S.2 ++ [_])))
      rw [nts_app]
      rfl
  · rintro σ H9 ⟨y, rfl, k9, eF9, N9, eR9⟩
    rw [List.take_of_length_le (by unfold downs; rw [List.length_reverse, List.length_range]; exact Nat.le_refl _)] at N9 eR9
    exact ⟨_, rfl, q R H9 k9 N9.less nRH eR9⟩
end
section
variable {P : Program} {w : World} {K : PySem.W.Frag} {mg : Str → Option Value} {base : Heap}
variable {C : Addr} {a1 a2 a3 a4 a5 a6 a7 a8 a9 a10 a11 a12 a13 a14 a15 a16 a17 a18 a19 a20 a21 a22 a23 a24 a25 a26 a27 a28 a29 a30 a31 a32 a33 a34 a35 a36 a37 a38 : Addr} {l1 l2 l3 l4 l5 l6 l7 l8 l9 l10 l11 l12 l13 l14 l15 l16 l17 l18 l19 l20 l21 l22 l23 l24 l25 l26 l27 l28 l29 l30 l31 l32 l33 l34 l35 l36 l37 l38 : FuncData}
theorem dgS_len {m : Nat} : ∀ (l : List (Nat × Nat)) (s : List Gt × List Nat), (l.foldl (dgS m) s).1.length = s.1.length + l.length ∧ (l.foldl (dgS m) s).2.length = s.2.length + l.length
  | [], s => ⟨rfl, rfl⟩
  | a :: l, s => by
    obtain ⟨h1, h2⟩ := dgS_len l (dgS m s a)
    rw [List.foldl_cons, h1, h2]
    unfold dgS
    simp only [List.length_append, List.length_cons, List.length_nil]
    omega
theorem barW_len {m : Nat} {os ds : List Nat} {gs : List Gt} {p : Nat} : (barW m os ds gs p).1.length = gs.length + (if p = 0 then 1 else 2) := by
  unfold barW
  split <;> simp
theorem maS_len {m : Nat} {os ds : List Nat} : ∀ (l : List Nat) (s : List Gt × List Nat), s.1.length ≤ (l.foldl (maS m os ds) s).1.length ∧ (l.foldl (maS m os ds) s).1.length ≤ s.1.length + 5 * l.length ∧ (l.foldl (maS m os ds) s).2.length = s.2.length + l.length
  | [], s => by simp
  | p :: l, s => by
    obtain ⟨h1, h2, h3⟩ := maS_len (m := m) (os := os) (ds := ds) l (maS m os ds s p)
    have a := barW_len (m := m) (os := os) (ds := ds) (gs := s.1) (p := p)
    have e1 : (maS m os ds s p).1.length = (barW m os ds s.1 p).1.length + 3 := by unfold maS; simp only [List.length_append, List.length_cons, List.length_nil]
    have e2 : (maS m os ds s p).2.length = s.2.length + 1 := by unfold maS; simp only [List.length_append, List.length_cons, List.length_nil]
    rw [List.foldl_cons, List.length_cons]
    split at a <;> omega
def spMark (K : PySem.W.Frag) (C : Addr) : Sp := fun vs H Q _ => ∃ (Z : List Addr) (p : NetP) (m : Nat) (gs : List Gt) (nm : List (Str × List Nat)) (t u : Addr) (b1 b2 : Bool) (os ts : List Nat), vs = [.ref p.x, .ref t, .ref u] ∧ NetAt C Z H p m gs nm ∧ Sq2 b1 K H t (nts os) ∧ Sq2 b2 K H u (nts ts) ∧ t ∉ [p.lm, p.ld] ∧ u ∉ [p.lm, p.ld] ∧ os.length = ts.length ∧ 0 < os.length ∧ (∀ w ∈ os, w < m + gs.length) ∧ (∀ w ∈ ts, w < m + gs.length) ∧ os.length ≤ 2000 ∧ m + gs.length ≤ 300000 ∧
  ∀ D H', KeepS [p.lm, p.ld] H H' → NetAt C Z H' p m (markW m gs os ts).1 nm → H D = none → H' D = some (.lst (nts (markW m gs os ts).2)) → Q (.ref D) H'
theorem ok_mark_wires (B : Bl mg) (L : LL K mg C a1 a2 a3 a4 a5 a6 a7 a8 a9 a10 a11 a12 a13 a14 a15 a16 a17 a18 a19 a20 a21 a22 a23 a24 a25 a26 a27 a28 a29 a30 a31 a32 a33 a34 a35 a36 a37 a38 l1 l2 l3 l4 l5 l6 l7 l8 l9 l10 l11 l12 l13 l14 l15 l16 l17 l18 l19 l20 l21 l22 l23 l24 l25 l26 l27 l28 l29 l30 l31 l32 l33 l34 l35 l36 l37 l38) : FnOk P w K mg base CX0 5 a5 l5 ["net", "ones", "others"] (spMark K C) := by
  have G_Net_unlike : FnOk P w K mg base CX0 4 a27 l27 ["self", "a", "b"] (spG2 C "unlike") := (ok_Net_unlike B L).mono (by decide)
  have G_Net_both : FnOk P w K mg base CX0 4 a25 l25 ["self", "a", "b"] (spG2 C "both") := (ok_Net_both B L).mono (by decide)
  have G_Net_other : FnOk P w K mg base CX0 4 a28 l28 ["self", "a"] (spG1 C) := (ok_Net_other B L).mono (by decide)
  refine L.F_mark_wires.ok sc_mark_wires (fun vs H Q E h => ?_) (fun cdv A outer s H vs Q E hr h => ?_)
  · obtain ⟨Z, p, m, gs, nm, t, u, b1, b2, os, ts, rfl, _⟩ := h
    rfl
  obtain ⟨Z, p, m, gs, nm, t, u, b1, b2, os, ts, rfl, hN, hT, hU, nt, nu, hlen, h0, ho, hs, hl, hl2, q⟩ := h
  refine ⟨_, (pss_cons (ps_setLc (i := 3) (own := [("one", 7), ("other", 8)]) (g := gTup K 2 (gCons (gName 7) (gCons (gName 8) gNil))) (by rfl) sc_mark_wires.nd rfl rfl (sw_true rfl rfl rfl (by decide +kernel)) (pi_zb (by rfl) B.zip (pa_cons (pv 1) (pa_cons (pv 2) pa_nil))) (blkOk_by (own := [("one", 7), ("other", 8)]) (N := ["net", "ones", "others", "digits", "marks", "place", "bars", "one", "other"]) (sc := defScope s_mark_wires) (by decide +kernel)) (fun _ _ _ _ _ => pg_tup rfl (pgs_cons (pg_name (i := 7) sc_mark_wires.nd rfl (Or.inl rfl) (.inr rfl)) (pgs_cons (pg_name (i := 8) sc_mark_wires.nd rfl (Or.inl rfl) (.inr rfl)) pgs_nil))) (fun _ _ _ _ _ => pts_nil) (fun _ _ _ _ _ => (pe_meth (pv 0) L.T.cl L.M_Net_unlike G_Net_unlike hr L.b_Net_unlike .nil pass0 (pa_cons (pv 7) (pa_cons (pv 8) pa_nil)))))
    (pss_cons (ps_set (i := 4) sc_mark_wires.nd rfl (.inl rfl) (pe_lst pa_nil))
    (pss_cons (ps_for PassesOwn.never rfl (pi_range1 (by rfl) B.range (pa_cons (pe_op op_sub (pe_callB call_len_seq (by rfl) B.len PySem.boot_len (pa_cons (pv 3) pa_nil)) pe_int) pa_nil)) (pg_name (i := 5) sc_mark_wires.nd rfl (.inl rfl)) (pss_cons (ps_set (i := 6) sc_mark_wires.nd rfl (.inl rfl) (pe_meth (pv 0) L.T.cl L.M_Net_unlike G_Net_unlike hr L.b_Net_unlike .nil pass0 (pa_cons (pe_ix ix_seq (pv 1) (pv 5) (fun _ _ => rfl)) (pa_cons (pe_ix ix_seq (pv 1) (pe_op op_add (pv 5) pe_int) (fun _ _ => rfl)) pa_nil))))
    (pss_cons (ps_if (pt_cmpR op_gt (pv 5) pe_int (nomark _)) (pss_one (ps_set (i := 6) sc_mark_wires.nd rfl (.inl rfl) (pe_meth (pv 0) L.T.cl L.M_Net_unlike G_Net_unlike hr L.b_Net_unlike .nil pass0 (pa_cons (pv 6) (pa_cons (pe_ix ix_list (pv 3) (pe_op op_sub (pv 5) pe_int) (fun _ _ => rfl)) pa_nil))))) pss_nil)
    (pss_one (ps_expr (pe_bm PySem.F.plainAttrs_list PySem.F.slot_list_append PySem.F.type_list_append mt_append (pv 4) (pa_cons (pe_meth (pv 0) L.T.cl L.M_Net_both G_Net_both hr L.b_Net_both .nil pass0 (pa_cons (pe_ix ix_list (pv 3) (pv 5) (fun _ _ => rfl)) (pa_cons (pe_meth (pv 0) L.T.cl L.M_Net_other G_Net_other hr L.b_Net_other .nil pass0 (pa_cons (pe_meth (pv 0) L.T.cl L.M_Net_both G_Net_both hr L.b_Net_both .nil pass0 (pa_cons (pe_ix ix_list (pv 3) (pe_op op_add (pv 5) pe_int) (fun _ _ => rfl)) (pa_cons (pv 6) pa_nil))) pa_nil)) pa_nil))) pa_nil)))))))
    (pss_one (ps_ret (pe_op op_cat (pv 4) (pe_slice sl_list (pv 3) (po_some (pe_un un_neg pe_int)) po_none))))))), ?_⟩
  refine ⟨_, rfl, _, rfl, b1, b2, t, u, _, _, rfl, hT, hU, fun W nW => ?_⟩
  have nW2 := hN.nin nW
  have N0 := hN.add (o := .lst []) nW
  have lz : (os.zip ts).length = os.length := by rw [List.length_zip]; omega
  refine lc_it (walk_zb (K := K) (t1 := b1) (t2 := b2) (a := t) (b := u) (xs := nts os) (ys := nts ts) (n := os.length) (nts_len os) (by rw [nts_len, hlen])) (fun j H9 => KeepS [p.lm, p.ld] H H9 ∧ NetAt C (W :: Z) H9 p m (((os.zip ts).take j).foldl (dgS m) (gs, [])).1 nm ∧ H9 W = some (.lst (nts (((os.zip ts).take j).foldl (dgS m) (gs, [])).2))) ⟨KeepS.new nW, N0, upd_same⟩ (fun j H9 _ ⟨k9, _⟩ => ⟨hT.keepS k9 nt, hU.keepS k9 nu⟩) ?_ ?_
  · rintro j v H9 H10 hj ⟨k9, N9, eD⟩ ⟨T, x, y, rfl, nT, rfl, hx, hy⟩
    obtain ⟨a, b, hab, rfl, rfl⟩ := nts_zip hx hy
    have sT := same_upd (o := .tup [.int (a : Int), .int (b : Int)]) nT
    have N10 := N9.same sT
    have hp := List.mem_of_getElem? hab
    have la := ho _ (List.of_mem_zip hp).1
    have lb := hs _ (List.of_mem_zip hp).2
    have estep : ((os.zip ts).take (j + 1)).foldl (dgS m) (gs, []) = dgS m (((os.zip ts).take j).foldl (dgS m) (gs, [])) (a, b) := fold_take _ hab _
    rw [estep]
    obtain ⟨l1, l2⟩ := dgS_len (m := m) ((os.zip ts).take j) (gs, [])
    have lj : ((os.zip ts).take j).length ≤ os.length := by rw [List.length_take]; omega
    generalize ((os.zip ts).take j).foldl (dgS m) (gs, []) = S at *
    dsimp only [List.length_nil] at l1 l2
    obtain ⟨_, _, _, dx2, _, _, f1, _⟩ := id N10
    refine ⟨T, _, rfl, .inl (.inl upd_same), rfl, _, _, rfl, _, _, rfl, rfl, rfl, ?_⟩
    refine yesT ?_
    try simp only [L2.start, List.map_cons, List.map_nil, List.length_cons, List.length_nil, List.replicate_succ, List.replicate_zero, List.cons_append, List.nil_append, List.set_cons_succ, List.set_cons_zero, Nat.reduceAdd, Nat.reduceSub, Nat.zero_add]
    refine ⟨_, rfl, p.x, dx2, _, rfl, f1, rfl, _, rfl, _, rfl, W :: Z, p, m, S.1, nm, a, b, rfl, N10, by omega, by omega, by omega, fun H3 k3 N3 => ?_⟩
    have kk : KeepS [p.lm, p.ld] H H3 := (k9.trans (.ofSame sT)).trans k3
    refine ⟨_, k3.1 _ _ (sT _ _ eD) nW2, by rw [nts_len]; exact big_lt (by omega), ks_updN kk nW, N3.put (by simp), ?_⟩
    rw [upd_same]
    show _ = some (HO.lst (nts (S.2 ++ [_])))
    rw [nts_app]
    rfl
  rintro H1 ⟨k1, N1, eW⟩
  rw [List.take_of_length_le (by omega)] at N1 eW
  try simp only [L2.start, List.map_cons, List.map_nil, List.length_cons, List.length_nil, List.replicate_succ, List.replicate_zero, List.cons_append, List.nil_append, List.set_cons_succ, List.set_cons_zero, Nat.reduceAdd, Nat.reduceSub, Nat.zero_add]
  have DW := digW_ok (m := m) (gs := gs) (ps := os.zip ts) (fun p hp => ⟨ho _ (List.of_mem_zip hp).1, hs _ (List.of_mem_zip hp).2⟩)
  rw [show (os.zip ts).foldl (dgS m) (gs, []) = markD m gs os ts from rfl] at N1 eW DW
  have ld : (markD m gs os ts).2.length = os.length := by
    have := congrArg List.length (DW.val (List.replicate m false) (by simp))
    rw [List.length_map, List.length_map, lz] at this
    exact this
  have eq2 : markW m gs os ts = ((markM m gs os ts).1, (markM m gs os ts).2 ++ (markD m gs os ts).2.drop (os.length - 1)) := rfl
  have eq1 : markM m gs os ts = (List.range (os.length - 1)).foldl (maS m os (markD m gs os ts).2) ((markD m gs os ts).1, []) := rfl
  rw [eq2] at q
  rw [eq1] at q
  have lD := DW.ext.len
  rw [lz] at lD
  have Dlt := DW.lt
  generalize markD m gs os ts = S0 at *
  refine ⟨Nat.zero_le _, fun R nR => ?_⟩
  have nRH := ks_none k1 nR
  have nR2 := hN.nin nRH
  have nRW : W ≠ R := ne_of_none eW nR
  have N2 := N1.add (o := .lst []) nR
  have k2 := ks_updN k1 (o := .lst []) nRH
  have eW2 : (upd H1 R (.lst [])) W = _ := (upd_ne nRW).trans eW
  have eR2 : (upd H1 R (.lst [])) R = some (.lst []) := upd_same
  have nf : (nts S0.2).length = os.length := by rw [nts_len, ld]
  generalize upd H1 R (.lst []) = H2 at *
  dsimp only [gName]
  try simp only [L2.start, List.map_cons, List.map_nil, List.length_cons, List.length_nil, List.replicate_succ, List.replicate_zero, List.cons_append, List.nil_append, List.set_cons_succ, List.set_cons_zero, Nat.reduceAdd, Nat.reduceSub, Nat.zero_add]
  refine ⟨_, rfl, W, _, rfl, .inl (SqL.of eW2), _, _, rfl, rfl, ?_⟩
  rw [nf]
  refine ⟨(os.length : Int) - 1, rfl, by omega, by omega, ?_⟩
  rw [show ((os.length : Int) - 1).toNat = os.length - 1 by omega]
  refine for_range (n := os.length - 1) (fun j σ H9 => ∃ y z : Option V, σ = [some (.ref p.x), some (.ref t), some (.ref u), some (.ref W), some (.ref R), y, z, none, none] ∧ KeepS [p.lm, p.ld] H H9 ∧ H9 W = some (.lst (nts S0.2)) ∧ NetAt C (R :: W :: Z) H9 p m ((List.range j).foldl (maS m os S0.2) (S0.1, [])).1 nm ∧ H9 R = some (.lst (nts ((List.range j).foldl (maS m os S0.2) (S0.1, [])).2))) ⟨_, _, rfl, k2, eW2, N2, eR2⟩ ?_ ?_
  · rintro j σ H9 hj ⟨y, z, rfl, k9, eW9, N9, eR9⟩
    rw [show (0 : Int) + (j : Nat) = ((j : Nat) : Int) from by omega]
    have estep : (List.range (j + 1)).foldl (maS m os S0.2) (S0.1, []) = maS m os S0.2 ((List.range j).foldl (maS m os S0.2) (S0.1, [])) j := by rw [List.range_succ, List.foldl_append]; rfl
    rw [estep]
    obtain ⟨lM, lM2⟩ : S0.1.length ≤ ((List.range j).foldl (maS m os S0.2) (S0.1, [])).1.length ∧ ((List.range j).foldl (maS m os S0.2) (S0.1, [])).1.length ≤ S0.1.length + 5 * j ∧ ((List.range j).foldl (maS m os S0.2) (S0.1, [])).2.length = j := by
      have := maS_len (m := m) (os := os) (ds := S0.2) (List.range j) (S0.1, [])
      rw [List.length_range] at this
      simpa using this
    generalize (List.range j).foldl (maS m os S0.2) (S0.1, []) = S at *
    have oj := getD_in (l := os) (p := j) (by omega)
    have oj1 := getD_in (l := os) (p := j + 1) (by omega)
    have dj := getD_in (l := S0.2) (p := j) (by omega)
    have dj1 := getD_in (l := S0.2) (p := j + 1) (by omega)
    have T9 := hT.keepS k9 nt
    dsimp only [gName]
    try simp only [L2.start, List.map_cons, List.map_nil, List.length_cons, List.length_nil, List.replicate_succ, List.replicate_zero, List.cons_append, List.nil_append, List.set_cons_succ, List.set_cons_zero, Nat.reduceAdd, Nat.reduceSub, Nat.zero_add]
    obtain ⟨_, _, _, dx2, _, _, f1, _⟩ := id N9
    refine ⟨_, rfl, p.x, dx2, _, rfl, f1, rfl, _, rfl, _, rfl, ?_⟩
    refine T9.at (y := fun _ => True) (at_nts (by omega)) ?_
    refine ⟨_, rfl, _, rfl, _, _, rfl, rfl, ?_⟩
    refine T9.at (y := fun _ => True) (at_nts (a := j + 1) (by omega)) ?_
    refine ⟨R :: W :: Z, p, m, S.1, nm, _, _, rfl, N9, ?_, ?_, by omega, fun H3 k3 N3 => ?_⟩
    · have := ho _ oj
      omega
    · have := ho _ oj1
      omega
    have kA := k9.trans k3
    have eW3 := k3.1 _ _ eW9 nW2
    have eR3 := k3.1 _ _ eR9 nR2
    dsimp only [gName]
    try simp only [L2.start, List.map_cons, List.map_nil, List.length_cons, List.length_nil, List.replicate_succ, List.replicate_zero, List.cons_append, List.nil_append, List.set_cons_succ, List.set_cons_zero, Nat.reduceAdd, Nat.reduceSub, Nat.zero_add]
    refine gset_if (ifS_cut (fun σ' H' => σ' = [some (.ref p.x), some (.ref t), some (.ref u), some (.ref W), some (.ref R), some (.int (j : Int)), some (.int ((barW m os S0.2 S.1 j).2 : Nat)), none, none] ∧ KeepS [p.lm, p.ld] H H' ∧ H' W = some (.lst (nts S0.2)) ∧ NetAt C (R :: W :: Z) H' p m (barW m os S0.2 S.1 j).1 nm ∧ H' R = some (.lst (nts S.2))) (fun D' q' => ?_) ?_)
    · refine ⟨_, rfl, _, _, rfl, rfl, _, rfl, ite2 (fun z => ?_) (fun z => ?_)⟩
      · have hj0 : j ≠ 0 := by
          have := of_decide_eq_true z
          omega
        have eb : barW m os S0.2 S.1 j = (S.1 ++ [.w "unlike" [os.getD j 0, os.getD (j + 1) 0]] ++ [.w "unlike" [m + S.1.length, S0.2.getD (j - 1) 0]], m + (S.1 ++ [Gt.w "unlike" [os.getD j 0, os.getD (j + 1) 0]]).length) := if_neg hj0
        rw [eb] at q'
        have dm := Dlt _ (getD_in (l := S0.2) (p := j - 1) (by omega))
        have lS1 : (S.1 ++ [Gt.w "unlike" [os.getD j 0, os.getD (j + 1) 0]]).length = S.1.length + 1 := by simp
        obtain ⟨_, _, _, dx3, _, _, f3, _⟩ := id N3
        refine ⟨_, rfl, p.x, dx3, _, rfl, f3, rfl, _, rfl, _, rfl, _, rfl, _, _, rfl, rfl, W, _, _, _, rfl, rfl, SqL.of eW3, (by rw [show (j : Int) - 1 = ((j - 1 : Nat) : Int) by omega]; exact at_nts (by omega)), R :: W :: Z, p, m, _, nm, _, _, rfl, N3, by omega, by omega, by omega, fun H4 k4 N4 => ?_⟩
        exact q' _ _ ⟨rfl, kA.trans k4, k4.1 _ _ eW3 nW2, N4, k4.1 _ _ eR3 nR2⟩
      · have hj0 : j = 0 := by
          by_cases c : j = 0
          · exact c
          · exact absurd (decide_eq_true (show (j : Int) > 0 by omega)) z
        have eb : barW m os S0.2 S.1 j = (S.1 ++ [.w "unlike" [os.getD j 0, os.getD (j + 1) 0]], m + S.1.length) := if_pos hj0
        rw [eb] at q'
        exact q' _ _ ⟨rfl, kA, eW3, N3, eR3⟩
    · rintro σ' H4 ⟨rfl, k4, eW4, N4, eR4⟩
      have lb := barW_len (m := m) (os := os) (ds := S0.2) (gs := S.1) (p := j)
      have Bk := barW_ok (m := m) (p := j) (os := os) (ds := S0.2) (gs := S.1) (by have := ho _ oj; omega) (by have := ho _ oj1; omega) (fun _ => by have := Dlt _ (getD_in (l := S0.2) (p := j - 1) (by omega)); omega)
      have blt := Bk.lt
      have hms : maS m os S0.2 S j = ((barW m os S0.2 S.1 j).1 ++ [.w "both" [S0.2.getD (j + 1) 0, (barW m os S0.2 S.1 j).2]] ++ [.w "other" [m + (barW m os S0.2 S.1 j).1.length]] ++ [.w "both" [S0.2.getD j 0, m + ((barW m os S0.2 S.1 j).1 ++ [Gt.w "both" [S0.2.getD (j + 1) 0, (barW m os S0.2 S.1 j).2]]).length]],
        S.2 ++ [m + ((barW m os S0.2 S.1 j).1 ++ [Gt.w "both" [S0.2.getD (j + 1) 0, (barW m os S0.2 S.1 j).2]] ++ [Gt.w "other" [m + (barW m os S0.2 S.1 j).1.length]]).length]) := rfl
      rw [hms]
      clear hms Bk
      have lb2 : (barW m os S0.2 S.1 j).1.length ≤ S.1.length + 2 ∧ S.1.length ≤ (barW m os S0.2 S.1 j).1.length := by split at lb <;> omega
      generalize barW m os S0.2 S.1 j = bb at *
      have d0 := Dlt _ dj
      have d1 := Dlt _ dj1
      obtain ⟨_, _, _, dx4, _, _, f4, _⟩ := id N4
      dsimp only
      refine ⟨_, rfl, .inl ⟨rfl, _, SqL.of eR4⟩, _, rfl, p.x, dx4, _, rfl, f4, rfl, _, rfl, _, rfl, W, _, _, _, rfl, rfl, SqL.of eW4, at_nts (by omega), ?_⟩
      refine ⟨_, rfl, p.x, dx4, _, rfl, f4, rfl, ?_⟩
      refine ⟨_, rfl, p.x, dx4, _, rfl, f4, rfl, _, rfl, _, rfl, _, _, rfl, rfl, W, _, _, _, rfl, rfl, SqL.of eW4, at_nts (a := j + 1) (by omega), _, rfl, R :: W :: Z, p, m, _, nm, _, _, rfl, N4, by omega, by omega, by omega, fun H5 k5 N5 => ?_⟩
      have lB1 : (bb.1 ++ [Gt.w "both" [S0.2.getD (j + 1) 0, bb.2]]).length = bb.1.length + 1 := by simp
      refine ⟨R :: W :: Z, p, m, _, nm, _, rfl, N5, by omega, by omega, fun H6 k6 N6 => ?_⟩
      have lB2 : (bb.1 ++ [Gt.w "both" [S0.2.getD (j + 1) 0, bb.2]] ++ [Gt.w "other" [m + bb.1.length]]).length = bb.1.length + 2 := by simp
      refine ⟨R :: W :: Z, p, m, _, nm, _, _, rfl, N6, by omega, by omega, by omega, fun H7 k7 N7 => ?_⟩
      have k567 := (k5.trans k6).trans k7
      have eR7 := k567.1 _ _ eR4 nR2
      have eW7 := k567.1 _ _ eW4 nW2
      refine ⟨R, _, _, rfl, rfl, eR7, by rw [nts_len]; exact big_lt (by omega), _, _, rfl, ks_updN (k4.trans k567) nRH, ?_, N7.put (by simp), ?_⟩
      · rw [upd_ne nRW]
        exact eW7
      · rw [upd_same]
        show _ = some (HO.lst (nts (S.2 ++ [_])))
        rw [nts_app]
        rfl
  · rintro σ H9 ⟨y, z, rfl, k9, eW9, N9, eR9⟩
    have lM := maS_len (m := m) (os := os) (ds := S0.2) (List.range (os.length - 1)) (S0.1, [])
    rw [List.length_range] at lM
    generalize (List.range (os.length - 1)).foldl (maS m os S0.2) (S0.1, []) = S at *
    dsimp only [List.length_nil] at lM
    refine ⟨_, rfl, _, rfl, _, rfl, _, rfl, W, _, rfl, SqL.of eW9, fun D1 nD1 => ?_⟩
    have ec : cutV (nts S0.2) (some (-1)) none = nts (S0.2.drop (os.length - 1)) := by
      unfold cutV nts
      rw [List.length_map, ld, show HT.sIx os.length 0 (some (-1)) = os.length - 1 from by
        show (if (-1 : Int) < 0 then ((-1 : Int) + (os.length : Int)).toNat else min (-1 : Int).toNat os.length) = _
        rw [if_pos (by decide)]
        omega, HT.sIx_none, ← List.map_drop, List.take_of_length_le (by rw [List.length_map, List.length_drop]; omega)]
    rw [ec]
    have s1 := same_upd (o := .lst (nts (S0.2.drop (os.length - 1)))) nD1
    have eD1 : (upd H9 D1 (.lst (nts (S0.2.drop (os.length - 1))))) D1 = some (.lst (nts (S0.2.drop (os.length - 1)))) := upd_same
    generalize upd H9 D1 (.lst (nts (S0.2.drop (os.length - 1)))) = HA at *
    refine ⟨R, D1, _, _, rfl, rfl, s1 _ _ eR9, eD1, by rw [nts_len, nts_len, List.length_drop]; exact Nat.le_of_lt (big_lt (by omega)), fun D nD => ?_⟩
    rw [← nts_app]
    have sD := same_upd (o := .lst (nts (S.2 ++ S0.2.drop (os.length - 1)))) nD
    exact q D _ ((k9.trans (.ofSame s1)).trans (.ofSame sD)) ((N9.less.less.same s1).same sD) (ks_none (k9.trans (.ofSame s1)) nD) upd_same
def spLen (K : PySem.W.Frag) : Sp := fun vs H Q _ => ∃ (n t : Addr) (b : Bool) (ws : List Nat), vs = [.ref n, .ref t, .int (ws.length : Int)] ∧ Sq2 b K H t (nts ws) ∧ ∀ D, H D = none → Q (.ref D) (upd H D (.lst (nts ws)))
theorem ok_lengthened (B : Bl mg) (L : LL K mg C a1 a2 a3 a4 a5 a6 a7 a8 a9 a10 a11 a12 a13 a14 a15 a16 a17 a18 a19 a20 a21 a22 a23 a24 a25 a26 a27 a28 a29 a30 a31 a32 a33 a34 a35 a36 a37 a38 l1 l2 l3 l4 l5 l6 l7 l8 l9 l10 l11 l12 l13 l14 l15 l16 l17 l18 l19 l20 l21 l22 l23 l24 l25 l26 l27 l28 l29 l30 l31 l32 l33 l34 l35 l36 l37 l38) : FnOk P w K mg base CX0 1 a8 l8 ["net", "wires", "many"] (spLen K) := by
  refine L.F_lengthened.ok sc_lengthened (fun vs H Q E h => ?_) (fun cdv A outer s H vs Q E hr h => ?_)
  · obtain ⟨n, t, b, ws, rfl, _⟩ := h
    rfl
  obtain ⟨n, t, b, ws, rfl, hT, q⟩ := h
  refine ⟨_, (pss_cons (ps_if (pt_cmpR op_ge (pe_callB call_len_seq (by rfl) B.len PySem.boot_len (pa_cons (pv 1) pa_nil)) (pv 2) (nomark _)) (pss_one (ps_ret (pe_callTy call_list_of (by rfl) B.list PyProof.Rows.boot_list (pa_cons (pv 1) pa_nil)))) pss_nil)
    (pss_one ps_never)), ?_⟩
  refine ⟨_, rfl, t, _, rfl, hT.to, _, rfl, ?_⟩
  rw [nts_len]
  refine ⟨_, _, rfl, rfl, _, rfl, ite2 (fun _ => ?_) (fun z => absurd (decide_eq_true (Int.le_refl _)) z)⟩
  exact ⟨_, rfl, t, _, rfl, hT.to, q⟩
def spLess (K : PySem.W.Frag) (C : Addr) : Sp := fun vs H Q _ => ∃ (Z : List Addr) (p : NetP) (m : Nat) (gs : List Gt) (nm : List (Str × List Nat)) (t u : Addr) (b1 b2 : Bool) (os ts : List Nat), vs = [.ref p.x, .ref t, .ref u] ∧ NetAt C Z H p m gs nm ∧ Sq2 b1 K H t (nts os) ∧ Sq2 b2 K H u (nts ts) ∧ os.length = ts.length ∧ (∀ w ∈ os, w < m + gs.length) ∧ (∀ w ∈ ts, w < m + gs.length) ∧ os.length ≤ 2000 ∧ m + gs.length ≤ 300000 ∧
  ∀ H', KeepS [p.lm, p.ld] H H' → NetAt C Z H' p m (lessW m gs os ts).1 nm → Q (.int ((lessW m gs os ts).2 : Nat)) H'
theorem ok_is_less_wire (B : Bl mg) (L : LL K mg C a1 a2 a3 a4 a5 a6 a7 a8 a9 a10 a11 a12 a13 a14 a15 a16 a17 a18 a19 a20 a21 a22 a23 a24 a25 a26 a27 a28 a29 a30 a31 a32 a33 a34 a35 a36 a37 a38 l1 l2 l3 l4 l5 l6 l7 l8 l9 l10 l11 l12 l13 l14 l15 l16 l17 l18 l19 l20 l21 l22 l23 l24 l25 l26 l27 l28 l29 l30 l31 l32 l33 l34 l35 l36 l37 l38) : FnOk P w K mg base CX0 5 a7 l7 ["net", "ones", "others"] (spLess K C) := by
  have G_lengthened : FnOk P w K mg base CX0 4 a8 l8 ["net", "wires", "many"] (spLen K) := (ok_lengthened B L).mono (by decide)
  have G_Net_other : FnOk P w K mg base CX0 4 a28 l28 ["self", "a"] (spG1 C) := (ok_Net_other B L).mono (by decide)
  have G_Net_both : FnOk P w K mg base CX0 4 a25 l25 ["self", "a", "b"] (spG2 C "both") := (ok_Net_both B L).mono (by decide)
  have G_Net_either : FnOk P w K mg base CX0 4 a26 l26 ["self", "a", "b"] (spG2 C "either") := (ok_Net_either B L).mono (by decide)
  have G_Net_fixed : FnOk P w K mg base CX0 4 a29 l29 ["self", "bit"] (spFixed C) := (ok_Net_fixed B L).mono (by decide)
  refine L.F_is_less_wire.ok sc_is_less_wire (fun vs H Q E h => ?_) (fun cdv A outer s H vs Q E hr h => ?_)
  · obtain ⟨Z, p, m, gs, nm, t, u, b1, b2, os, ts, rfl, _⟩ := h
    rfl
  obtain ⟨Z, p, m, gs, nm, t, u, b1, b2, os, ts, rfl, hN, hT, hU, hlen, ho, hs, hl, hl2, q⟩ := h
  refine ⟨_, (pss_cons (ps_set (i := 3) sc_is_less_wire.nd rfl (.inl rfl) (pe_callB (call_max2 rfl) (by rfl) B.max boot_max (pa_cons (pe_callB call_len_seq (by rfl) B.len PySem.boot_len (pa_cons (pv 1) pa_nil)) (pa_cons (pe_callB call_len_seq (by rfl) B.len PySem.boot_len (pa_cons (pv 2) pa_nil)) pa_nil))))
    (pss_cons (ps_set (i := 1) sc_is_less_wire.nd rfl (.inl rfl) (pe_call G_lengthened hr (by rfl) L.m_lengthened L.F_lengthened.kp L.b_lengthened .nil pass0 (pa_cons (pv 0) (pa_cons (pv 1) (pa_cons (pv 3) pa_nil)))))
    (pss_cons (ps_set (i := 2) sc_is_less_wire.nd rfl (.inl rfl) (pe_call G_lengthened hr (by rfl) L.m_lengthened L.F_lengthened.kp L.b_lengthened .nil pass0 (pa_cons (pv 0) (pa_cons (pv 2) (pa_cons (pv 3) pa_nil)))))
    (pss_cons (ps_set (i := 4) sc_is_less_wire.nd rfl (.inl rfl) (pe_meth (pv 0) L.T.cl L.M_Net_fixed G_Net_fixed hr L.b_Net_fixed .nil pass0 (pa_cons pe_int pa_nil)))
    (pss_cons (ps_for PassesOwn.never rfl (pi_zb (by rfl) B.zip (pa_cons (pe_revS (pv 1)) (pa_cons (pe_revS (pv 2)) pa_nil))) (pg_tup (by rfl) (pgs_cons (pg_name (i := 5) sc_is_less_wire.nd rfl (.inl rfl)) (pgs_cons (pg_name (i := 6) sc_is_less_wire.nd rfl (.inl rfl)) pgs_nil))) (pss_cons (ps_set (i := 7) sc_is_less_wire.nd rfl (.inl rfl) (pe_meth (pv 0) L.T.cl L.M_Net_other G_Net_other hr L.b_Net_other .nil pass0 (pa_cons (pv 5) pa_nil)))
    (pss_one (ps_set (i := 4) sc_is_less_wire.nd rfl (.inl rfl) (pe_meth (pv 0) L.T.cl L.M_Net_either G_Net_either hr L.b_Net_either .nil pass0 (pa_cons (pe_meth (pv 0) L.T.cl L.M_Net_both G_Net_both hr L.b_Net_both .nil pass0 (pa_cons (pv 7) (pa_cons (pv 6) pa_nil))) (pa_cons (pe_meth (pv 0) L.T.cl L.M_Net_both G_Net_both hr L.b_Net_both .nil pass0 (pa_cons (pe_meth (pv 0) L.T.cl L.M_Net_either G_Net_either hr L.b_Net_either .nil pass0 (pa_cons (pv 7) (pa_cons (pv 6) pa_nil))) (pa_cons (pv 4) pa_nil))) pa_nil)))))))
    (pss_one (ps_ret (pv 4)))))))), ?_⟩
  refine ⟨_, rfl, t, _, rfl, hT.to, _, rfl, u, _, rfl, hU.to, _, _, rfl, ?_⟩
  rw [nts_len, nts_len, ← hlen, if_neg (Nat.lt_irrefl _ ∘ Int.ofNat_lt.mp)]
  try simp only [L2.start, List.map_cons, List.map_nil, List.length_cons, List.length_nil, List.replicate_succ, List.replicate_zero, List.cons_append, List.nil_append, List.set_cons_succ, List.set_cons_zero, Nat.reduceAdd, Nat.reduceSub, Nat.zero_add]
  dsimp only [gName]
  try simp only [L2.start, List.map_cons, List.map_nil, List.length_cons, List.length_nil, List.replicate_succ, List.replicate_zero, List.cons_append, List.nil_append, List.set_cons_succ, List.set_cons_zero, Nat.reduceAdd, Nat.reduceSub, Nat.zero_add]
  refine ⟨_, rfl, _, rfl, _, rfl, p.x, t, b1, os, rfl, hT, fun D1 nD1 => ?_⟩
  have s1 := same_upd (o := .lst (nts os)) nD1
  have e1 : (upd H D1 (.lst (nts os))) D1 = some (.lst (nts os)) := upd_same
  have N1 := hN.same s1
  have nD12 := hN.nin nD1
  have hU1 := hU.keepS (S := []) (.ofSame s1) (fun z => nomatch z)
  generalize upd H D1 (.lst (nts os)) = H1 at *
  dsimp only [gName]
  try simp only [L2.start, List.map_cons, List.map_nil, List.length_cons, List.length_nil, List.replicate_succ, List.replicate_zero, List.cons_append, List.nil_append, List.set_cons_succ, List.set_cons_zero, Nat.reduceAdd, Nat.reduceSub, Nat.zero_add]
  refine ⟨_, rfl, _, rfl, _, rfl, p.x, u, b2, ts, by rw [hlen]; rfl, hU1, fun D2 nD2 => ?_⟩
  have s2 := same_upd (o := .lst (nts ts)) nD2
  have e2 : (upd H1 D2 (.lst (nts ts))) D2 = some (.lst (nts ts)) := upd_same
  have N2 := N1.same s2
  have nD22 := N1.nin nD2
  have e12 := s2 _ _ e1
  have k2 : KeepS [p.lm, p.ld] H (upd H1 D2 (.lst (nts ts))) := (KeepS.ofSame s1).trans (.ofSame s2)
  generalize upd H1 D2 (.lst (nts ts)) = H2 at *
  dsimp only [gName]
  try simp only [L2.start, List.map_cons, List.map_nil, List.length_cons, List.length_nil, List.replicate_succ, List.replicate_zero, List.cons_append, List.nil_append, List.set_cons_succ, List.set_cons_zero, Nat.reduceAdd, Nat.reduceSub, Nat.zero_add]
  obtain ⟨_, _, _, dx, _, _, f1, _⟩ := id N2
  refine ⟨_, rfl, p.x, dx, _, rfl, f1, rfl, Z, p, m, gs, nm, 0, rfl, N2, by omega, fun H3 k3 N3 => ?_⟩
  have e13 := k3.1 _ _ e12 nD12
  have e23 := k3.1 _ _ e2 nD22
  dsimp only [gName]
  try simp only [L2.start, List.map_cons, List.map_nil, List.length_cons, List.length_nil, List.replicate_succ, List.replicate_zero, List.cons_append, List.nil_append, List.set_cons_succ, List.set_cons_zero, Nat.reduceAdd, Nat.reduceSub, Nat.zero_add]
  refine ⟨_, rfl, false, D1, _, rfl, SqL.of e13, fun A1 nA1 => ?_⟩
  rw [nts_rev]
  have sA1 := same_upd (o := sqO false (nts os.reverse)) nA1
  have eA1 : Sq2 false K (upd H3 A1 (sqO false (nts os.reverse))) A1 (nts os.reverse) := Sq2.new
  have nA12 := N3.nin nA1
  have N4 := N3.same sA1
  have e24 := sA1 _ _ e23
  generalize upd H3 A1 (sqO false (nts os.reverse)) = H4 at *
  refine ⟨_, rfl, false, D2, _, rfl, SqL.of e24, fun A2 nA2 => ?_⟩
  rw [nts_rev]
  have sA2 := same_upd (o := sqO false (nts ts.reverse)) nA2
  have eA2 : Sq2 false K (upd H4 A2 (sqO false (nts ts.reverse))) A2 (nts ts.reverse) := Sq2.new
  have nA22 := N4.nin nA2
  have N5 := N4.same sA2
  have eA1' := eA1.keepS (S := []) (.ofSame sA2) (fun z => nomatch z)
  have k5 := (k2.trans k3).trans (.ofSame (sA1.trans sA2))
  generalize upd H4 A2 (sqO false (nts ts.reverse)) = H5 at *
  refine ⟨false, false, A1, A2, _, _, rfl, eA1', eA2, ?_⟩
  have hF := fun i hi => lessF_ok (m := m) (gs := gs) (ps := os.reverse.zip ts.reverse) (fun p hp => ⟨ho _ (mem_zipR hp).1, hs _ (mem_zipR hp).2⟩) i hi _ rfl
  have lz := zipR_len hlen
  rw [lz] at hF
  refine for_it (walk_zb (K := K) (t1 := false) (t2 := false) (a := A1) (b := A2) (xs := nts os.reverse) (ys := nts ts.reverse) (n := os.length) (by rw [nts_len, List.length_reverse]) (by rw [nts_len, List.length_reverse, hlen])) (fun j σ H9 => ∃ y5 y6 y7 : Option V, σ = [some (.ref p.x), some (.ref D1), some (.ref D2), some (.int (os.length : Int)), some (.int ((lessF m gs ((os.reverse.zip ts.reverse).take j)).2 : Nat)), y5, y6, y7] ∧ KeepS [p.lm, p.ld] H5 H9 ∧ NetAt C Z H9 p m (lessF m gs ((os.reverse.zip ts.reverse).take j)).1 nm) ⟨_, _, _, rfl, KeepS.refl _ _, N5⟩ (fun j σ H9 _ ⟨_, _, _, _, k9, _⟩ => ⟨eA1'.keepS k9 nA12, eA2.keepS k9 nA22⟩) ?_ ?_
  · rintro j v σ H9 H10 hj ⟨y5, y6, y7, rfl, k9, N9⟩ ⟨T, x, y, rfl, nT, rfl, hx, hy⟩
    obtain ⟨a, b, hab, rfl, rfl⟩ := nts_zip hx hy
    have hp := List.mem_of_getElem? hab
    have la := ho _ (mem_zipR hp).1
    have lb := hs _ (mem_zipR hp).2
    have estep : lessF m gs ((os.reverse.zip ts.reverse).take (j + 1)) = leS m (lessF m gs ((os.reverse.zip ts.reverse).take j)) (a, b) := fold_take _ hab _
    rw [estep]
    obtain ⟨_, lg, l4, _⟩ := hF j (by omega)
    generalize lessF m gs ((os.reverse.zip ts.reverse).take j) = S at *
    have sT := same_upd (o := .tup [.int (a : Int), .int (b : Int)]) nT
    have N10 := N9.same sT
    have eT : (upd H9 T (.tup [.int (a : Int), .int (b : Int)])) T = some (.tup [.int (a : Int), .int (b : Int)]) := upd_same
    have k10 := k9.trans (.ofSame sT)
    generalize upd H9 T (.tup [.int (a : Int), .int (b : Int)]) = H10 at *
    refine ⟨T, _, rfl, .inl (.inl eT), rfl, _, _, rfl, _, _, rfl, rfl, ?_⟩
    try simp only [L2.start, List.map_cons, List.map_nil, List.length_cons, List.length_nil, List.replicate_succ, List.replicate_zero, List.cons_append, List.nil_append, List.set_cons_succ, List.set_cons_zero, Nat.reduceAdd, Nat.reduceSub, Nat.zero_add]
    obtain ⟨_, _, _, dx2, _, _, f1, _⟩ := id N10
    refine ⟨_, rfl, p.x, dx2, _, rfl, f1, rfl, _, rfl, Z, p, m, S.1, nm, a, rfl, N10, by omega, by omega, fun H3 k3 N3 => ?_⟩
    have l1 : (S.1 ++ [Gt.w "other" [a]]).length = S.1.length + 1 := by simp
    dsimp only [gName]
    try simp only [L2.start, List.map_cons, List.map_nil, List.length_cons, List.length_nil, List.replicate_succ, List.replicate_zero, List.cons_append, List.nil_append, List.set_cons_succ, List.set_cons_zero, Nat.reduceAdd, Nat.reduceSub, Nat.zero_add]
    obtain ⟨_, _, _, dx3, _, _, f3, _⟩ := id N3
    refine ⟨_, rfl, p.x, dx3, _, rfl, f3, rfl, ?_⟩
    refine ⟨_, rfl, p.x, dx3, _, rfl, f3, rfl, _, rfl, _, rfl, Z, p, m, _, nm, m + S.1.length, b, rfl, N3, by omega, by omega, by omega, fun H4 k4 N4 => ?_⟩
    have l2 : (S.1 ++ [Gt.w "other" [a]] ++ [Gt.w "both" [m + S.1.length, b]]).length = S.1.length + 2 := by simp
    obtain ⟨_, _, _, dx4, _, _, f4, _⟩ := id N4
    refine ⟨_, rfl, p.x, dx4, _, rfl, f4, rfl, ?_⟩
    refine ⟨_, rfl, p.x, dx4, _, rfl, f4, rfl, _, rfl, _, rfl, Z, p, m, _, nm, m + S.1.length, b, rfl, N4, by omega, by omega, by omega, fun H6 k6 N6 => ?_⟩
    have l3 : (S.1 ++ [Gt.w "other" [a]] ++ [Gt.w "both" [m + S.1.length, b]] ++ [Gt.w "either" [m + S.1.length, b]]).length = S.1.length + 3 := by simp
    refine ⟨_, rfl, Z, p, m, _, nm, _, S.2, rfl, N6, by omega, by omega, by omega, fun H7 k7 N7 => ?_⟩
    have l4' : (S.1 ++ [Gt.w "other" [a]] ++ [Gt.w "both" [m + S.1.length, b]] ++ [Gt.w "either" [m + S.1.length, b]] ++ [Gt.w "both" [m + (S.1 ++ [Gt.w "other" [a]] ++ [Gt.w "both" [m + S.1.length, b]]).length, S.2]]).length = S.1.length + 4 := by simp
    refine ⟨Z, p, m, _, nm, _, _, rfl, N7, by omega, by omega, by omega, fun H8 k8 N8 => ?_⟩
    exact ⟨_, _, _, rfl, k10.trans ((((k3.trans k4).trans k6).trans k7).trans k8), N8⟩
  · rintro σ H9 ⟨y5, y6, y7, rfl, k9, N9⟩
    rw [← lz, List.take_length] at N9 ⊢
    exact ⟨_, rfl, q H9 (k5.trans k9) N9⟩
end
section
variable {P : Program} {w : World} {K : PySem.W.Frag} {mg : Str → Option Value} {base : Heap}
variable {C : Addr} {a1 a2 a3 a4 a5 a6 a7 a8 a9 a10 a11 a12 a13 a14 a15 a16 a17 a18 a19 a20 a21 a22 a23 a24 a25 a26 a27 a28 a29 a30 a31 a32 a33 a34 a35 a36 a37 a38 : Addr} {l1 l2 l3 l4 l5 l6 l7 l8 l9 l10 l11 l12 l13 l14 l15 l16 l17 l18 l19 l20 l21 l22 l23 l24 l25 l26 l27 l28 l29 l30 l31 l32 l33 l34 l35 l36 l37 l38 : FuncData}
/-! ### what a run tells, as a dict -/
theorem valV_keys {kvs : List (Key × V)} {k : Key} (h : k ∉ kvs.map (·.1)) : valV kvs k = none := valV_out h
theorem mergeK_nodup : ∀ (kvs acc : List (Key × V)), ((acc ++ kvs).map (·.1)).Nodup → mergeK acc kvs = acc ++ kvs
  | [], acc, _ => (List.append_nil _).symm
  | (k, v) :: kvs, acc, h => by
    have e : putK acc k v = acc ++ [(k, v)] := putK_new _ (valV_out (fun z => by
      rw [List.map_append, List.map_cons, List.nodup_append] at h
      exact h.2.2 k z k (by simp) rfl))
    show mergeK (putK acc k v) kvs = _
    rw [e, mergeK_nodup kvs (acc ++ [(k, v)]) (by rw [List.append_assoc]; exact h), List.append_assoc]
    rfl
def TAt (H : Hp) (d : Addr) (nm : List (Str × List Nat)) (rs : List Int) : Prop := ∃ kvs, H d = some (.dK kvs) ∧ ∀ x ∈ nm, ∃ l, valV kvs (.inr x.1) = some (.ref l) ∧ H l = some (.lst ((x.2.map fun a => rs.getD a 0).map V.int))
theorem TAt.same {H H' : Hp} {d : Addr} {nm : List (Str × List Nat)} {rs : List Int} (h : TAt H d nm rs) (s : Same H H') : TAt H' d nm rs := by
  obtain ⟨kvs, e, f⟩ := h
  exact ⟨kvs, s _ _ e, fun x hx => by
    obtain ⟨l, a, b⟩ := f x hx
    exact ⟨l, a, s _ _ b⟩⟩
theorem run_dict {H0 H : Hp} {t : Addr} {ys : List Str} {nm : List (Str × List Nat)} {rs : List Int} (h : RunAt H0 H t ys nm rs) (hp : ys.Perm (nm.map (·.1))) (hn : (nm.map (·.1)).Nodup) :
    ∃ (ps : List Addr) (kvs : List (Key × V)), SqL K H t (ps.map V.ref) ∧ Paired (fun p kv => SqT K H p [kV kv.1, kv.2]) ps kvs ∧ mergeK [] kvs = kvs ∧ ∀ x ∈ nm, ∃ l, valV kvs (.inr x.1) = some (.ref l) ∧ H l = some (.lst ((x.2.map fun a => rs.getD a 0).map V.int)) := by
  obtain ⟨ts, lt, et, hts⟩ := h
  have key : ∀ (ts : List Addr) (ys : List Str), ts.length = ys.length → (∀ (i : Nat) (u : Addr) (n : Str), ts[i]? = some u → ys[i]? = some n → ∃ (ws : List Nat) (l : Addr), (n, ws) ∈ nm ∧ H0 l = none ∧ H u = some (.tup [.str n, .ref l]) ∧ H l = some (.lst ((ws.map fun a => rs.getD a 0).map V.int))) →
      ∃ kvs : List (Key × V), Paired (fun p kv => SqT K H p [kV kv.1, kv.2]) ts kvs ∧ kvs.map (·.1) = ys.map Sum.inr ∧ ∀ kv ∈ kvs, ∃ (n : Str) (ws : List Nat) (l : Addr), kv = (.inr n, .ref l) ∧ (n, ws) ∈ nm ∧ H l = some (.lst ((ws.map fun a => rs.getD a 0).map V.int)) := by
    intro ts
    induction ts with
    | nil =>
      intro ys hl _
      cases ys with
      | nil => exact ⟨[], .nil, rfl, fun _ z => nomatch z⟩
      | cons y ys => cases hl
    | cons u ts ih =>
      intro ys hl hf
      cases ys with
      | nil => cases hl
      | cons y ys =>
        obtain ⟨kvs, a, b, c⟩ := ih ys (Nat.succ.inj hl) (fun i v n h1 h2 => hf (i + 1) v n h1 h2)
        obtain ⟨ws, l, e1, _, e2, e3⟩ := hf 0 u y rfl rfl
        refine ⟨(.inr y, .ref l) :: kvs, .cons (.inl (.inl e2)) a, by rw [List.map_cons, List.map_cons, b], fun kv hk => ?_⟩
        rcases List.mem_cons.mp hk with z | z
        · exact ⟨y, ws, l, z, e1, e3⟩
        · exact c kv z
  obtain ⟨kvs, a, b, c⟩ := key ts ys lt hts
  have ny : ys.Nodup := hp.nodup_iff.mpr hn
  have nk : (kvs.map (·.1)).Nodup := by
    rw [b]
    exact List.Pairwise.map _ (fun a b n z => n (Sum.inr.inj z)) ny
  refine ⟨ts, kvs, SqL.of et, a, mergeK_nodup kvs [] nk, fun x hx => ?_⟩
  have hy : x.1 ∈ ys := hp.mem_iff.mpr (List.mem_map.mpr ⟨x, hx, rfl⟩)
  have hk : (Sum.inr x.1 : Key) ∈ kvs.map (·.1) := by
    rw [b]
    exact List.mem_map.mpr ⟨_, hy, rfl⟩
  obtain ⟨kv, hkv, ek⟩ := List.mem_map.mp hk
  obtain ⟨i, hi, ei⟩ := List.getElem_of_mem hkv
  obtain ⟨n, ws, l, e1, e2, e3⟩ := c kv hkv
  rw [e1] at ek
  have en : n = x.1 := Sum.inr.inj ek
  have ew : ws = x.2 := by
    have h1 : (x.1, ws) ∈ nm := en ▸ e2
    have key2 : ∀ (l : List (Str × List Nat)), (l.map (·.1)).Nodup → ∀ a b c, (a, b) ∈ l → (a, c) ∈ l → b = c := by
      intro l
      induction l with
      | nil => intro _ a b c z; exact nomatch z
      | cons q l ih =>
        intro hd a b c h1 h2
        rw [List.map_cons, List.nodup_cons] at hd
        rcases List.mem_cons.mp h1 with z1 | z1 <;> rcases List.mem_cons.mp h2 with z2 | z2
        · rw [← z1] at z2
          exact (Prod.mk.inj z2).2.symm
        · exact absurd (List.mem_map.mpr ⟨_, z2, rfl⟩) (by rw [← z1] at hd; exact hd.1)
        · exact absurd (List.mem_map.mpr ⟨_, z1, rfl⟩) (by rw [← z2] at hd; exact hd.1)
        · exact ih hd.2 a b c z1 z2
    exact key2 nm hn x.1 ws x.2 h1 hx
  refine ⟨l, ?_, ew ▸ e3⟩
  exact valV_at nk (by rw [List.getElem?_eq_getElem hi, ei, e1, en])
theorem bits_num (bs : List Bool) : (bs.length : Int) - (Builtin.Int.intBits (numB bs : Int) : Nat) = (fst1 bs : Int) := by
  have c : ∀ k, ((2 ^ k : Nat) : Int) = (2 : Int) ^ k := fun k => PySem.W.kbt_cast _
  rcases numB_fst1 bs with ⟨a, b⟩ | ⟨a, b, d⟩
  · rw [a, b]
    show (bs.length : Int) - ((0 : Nat) : Int) = _
    omega
  · have b1 := GM.bits_pow (x := numB bs) (e := bs.length - fst1 bs) (by omega)
    have b2 := GM.bits_le_pow (x := numB bs) (e := bs.length - 1 - fst1 bs) (by omega)
    omega
end
section
variable {P : Program} {w : World} {K : PySem.W.Frag} {mg : Str → Option Value} {base : Heap}
variable {C : Addr} {a1 a2 a3 a4 a5 a6 a7 a8 a9 a10 a11 a12 a13 a14 a15 a16 a17 a18 a19 a20 a21 a22 a23 a24 a25 a26 a27 a28 a29 a30 a31 a32 a33 a34 a35 a36 a37 a38 : Addr} {l1 l2 l3 l4 l5 l6 l7 l8 l9 l10 l11 l12 l13 l14 l15 l16 l17 l18 l19 l20 l21 l22 l23 l24 l25 l26 l27 l28 l29 l30 l31 l32 l33 l34 l35 l36 l37 l38 : FuncData}
/-! ### the guess's net -/
def spTurn (K : PySem.W.Frag) (C : Addr) : Sp := fun vs H Q _ => ∃ (Z : List Addr) (p : NetP) (m : Nat) (gs : List Gt) (nm : List (Str × List Nat)) (t : Addr) (ws : List Nat), vs = [.ref p.x, .ref t] ∧ NetAt C Z H p m gs nm ∧ SqL K H t (nts ws) ∧ t ∉ [p.lm, p.ld] ∧ (∀ w ∈ ws, w < m + gs.length) ∧ ws.length ≤ 2000 ∧ m + gs.length ≤ 300000 ∧
  ∀ D H', KeepS [p.lm, p.ld] H H' → NetAt C Z H' p m (notW m gs ws).1 nm → H D = none → H' D = some (.lst (nts (notW m gs ws).2)) → Q (.ref D) H'
theorem ok_turned_wires (B : Bl mg) (L : LL K mg C a1 a2 a3 a4 a5 a6 a7 a8 a9 a10 a11 a12 a13 a14 a15 a16 a17 a18 a19 a20 a21 a22 a23 a24 a25 a26 a27 a28 a29 a30 a31 a32 a33 a34 a35 a36 a37 a38 l1 l2 l3 l4 l5 l6 l7 l8 l9 l10 l11 l12 l13 l14 l15 l16 l17 l18 l19 l20 l21 l22 l23 l24 l25 l26 l27 l28 l29 l30 l31 l32 l33 l34 l35 l36 l37 l38) : FnOk P w K mg base CX0 5 a10 l10 ["net", "wires"] (spTurn K C) := by
  have G_Net_other : FnOk P w K mg base CX0 4 a28 l28 ["self", "a"] (spG1 C) := (ok_Net_other B L).mono (by decide)
  refine L.F_turned_wires.ok sc_turned_wires (fun vs H Q E h => ?_) (fun cdv A outer s H vs Q E hr h => ?_)
  · obtain ⟨Z, p, m, gs, nm, t, ws, rfl, _⟩ := h
    rfl
  obtain ⟨Z, p, m, gs, nm, t, ws, rfl, hN, hT, nt, hw, hl, hl2, q⟩ := h
  refine ⟨_, (pss_one (ps_ret (pe_lc (own := [("wire", 2)]) (by rfl) sc_turned_wires.nd (pi_list (pv 1)) (blkOk_by (own := [("wire", 2)]) (N := ["net", "wires", "wire"]) (sc := defScope s_turned_wires) (by decide +kernel)) (fun _ _ _ _ _ => pg_name (i := 2) sc_turned_wires.nd rfl (Or.inl rfl)) (fun _ _ _ _ _ => pts_nil) (fun _ _ _ _ _ => (pe_meth (pv 0) L.T.cl L.M_Net_other G_Net_other hr L.b_Net_other .nil pass0 (pa_cons (pv 2) pa_nil)))))), ?_⟩
  refine ⟨_, rfl, t, rfl, ⟨_, hT⟩, fun W nW => ?_⟩
  have nW2 := hN.nin nW
  have N0 := hN.add (o := .lst []) nW
  refine lc_it (walk_list (K := K) (a := t) (xs := nts ws)) (fun j H9 => KeepS [p.lm, p.ld] H H9 ∧ NetAt C (W :: Z) H9 p m ((ws.take j).foldl (noS m) (gs, [])).1 nm ∧ H9 W = some (.lst (nts ((ws.take j).foldl (noS m) (gs, [])).2))) ⟨KeepS.new nW, N0, upd_same⟩ (fun j H9 _ ⟨k9, _⟩ => k9.seq nt hT) ?_ ?_
  · rintro j v H10 H9 hj ⟨k9, N9, eD⟩ ⟨rfl, hz⟩
    obtain ⟨a, ha, rfl⟩ := nts_at hz
    rw [nts_len] at hj
    have la := hw a (List.mem_of_getElem? ha)
    have estep : (ws.take (j + 1)).foldl (noS m) (gs, []) = noS m ((ws.take j).foldl (noS m) (gs, [])) a := fold_take _ ha _
    rw [estep]
    obtain ⟨l1, l2⟩ := notW_at (m := m) (ws.take j) (gs, [])
    rw [List.length_take] at l1 l2
    dsimp only [List.length_nil] at l1 l2
    generalize (ws.take j).foldl (noS m) (gs, []) = S at *
    refine ⟨rfl, yesT ?_⟩
    try simp only [L2.start, List.map_cons, List.map_nil, List.length_cons, List.length_nil, List.replicate_succ, List.replicate_zero, List.cons_append, List.nil_append, List.set_cons_succ, List.set_cons_zero, Nat.reduceAdd, Nat.reduceSub, Nat.zero_add]
    obtain ⟨_, _, _, dx2, _, _, f1, _⟩ := id N9
    refine ⟨_, rfl, p.x, dx2, _, rfl, f1, rfl, _, rfl, W :: Z, p, m, S.1, nm, a, rfl, N9, by omega, by omega, fun H3 k3 N3 => ?_⟩
    refine ⟨_, k3.1 _ _ eD nW2, by rw [nts_len]; exact big_lt (by omega), ks_updN (k9.trans k3) nW, N3.put (by simp), ?_⟩
    rw [upd_same]
    show _ = some (HO.lst (nts (S.2 ++ [_])))
    rw [nts_app]
    rfl
  rintro H1 ⟨k1, N1, eW⟩
  rw [nts_len, List.take_length] at N1 eW
  exact q W H1 k1 N1.less nW eW
def spLs (K : PySem.W.Frag) (C : Addr) : Sp := fun vs H Q _ => ∃ (Z : List Addr) (p : NetP) (m : Nat) (gs : List Gt) (nm : List (Str × List Nat)) (t u : Addr) (os ts : List Nat), vs = [.ref p.x, .ref t, .ref u] ∧ NetAt C Z H p m gs nm ∧ SqL K H t (nts os) ∧ SqL K H u (nts ts) ∧ t ∉ [p.lm, p.ld] ∧ u ∉ [p.lm, p.ld] ∧ os.length = ts.length ∧ (∀ w ∈ os, w < m + gs.length) ∧ (∀ w ∈ ts, w < m + gs.length) ∧ os.length ≤ 2000 ∧ m + gs.length ≤ 200000 ∧
  ∀ T D H', KeepS [p.lm, p.ld] H H' → NetAt C Z H' p m (lsW m gs os ts).1 nm → H D = none → H' D = some (.lst (nts (lsW m gs os ts).2.tail)) → H' T = some (.tup [.ref D, .int ((lsW m gs os ts).2.headD 0 : Nat)]) → Q (.ref T) H'
theorem ok_less_wires (B : Bl mg) (L : LL K mg C a1 a2 a3 a4 a5 a6 a7 a8 a9 a10 a11 a12 a13 a14 a15 a16 a17 a18 a19 a20 a21 a22 a23 a24 a25 a26 a27 a28 a29 a30 a31 a32 a33 a34 a35 a36 a37 a38 l1 l2 l3 l4 l5 l6 l7 l8 l9 l10 l11 l12 l13 l14 l15 l16 l17 l18 l19 l20 l21 l22 l23 l24 l25 l26 l27 l28 l29 l30 l31 l32 l33 l34 l35 l36 l37 l38) : FnOk P w K mg base CX0 6 a11 l11 ["net", "ones", "others"] (spLs K C) := by
  have G_sum_wires : FnOk P w K mg base CX0 5 a1 l1 ["net", "ones", "others", "carry"] (spSum K C) := (ok_sum_wires B L).mono (by decide)
  have G_turned_wires : FnOk P w K mg base CX0 5 a10 l10 ["net", "wires"] (spTurn K C) := (ok_turned_wires B L).mono (by decide)
  have G_Net_fixed : FnOk P w K mg base CX0 5 a29 l29 ["self", "bit"] (spFixed C) := (ok_Net_fixed B L).mono (by decide)
  refine L.F_less_wires.ok sc_less_wires (fun vs H Q E h => ?_) (fun cdv A outer s H vs Q E hr h => ?_)
  · obtain ⟨Z, p, m, gs, nm, t, u, os, ts, rfl, _⟩ := h
    rfl
  obtain ⟨Z, p, m, gs, nm, t, u, os, ts, rfl, hN, hT, hU, nt, nu, hlen, ho, hs, hl, hl2, q⟩ := h
  refine ⟨_, (pss_cons (ps_asg (pe_call G_sum_wires hr (by rfl) L.m_sum_wires L.F_sum_wires.kp L.b_sum_wires .nil pass0 (pa_cons (pv 0) (pa_cons (pv 1) (pa_cons (pe_call G_turned_wires hr (by rfl) L.m_turned_wires L.F_turned_wires.kp L.b_turned_wires .nil pass0 (pa_cons (pv 0) (pa_cons (pv 2) pa_nil))) (pa_cons (pe_meth (pv 0) L.T.cl L.M_Net_fixed G_Net_fixed hr L.b_Net_fixed .nil pass0 (pa_cons pe_int pa_nil)) pa_nil))))) (pg_starE rfl (pgs_cons (pg_name (i := 3) sc_less_wires.nd rfl (.inl rfl)) (pgs_star (pg_name (i := 4) sc_less_wires.nd rfl (.inl rfl)) pgs_nil))))
    (pss_one (ps_ret (pe_tup (pa_cons (pv 4) (pa_cons (pv 3) pa_nil)))))), ?_⟩
  refine ⟨_, rfl, _, rfl, _, rfl, _, rfl, Z, p, m, gs, nm, u, ts, rfl, hN, hU, nu, hs, by omega, by omega, fun D1 H1 k1 N1 nD1 eD1 => ?_⟩
  have lT := notW_at (m := m) ts (gs, [])
  rw [show ts.foldl (noS m) (gs, []) = notW m gs ts from rfl] at lT
  dsimp only [List.length_nil] at lT
  have ltT := (notW_ok (m := m) hs).lt
  have hE : lsW m gs os ts = sumW m ((notW m gs ts).1 ++ [.fi 1]) os (notW m gs ts).2 (m + (notW m gs ts).1.length) := rfl
  have lE := (lsW_ok (m := m) hlen ho hs).2.1
  rw [hE] at q lE
  clear hE
  generalize notW m gs ts = T0 at *
  have nD12 := hN.nin nD1
  obtain ⟨_, _, _, dx2, _, _, f1, _⟩ := id N1
  refine ⟨_, rfl, p.x, dx2, _, rfl, f1, rfl, Z, p, m, T0.1, nm, 1, rfl, N1, by omega, fun H2 k2 N2 => ?_⟩
  have eD2 := k2.1 _ _ eD1 nD12
  have k12 := k1.trans k2
  have l1 : (T0.1 ++ [Gt.fi 1]).length = T0.1.length + 1 := by simp
  refine ⟨Z, p, m, _, nm, t, D1, false, false, os, T0.2, m + T0.1.length, rfl, N2, k12.seq nt hT, SqL.of eD2, by omega, (fun w h => by have := ho w h; omega), (fun w h => by have := ltT w h; omega), by omega, hl, by omega, fun D3 H3 k3 N3 nD3 eD3 => ?_⟩
  generalize sumW m (T0.1 ++ [.fi 1]) os T0.2 (m + T0.1.length) = S0 at *
  cases hS : S0.2 with
  | nil => rw [hS] at lE; cases lE
  | cons x xs =>
    rw [hS] at eD3 q lE
    have eD4 : H3 D3 = some (.lst (.int (x : Int) :: nts xs)) := eD3
    refine ⟨D3, _, _, rfl, SqL.of eD4, by rw [nts_len]; rw [List.length_cons] at lE; omega, fun DL nDL => ?_⟩
    have sDL := same_upd (o := .lst (nts xs)) nDL
    have eDL : (upd H3 DL (.lst (nts xs))) DL = some (.lst (nts xs)) := upd_same
    have N4 := N3.same sDL
    have k34 := (k12.trans k3).trans (.ofSame sDL)
    have nDLH := ks_none (k12.trans k3) nDL
    generalize upd H3 DL (.lst (nts xs)) = H4 at *
    refine ⟨_, _, rfl, _, _, rfl, rfl, ?_⟩
    dsimp only [gName]
    try simp only [L2.start, List.map_cons, List.map_nil, List.length_cons, List.length_nil, List.replicate_succ, List.replicate_zero, List.cons_append, List.nil_append, List.set_cons_succ, List.set_cons_zero, Nat.reduceAdd, Nat.reduceSub, Nat.zero_add]
    refine ⟨_, rfl, _, rfl, (by show 2 ≤ sizeLine; decide), fun T nT => ?_⟩
    have sT := same_upd (o := .tup [.ref DL, .int (x : Int)]) nT
    exact q T DL _ (k34.trans (.ofSame sT)) (N4.same sT) nDLH (sT _ _ eDL) upd_same
def gwO (n : Nat) : List Nat := List.range n
def gwT (n : Nat) : List Nat := (List.range n).map fun i => n + i
def gw1 (n : Nat) : List Gt × Nat := lessW (2 * n) [] (gwO n) (gwT n)
def gw2 (n : Nat) : List Gt × List Nat := chosenW (2 * n) (gw1 n).1 (gw1 n).2 ((gwT n).zip (gwO n))
def gw3 (n : Nat) : List Gt × List Nat := chosenW (2 * n) (gw2 n).1 (gw1 n).2 ((gwO n).zip (gwT n))
def gw4 (n : Nat) : List Gt × List Nat := markW (2 * n) (gw3 n).1 (gwO n) (gwT n)
def gw5 (n k : Nat) : List Gt × List Nat := zeroW (2 * n) (gw4 n).1 (gw4 n).2 k
def gw6 (n k : Nat) : List Gt × List Nat := lsW (2 * n) (gw5 n k).1 (gw2 n).2 (gw3 n).2
def gw7 (n k : Nat) : List Gt × List Nat := zeroW (2 * n) (gw6 n k).1 (gw6 n k).2.tail k
theorem gw_take {n : Nat} {vals : List Bool} (h : vals.length = 2 * n) : (gwO n).map (wb vals []) = vals.take n := by
  refine List.ext_getElem? fun i => ?_
  unfold gwO
  rw [List.getElem?_map]
  by_cases c : i < n
  · rw [List.getElem?_range c, List.getElem?_take_of_lt c, List.getElem?_eq_getElem (by omega)]
    show some (vals.getD i false) = _
    simp only [List.getD, List.getElem?_eq_getElem (show i < vals.length by omega), Option.getD_some]
  · rw [List.getElem?_eq_none (by rw [List.length_range]; omega), List.getElem?_eq_none (by rw [List.length_take]; omega)]
    rfl
theorem gw_drop {n : Nat} {vals : List Bool} (h : vals.length = 2 * n) : (gwT n).map (wb vals []) = vals.drop n := by
  refine List.ext_getElem? fun i => ?_
  unfold gwT
  rw [List.getElem?_map, List.getElem?_map, List.getElem?_drop]
  by_cases c : i < n
  · rw [List.getElem?_range c, List.getElem?_eq_getElem (by omega)]
    show some (vals.getD (n + i) false) = _
    simp only [List.getD, List.getElem?_eq_getElem (show n + i < vals.length by omega), Option.getD_some]
  · rw [List.getElem?_eq_none (by rw [List.length_range]; omega), List.getElem?_eq_none (by omega)]
    rfl
structure GwOk (n k : Nat) : Prop where
  ok : GsOk (2 * n) (gw7 n k).1
  len : (gw7 n k).1.length ≤ 700
  l5 : (gw5 n k).2.length = k
  l7 : (gw7 n k).2.length = k
  lt5 : ∀ w ∈ (gw5 n k).2, w < 2 * n + (gw7 n k).1.length
  lt7 : ∀ w ∈ (gw7 n k).2, w < 2 * n + (gw7 n k).1.length
  val : ∀ vals : List Bool, vals.length = 2 * n → numB ((gw5 n k).2.map (wb vals (gw7 n k).1)) = fst1 (markB (vals.take n) (vals.drop n)) ∧
    (numB ((gw7 n k).2.map (wb vals (gw7 n k).1)) : Int) = (n : Int) - ((Builtin.Int.intBits (((numB (vals.take n) : Int) - (numB (vals.drop n) : Int)).natAbs : Int) : Nat) : Int)
end
section
variable {P : Program} {w : World} {K : PySem.W.Frag} {mg : Str → Option Value} {base : Heap}
variable {C : Addr} {a1 a2 a3 a4 a5 a6 a7 a8 a9 a10 a11 a12 a13 a14 a15 a16 a17 a18 a19 a20 a21 a22 a23 a24 a25 a26 a27 a28 a29 a30 a31 a32 a33 a34 a35 a36 a37 a38 : Addr} {l1 l2 l3 l4 l5 l6 l7 l8 l9 l10 l11 l12 l13 l14 l15 l16 l17 l18 l19 l20 l21 l22 l23 l24 l25 l26 l27 l28 l29 l30 l31 l32 l33 l34 l35 l36 l37 l38 : FuncData}
theorem zeroW_len {m k : Nat} {gs : List Gt} {ws : List Nat} (hw : ∀ w ∈ ws, w < m + gs.length) : (zeroW m gs ws k).2.length = k := by
  have := congrArg List.length ((zeroW_ok (m := m) (k := k) hw).val (List.replicate m false) (by simp))
  rw [List.length_map, List.length_map] at this
  rw [this]
  unfold downs
  rw [List.length_reverse, List.length_range]
theorem chosenW_len {m w : Nat} {gs : List Gt} {ps : List (Nat × Nat)} (h0 : w < m + gs.length) (hw : ∀ p ∈ ps, p.1 < m + gs.length ∧ p.2 < m + gs.length) : (chosenW m gs w ps).2.length = ps.length := by
  have := congrArg List.length ((chosenW_ok (m := m) h0 hw).val (List.replicate m false) (by simp))
  rw [List.length_map, List.length_map] at this
  exact this
theorem markW_len {m : Nat} {gs : List Gt} {os ts : List Nat} (hl : os.length = ts.length) (h0 : 0 < os.length) (ho : ∀ w ∈ os, w < m + gs.length) (ht : ∀ w ∈ ts, w < m + gs.length) : (markW m gs os ts).2.length = os.length := by
  have := congrArg List.length ((markW_ok (m := m) hl h0 ho ht).val (List.replicate m false) (by simp))
  rw [List.length_map] at this
  rw [this]
  unfold markB
  rw [List.length_map, List.length_range, List.length_map]
theorem gwO_in {n m : Nat} {gs : List Gt} (h : 2 * n ≤ m) : ∀ w ∈ gwO n, w < m + gs.length := fun w hw => by
  have := List.mem_range.mp hw
  omega
theorem gwT_in {n m : Nat} {gs : List Gt} (h : 2 * n ≤ m) : ∀ w ∈ gwT n, w < m + gs.length := fun w hw => by
  obtain ⟨i, hi, rfl⟩ := List.mem_map.mp hw
  have := List.mem_range.mp hi
  omega
theorem gwO_len (n : Nat) : (gwO n).length = n := List.length_range
theorem gwT_len (n : Nat) : (gwT n).length = n := by
  unfold gwT
  rw [List.length_map, List.length_range]
theorem zip2_in {m : Nat} {gs : List Gt} {a b : List Nat} (ha : ∀ w ∈ a, w < m + gs.length) (hb : ∀ w ∈ b, w < m + gs.length) : ∀ p ∈ a.zip b, p.1 < m + gs.length ∧ p.2 < m + gs.length := fun p hp => ⟨ha _ (List.of_mem_zip hp).1, hb _ (List.of_mem_zip hp).2⟩
structure GwSt (n k : Nat) : Prop where
  e1 : Ext (2 * n) [] (gw1 n).1 (5 * n + 1)
  t1 : (gw1 n).2 < 2 * n + (gw1 n).1.length
  e2 : Ext (2 * n) (gw1 n).1 (gw2 n).1 (3 * n + 1)
  l2 : (gw2 n).2.length = n
  t2 : ∀ w ∈ (gw2 n).2, w < 2 * n + (gw2 n).1.length
  e3 : Ext (2 * n) (gw2 n).1 (gw3 n).1 (3 * n + 1)
  l3 : (gw3 n).2.length = n
  t3 : ∀ w ∈ (gw3 n).2, w < 2 * n + (gw3 n).1.length
  e4 : Ext (2 * n) (gw3 n).1 (gw4 n).1 (6 * n)
  l4 : (gw4 n).2.length = n
  t4 : ∀ w ∈ (gw4 n).2, w < 2 * n + (gw4 n).1.length
  e5 : Ext (2 * n) (gw4 n).1 (gw5 n k).1 (3 * n + 1 + k * (n + 2))
  l5 : (gw5 n k).2.length = k
  t5 : ∀ w ∈ (gw5 n k).2, w < 2 * n + (gw5 n k).1.length
  e6 : Ext (2 * n) (gw5 n k).1 (gw6 n k).1 (6 * n + 1)
  l6 : (gw6 n k).2.tail.length = n
  t6 : ∀ w ∈ (gw6 n k).2.tail, w < 2 * n + (gw6 n k).1.length
  e7 : Ext (2 * n) (gw6 n k).1 (gw7 n k).1 (3 * n + 1 + k * (n + 2))
  l7 : (gw7 n k).2.length = k
  t7 : ∀ w ∈ (gw7 n k).2, w < 2 * n + (gw7 n k).1.length
theorem gw_st {n : Nat} (k : Nat) (h1 : 1 ≤ n) : GwSt n k := by
  have L1 := lessW_ok (m := 2 * n) (gs := []) (os := gwO n) (ts := gwT n) (by rw [gwO_len, gwT_len]) (gwO_in (Nat.le_refl _)) (gwT_in (Nat.le_refl _))
  rw [gwO_len] at L1
  have b1 := L1.ext.len
  have lz1 : ((gwT n).zip (gwO n)).length = n := by rw [List.length_zip, gwO_len, gwT_len]; omega
  have lz2 : ((gwO n).zip (gwT n)).length = n := by rw [List.length_zip, gwO_len, gwT_len]; omega
  have i2 := zip2_in (m := 2 * n) (gs := (gw1 n).1) (gwT_in (Nat.le_refl _)) (gwO_in (Nat.le_refl _))
  have C2 := chosenW_ok (m := 2 * n) (w := (gw1 n).2) (gs := (gw1 n).1) L1.lt i2
  have k2 := chosenW_len (m := 2 * n) (w := (gw1 n).2) (gs := (gw1 n).1) L1.lt i2
  rw [lz1] at C2 k2
  have b2 : (gw1 n).1.length ≤ (gw2 n).1.length := C2.ext.len.1
  have i3 := zip2_in (m := 2 * n) (gs := (gw2 n).1) (gwO_in (Nat.le_refl _)) (gwT_in (Nat.le_refl _))
  have t1 : (gw1 n).2 < 2 * n + (gw1 n).1.length := L1.lt
  have C3 := chosenW_ok (m := 2 * n) (w := (gw1 n).2) (gs := (gw2 n).1) (by omega) i3
  have k3 := chosenW_len (m := 2 * n) (w := (gw1 n).2) (gs := (gw2 n).1) (by omega) i3
  rw [lz2] at C3 k3
  have M4 := markW_ok (m := 2 * n) (gs := (gw3 n).1) (os := gwO n) (ts := gwT n) (by rw [gwO_len, gwT_len]) (by rw [gwO_len]; exact h1) (gwO_in (Nat.le_refl _)) (gwT_in (Nat.le_refl _))
  have k4 := markW_len (m := 2 * n) (gs := (gw3 n).1) (os := gwO n) (ts := gwT n) (by rw [gwO_len, gwT_len]) (by rw [gwO_len]; exact h1) (gwO_in (Nat.le_refl _)) (gwT_in (Nat.le_refl _))
  rw [gwO_len] at M4 k4
  have Z5 := zeroW_ok (m := 2 * n) (k := k) (gs := (gw4 n).1) (ws := (gw4 n).2) M4.lt
  have k5 := zeroW_len (m := 2 * n) (k := k) (gs := (gw4 n).1) (ws := (gw4 n).2) M4.lt
  rw [show (gw4 n).2.length = n from k4] at Z5
  have b3 : (gw2 n).1.length ≤ (gw3 n).1.length := C3.ext.len.1
  have b4 : (gw3 n).1.length ≤ (gw4 n).1.length := M4.ext.len.1
  have b5 : (gw4 n).1.length ≤ (gw5 n k).1.length := Z5.ext.len.1
  have u2 : ∀ w ∈ (gw2 n).2, w < 2 * n + (gw5 n k).1.length := fun w h => by have := C2.lt w h; have : w < 2 * n + (gw2 n).1.length := this; omega
  have u3 : ∀ w ∈ (gw3 n).2, w < 2 * n + (gw5 n k).1.length := fun w h => by have := C3.lt w h; have : w < 2 * n + (gw3 n).1.length := this; omega
  have kk2 : (gw2 n).2.length = n := k2
  have kk3 : (gw3 n).2.length = n := k3
  obtain ⟨D1, D2, D3, _⟩ := lsW_ok (m := 2 * n) (gs := (gw5 n k).1) (os := (gw2 n).2) (ts := (gw3 n).2) (by omega) u2 u3
  rw [kk2] at D1 D2
  have l6 : (gw6 n k).2.tail.length = n := by
    rw [List.length_tail]
    have : (gw6 n k).2.length = n + 1 := D2
    omega
  have t6 : ∀ w ∈ (gw6 n k).2.tail, w < 2 * n + (gw6 n k).1.length := fun w h => D3 w (List.mem_of_mem_tail h)
  have Z7 := zeroW_ok (m := 2 * n) (k := k) (gs := (gw6 n k).1) (ws := (gw6 n k).2.tail) t6
  have k7 := zeroW_len (m := 2 * n) (k := k) (gs := (gw6 n k).1) (ws := (gw6 n k).2.tail) t6
  rw [l6] at Z7
  exact ⟨L1.ext, t1, C2.ext, k2, C2.lt, C3.ext, k3, C3.lt, M4.ext, k4, M4.lt, Z5.ext, k5, Z5.lt, D1, l6, t6, Z7.ext, k7, Z7.lt⟩
theorem gw_ok {n k : Nat} (h1 : 1 ≤ n) (h12 : n ≤ 12) (hk : n < 2 ^ k) (k4 : k ≤ 4) : GwOk n k := by
  have S := gw_st k h1
  have x1 := S.e1.len
  have x2 := S.e2.len
  have x3 := S.e3.len
  have x4 := S.e4.len
  have x5 := S.e5.len
  have x6 := S.e6.len
  have x7 := S.e7.len
  have hm : k * (n + 2) ≤ 4 * 14 := Nat.mul_le_mul k4 (by omega)
  have E67 := S.e6.trans S.e7
  have E57 := S.e5.trans E67
  have E07 := (((S.e1.trans S.e2).trans S.e3).trans S.e4).trans E57
  rw [List.length_nil] at x1
  refine ⟨E07.2 (fun i g h => by simp at h), by omega, S.l5, S.l7, fun w h => by have := S.t5 w h; omega, S.t7, fun vals hv => ?_⟩
  have e0 := gw_take hv
  have e0' := gw_drop hv
  have lo : (vals.take n).length = n := by rw [List.length_take]; omega
  have lt : (vals.drop n).length = n := by rw [List.length_drop]; omega
  have E03 := (S.e1.trans S.e2).trans S.e3
  constructor
  · have Z5 := (zeroW_ok (m := 2 * n) (k := k) (gs := (gw4 n).1) (ws := (gw4 n).2) S.t4).val vals hv
    have M4 := (markW_ok (m := 2 * n) (gs := (gw3 n).1) (os := gwO n) (ts := gwT n) (by rw [gwO_len, gwT_len]) (by rw [gwO_len]; exact h1) (gwO_in (Nat.le_refl _)) (gwT_in (Nat.le_refl _))).val vals hv
    rw [E67.wbs hv S.t5]
    have Z5' : (gw5 n k).2.map (wb vals (gw5 n k).1) = (downs k).map fun p => (fst1 ((gw4 n).2.map (wb vals (gw4 n).1))).testBit p := Z5
    have M4' : (gw4 n).2.map (wb vals (gw4 n).1) = markB ((gwO n).map (wb vals (gw3 n).1)) ((gwT n).map (wb vals (gw3 n).1)) := M4
    rw [Z5', M4', E03.wbs hv (gwO_in (Nat.le_refl _)), E03.wbs hv (gwT_in (Nat.le_refl _)), e0, e0', numB_downs]
    have f := fst1_le (markB (vals.take n) (vals.drop n))
    have lm : (markB (vals.take n) (vals.drop n)).length = n := by
      unfold markB
      rw [List.length_map, List.length_range, lo]
    rw [lm] at f
    exact Nat.mod_eq_of_lt (by omega)
  · have Z7 : (gw7 n k).2.map (wb vals (gw7 n k).1) = (downs k).map fun p => (fst1 ((gw6 n k).2.tail.map (wb vals (gw6 n k).1))).testBit p := (zeroW_ok (m := 2 * n) (k := k) (gs := (gw6 n k).1) (ws := (gw6 n k).2.tail) S.t6).val vals hv
    have L1 : wb vals (gw1 n).1 (gw1 n).2 = lessB (vals.take n) (vals.drop n) := by
      have := (lessW_ok (m := 2 * n) (gs := []) (os := gwO n) (ts := gwT n) (by rw [gwO_len, gwT_len]) (gwO_in (Nat.le_refl _)) (gwT_in (Nat.le_refl _))).val vals hv
      rw [← e0, ← e0']
      exact this
    rw [lessB_num (by rw [lo, lt])] at L1
    have i2 := zip2_in (m := 2 * n) (gs := (gw1 n).1) (gwT_in (Nat.le_refl _)) (gwO_in (Nat.le_refl _))
    have i3 := zip2_in (m := 2 * n) (gs := (gw2 n).1) (gwO_in (Nat.le_refl _)) (gwT_in (Nat.le_refl _))
    have mz : ∀ (e : Nat → Bool) (c : Bool) (xs ys : List Nat), xs.length = ys.length → ((xs.zip ys).map fun p => if c = true then e p.1 else e p.2) = if c = true then xs.map e else ys.map e := by
      intro e c xs
      induction xs with
      | nil =>
        intro ys h
        cases ys with
        | nil => cases c <;> rfl
        | cons y ys => cases h
      | cons x xs ih =>
        intro ys h
        cases ys with
        | nil => cases h
        | cons y ys =>
          rw [List.zip_cons_cons, List.map_cons, ih ys (Nat.succ.inj h)]
          cases c <;> rfl
    have C2 : (gw2 n).2.map (wb vals (gw2 n).1) = if wb vals (gw1 n).1 (gw1 n).2 = true then vals.drop n else vals.take n := by
      have := (chosenW_ok (m := 2 * n) (w := (gw1 n).2) (gs := (gw1 n).1) S.t1 i2).val vals hv
      rw [mz _ _ _ _ (by rw [gwO_len, gwT_len]), S.e1.wbs hv (gwO_in (Nat.le_refl _)), S.e1.wbs hv (gwT_in (Nat.le_refl _)), e0, e0'] at this
      exact this
    have C3 : (gw3 n).2.map (wb vals (gw3 n).1) = if wb vals (gw1 n).1 (gw1 n).2 = true then vals.take n else vals.drop n := by
      have := (chosenW_ok (m := 2 * n) (w := (gw1 n).2) (gs := (gw2 n).1) (by have := S.t1; omega) i3).val vals hv
      rw [mz _ _ _ _ (by rw [gwO_len, gwT_len]), (S.e1.trans S.e2).wbs hv (gwO_in (Nat.le_refl _)), (S.e1.trans S.e2).wbs hv (gwT_in (Nat.le_refl _)), e0, e0', S.e2.wb hv S.t1] at this
      exact this
    have E25 := (S.e3.trans S.e4).trans S.e5
    have E35 := S.e4.trans S.e5
    have D := (lsW_ok (m := 2 * n) (gs := (gw5 n k).1) (os := (gw2 n).2) (ts := (gw3 n).2) (by rw [S.l2, S.l3]) (fun w h => by have := S.t2 w h; omega) (fun w h => by have := S.t3 w h; omega)).2.2.2 vals hv
    rw [E25.wbs hv S.t2, E35.wbs hv S.t3, C2, C3, L1] at D
    have lD : ((gw6 n k).2.tail.map (wb vals (gw6 n k).1)).length = n := by rw [List.length_map, S.l6]
    have hb := bits_num ((gw6 n k).2.tail.map (wb vals (gw6 n k).1))
    rw [lD] at hb
    have f := fst1_le ((gw6 n k).2.tail.map (wb vals (gw6 n k).1))
    rw [lD] at f
    have D' : numB ((gw6 n k).2.tail.map (wb vals (gw6 n k).1)) = ((numB (vals.take n) : Int) - (numB (vals.drop n) : Int)).natAbs := by
      by_cases c : numB (vals.take n) < numB (vals.drop n)
      · rw [decide_eq_true c, if_pos rfl, if_pos rfl] at D
        have := D (Nat.le_of_lt c)
        have h2 : numB ((gw6 n k).2.tail.map (wb vals (gw6 n k).1)) = numB (vals.drop n) - numB (vals.take n) := this
        omega
      · rw [decide_eq_false c, if_neg (by decide), if_neg (by decide)] at D
        have := D (by omega)
        have h2 : numB ((gw6 n k).2.tail.map (wb vals (gw6 n k).1)) = numB (vals.take n) - numB (vals.drop n) := this
        omega
    rw [Z7, numB_downs, ← D', hb]
    rw [Nat.mod_eq_of_lt (by omega)]
end
section
variable {P : Program} {w : World} {K : PySem.W.Frag} {mg : Str → Option Value} {base : Heap}
variable {C : Addr} {a1 a2 a3 a4 a5 a6 a7 a8 a9 a10 a11 a12 a13 a14 a15 a16 a17 a18 a19 a20 a21 a22 a23 a24 a25 a26 a27 a28 a29 a30 a31 a32 a33 a34 a35 a36 a37 a38 : Addr} {l1 l2 l3 l4 l5 l6 l7 l8 l9 l10 l11 l12 l13 l14 l15 l16 l17 l18 l19 l20 l21 l22 l23 l24 l25 l26 l27 l28 l29 l30 l31 l32 l33 l34 l35 l36 l37 l38 : FuncData}
def gwN (n k : Nat) : List (Str × List Nat) := [("guess", (gw5 n k).2), ("zeros", (gw7 n k).2)]
theorem rg_two (n : Nat) : rgV 0 (2 * (n : Int)) = nts (gwO n ++ gwT n) := by
  unfold rgV nts gwO gwT
  rw [show ((2 * (n : Int) - 0)).toNat = n + n by omega, List.range_add, List.map_append, List.map_append, List.map_map, List.map_map]
  congr 1
  · exact List.map_congr_left fun i _ => by show V.int (0 + (i : Int)) = V.int (i : Int); rw [Int.zero_add]
  · exact List.map_congr_left fun i _ => by show V.int (0 + ((n + i : Nat) : Int)) = V.int ((n + i : Nat) : Int); rw [Int.zero_add]
def spWg (C : Addr) : Sp := fun vs H Q _ => ∃ (n k : Nat) (Z : List Addr), vs = [.int (n : Int)] ∧ 1 ≤ n ∧ n ≤ 12 ∧ k = Builtin.Int.intBits (n : Int) ∧ (∀ z ∈ Z, H z ≠ none) ∧ ∀ (p : NetP) (H' : Hp), Same H H' → NetAt C Z H' p (2 * n) (gw7 n k).1 (gwN n k) → Q (.ref p.x) H'
theorem cutN_at (ws : List Nat) (a : Nat) (h : a ≤ ws.length) : cutV (nts ws) none (some (a : Int)) = nts (ws.take a) ∧ cutV (nts ws) (some (a : Int)) none = nts (ws.drop a) := ⟨cutN_to ws a h, cutN_from ws a h⟩
theorem intk {n : Nat} (h : n ≤ 12) : n < 2 ^ Builtin.Int.intBits (n : Int) ∧ Builtin.Int.intBits (n : Int) ≤ 4 := by
  have key : ∀ n : Nat, n ≤ 12 → n < 2 ^ Builtin.Int.intBits (n : Int) ∧ Builtin.Int.intBits (n : Int) ≤ 4 := by decide +kernel
  exact key n h
theorem ok_wired_guess (B : Bl mg) (L : LL K mg C a1 a2 a3 a4 a5 a6 a7 a8 a9 a10 a11 a12 a13 a14 a15 a16 a17 a18 a19 a20 a21 a22 a23 a24 a25 a26 a27 a28 a29 a30 a31 a32 a33 a34 a35 a36 a37 a38 l1 l2 l3 l4 l5 l6 l7 l8 l9 l10 l11 l12 l13 l14 l15 l16 l17 l18 l19 l20 l21 l22 l23 l24 l25 l26 l27 l28 l29 l30 l31 l32 l33 l34 l35 l36 l37 l38) : FnOk P w K mg base CX0 8 a12 l12 ["many"] (spWg C) := by
  have G_Net___init__ : FnOk P w K mg base CX0 6 a24 l24 ["self", "many"] (spNetI C) := (ok_Net___init__ B L).mono (by decide)
  have G_is_less_wire : FnOk P w K mg base CX0 7 a7 l7 ["net", "ones", "others"] (spLess K C) := (ok_is_less_wire B L).mono (by decide)
  have G_chosen_wires : FnOk P w K mg base CX0 7 a6 l6 ["net", "wire", "ones", "others"] (spChosen K C) := (ok_chosen_wires B L).mono (by decide)
  have G_zero_wires : FnOk P w K mg base CX0 7 a3 l3 ["net", "ones"] (spZero K C) := (ok_zero_wires B L).mono (by decide)
  have G_mark_wires : FnOk P w K mg base CX0 7 a5 l5 ["net", "ones", "others"] (spMark K C) := (ok_mark_wires B L).mono (by decide)
  have G_less_wires : FnOk P w K mg base CX0 7 a11 l11 ["net", "ones", "others"] (spLs K C) := (ok_less_wires B L).mono (by decide)
  have G_Net_give : FnOk P w K mg base CX0 7 a33 l33 ["self", "name", "wires"] (spGive K C) := (ok_Net_give B L).mono (by decide)
  refine L.F_wired_guess.ok sc_wired_guess (fun vs H Q E h => ?_) (fun cdv A outer s H vs Q E hr h => ?_)
  · obtain ⟨n, k, Z, rfl, _⟩ := h
    rfl
  obtain ⟨n, k, Z, rfl, h1, h12, hk, hZ, q⟩ := h
  refine ⟨_, (pss_cons (ps_set (i := 1) sc_wired_guess.nd rfl (.inl rfl) (pe_make L.M G_Net___init__ hr (by rfl) L.T.mgC L.b_Net___init__ .nil pass0 (pa_cons (pe_op op_mul pe_int (pv 0)) pa_nil)))
    (pss_cons (ps_set (i := 2) sc_wired_guess.nd rfl (.inl rfl) (pe_listRg rfl (by rfl) B.list (prg_1 (by rfl) B.range (pe_op op_mul pe_int (pv 0)))))
    (pss_cons (ps_set (i := 3) sc_wired_guess.nd rfl (.inl rfl) (pe_slice sl_list (pv 2) po_none (po_some (pv 0))))
    (pss_cons (ps_set (i := 4) sc_wired_guess.nd rfl (.inl rfl) (pe_slice sl_list (pv 2) (po_some (pv 0)) po_none))
    (pss_cons (ps_set (i := 5) sc_wired_guess.nd rfl (.inl rfl) (pe_call G_is_less_wire hr (by rfl) L.m_is_less_wire L.F_is_less_wire.kp L.b_is_less_wire .nil pass0 (pa_cons (pv 1) (pa_cons (pv 3) (pa_cons (pv 4) pa_nil)))))
    (pss_cons (ps_set (i := 6) sc_wired_guess.nd rfl (.inl rfl) (pe_call G_chosen_wires hr (by rfl) L.m_chosen_wires L.F_chosen_wires.kp L.b_chosen_wires .nil pass0 (pa_cons (pv 1) (pa_cons (pv 5) (pa_cons (pv 4) (pa_cons (pv 3) pa_nil))))))
    (pss_cons (ps_set (i := 7) sc_wired_guess.nd rfl (.inl rfl) (pe_call G_chosen_wires hr (by rfl) L.m_chosen_wires L.F_chosen_wires.kp L.b_chosen_wires .nil pass0 (pa_cons (pv 1) (pa_cons (pv 5) (pa_cons (pv 3) (pa_cons (pv 4) pa_nil))))))
    (pss_cons (ps_expr (pe_meth (pv 1) L.T.cl L.M_Net_give G_Net_give hr L.b_Net_give .nil pass0 (pa_cons pe_str (pa_cons (pe_call G_zero_wires hr (by rfl) L.m_zero_wires L.F_zero_wires.kp L.b_zero_wires .nil pass0 (pa_cons (pv 1) (pa_cons (pe_call G_mark_wires hr (by rfl) L.m_mark_wires L.F_mark_wires.kp L.b_mark_wires .nil pass0 (pa_cons (pv 1) (pa_cons (pv 3) (pa_cons (pv 4) pa_nil)))) pa_nil))) pa_nil))))
    (pss_cons (ps_expr (pe_meth (pv 1) L.T.cl L.M_Net_give G_Net_give hr L.b_Net_give .nil pass0 (pa_cons pe_str (pa_cons (pe_call G_zero_wires hr (by rfl) L.m_zero_wires L.F_zero_wires.kp L.b_zero_wires .nil pass0 (pa_cons (pv 1) (pa_cons (pe_ix ix_tup (pe_call G_less_wires hr (by rfl) L.m_less_wires L.F_less_wires.kp L.b_less_wires .nil pass0 (pa_cons (pv 1) (pa_cons (pv 6) (pa_cons (pv 7) pa_nil)))) pe_int (fun _ _ => rfl)) pa_nil))) pa_nil))))
    (pss_one (ps_ret (pv 1)))))))))))), ?_⟩
  have S := gw_st k h1
  obtain ⟨kk1, kk2⟩ := intk h12
  rw [← hk] at kk1 kk2
  have x1 := S.e1.len
  have x2 := S.e2.len
  have x3 := S.e3.len
  have x4 := S.e4.len
  have x5 := S.e5.len
  have x6 := S.e6.len
  have x7 := S.e7.len
  have hm : k * (n + 2) ≤ 4 * 14 := Nat.mul_le_mul kk2 (by omega)
  rw [List.length_nil] at x1
  refine ⟨_, rfl, _, _, rfl, rfl, .inl ⟨by decide, by decide⟩, ?_⟩
  refine fun x dx nx ndx ne => ?_
  refine ⟨x, dx, 2 * n, (by show [V.ref x, V.int (2 * (n : Int))] = _; rw [show (2 : Int) * (n : Int) = ((2 * n : Nat) : Int) by omega]), upd_same, by omega, fun p H1 px fr ⟨n1, n2, n3⟩ N0 => ⟨rfl, ?_⟩⟩
  have s1 : Same H H1 := made nx ndx ne fr
  subst px
  have N1 := N0 Z (fun z hz => by
    have a0 := hZ z hz
    have a1 : z ≠ p.x := fun e => a0 (by rw [e]; exact nx)
    have b1 : z ≠ dx := fun e => a0 (by rw [e]; exact ndx)
    exact ⟨a1, by rw [upd_ne a1, upd_ne b1]; exact a0⟩)
  clear N0
  dsimp only [gName]
  try simp only [L2.start, List.map_cons, List.map_nil, List.length_cons, List.length_nil, List.replicate_succ, List.replicate_zero, List.cons_append, List.nil_append, List.set_cons_succ, List.set_cons_zero, Nat.reduceAdd, Nat.reduceSub, Nat.zero_add]
  refine ⟨_, rfl, _, _, rfl, rfl, .inl ⟨by decide, by decide⟩, ?_⟩
  refine ⟨_, rfl, .of_le (by decide) (by omega) (by decide) (by omega), fun L nL => ?_⟩
  dsimp only
  rw [rg_two]
  have sL := same_upd (o := .lst (nts (gwO n ++ gwT n))) nL
  have eL : (upd H1 L (.lst (nts (gwO n ++ gwT n)))) L = some (.lst (nts (gwO n ++ gwT n))) := upd_same
  have N2 := N1.same sL
  have s2 := s1.trans sL
  generalize upd H1 L (.lst (nts (gwO n ++ gwT n))) = H2 at *
  dsimp only [gName]
  try simp only [L2.start, List.map_cons, List.map_nil, List.length_cons, List.length_nil, List.replicate_succ, List.replicate_zero, List.cons_append, List.nil_append, List.set_cons_succ, List.set_cons_zero, Nat.reduceAdd, Nat.reduceSub, Nat.zero_add]
  have lOT : (gwO n ++ gwT n).length = 2 * n := by rw [List.length_append, gwO_len, gwT_len]; omega
  have ct := cutN_at (gwO n ++ gwT n) n (by omega)
  rw [List.take_left' (gwO_len n), List.drop_left' (gwO_len n)] at ct
  refine ⟨_, rfl, _, rfl, _, rfl, L, _, rfl, SqL.of eL, fun O nO => ?_⟩
  rw [ct.1]
  have sO := same_upd (o := .lst (nts (gwO n))) nO
  have eO : (upd H2 O (.lst (nts (gwO n)))) O = some (.lst (nts (gwO n))) := upd_same
  have nO2 := N2.nin nO
  have N3 := N2.same sO
  have s3 := s2.trans sO
  have eL3 := sO _ _ eL
  generalize upd H2 O (.lst (nts (gwO n))) = H3 at *
  dsimp only [gName]
  try simp only [L2.start, List.map_cons, List.map_nil, List.length_cons, List.length_nil, List.replicate_succ, List.replicate_zero, List.cons_append, List.nil_append, List.set_cons_succ, List.set_cons_zero, Nat.reduceAdd, Nat.reduceSub, Nat.zero_add]
  refine ⟨_, rfl, _, rfl, _, rfl, L, _, rfl, SqL.of eL3, fun T nT => ?_⟩
  rw [ct.2]
  have sT := same_upd (o := .lst (nts (gwT n))) nT
  have eT : (upd H3 T (.lst (nts (gwT n)))) T = some (.lst (nts (gwT n))) := upd_same
  have nT2 := N3.nin nT
  have N4 := N3.same sT
  have s4 := s3.trans sT
  have eO4 := sT _ _ eO
  generalize upd H3 T (.lst (nts (gwT n))) = H4 at *
  dsimp only [gName]
  try simp only [L2.start, List.map_cons, List.map_nil, List.length_cons, List.length_nil, List.replicate_succ, List.replicate_zero, List.cons_append, List.nil_append, List.set_cons_succ, List.set_cons_zero, Nat.reduceAdd, Nat.reduceSub, Nat.zero_add]
  have oi : ∀ {gs : List Gt}, ∀ w ∈ gwO n, w < 2 * n + gs.length := gwO_in (Nat.le_refl _)
  have ti : ∀ {gs : List Gt}, ∀ w ∈ gwT n, w < 2 * n + gs.length := gwT_in (Nat.le_refl _)
  refine ⟨_, rfl, _, rfl, _, rfl, Z, p, 2 * n, [], [], O, T, false, false, gwO n, gwT n, rfl, N4, SqL.of eO4, SqL.of eT, by rw [gwO_len, gwT_len], oi, ti, by rw [gwO_len]; omega, by rw [List.length_nil]; omega, fun H5 k5 N5 => ?_⟩
  rw [show lessW (2 * n) [] (gwO n) (gwT n) = gw1 n from rfl] at N5
  rw [show lessW (2 * n) [] (gwO n) (gwT n) = gw1 n from rfl]
  have eO5 := k5.1 _ _ eO4 nO2
  have eT5 := k5.1 _ _ eT nT2
  dsimp only [gName]
  try simp only [L2.start, List.map_cons, List.map_nil, List.length_cons, List.length_nil, List.replicate_succ, List.replicate_zero, List.cons_append, List.nil_append, List.set_cons_succ, List.set_cons_zero, Nat.reduceAdd, Nat.reduceSub, Nat.zero_add]
  refine ⟨_, rfl, _, rfl, _, rfl, _, rfl, Z, p, 2 * n, (gw1 n).1, [], T, O, (gw1 n).2, gwT n, gwO n, false, false, rfl, N5, SqL.of eT5, SqL.of eO5, nT2, nO2, by rw [gwO_len, gwT_len], S.t1, ti, oi, by rw [gwT_len]; omega, fun G H6 k6 N6 nG eG => ?_⟩
  rw [show chosenW (2 * n) (gw1 n).1 (gw1 n).2 ((gwT n).zip (gwO n)) = gw2 n from rfl] at N6 eG
  have nG2 := N5.nin nG
  have eO6 := k6.1 _ _ eO5 nO2
  have eT6 := k6.1 _ _ eT5 nT2
  dsimp only [gName]
  try simp only [L2.start, List.map_cons, List.map_nil, List.length_cons, List.length_nil, List.replicate_succ, List.replicate_zero, List.cons_append, List.nil_append, List.set_cons_succ, List.set_cons_zero, Nat.reduceAdd, Nat.reduceSub, Nat.zero_add]
  refine ⟨_, rfl, _, rfl, _, rfl, _, rfl, Z, p, 2 * n, (gw2 n).1, [], O, T, (gw1 n).2, gwO n, gwT n, false, false, rfl, N6, SqL.of eO6, SqL.of eT6, nO2, nT2, by rw [gwO_len, gwT_len], by have := S.t1; omega, oi, ti, by rw [gwO_len]; omega, fun Le H7 k7 N7 nLe eLe => ?_⟩
  rw [show chosenW (2 * n) (gw2 n).1 (gw1 n).2 ((gwO n).zip (gwT n)) = gw3 n from rfl] at N7 eLe
  have nLe2 := N6.nin nLe
  have eO7 := k7.1 _ _ eO6 nO2
  have eT7 := k7.1 _ _ eT6 nT2
  have eG7 := k7.1 _ _ eG nG2
  dsimp only [gName]
  try simp only [L2.start, List.map_cons, List.map_nil, List.length_cons, List.length_nil, List.replicate_succ, List.replicate_zero, List.cons_append, List.nil_append, List.set_cons_succ, List.set_cons_zero, Nat.reduceAdd, Nat.reduceSub, Nat.zero_add]
  obtain ⟨_, _, _, dx7, _, _, f7, _⟩ := id N7
  refine ⟨_, rfl, p.x, dx7, _, rfl, f7, rfl, _, rfl, _, rfl, _, rfl, _, rfl, Z, p, 2 * n, (gw3 n).1, [], O, T, false, false, gwO n, gwT n, rfl, N7, SqL.of eO7, SqL.of eT7, nO2, nT2, by rw [gwO_len, gwT_len], by rw [gwO_len]; omega, oi, ti, by rw [gwO_len]; omega, by omega, fun M H8 k8 N8 nM eM => ?_⟩
  rw [show markW (2 * n) (gw3 n).1 (gwO n) (gwT n) = gw4 n from rfl] at N8 eM
  have nM2 := N7.nin nM
  refine ⟨Z, p, 2 * n, (gw4 n).1, [], M, false, (gw4 n).2, rfl, N8, SqL.of eM, nM2, S.t4, by rw [S.l4]; omega, by omega, fun Z5 H9 k9 N9 nZ5 eZ5 => ?_⟩
  rw [S.l4, ← hk] at N9 eZ5
  rw [show zeroW (2 * n) (gw4 n).1 (gw4 n).2 k = gw5 n k from rfl] at N9 eZ5
  refine ⟨Z, p, 2 * n, (gw5 n k).1, [], "guess", Z5, (gw5 n k).2, rfl, N9, by simp, .inl (SqL.of eZ5), S.t5, by decide, fun HA kA NA => ?_⟩
  have nN3 : ∀ {a : Addr} {G : Hp}, KeepS [p.lm, p.ld] H4 G → G a = none → a ∉ [p.dn] := fun k h z => by
    have h4 := ks_none k h
    obtain ⟨_, _, _, _, _, _, _, _, _, e4, _⟩ := id N4
    rw [List.mem_singleton.mp z, e4] at h4
    cases h4
  have nGd := nN3 k5 nG
  have nLed := nN3 (k5.trans k6) nLe
  have eG9 := (k8.trans k9).1 _ _ eG7 nG2
  have eLe9 := (k8.trans k9).1 _ _ eLe nLe2
  have eGA := kA.1 _ _ eG9 nGd
  have eLeA := kA.1 _ _ eLe9 nLed
  try simp only [L2.start, List.map_cons, List.map_nil, List.length_cons, List.length_nil, List.replicate_succ, List.replicate_zero, List.cons_append, List.nil_append, List.set_cons_succ, List.set_cons_zero, Nat.reduceAdd, Nat.reduceSub, Nat.zero_add]
  obtain ⟨_, _, _, dxA, _, _, fA, _⟩ := id NA
  refine ⟨_, rfl, p.x, dxA, _, rfl, fA, rfl, _, rfl, _, rfl, _, rfl, _, rfl, Z, p, 2 * n, (gw5 n k).1, _, G, Le, (gw2 n).2, (gw3 n).2, rfl, NA, SqL.of eGA, SqL.of eLeA, nG2, nLe2, by rw [S.l2, S.l3], (fun w h => by have := S.t2 w h; omega), (fun w h => by have := S.t3 w h; omega), by rw [S.l2]; omega, by omega, fun TT DD HB kB NB nDD eDD eTT => ?_⟩
  rw [show lsW (2 * n) (gw5 n k).1 (gw2 n).2 (gw3 n).2 = gw6 n k from rfl] at NB eDD eTT
  have nDD2 := NA.nin nDD
  refine ⟨TT, _, _, _, rfl, rfl, .inl (.inl eTT), rfl, ?_⟩
  refine ⟨Z, p, 2 * n, (gw6 n k).1, _, DD, false, (gw6 n k).2.tail, rfl, NB, SqL.of eDD, nDD2, S.t6, by rw [S.l6]; omega, by omega, fun Z7 HC kC NC nZ7 eZ7 => ?_⟩
  rw [S.l6, ← hk] at NC eZ7
  rw [show zeroW (2 * n) (gw6 n k).1 (gw6 n k).2.tail k = gw7 n k from rfl] at NC eZ7
  refine ⟨Z, p, 2 * n, (gw7 n k).1, _, "zeros", Z7, (gw7 n k).2, rfl, NC, (by show ("zeros" : Str) ∉ (["guess"] : List Str); decide), .inl (SqL.of eZ7), S.t7, (by show 1 ≤ 900; decide), fun HD kD ND => ?_⟩
  try simp only [L2.start, List.map_cons, List.map_nil, List.length_cons, List.length_nil, List.replicate_succ, List.replicate_zero, List.cons_append, List.nil_append, List.set_cons_succ, List.set_cons_zero, Nat.reduceAdd, Nat.reduceSub, Nat.zero_add]
  refine ⟨_, rfl, q p HD (fun y o e => ?_) ND⟩
  have e4 := s4 _ _ e
  have nx' : y ≠ p.x := ne_of_none e nx
  have ndx' : y ≠ dx := ne_of_none e ndx
  have eu : (upd (upd H dx (.own p.x)) p.x (.ins C dx [])) y = some o := by rw [upd_ne nx', upd_ne ndx']; exact e
  have ny2 : y ∉ [p.lm, p.ld] := fun z => by
    simp only [List.mem_cons, List.not_mem_nil, or_false] at z
    rcases z with z | z
    · exact ne_of_none eu n1 z
    · exact ne_of_none eu n2 z
  have nyd : y ∉ [p.dn] := fun z => ne_of_none eu n3 (List.mem_singleton.mp z)
  have k49 := (((k5.trans k6).trans k7).trans k8).trans k9
  exact kD.1 _ _ ((kB.trans kC).1 _ _ (kA.1 _ _ (k49.1 _ _ e4 ny2) nyd) ny2) nyd
end
section
variable {P : Program} {w : World} {K : PySem.W.Frag} {mg : Str → Option Value} {base : Heap}
variable {C : Addr} {a1 a2 a3 a4 a5 a6 a7 a8 a9 a10 a11 a12 a13 a14 a15 a16 a17 a18 a19 a20 a21 a22 a23 a24 a25 a26 a27 a28 a29 a30 a31 a32 a33 a34 a35 a36 a37 a38 : Addr} {l1 l2 l3 l4 l5 l6 l7 l8 l9 l10 l11 l12 l13 l14 l15 l16 l17 l18 l19 l20 l21 l22 l23 l24 l25 l26 l27 l28 l29 l30 l31 l32 l33 l34 l35 l36 l37 l38 : FuncData}
/-! ### the law's own marks -/
theorem numB_bit : ∀ (bs : List Bool) (j : Nat), j < bs.length → numB bs / 2 ^ (bs.length - 1 - j) % 2 = (bs.getD j false).toNat
  | b :: bs, 0, _ => by
    have := numB_lt bs
    have p : 0 < 2 ^ bs.length := Nat.pow_pos (by decide)
    rw [numB_cons, List.length_cons, show bs.length + 1 - 1 - 0 = bs.length from by omega]
    show _ = b.toNat
    cases b
    · rw [show (false.toNat * 2 ^ bs.length + numB bs) = numB bs from by simp, Nat.div_eq_of_lt this]
      rfl
    · rw [show (true.toNat * 2 ^ bs.length + numB bs) = numB bs + 2 ^ bs.length * 1 from by simp; omega, Nat.add_mul_div_left _ _ p, Nat.div_eq_of_lt this]
      rfl
  | b :: bs, j + 1, h => by
    have ih := numB_bit bs j (by rw [List.length_cons] at h; omega)
    rw [List.length_cons] at h
    rw [numB_cons, List.length_cons, show bs.length + 1 - 1 - (j + 1) = bs.length - 1 - j from by omega]
    show _ = (bs.getD j false).toNat
    rw [← ih]
    have p : 0 < 2 ^ (bs.length - 1 - j) := Nat.pow_pos (by decide)
    have e : 2 ^ bs.length = 2 ^ (bs.length - 1 - j) * (2 * 2 ^ j) := by
      rw [← Nat.pow_add_one', ← Nat.pow_add]
      congr 1
      omega
    rw [e, show b.toNat * (2 ^ (bs.length - 1 - j) * (2 * 2 ^ j)) + numB bs = numB bs + 2 ^ (bs.length - 1 - j) * (2 * (2 ^ j * b.toNat)) from by
      rw [Nat.add_comm, Nat.mul_comm b.toNat, Nat.mul_assoc, Nat.mul_assoc], Nat.add_mul_div_left _ _ p]
    omega
def dG (os ts : List Bool) (j : Nat) : Int := bi (os.getD j false) - bi (ts.getD j false)
theorem bi_nat (b : Bool) : bi b = ((b.toNat : Nat) : Int) := by cases b <;> rfl
theorem bit_dG {os ts : List Bool} {j n : Nat} (h1 : os.length = n) (h2 : ts.length = n) (h : j < n) : (numB os : Int) / 2 ^ (n - 1 - j) % 2 ^ 1 - (numB ts : Int) / 2 ^ (n - 1 - j) % 2 ^ 1 = dG os ts j := by
  have a := numB_bit os j (by omega)
  have b := numB_bit ts j (by omega)
  rw [h1] at a
  rw [h2] at b
  have c : ((2 ^ (n - 1 - j) : Nat) : Int) = 2 ^ (n - 1 - j) := PySem.W.kbt_cast _
  unfold dG
  rw [bi_nat, bi_nat, ← a, ← b, ← c, Int.pow_one]
  omega
theorem dG_out {os ts : List Bool} {j : Nat} (h1 : os.length ≤ j) (h2 : ts.length ≤ j) : dG os ts j = 0 := by
  unfold dG
  simp [List.getD, List.getElem?_eq_none h1, List.getElem?_eq_none h2]
def dGm (os ts : List Bool) (j : Nat) : Int := if j = 0 then 0 else dG os ts (j - 1)
theorem mk_dG (os ts : List Bool) (j : Nat) : (decide (dG os ts j ≠ 0) && decide (dG os ts (j + 1) ≠ (if dGm os ts j ≠ 0 then dG os ts j else 0 - dG os ts j))) = mkB os ts j := by
  unfold mkB dGm dB dG
  by_cases c : j = 0
  · subst c
    simp only [if_true]
    generalize os.getD 0 false = a
    generalize ts.getD 0 false = b
    generalize os.getD (0 + 1) false = x
    generalize ts.getD (0 + 1) false = y
    cases a <;> cases b <;> cases x <;> cases y <;> decide
  · rw [if_neg c, if_neg c]
    generalize os.getD j false = a
    generalize ts.getD j false = b
    generalize os.getD (j + 1) false = x
    generalize ts.getD (j + 1) false = y
    generalize os.getD (j - 1) false = u
    generalize ts.getD (j - 1) false = v
    cases a <;> cases b <;> cases x <;> cases y <;> cases u <;> cases v <;> decide
def dgs (os ts : List Bool) (n : Nat) : List Int := 0 :: ((List.range n).map (dG os ts) ++ [0])
theorem dgs_at {os ts : List Bool} {n i : Nat} (h1 : os.length = n) (h2 : ts.length = n) (h : i ≤ n) : (dgs os ts n)[i + 1]? = some (dG os ts i) := by
  show ((List.range n).map (dG os ts) ++ [0])[i]? = _
  by_cases c : i < n
  · rw [List.getElem?_append_left (by rw [List.length_map, List.length_range]; exact c), List.getElem?_map, List.getElem?_range c]
    rfl
  · rw [List.getElem?_append_right (by rw [List.length_map, List.length_range]; omega), List.length_map, List.length_range, show i - n = 0 by omega, dG_out (by omega) (by omega)]
    rfl
theorem dgs_at' {os ts : List Bool} {n i : Nat} (h1 : os.length = n) (h2 : ts.length = n) (h : i ≤ n) : (dgs os ts n)[i]? = some (dGm os ts i) := by
  unfold dGm
  by_cases c : i = 0
  · rw [if_pos c, c]
    rfl
  · rw [if_neg c, show i = (i - 1) + 1 by omega]
    exact dgs_at h1 h2 (by omega)
theorem fst1_at : ∀ (l : List Bool) (j : Nat), j < l.length → (∀ i, i < j → l.getD i false = false) → l.getD j false = true → fst1 l = j
  | b :: l, 0, _, _, h => by
    have : b = true := h
    rw [this]
    rfl
  | b :: l, j + 1, hj, hi, h => by
    have hb : b = false := hi 0 (by omega)
    rw [hb]
    show fst1 l + 1 = j + 1
    rw [fst1_at l j (by rw [List.length_cons] at hj; omega) (fun i z => hi (i + 1) (by omega)) h]
theorem fst1_all : ∀ l : List Bool, (∀ i, i < l.length → l.getD i false = false) → fst1 l = l.length
  | [], _ => rfl
  | b :: l, h => by
    have hb : b = false := h 0 (by simp)
    rw [hb]
    show fst1 l + 1 = l.length + 1
    rw [fst1_all l (fun i z => h (i + 1) (by rw [List.length_cons]; omega))]
theorem markB_at {os ts : List Bool} {j : Nat} (h : j < os.length) : (markB os ts).getD j false = mkB os ts j := by
  unfold markB
  simp only [List.getD, List.getElem?_map, List.getElem?_range h, Option.map_some, Option.getD_some]
theorem markB_len (os ts : List Bool) : (markB os ts).length = os.length := by
  unfold markB
  rw [List.length_map, List.length_range]
def spGuess : Sp := fun vs H Q _ => ∃ (os ts : List Bool) (n : Nat), vs = [.int (numB os : Int), .int (numB ts : Int), .int (n : Int)] ∧ os.length = n ∧ ts.length = n ∧ n ≤ 1000 ∧ ∀ H', Same H H' → Q (.int (fst1 (markB os ts) : Nat)) H'
theorem ok__law_guess (B : Bl mg) (L : LL K mg C a1 a2 a3 a4 a5 a6 a7 a8 a9 a10 a11 a12 a13 a14 a15 a16 a17 a18 a19 a20 a21 a22 a23 a24 a25 a26 a27 a28 a29 a30 a31 a32 a33 a34 a35 a36 a37 a38 l1 l2 l3 l4 l5 l6 l7 l8 l9 l10 l11 l12 l13 l14 l15 l16 l17 l18 l19 l20 l21 l22 l23 l24 l25 l26 l27 l28 l29 l30 l31 l32 l33 l34 l35 l36 l37 l38) : FnOk P w K mg base CX0 1 a20 l20 ["_law_one", "_law_other", "_law_size"] spGuess := by
  refine L.F__law_guess.ok sc__law_guess (fun vs H Q E h => ?_) (fun cdv A outer s H vs Q E hr h => ?_)
  · obtain ⟨os, ts, n, rfl, _⟩ := h
    rfl
  obtain ⟨os, ts, n, rfl, ho, ht, hn, q⟩ := h
  refine ⟨_, (pss_cons (ps_set (i := 3) sc__law_guess.nd rfl (.inl rfl) (pe_op op_cat (pe_op op_cat (pe_lst (pa_cons pe_int pa_nil)) (pe_lc (own := [("_law_place", 6)]) (by rfl) sc__law_guess.nd (pi_range3 (by rfl) B.range (pa_cons (pe_op op_sub (pv 2) pe_int) (pa_cons (pe_un un_neg pe_int) (pa_cons (pe_un un_neg pe_int) pa_nil)))) (blkOk_by (own := [("_law_place", 6)]) (N := ["_law_one", "_law_other", "_law_size", "_law_digits", "_law_at", "_law_bar", "_law_place"]) (sc := defScope s__law_guess) (by decide +kernel)) (fun _ _ _ _ _ => pg_name (i := 6) sc__law_guess.nd rfl (Or.inl rfl)) (fun _ _ _ _ _ => pts_nil) (fun _ _ _ _ _ => (pe_op op_sub (pe_op op_andM (pe_op op_shrN (pv 0) (pv 6)) pe_int) (pe_op op_andM (pe_op op_shrN (pv 1) (pv 6)) pe_int))))) (pe_lst (pa_cons pe_int pa_nil))))
    (pss_cons (ps_for PassesOwn.never rfl (pi_range2 (by rfl) B.range (pa_cons pe_int (pa_cons (pe_op op_add (pv 2) pe_int) pa_nil))) (pg_name (i := 4) sc__law_guess.nd rfl (.inl rfl)) (pss_cons (ps_set (i := 5) sc__law_guess.nd rfl (.inl rfl) (pe_ifExp (pt_cmpR op_ne (pe_ix ix_list (pv 3) (pe_op op_sub (pv 4) pe_int) (fun _ _ => rfl)) pe_int (nomark _)) (pe_ix ix_list (pv 3) (pv 4) (fun _ _ => rfl)) (pe_op op_sub pe_int (pe_ix ix_list (pv 3) (pv 4) (fun _ _ => rfl)))))
    (pss_one (ps_if (PW.pt (pw_and (pt_cmpR op_ne (pe_ix ix_list (pv 3) (pv 4) (fun _ _ => rfl)) pe_int (nomark _)) (pw_and1 (pt_cmpR op_ne (pe_ix ix_list (pv 3) (pe_op op_add (pv 4) pe_int) (fun _ _ => rfl)) (pv 5) (nomark _))))) (pss_one (ps_ret (pe_op op_sub (pv 4) pe_int))) pss_nil))))
    (pss_one (ps_ret (pv 2))))), ?_⟩
  refine ⟨(by show 1 ≤ sizeLine; decide), fun L1 nL1 => ?_⟩
  have s1 := same_upd (o := .lst [.int 0]) nL1
  have e1 : (upd H L1 (.lst [.int 0])) L1 = some (.lst [.int 0]) := upd_same
  generalize upd H L1 (.lst [.int 0]) = H1 at *
  refine ⟨_, rfl, _, _, rfl, rfl, _, rfl, _, rfl, (n : Int) - 1, (-1), (-1), ((n : Int) - 1 - -1).toNat, rfl, RgC.neg (by omega) (by omega) (by decide) (by decide), fun D nD => ?_⟩
  rw [show ((n : Int) - 1 - -1).toNat = n by omega]
  refine lc_it walk_rangeC (fun i H3 => Same H1 H3 ∧ H3 D = some (.lst (((List.range i).map (dG os ts)).map V.int))) ⟨same_upd nD, upd_same⟩ (fun _ _ _ _ => trivial) ?_ ?_
  · rintro i x H3 H4 hi ⟨s3, eD⟩ ⟨rfl, rfl⟩
    dsimp only
    rw [show (n : Int) - 1 + (i : Nat) * (-1) = ((n - 1 - i : Nat) : Int) from by omega]
    dsimp only [gName]
    refine ⟨rfl, yesT ?_⟩
    refine ⟨_, rfl, _, rfl, _, n - 1 - i, rfl, rfl, _, 1, rfl, rfl, _, rfl, _, rfl, _, n - 1 - i, rfl, rfl, _, 1, rfl, rfl, _, _, rfl, rfl, ?_⟩
    refine ⟨_, eD, ?_, fun y u e => ?_, ?_⟩
    · rw [List.length_map, List.length_map, List.length_range]
      exact big_lt (by omega)
    · rw [upd_ne (ne_of_none e nD)]
      exact s3 _ _ e
    · rw [upd_same]
      dsimp only
      rw [bit_dG ho ht hi, List.range_succ, List.map_append, List.map_append]
      rfl
  rintro H2 ⟨s2, eD⟩
  refine ⟨L1, D, _, _, rfl, rfl, s2 _ _ e1, eD, by rw [List.length_map, List.length_map, List.length_range]; exact Nat.le_of_lt (big_lt (by show 1 + n ≤ 500000; omega)), fun L2 nL2 => ?_⟩
  have s3 := same_upd (o := .lst ([.int 0] ++ ((List.range n).map (dG os ts)).map V.int)) nL2
  have e3 : (upd H2 L2 (.lst ([.int 0] ++ ((List.range n).map (dG os ts)).map V.int))) L2 = some (.lst ([.int 0] ++ ((List.range n).map (dG os ts)).map V.int)) := upd_same
  generalize upd H2 L2 (.lst ([.int 0] ++ ((List.range n).map (dG os ts)).map V.int)) = H3 at *
  refine ⟨(by show 1 ≤ sizeLine; decide), fun L3 nL3 => ?_⟩
  have s4 := same_upd (o := .lst [.int 0]) nL3
  have e4 : (upd H3 L3 (.lst [.int 0])) L3 = some (.lst [.int 0]) := upd_same
  have e34 := s4 _ _ e3
  generalize upd H3 L3 (.lst [.int 0]) = H4 at *
  refine ⟨L2, L3, _, _, rfl, rfl, e34, e4, by rw [List.length_append, List.length_map, List.length_map, List.length_range]; exact Nat.le_of_lt (big_lt (by show 1 + n + 1 ≤ 500000; omega)), fun L4 nL4 => ?_⟩
  rw [show ([V.int 0] ++ ((List.range n).map (dG os ts)).map V.int) ++ [V.int 0] = (dgs os ts n).map V.int from by
    unfold dgs
    rw [List.map_cons, List.map_append]
    rfl]
  have s5 := same_upd (o := .lst ((dgs os ts n).map V.int)) nL4
  have e5 : (upd H4 L4 (.lst ((dgs os ts n).map V.int))) L4 = some (.lst ((dgs os ts n).map V.int)) := upd_same
  have sA : Same H (upd H4 L4 (.lst ((dgs os ts n).map V.int))) := (((s1.trans s2).trans s3).trans s4).trans s5
  generalize upd H4 L4 (.lst ((dgs os ts n).map V.int)) = H5 at *
  dsimp only [gName]
  try simp only [L2.start, List.map_cons, List.map_nil, List.length_cons, List.length_nil, List.replicate_succ, List.replicate_zero, List.cons_append, List.nil_append, List.set_cons_succ, List.set_cons_zero, Nat.reduceAdd, Nat.reduceSub, Nat.zero_add]
  refine ⟨_, rfl, _, _, rfl, rfl, _, _, rfl, ⟨by omega, by omega, by omega, by omega⟩, ?_⟩
  rw [show ((n : Int) + 1 - 1).toNat = n by omega]
  refine for_range (n := n) (fun j σ H9 => ∃ (y1 y2 : Option V), σ = [some (.int (numB os : Int)), some (.int (numB ts : Int)), some (.int (n : Int)), some (.ref L4), y1, y2, none] ∧ (∀ i, i < j → mkB os ts i = false) ∧ H9 = H5) ⟨_, _, rfl, (fun i h => absurd h (Nat.not_lt_zero _)), rfl⟩ ?_ ?_
  · rintro j σ H9 hj ⟨y1, y2, rfl, hno, rfl⟩
    have hA : atI ((dgs os ts n).map V.int) ((1 : Int) + (j : Nat)) = some (.int (dG os ts j)) := by
      rw [show (1 : Int) + (j : Nat) = ((j + 1 : Nat) : Int) by omega]
      exact atI_nat (by rw [List.getElem?_map, dgs_at ho ht (by omega)]; rfl)
    have hM : atI ((dgs os ts n).map V.int) ((1 : Int) + (j : Nat) - 1) = some (.int (dGm os ts j)) := by
      rw [show (1 : Int) + (j : Nat) - 1 = ((j : Nat) : Int) by omega]
      exact atI_nat (by rw [List.getElem?_map, dgs_at' ho ht (by omega)]; rfl)
    have hP : atI ((dgs os ts n).map V.int) ((1 : Int) + (j : Nat) + 1) = some (.int (dG os ts (j + 1))) := by
      rw [show (1 : Int) + (j : Nat) + 1 = ((j + 1 + 1 : Nat) : Int) by omega]
      exact atI_nat (by rw [List.getElem?_map, dgs_at ho ht (by omega)]; rfl)
    dsimp only [gName]
    refine asg_ev (fun v H' => v = .int (if dGm os ts j ≠ 0 then dG os ts j else 0 - dG os ts j) ∧ H' = H9) (fun Q' q' => ?_) ?_
    · refine ⟨_, rfl, _, rfl, _, _, rfl, rfl, L4, _, _, _, rfl, rfl, SqL.of e5, hM, rfl, _, rfl, ite2 (fun z => ?_) (fun z => ?_)⟩
      · have z' : dGm os ts j ≠ 0 := fun y => by
          rw [y] at z
          exact absurd z (by decide)
        refine ⟨_, rfl, _, rfl, L4, _, _, _, rfl, rfl, SqL.of e5, hA, q' _ _ ⟨by rw [if_pos z'], rfl⟩⟩
      · have z' : ¬ dGm os ts j ≠ 0 := fun y => z (by
          show (!decide (V.int (dGm os ts j) = V.int 0)) = true
          rw [decide_eq_false (fun u => y (V.int.inj u))]
          rfl)
        refine ⟨_, rfl, _, rfl, L4, _, _, _, rfl, rfl, SqL.of e5, hA, _, _, rfl, rfl, q' _ _ ⟨by rw [if_neg z'], rfl⟩⟩
    rintro v H' ⟨rfl, rfl⟩
    try simp only [L2.start, List.map_cons, List.map_nil, List.length_cons, List.length_nil, List.replicate_succ, List.replicate_zero, List.cons_append, List.nil_append, List.set_cons_succ, List.set_cons_zero, Nat.reduceAdd, Nat.reduceSub, Nat.zero_add]
    have key := mk_dG os ts j
    generalize hb : (if dGm os ts j ≠ 0 then dG os ts j else 0 - dG os ts j) = bar at *
    have nQ : ∀ x y : Int, (!decide (V.int x = V.int y)) = decide (x ≠ y) := fun x y => by
      by_cases c : x = y
      · rw [c]
        simp
      · rw [decide_eq_false (fun z => c (V.int.inj z)), decide_eq_true c]
        rfl
    have nx : mkB os ts j = false → ∀ i, i < j + 1 → mkB os ts i = false := fun h i hi => by
      by_cases c : i = j
      · rw [c]
        exact h
      · exact hno i (by omega)
    refine ⟨_, rfl, _, rfl, L4, _, _, _, rfl, rfl, SqL.of e5, hA, rfl, _, rfl, ?_⟩
    rw [nQ]
    by_cases c : dG os ts j ≠ 0
    · rw [decide_eq_true c] at key ⊢
      rw [Bool.true_and] at key
      rw [if_pos rfl]
      refine ⟨_, rfl, _, rfl, _, _, rfl, rfl, L4, _, _, _, rfl, rfl, SqL.of e5, hP, _, rfl, rfl, _, rfl, ?_⟩
      rw [nQ, key]
      cases hk : mkB os ts j with
      | true =>
        refine iteT ?_
        refine ⟨_, rfl, _, _, rfl, rfl, ?_⟩
        have e1 : fst1 (markB os ts) = j := fst1_at _ _ (by rw [markB_len]; omega) (fun i hi => (markB_at (by omega)).trans (hno i hi)) ((markB_at (by omega)).trans hk)
        dsimp only
        rw [e1] at q
        rw [show (1 : Int) + (j : Nat) - 1 = ((j : Nat) : Int) by omega]
        exact q _ sA
      | false =>
        refine iteF ?_
        exact ⟨_, _, rfl, nx hk, rfl⟩
    · rw [decide_eq_false c] at key ⊢
      rw [if_neg (by decide)]
      exact ⟨_, _, rfl, nx key.symm, rfl⟩
  · rintro σ H9 ⟨y1, y2, rfl, hno, rfl⟩
    have e1 : fst1 (markB os ts) = n := by
      rw [fst1_all _ (fun i hi => by
        rw [markB_len] at hi
        exact (markB_at hi).trans (hno i (by omega))), markB_len, ho]
    rw [e1] at q
    exact ⟨_, rfl, q _ sA⟩
def spDue : Sp := fun vs H Q _ => ∃ (os ts : List Bool) (n : Nat), vs = [.int (numB os : Int), .int (numB ts : Int), .int (n : Int)] ∧ os.length = n ∧ ts.length = n ∧ n ≤ 1000 ∧ ∀ H' T, Same H H' → H' T = some (.tup [.int (fst1 (markB os ts) : Nat), .int ((n : Int) - ((Builtin.Int.intBits (((numB os : Int) - (numB ts : Int)).natAbs : Int) : Nat) : Int))]) → Q (.ref T) H'
theorem ok__law_due (B : Bl mg) (L : LL K mg C a1 a2 a3 a4 a5 a6 a7 a8 a9 a10 a11 a12 a13 a14 a15 a16 a17 a18 a19 a20 a21 a22 a23 a24 a25 a26 a27 a28 a29 a30 a31 a32 a33 a34 a35 a36 a37 a38 l1 l2 l3 l4 l5 l6 l7 l8 l9 l10 l11 l12 l13 l14 l15 l16 l17 l18 l19 l20 l21 l22 l23 l24 l25 l26 l27 l28 l29 l30 l31 l32 l33 l34 l35 l36 l37 l38) : FnOk P w K mg base CX0 2 a21 l21 ["_law_one", "_law_other", "_law_size"] spDue := by
  have G__law_guess : FnOk P w K mg base CX0 1 a20 l20 ["_law_one", "_law_other", "_law_size"] spGuess := (ok__law_guess B L).mono (by decide)
  refine L.F__law_due.ok sc__law_due (fun vs H Q E h => ?_) (fun cdv A outer s H vs Q E hr h => ?_)
  · obtain ⟨os, ts, n, rfl, _⟩ := h
    rfl
  obtain ⟨os, ts, n, rfl, ho, ht, hn, q⟩ := h
  refine ⟨_, (pss_one (ps_ret (pe_tup (pa_cons (pe_call G__law_guess hr (by rfl) L.m__law_guess L.F__law_guess.kp L.b__law_guess .nil pass0 (pa_cons (pv 0) (pa_cons (pv 1) (pa_cons (pv 2) pa_nil)))) (pa_cons (pe_op op_sub (pv 2) (pe_bits (pe_callB call_abs (by rfl) B.abs boot_abs (pa_cons (pe_op op_sub (pv 0) (pv 1)) pa_nil)))) pa_nil))))), ?_⟩
  refine ⟨_, rfl, _, rfl, _, rfl, os, ts, n, rfl, ho, ht, hn, fun H1 s1 => ?_⟩
  refine ⟨_, rfl, _, rfl, _, rfl, _, _, rfl, rfl, ?_⟩
  dsimp only
  have ea : (if (numB os : Int) - (numB ts : Int) < 0 then -((numB os : Int) - (numB ts : Int)) else (numB os : Int) - (numB ts : Int)) = ((((numB os : Int) - (numB ts : Int)).natAbs : Nat) : Int) := by split <;> omega
  refine ⟨_, rfl, ?_⟩
  rw [ea]
  refine ⟨_, rfl, _, _, rfl, rfl, (by show 2 ≤ sizeLine; decide), fun T nT => ?_⟩
  exact q _ T (s1.trans (same_upd nT)) upd_same
def spPair : Sp := fun vs H Q _ => ∃ (b : Addr) (n : Nat) (c : Int), vs = [.ref b, .int (n : Int)] ∧ BoxAt c H b ∧ c ≤ 900000000 ∧ 1 ≤ n ∧ n ≤ 12 ∧ ∀ (x y : Nat) (T : Addr) (H' : Hp), x < 2 ^ n → y < 2 ^ n → H' T = some (.tup [.int (x : Int), .int (y : Int)]) → BoxAt (c + 40) H' b → Keep b H H' → Q (.ref T) H'
theorem ok__law_pair (B : Bl mg) (L : LL K mg C a1 a2 a3 a4 a5 a6 a7 a8 a9 a10 a11 a12 a13 a14 a15 a16 a17 a18 a19 a20 a21 a22 a23 a24 a25 a26 a27 a28 a29 a30 a31 a32 a33 a34 a35 a36 a37 a38 l1 l2 l3 l4 l5 l6 l7 l8 l9 l10 l11 l12 l13 l14 l15 l16 l17 l18 l19 l20 l21 l22 l23 l24 l25 l26 l27 l28 l29 l30 l31 l32 l33 l34 l35 l36 l37 l38) : FnOk P w K mg base CX0 3 a23 l23 ["_law_box_here", "_law_size"] spPair := by
  have G__law_take : FnOk P w K mg base CX0 2 a19 l19 ["_law_box_here", "_law_size"] (spTake 1) := (ok_take L.F__law_take L.b__law_take L.m__law_take B 1).mono (by decide)
  refine L.F__law_pair.ok sc__law_pair (fun vs H Q E h => ?_) (fun cdv A outer s H vs Q E hr h => ?_)
  · obtain ⟨b, n, c, rfl, _⟩ := h
    rfl
  obtain ⟨b, n, c, rfl, hB, hc, n1, n12, q⟩ := h
  refine ⟨_, (pss_cons (ps_par (by rfl) sc__law_pair.nd (i := 2) (j := 3) rfl rfl (by decide) rfl rfl (pa_cons (pe_call G__law_take hr (by rfl) L.m__law_take L.F__law_take.kp L.b__law_take .nil pass0 (pa_cons (pv 0) (pa_cons (pe_op op_oneShl pe_int (pv 1)) pa_nil))) (pa_cons (pe_call G__law_take hr (by rfl) L.m__law_take L.F__law_take.kp L.b__law_take .nil pass0 (pa_cons (pv 0) (pa_cons pe_int pa_nil))) pa_nil)) (by rfl))
    (pss_cons (ps_set (i := 4) sc__law_pair.nd rfl (.inl rfl) (pe_callB (call_max2 rfl) (by rfl) B.max boot_max (pa_cons pe_int (pa_cons (pe_callB (call_min2 rfl) (by rfl) B.min boot_min (pa_cons (pe_op op_sub (pe_op op_oneShl pe_int (pv 1)) pe_int) (pa_cons (pe_op op_sub (pe_op op_add (pv 2) (pe_call G__law_take hr (by rfl) L.m__law_take L.F__law_take.kp L.b__law_take .nil pass0 (pa_cons (pv 0) (pa_cons pe_int pa_nil)))) pe_int) pa_nil))) pa_nil))))
    (pss_cons (ps_set (i := 5) sc__law_pair.nd rfl (.inl rfl) (pe_op op_sub (pe_op op_oneShl pe_int (pe_call G__law_take hr (by rfl) L.m__law_take L.F__law_take.kp L.b__law_take .nil pass0 (pa_cons (pv 0) (pa_cons (pe_op op_add (pv 1) pe_int) pa_nil)))) (pe_op op_oneShl pe_int (pe_call G__law_take hr (by rfl) L.m__law_take L.F__law_take.kp L.b__law_take .nil pass0 (pa_cons (pv 0) (pa_cons (pe_op op_add (pv 1) pe_int) pa_nil))))))
    (pss_cons (ps_set (i := 6) sc__law_pair.nd rfl (.inl rfl) (pe_ix ix_list (pe_lst (pa_cons (pe_call G__law_take hr (by rfl) L.m__law_take L.F__law_take.kp L.b__law_take .nil pass0 (pa_cons (pv 0) (pa_cons (pe_op op_oneShl pe_int (pv 1)) pa_nil))) (pa_cons (pe_call G__law_take hr (by rfl) L.m__law_take L.F__law_take.kp L.b__law_take .nil pass0 (pa_cons (pv 0) (pa_cons (pe_op op_oneShl pe_int (pv 1)) pa_nil))) (pa_cons (pv 4) (pa_cons (pe_op op_xor (pv 2) (pe_op op_andM (pe_callB call_abs (by rfl) B.abs boot_abs (pa_cons (pv 5) pa_nil)) (pe_op op_sub (pe_op op_oneShl pe_int (pv 1)) pe_int))) (pa_cons (pv 2) pa_nil)))))) (pv 3) (fun _ _ => rfl)))
    (pss_one (ps_ret (pe_ifExp (pt_cmpR op_eq (pe_call G__law_take hr (by rfl) L.m__law_take L.F__law_take.kp L.b__law_take .nil pass0 (pa_cons (pv 0) (pa_cons pe_int pa_nil))) pe_int (nomark _)) (pe_tup (pa_cons (pv 2) (pa_cons (pv 6) pa_nil))) (pe_tup (pa_cons (pv 6) (pa_cons (pv 2) pa_nil)))))))))), ?_⟩
  have p12 : (2 : Int) ^ n ≤ 2 ^ 12 := GM.pow_le' n12
  have pp := GM.pow_pos' n
  have pc : ((2 ^ n : Nat) : Int) = 2 ^ n := PySem.W.kbt_cast n
  refine ⟨_, rfl, _, rfl, n, rfl, rfl, by omega, b, _, _, rfl, hB, by omega, by omega, by omega, by omega, by decide, fun r1 H1 u1 v1 B1 k1 => ?_⟩
  replace B1 := bx1 B1
  refine ⟨_, rfl, b, _, _, rfl, B1, by decide, by decide, by decide, by omega, by decide, fun r2 H2 u2 v2 B2 k2 => ?_⟩
  replace B2 := bx1 B2
  have k12 := k1.trans k2
  refine ⟨_, _, rfl, ?_⟩
  try simp only [L2.start, List.map_cons, List.map_nil, List.length_cons, List.length_nil, List.replicate_succ, List.replicate_zero, List.cons_append, List.nil_append, List.set_cons_succ, List.set_cons_zero, Nat.reduceAdd, Nat.reduceSub, Nat.zero_add]
  refine ⟨_, rfl, n, rfl, rfl, by omega, _, _, rfl, rfl, ?_⟩
  refine ⟨_, rfl, _, rfl, b, _, _, rfl, B2, by decide, by decide, by decide, by omega, by decide, fun r3 H3 u3 v3 B3 k3 => ?_⟩
  replace B3 := bx1 B3
  have k13 := k12.trans k3
  refine ⟨_, _, rfl, rfl, _, _, rfl, rfl, _, _, rfl, _, _, rfl, ?_⟩
  dsimp only
  obtain ⟨nv, env, nv0, nv1⟩ : ∃ nv : Int, (if (if r1 + r3 - 2 < 2 ^ n - 1 then r1 + r3 - 2 else 2 ^ n - 1) > 0 then (if r1 + r3 - 2 < 2 ^ n - 1 then r1 + r3 - 2 else 2 ^ n - 1) else 0) = nv ∧ 0 ≤ nv ∧ nv < 2 ^ n := ⟨_, rfl, by split <;> omega, by split <;> split <;> omega⟩
  rw [env]
  dsimp only [gName]
  try simp only [L2.start, List.map_cons, List.map_nil, List.length_cons, List.length_nil, List.replicate_succ, List.replicate_zero, List.cons_append, List.nil_append, List.set_cons_succ, List.set_cons_zero, Nat.reduceAdd, Nat.reduceSub, Nat.zero_add]
  refine ⟨_, rfl, _, rfl, _, _, rfl, rfl, b, _, _, rfl, B3, by omega, by omega, by omega, by omega, by decide, fun r4 H4 u4 v4 B4 k4 => ?_⟩
  replace B4 := bx1 B4
  have k14 := k13.trans k4
  obtain ⟨a4, rfl⟩ : ∃ a : Nat, r4 = (a : Int) := ⟨r4.toNat, by omega⟩
  refine ⟨a4, rfl, rfl, by omega, _, rfl, _, rfl, _, _, rfl, rfl, b, _, _, rfl, B4, by omega, by omega, by omega, by omega, by decide, fun r5 H5 u5 v5 B5 k5 => ?_⟩
  replace B5 := bx1 B5
  have k15 := k14.trans k5
  obtain ⟨a5, rfl⟩ : ∃ a : Nat, r5 = (a : Int) := ⟨r5.toNat, by omega⟩
  refine ⟨a5, rfl, rfl, by omega, _, _, rfl, rfl, ?_⟩
  dsimp only [gName]
  try simp only [L2.start, List.map_cons, List.map_nil, List.length_cons, List.length_nil, List.replicate_succ, List.replicate_zero, List.cons_append, List.nil_append, List.set_cons_succ, List.set_cons_zero, Nat.reduceAdd, Nat.reduceSub, Nat.zero_add]
  refine ⟨_, rfl, _, rfl, n, rfl, rfl, by omega, b, _, _, rfl, B5, by omega, by omega, by omega, by omega, by decide, fun r6 H6 u6 v6 B6 k6 => ?_⟩
  replace B6 := bx1 B6
  have k16 := k15.trans k6
  refine ⟨_, rfl, _, rfl, n, rfl, rfl, by omega, b, _, _, rfl, B6, by omega, by omega, by omega, by omega, by decide, fun r7 H7 u7 v7 B7 k7 => ?_⟩
  replace B7 := bx1 B7
  have k17 := k16.trans k7
  refine ⟨_, rfl, _, rfl, _, rfl, _, rfl, _, rfl, n, rfl, rfl, by omega, _, _, rfl, rfl, _, n, rfl, rfl, _, _, rfl, rfl, ?_⟩
  dsimp only
  obtain ⟨xv, exv, xv0, xv1⟩ : ∃ xv : Int, Builtin.bitXor r1 ((if (2 : Int) ^ a4 - 2 ^ a5 < 0 then -((2 : Int) ^ a4 - 2 ^ a5) else (2 : Int) ^ a4 - 2 ^ a5) % 2 ^ n) = xv ∧ 0 ≤ xv ∧ xv < 2 ^ n := by
    obtain ⟨mv, emv⟩ : ∃ mv, mv = (if (2 : Int) ^ a4 - 2 ^ a5 < 0 then -((2 : Int) ^ a4 - 2 ^ a5) else (2 : Int) ^ a4 - 2 ^ a5) % 2 ^ n := ⟨_, rfl⟩
    rw [← emv]
    have m0 : 0 ≤ mv := emv ▸ Int.emod_nonneg _ (by omega)
    have m1 : mv < 2 ^ n := emv ▸ Int.emod_lt_of_pos _ pp
    refine ⟨_, rfl, Bits.bitXor_nonneg u1 m0, ?_⟩
    rw [Bits.bitXor_pp u1 m0, ← pc]
    exact Int.ofNat_lt.mpr (Nat.xor_lt_two_pow (by omega) (by omega))
  rw [exv]
  refine ⟨_, rfl, (by show 5 ≤ sizeLine; decide), fun L nL => ?_⟩
  have sL := same_upd (o := .lst [.int r6, .int r7, .int nv, .int xv, .int r1]) nL
  have eL : (upd H7 L (.lst [.int r6, .int r7, .int nv, .int xv, .int r1])) L = some (.lst [.int r6, .int r7, .int nv, .int xv, .int r1]) := upd_same
  have B8 := B7.same sL
  have k18 := k17.trans (Keep.ofSame sL)
  generalize upd H7 L (.lst [.int r6, .int r7, .int nv, .int xv, .int r1]) = H8 at *
  obtain ⟨ov, eov, ov0, ov1⟩ : ∃ ov : Int, atI [V.int r6, .int r7, .int nv, .int xv, .int r1] r2 = some (.int ov) ∧ 0 ≤ ov ∧ ov < 2 ^ n := by
    have h5 : r2 = 0 ∨ r2 = 1 ∨ r2 = 2 ∨ r2 = 3 ∨ r2 = 4 := by omega
    rcases h5 with z | z | z | z | z <;> subst z
    · exact ⟨_, rfl, u6, v6⟩
    · exact ⟨_, rfl, u7, v7⟩
    · exact ⟨_, rfl, nv0, nv1⟩
    · exact ⟨_, rfl, xv0, xv1⟩
    · exact ⟨_, rfl, u1, v1⟩
  refine ⟨_, rfl, L, _, _, _, rfl, rfl, SqL.of eL, eov, ?_⟩
  dsimp only [gName]
  try simp only [L2.start, List.map_cons, List.map_nil, List.length_cons, List.length_nil, List.replicate_succ, List.replicate_zero, List.cons_append, List.nil_append, List.set_cons_succ, List.set_cons_zero, Nat.reduceAdd, Nat.reduceSub, Nat.zero_add]
  refine ⟨_, rfl, b, _, _, rfl, B8, by decide, by decide, by decide, by omega, by decide, fun r9 H9 u9 v9 B9 k9 => ?_⟩
  replace B9 := bx1 B9
  have k19 := k18.trans k9
  obtain ⟨x, rfl⟩ : ∃ a : Nat, r1 = (a : Int) := ⟨r1.toNat, by omega⟩
  obtain ⟨y, rfl⟩ : ∃ a : Nat, ov = (a : Int) := ⟨ov.toNat, by omega⟩
  refine ⟨rfl, _, rfl, ite2 (fun _ => ?_) (fun _ => ?_)⟩
  · refine ⟨_, rfl, _, rfl, (by show 2 ≤ sizeLine; decide), fun T nT => ?_⟩
    exact q x y T _ (by omega) (by omega) upd_same ((B9.same (same_upd nT)).mono (by omega)) (k19.trans (Keep.new nT))
  · refine ⟨_, rfl, _, rfl, (by show 2 ≤ sizeLine; decide), fun T nT => ?_⟩
    exact q y x T _ (by omega) (by omega) upd_same ((B9.same (same_upd nT)).mono (by omega)) (k19.trans (Keep.new nT))
end
section
variable {P : Program} {w : World} {K : PySem.W.Frag} {mg : Str → Option Value} {base : Heap}
variable {C : Addr} {a1 a2 a3 a4 a5 a6 a7 a8 a9 a10 a11 a12 a13 a14 a15 a16 a17 a18 a19 a20 a21 a22 a23 a24 a25 a26 a27 a28 a29 a30 a31 a32 a33 a34 a35 a36 a37 a38 : Addr} {l1 l2 l3 l4 l5 l6 l7 l8 l9 l10 l11 l12 l13 l14 l15 l16 l17 l18 l19 l20 l21 l22 l23 l24 l25 l26 l27 l28 l29 l30 l31 l32 l33 l34 l35 l36 l37 l38 : FuncData}
/-! ### the law -/
theorem names2 {ys : List Str} (hp : ys.Perm (["guess", "zeros"] : List Str)) (hs : sortedS ys = true) : ys = (["guess", "zeros"] : List Str) := by
  have hl := hp.length_eq
  match ys, hl with
  | [a, b], _ =>
    have ha : a = ("guess" : Str) ∨ a = ("zeros" : Str) := by
      have := hp.mem_iff.mp (show a ∈ [a, b] by simp)
      simpa using this
    have hb : b = ("guess" : Str) ∨ b = ("zeros" : Str) := by
      have := hp.mem_iff.mp (show b ∈ [a, b] by simp)
      simpa using this
    have hn : [a, b].Nodup := hp.nodup_iff.mpr (by decide)
    have hab : a ≠ b := by simpa using hn
    rcases ha with rfl | rfl <;> rcases hb with rfl | rfl
    · exact absurd rfl hab
    · rfl
    · exact absurd hs (by decide +kernel)
    · exact absurd rfl hab
theorem num_caseG {n k : Nat} (h : k < n) (gs : List Gt) (us : List Int) (ws : List Nat) : wf (((ws.map fun a => (rv (2 ^ n - 1) (us.map (· % 2 ^ n)) gs).getD a 0)).map (tb · k)) = (numB (ws.map (wb (bitsOf us k) gs)) : Int) := by
  rw [← wf_num, List.map_map, List.map_map]
  congr 1
  exact List.map_congr_left fun a _ => rv_case h gs us a
theorem bits_acs {m c : Nat} (h : c < 2 ^ m) : bitsOf (acs m) c = (downs m).map fun p => c.testBit p := by
  refine List.ext_getElem? fun i => ?_
  unfold bitsOf acs
  rw [List.map_map, List.getElem?_map, List.getElem?_map]
  by_cases hi : i < m
  · rw [downs_at hi, List.getElem?_range hi]
    show some (decide (tb (pcs (m - 1 - i) i) c = 1)) = some (c.testBit (m - 1 - i))
    rw [pcs_bit (m - 1 - i) i c (by rw [show m - 1 - i + 1 + i = m by omega]; exact h), Nat.testBit_eq_decide_div_mod_eq]
    congr 1
    exact decide_eq_decide.mpr (by omega)
  · rw [List.getElem?_eq_none (by rw [List.length_range]; omega), List.getElem?_eq_none (by unfold downs; rw [List.length_reverse, List.length_range]; omega)]
    rfl
theorem downs_len (k : Nat) : (downs k).length = k := by
  unfold downs
  rw [List.length_reverse, List.length_range]
theorem half_num {n c : Nat} {bs : List Bool} (hl : bs.length = 2 * n) (hc : numB bs = c) : numB (bs.take n) = c / 2 ^ n ∧ numB (bs.drop n) = c % 2 ^ n := by
  have e : numB bs = numB (bs.take n) * 2 ^ n + numB (bs.drop n) := by
    conv => lhs; rw [← List.take_append_drop n bs, numB_app, List.length_drop, hl, show 2 * n - n = n by omega]
  have b := numB_lt (bs.drop n)
  rw [List.length_drop, hl, show 2 * n - n = n by omega] at b
  have p : 0 < 2 ^ n := Nat.pow_pos (by decide)
  rw [hc] at e
  rw [e, Nat.mul_comm, Nat.mul_add_div p, Nat.mul_add_mod, Nat.div_eq_of_lt b, Nat.mod_eq_of_lt b]
  exact ⟨by omega, rfl⟩
def allL : Nat → List (List Bool)
  | 0 => [[]]
  | n + 1 => (allL n).map (false :: ·) ++ (allL n).map (true :: ·)
theorem allL_in : ∀ (n : Nat) (bs : List Bool), bs.length = n → bs ∈ allL n
  | 0, [], _ => by simp [allL]
  | n + 1, b :: bs, h => by
    have ih := allL_in n bs (Nat.succ.inj h)
    unfold allL
    cases b
    · exact List.mem_append.mpr (.inl (List.mem_map.mpr ⟨bs, ih, rfl⟩))
    · exact List.mem_append.mpr (.inr (List.mem_map.mpr ⟨bs, ih, rfl⟩))
def near1 (n : Nat) (os ts : List Bool) : Bool := decide ((n : Int) - ((Builtin.Int.intBits (((numB os : Int) - (numB ts : Int)).natAbs : Int) : Nat) : Int) - (fst1 (markB os ts) : Int) = 0 ∨ (n : Int) - ((Builtin.Int.intBits (((numB os : Int) - (numB ts : Int)).natAbs : Int) : Nat) : Int) - (fst1 (markB os ts) : Int) = 1)
theorem near_all : ([1, 2, 3, 4, 5].all fun n => (allL n).all fun os => (allL n).all fun ts => near1 n os ts) = true := by decide +kernel
theorem near_one {n : Nat} {os ts : List Bool} (h1 : 1 ≤ n) (h5 : n ≤ 5) (ho : os.length = n) (ht : ts.length = n) : near1 n os ts = true := by
  have a := List.all_eq_true.mp near_all n (by simp only [List.mem_cons, List.not_mem_nil, or_false]; omega)
  exact List.all_eq_true.mp (List.all_eq_true.mp a os (allL_in n os ho)) ts (allL_in n ts ht)
def spAllR : Sp := fun vs H Q _ => ∃ n : Nat, vs = [.int (n : Int)] ∧ 1 ≤ n ∧ n ≤ 5 ∧ ∀ H', Same H H' → Q (.bl true) H'
theorem shp_names : PySem.SeqAt.shaped (.list [.str "guess", .str "zeros"]) = true := by decide +kernel
theorem shaped_tupI (ns : List Int) : PySem.SeqAt.shaped (.tuple (ns.map PyData.int)) = true := by
  have := PySem.W.shaped_ints ns
  unfold PySem.SeqAt.shaped at *
  simpa [PyData.canLay0, PyData.depth] using this
theorem ok__law_all_right (B : Bl mg) (L : LL K mg C a1 a2 a3 a4 a5 a6 a7 a8 a9 a10 a11 a12 a13 a14 a15 a16 a17 a18 a19 a20 a21 a22 a23 a24 a25 a26 a27 a28 a29 a30 a31 a32 a33 a34 a35 a36 a37 a38 l1 l2 l3 l4 l5 l6 l7 l8 l9 l10 l11 l12 l13 l14 l15 l16 l17 l18 l19 l20 l21 l22 l23 l24 l25 l26 l27 l28 l29 l30 l31 l32 l33 l34 l35 l36 l37 l38) : FnOk P w K mg base CX0 9 a22 l22 ["_law_size"] spAllR := by
  have G_wired_guess : FnOk P w K mg base CX0 8 a12 l12 ["many"] (spWg C) := (ok_wired_guess B L).mono (by decide)
  have G_Net_inputs : FnOk P w K mg base CX0 8 a36 l36 ["self"] (spInputs C) := (ok_Net_inputs B L).mono (by decide)
  have G_Net_names : FnOk P w K mg base CX0 8 a35 l35 ["self"] (spNames C) := (ok_Net_names B L).mono (by decide)
  have G_Net_given : FnOk P w K mg base CX0 8 a34 l34 ["self", "name"] (spGiven C) := (ok_Net_given B L).mono (by decide)
  have G_all_cases : FnOk P w K mg base CX0 8 a15 l15 ["many"] spAllC := (ok_all_cases B L).mono (by decide)
  have G_ran : FnOk P w K mg base CX0 8 a13 l13 ["net", "values", "many"] (spRan C) := (ok_ran B L).mono (by decide)
  have G__law_due : FnOk P w K mg base CX0 8 a21 l21 ["_law_one", "_law_other", "_law_size"] spDue := (ok__law_due B L).mono (by decide)
  refine L.F__law_all_right.ok sc__law_all_right (fun vs H Q E h => ?_) (fun cdv A outer s H vs Q E hr h => ?_)
  · obtain ⟨n, rfl, _⟩ := h
    rfl
  obtain ⟨n, rfl, h1, h5, q⟩ := h
  refine ⟨_, (pss_cons (ps_set (i := 1) sc__law_all_right.nd rfl (.inr rfl) (pe_call G_wired_guess hr (by rfl) L.m_wired_guess L.F_wired_guess.kp L.b_wired_guess .nil pass0 (pa_cons (pv 0) pa_nil)))
    (pss_cons (ps_if (PW.pt (pw_or (pt_cmpR op_ne (pe_meth0 (pv 1) L.T.cl L.M_Net_inputs G_Net_inputs hr L.b_Net_inputs .nil pass0) (pe_op op_mul pe_int (pv 0)) (nomark _)) (pw_or1 (pt_cmpR (op_neD hr.units) (pe_meth0 (pv 1) L.T.cl L.M_Net_names G_Net_names hr L.b_Net_names .nil pass0) (pe_lst (pa_cons pe_str (pa_cons pe_str pa_nil))) (nomark _))))) (pss_one (ps_ret pe_bl)) pss_nil)
    (pss_cons (ps_if (pt_cmpR (op_neD hr.units) (pe_lc (own := [("_law_name", 5)]) (by rfl) sc__law_all_right.nd (pi_list (pe_meth0 (pv 1) L.T.cl L.M_Net_names G_Net_names hr L.b_Net_names .nil pass0)) (blkOk_by (own := [("_law_name", 5)]) (N := ["_law_size", "_law_net", "_law_told", "_law_case", "_law_found", "_law_name", "_law_own", "_law_one"]) (sc := defScope s__law_all_right) (by decide +kernel)) (fun _ _ _ _ _ => pg_name (i := 5) sc__law_all_right.nd rfl (Or.inl rfl)) (fun _ _ _ _ _ => pts_nil) (fun _ _ _ _ _ => (pe_callB (call_len_seqK (K := K)) (by rfl) B.len PySem.boot_len (pa_cons (pe_meth (pv 1) L.T.cl L.M_Net_given G_Net_given hr L.b_Net_given .nil pass0 (pa_cons (pv 5) pa_nil)) pa_nil)))) (pe_op op_rep (pe_lst (pa_cons (pe_bits (pv 0)) pa_nil)) pe_int) (nomark _)) (pss_one (ps_ret pe_bl)) pss_nil)
    (pss_cons (ps_set (i := 2) sc__law_all_right.nd rfl (.inl rfl) (pe_callTy (call_dictP rfl) (by rfl) L.z_dict PyProof.Rows.boot_dict (pa_cons (pe_callN G_ran hr (by rfl) L.m_ran L.F_ran.kp (L.kb_ran_many).choose_spec pass0 (pa_cons (pv 1) (pa_cons (pe_call G_all_cases hr (by rfl) L.m_all_cases L.F_all_cases.kp L.b_all_cases .nil pass0 (pa_cons (pe_op op_mul pe_int (pv 0)) pa_nil)) pa_nil)) (pk_cons (pe_op op_oneShl pe_int (pe_op op_mul pe_int (pv 0))) pk_nil)) pa_nil)))
    (pss_cons (ps_for PassesOwn.never rfl (pi_range1 (by rfl) B.range (pa_cons (pe_op op_oneShl pe_int (pe_op op_mul pe_int (pv 0))) pa_nil)) (pg_name (i := 3) sc__law_all_right.nd rfl (.inl rfl)) (pss_cons (ps_set (i := 4) sc__law_all_right.nd rfl (.inl rfl) (pe_lst pa_nil))
    (pss_cons (ps_for PassesOwn.never rfl (pi_tup (pe_tup (pa_cons pe_str (pa_cons pe_str pa_nil)))) (pg_name (i := 5) sc__law_all_right.nd rfl (.inl rfl)) (pss_cons (ps_set (i := 6) sc__law_all_right.nd rfl (.inl rfl) pe_int)
    (pss_cons (ps_for PassesOwn.never rfl (pi_list (pe_dget (units1 hr) (pv 2) (pv 5) (fun _ _ => rfl))) (pg_name (i := 7) sc__law_all_right.nd rfl (.inl rfl)) (pss_one (ps_set (i := 6) sc__law_all_right.nd rfl (.inl rfl) (pe_op op_add (pe_op op_mul pe_int (pv 6)) (pe_op op_andM (pe_op op_shrN (pv 7) (pv 3)) pe_int)))))
    (pss_one (ps_expr (pe_bm PySem.F.plainAttrs_list PySem.F.slot_list_append PySem.F.type_list_append mt_append (pv 4) (pa_cons (pv 6) pa_nil)))))))
    (pss_cons (ps_if (pt_cmpR (op_neD hr.units) (pe_callTy call_tuple_of (by rfl) B.tuple PyProof.Rows.boot_tuple (pa_cons (pv 4) pa_nil)) (pe_call G__law_due hr (by rfl) L.m__law_due L.F__law_due.kp L.b__law_due .nil pass0 (pa_cons (pe_op op_shrN (pv 3) (pv 0)) (pa_cons (pe_op op_andM (pv 3) (pe_op op_sub (pe_op op_oneShl pe_int (pv 0)) pe_int)) (pa_cons (pv 0) pa_nil)))) (nomark _)) (pss_one (ps_ret pe_bl)) pss_nil)
    (pss_one (ps_if (pt_cmpR op_notIn_seq (pe_op op_sub (pe_ix ix_list (pv 4) pe_int (fun _ _ => rfl)) (pe_ix ix_list (pv 4) pe_int (fun _ _ => rfl))) (pe_tup (pa_cons pe_int (pa_cons pe_int pa_nil))) (by rfl)) (pss_one (ps_ret pe_bl)) pss_nil))))))
    (pss_one (ps_ret pe_bl))))))), ?_⟩
  obtain ⟨k, hk⟩ : ∃ k, k = Builtin.Int.intBits (n : Int) := ⟨_, rfl⟩
  obtain ⟨kk1, kk2⟩ := intk (show n ≤ 12 by omega)
  rw [← hk] at kk1 kk2
  have G := gw_ok h1 (by omega) kk1 kk2
  refine ⟨_, rfl, n, k, [], rfl, h1, by omega, hk, (fun _ z => nomatch z), fun p H1 s1 N1 => ?_⟩
  dsimp only [gName]
  try simp only [L2.start, List.map_cons, List.map_nil, List.length_cons, List.length_nil, List.replicate_succ, List.replicate_zero, List.cons_append, List.nil_append, List.set_cons_succ, List.set_cons_zero, Nat.reduceAdd, Nat.reduceSub, Nat.zero_add]
  obtain ⟨_, _, _, dx1, _, _, f1, _⟩ := id N1
  refine ⟨_, rfl, p.x, dx1, _, rfl, f1, rfl, [], p, 2 * n, _, _, rfl, N1, _, rfl, _, _, rfl, rfl, .inl ⟨by decide, by decide⟩, rfl, _, rfl, ?_⟩
  refine ite2 (fun z => absurd z (by
    show ¬ (!decide (V.int ((2 * n : Nat) : Int) = V.int (2 * (n : Int)))) = true
    rw [decide_eq_true (congrArg V.int (show ((2 * n : Nat) : Int) = 2 * (n : Int) by omega))]
    decide)) (fun _ => ?_)
  refine ⟨_, rfl, p.x, dx1, _, rfl, f1, rfl, [], p, 2 * n, _, _, rfl, N1, (by show 2 < 64; decide), fun ys t H2 hp hs s2 nt et => ?_⟩
  have eys := names2 hp hs
  subst eys
  refine ⟨(by show 2 ≤ sizeLine; decide), fun L nL => ?_⟩
  have sL := same_upd (o := .lst [.str "guess", .str "zeros"]) nL
  have eL : (upd H2 L (.lst [.str "guess", .str "zeros"])) L = some (.lst [.str "guess", .str "zeros"]) := upd_same
  have et3 := sL _ _ et
  have s3 := (s1.trans s2).trans sL
  have N3 := (N1.same s2).same sL
  generalize upd H2 L (.lst [.str "guess", .str "zeros"]) = H3 at *
  refine ⟨.list [.str "guess", .str "zeros"], .list [.str "guess", .str "zeros"], .lst (SqL.of et3) (.cons (.str _) (.cons (.str _) .nil)), .lst (SqL.of eL) (.cons (.str _) (.cons (.str _) .nil)), shp_names, shp_names, ?_⟩
  rw [PySem.SeqAt.eqv_refl _ (PySem.SeqAt.canLay_of_shaped shp_names)]
  refine ⟨_, rfl, iteF ?_⟩
  dsimp only [tNext]
  obtain ⟨_, _, _, dx3, _, _, f3, _⟩ := id N3
  refine ⟨_, rfl, p.x, dx3, _, rfl, f3, rfl, [], p, 2 * n, _, _, rfl, N3, (by show 2 < 64; decide), fun ys t2 H4 hp hs s4 nt2 et2 => ?_⟩
  have eys := names2 hp hs
  subst eys
  have N4 := N3.same s4
  have s04 := s3.trans s4
  refine ⟨t2, rfl, ⟨_, SqL.of et2⟩, fun D nD => ?_⟩
  refine lc_it (walk_list (K := K) (a := t2) (xs := [.str "guess", .str "zeros"])) (fun j H9 => Same H4 H9 ∧ H9 D = some (.lst (List.replicate j (.int (k : Int))))) ⟨same_upd nD, upd_same⟩ (fun j H9 _ ⟨s9, _⟩ => SqL.of (s9 _ _ et2)) ?_ ?_
  · rintro j v H10 H9 hj ⟨s9, eD⟩ ⟨rfl, hz⟩
    have N9 := N4.same s9
    have hv : ∃ (nm : Str) (ws : List Nat), v = .str nm ∧ (gwN n k)[j]? = some (nm, ws) ∧ ws.length = k := by
      have hj' : j < 2 := hj
      have h01 : j = 0 ∨ j = 1 := by omega
      rcases h01 with z | z <;> subst z
      · exact ⟨"guess", _, (Option.some.inj hz).symm, rfl, G.l5⟩
      · exact ⟨"zeros", _, (Option.some.inj hz).symm, rfl, G.l7⟩
    obtain ⟨nm, ws, rfl, hnm, lws⟩ := hv
    obtain ⟨_, _, _, dx9, _, _, f9, _⟩ := id N9
    refine ⟨rfl, yesT ?_⟩
    try simp only [L2.start, List.map_cons, List.map_nil, List.length_cons, List.length_nil, List.replicate_succ, List.replicate_zero, List.cons_append, List.nil_append, List.set_cons_succ, List.set_cons_zero, Nat.reduceAdd, Nat.reduceSub, Nat.zero_add]
    refine ⟨_, rfl, p.x, dx9, _, rfl, f9, rfl, _, rfl, [], p, 2 * n, _, _, j, nm, ws, rfl, N9, hnm, fun l nl => ?_⟩
    have sl := same_upd (o := .lst (nts ws)) nl
    refine ⟨l, _, rfl, .inl (SqL.of upd_same), ?_⟩
    rw [nts_len, lws]
    have eD' := sl _ _ eD
    refine ⟨_, eD', by rw [List.length_replicate]; exact big_lt (by have : j < 2 := hj; omega), fun y o e => ?_, ?_⟩
    · rw [upd_ne (ne_of_none e nD)]
      exact sl _ _ (s9 _ _ e)
    · rw [upd_same]
      show some (HO.lst (List.replicate j _ ++ [_])) = some (HO.lst (List.replicate (j + 1) _))
      rw [List.replicate_succ']
  rintro H5 ⟨s5, eD⟩
  have s05 := s04.trans s5
  have N5 := N4.same s5
  refine ⟨_, rfl, _, rfl, (by show 1 ≤ sizeLine; decide), fun L1 nL1 => ?_⟩
  rw [← hk]
  have sL1 := same_upd (o := .lst [.int (k : Int)]) nL1
  have eL1 : (upd H5 L1 (.lst [.int (k : Int)])) L1 = some (.lst [.int (k : Int)]) := upd_same
  have eD1 := sL1 _ _ eD
  have N6 := N5.same sL1
  have s06 := s05.trans sL1
  generalize upd H5 L1 (.lst [.int (k : Int)]) = H6 at *
  refine ⟨L1, _, _, rfl, rfl, eL1, by decide, by decide, (by show 1 * 2 ≤ sizeLine; decide), fun L2 nL2 => ?_⟩
  rw [show (List.replicate (2 : Int).toNat [V.int (k : Int)]).flatten = [.int (k : Int), .int (k : Int)] from rfl]
  have sL2 := same_upd (o := .lst [.int (k : Int), .int (k : Int)]) nL2
  have eL2 : (upd H6 L2 (.lst [.int (k : Int), .int (k : Int)])) L2 = some (.lst [.int (k : Int), .int (k : Int)]) := upd_same
  have eD2 : (upd H6 L2 (.lst [.int (k : Int), .int (k : Int)])) D = some (.lst [.int (k : Int), .int (k : Int)]) := sL2 _ _ eD1
  have N7 := N6.same sL2
  have s07 := s06.trans sL2
  generalize upd H6 L2 (.lst [.int (k : Int), .int (k : Int)]) = H7 at *
  refine ⟨.list ([(k : Int), (k : Int)].map PyData.int), .list ([(k : Int), (k : Int)].map PyData.int), .lst (SqL.of eD2) (dp_ints [(k : Int), (k : Int)]), .lst (SqL.of eL2) (dp_ints [(k : Int), (k : Int)]), PySem.W.shaped_ints _, PySem.W.shaped_ints _, ?_⟩
  rw [PySem.SeqAt.eqv_refl _ (PySem.SeqAt.canLay_of_shaped (PySem.W.shaped_ints _))]
  refine ⟨_, rfl, iteF ?_⟩
  dsimp only [tNext]
  have pw : 2 ^ (2 * n) ≤ 2 ^ 10 := Nat.pow_le_pow_right (by decide) (by omega)
  have pwc : ((2 ^ (2 * n) : Nat) : Int) = 2 ^ (2 * n) := PySem.W.kbt_cast _
  have pI : (0 : Int) < 2 ^ (2 * n) ∧ (2 : Int) ^ (2 * n) ≤ 2 ^ 10 := ⟨GM.pow_pos' _, GM.pow_le' (by omega)⟩
  refine ⟨_, rfl, _, rfl, _, _, rfl, rfl, .inl ⟨by decide, by decide⟩, 2 * n, by show [V.int (2 * (n : Int))] = _; rw [show (2 : Int) * (n : Int) = ((2 * n : Nat) : Int) by omega], by omega, fun U H8 nU s8 eU => ?_⟩
  have N8 := N7.same s8
  have s08 := s07.trans s8
  refine ⟨_, rfl, _, _, rfl, rfl, .inl ⟨by decide, by decide⟩, 2 * n, rfl, (by show V.int (2 * (n : Int)) = _; exact congrArg V.int (by omega)), by omega, ?_⟩
  have hnd : (((gwN n k)).map (·.1)).Nodup := by
    show (["guess", "zeros"] : List Str).Nodup
    decide
  have hmem : ∀ x ∈ gwN n k, x.2.length ≤ 900 ∧ ∀ a ∈ x.2, a < 2 * n + (gw7 n k).1.length := fun x hx => by
    unfold gwN at hx
    simp only [List.mem_cons, List.not_mem_nil, or_false] at hx
    rcases hx with z | z <;> subst z
    · exact ⟨by show (gw5 n k).2.length ≤ 900; rw [G.l5]; omega, G.lt5⟩
    · exact ⟨by show (gw7 n k).2.length ≤ 900; rw [G.l7]; omega, G.lt7⟩
  have lac : (acs (2 * n)).length = 2 * n := by
    unfold acs
    rw [List.length_map, List.length_range]
  refine ⟨rfl, rfl, [], p, 2 * n, (gw7 n k).1, gwN n k, U, acs (2 * n), 2 ^ (2 * n), (by show [V.ref p.x, V.ref U, V.int (2 ^ (2 * n))] = _; rw [← pwc]), N8, eU, lac, by omega, by have := G.len; omega, (by show 2 < 64; decide), G.ok, hmem, fun ys t3 H9 hp hs s9 hRun => ?_⟩
  obtain ⟨ps, kvs, r1, r2, r3, r4⟩ := run_dict hRun hp hnd
  refine ⟨t3, ps, kvs, rfl, r1, r2, fun TD nTD => ?_⟩
  rw [r3]
  have sTD := same_upd (o := .dK kvs) nTD
  have eTD : (upd H9 TD (.dK kvs)) TD = some (.dK kvs) := upd_same
  have s09 := (s08.trans s9).trans sTD
  have r5 : ∀ x ∈ gwN n k, ∃ l, valV kvs (.inr x.1) = some (.ref l) ∧ (upd H9 TD (.dK kvs)) l = some (.lst ((x.2.map fun a => (rv (2 ^ 2 ^ (2 * n) - 1) ((acs (2 * n)).map (· % 2 ^ 2 ^ (2 * n))) (gw7 n k).1).getD a 0).map V.int)) := fun x hx => by
    obtain ⟨l, a, c⟩ := r4 x hx
    exact ⟨l, a, sTD _ _ c⟩
  clear r4 sTD
  generalize upd H9 TD (.dK kvs) = HC at *
  dsimp only [gName]
  try simp only [L2.start, List.map_cons, List.map_nil, List.length_cons, List.length_nil, List.replicate_succ, List.replicate_zero, List.cons_append, List.nil_append, List.set_cons_succ, List.set_cons_zero, Nat.reduceAdd, Nat.reduceSub, Nat.zero_add]
  refine ⟨_, rfl, _, _, rfl, rfl, .inl ⟨by decide, by decide⟩, 2 * n, rfl, (by show V.int (2 * (n : Int)) = _; exact congrArg V.int (by omega)), by omega, 2 ^ (2 * n), rfl, by omega, by omega, ?_⟩
  rw [← pwc, Int.toNat_natCast]
  refine for_range (n := 2 ^ (2 * n)) (fun c σ H1 => ∃ (y3 y4 y5 y6 y7 : Option V), σ = [some (.int (n : Int)), some (.ref p.x), some (.ref TD), y3, y4, y5, y6, y7] ∧ Same HC H1) ⟨_, _, _, _, _, rfl, Same.refl _⟩ ?_ ?_
  · rintro c σ H1 hc' ⟨y3, y4, y5, y6, y7, rfl, sc⟩
    rw [show (0 : Int) + (c : Nat) = ((c : Nat) : Int) from by omega]
    dsimp only [gName]
    try simp only [L2.start, List.map_cons, List.map_nil, List.length_cons, List.length_nil, List.replicate_succ, List.replicate_zero, List.cons_append, List.nil_append, List.set_cons_succ, List.set_cons_zero, Nat.reduceAdd, Nat.reduceSub, Nat.zero_add]
    obtain ⟨vals, hvals⟩ : ∃ vals, vals = bitsOf (acs (2 * n)) c := ⟨_, rfl⟩
    have lv : vals.length = 2 * n := by rw [hvals, bitsOf_len, lac]
    have nv : numB vals = c := by
      rw [hvals, bits_acs hc', numB_downs, Nat.mod_eq_of_lt hc']
    obtain ⟨ho, ht⟩ := half_num lv nv
    have lo : (vals.take n).length = n := by rw [List.length_take]; omega
    have lt : (vals.drop n).length = n := by rw [List.length_drop]; omega
    obtain ⟨g1, g2⟩ := G.val vals lv
    refine ⟨Nat.zero_le _, fun F nF => ?_⟩
    have sF := same_upd (o := .lst []) nF
    have eF : (upd H1 F (.lst [])) F = some (.lst []) := upd_same
    have scF := sc.trans sF
    generalize upd H1 F (.lst []) = H2 at *
    dsimp only [gName]
    try simp only [L2.start, List.map_cons, List.map_nil, List.length_cons, List.length_nil, List.replicate_succ, List.replicate_zero, List.cons_append, List.nil_append, List.set_cons_succ, List.set_cons_zero, Nat.reduceAdd, Nat.reduceSub, Nat.zero_add]
    refine ⟨(by show 2 ≤ sizeLine; decide), fun TU nTU => ?_⟩
    have sTU := same_upd (o := .tup [.str "guess", .str "zeros"]) nTU
    have eTU : (upd H2 TU (.tup [.str "guess", .str "zeros"])) TU = some (.tup [.str "guess", .str "zeros"]) := upd_same
    have eF3 := sTU _ _ eF
    have scT := scF.trans sTU
    have nTF : TU ≠ F := fun z => by rw [z, eF] at nTU; cases nTU
    have nFH : HC F = none := ks_none (S := []) (.ofSame sc) nF
    generalize upd H2 TU (.tup [.str "guess", .str "zeros"]) = H3' at *
    obtain ⟨zz, hzz⟩ : ∃ zz : Int, zz = (n : Int) - ((Builtin.Int.intBits (((numB (vals.take n) : Int) - (numB (vals.drop n) : Int)).natAbs : Int) : Nat) : Int) := ⟨_, rfl⟩
    rw [← hzz] at g2
    obtain ⟨nums, hnums⟩ : ∃ nums : List Int, nums = [((fst1 (markB (vals.take n) (vals.drop n)) : Nat) : Int), zz] := ⟨_, rfl⟩
    refine ⟨TU, rfl, ⟨_, .inl (.inl eTU)⟩, ?_⟩
    refine for_it (walk_tup (K := K) (a := TU) (xs := [.str "guess", .str "zeros"])) (fun j σ H6 => ∃ (y5 y6 y7 : Option V), σ = [some (.int (n : Int)), some (.ref p.x), some (.ref TD), some (.int (c : Int)), some (.ref F), y5, y6, y7] ∧ KeepS [F] H3' H6 ∧ H6 F = some (.lst ((nums.take j).map V.int))) ⟨_, _, _, rfl, KeepS.refl _ _, eF3⟩ (fun j σ H6 _ ⟨_, _, _, _, k6, _⟩ => .inl (.inl (k6.1 _ _ eTU (by simpa using nTF)))) ?_ ?_
    · rintro j v σ H7' H6 hj ⟨y5, y6, y7, rfl, k6, eF6⟩ ⟨rfl, hz⟩
      have hj2 : j < 2 := hj
      have hv : ∃ (nm : Str) (ws : List Nat) (x : Int), v = .str nm ∧ (nm, ws) ∈ gwN n k ∧ nums[j]? = some x ∧ x = (numB (ws.map (wb vals (gw7 n k).1)) : Int) := by
        have h01 : j = 0 ∨ j = 1 := by omega
        rcases h01 with z | z <;> subst z
        · exact ⟨"guess", (gw5 n k).2, _, (Option.some.inj hz).symm, by simp [gwN], by rw [hnums]; rfl, by rw [g1]⟩
        · exact ⟨"zeros", (gw7 n k).2, _, (Option.some.inj hz).symm, by simp [gwN], by rw [hnums]; rfl, g2.symm⟩
      obtain ⟨nm, ws, x, rfl, hin, hx, ex⟩ := hv
      obtain ⟨l, vl, el⟩ := r5 (nm, ws) hin
      have nlF : l ≠ F := fun z => by rw [z, nFH] at el; cases el
      have nDF : TD ≠ F := fun z => by rw [z, nFH] at eTD; cases eTD
      have nin : ∀ {a : Addr}, a ≠ F → a ∉ [F] := fun h z => h (List.mem_singleton.mp z)
      have eTD6 := k6.1 _ _ (scT _ _ eTD) (nin nDF)
      have el6 := k6.1 _ _ (scT _ _ el) (nin nlF)
      obtain ⟨rsl, hrsl⟩ : ∃ rsl : List Int, rsl = ws.map fun a => (rv (2 ^ 2 ^ (2 * n) - 1) ((acs (2 * n)).map (· % 2 ^ 2 ^ (2 * n))) (gw7 n k).1).getD a 0 := ⟨_, rfl⟩
      have el7 : H6 l = some (.lst (rsl.map V.int)) := by rw [hrsl]; exact el6
      have hw : wf (rsl.map (tb · c)) = x := by
        rw [hrsl, num_caseG hc', ← hvals, ex]
      dsimp only [gName]
      try simp only [L2.start, List.map_cons, List.map_nil, List.length_cons, List.length_nil, List.replicate_succ, List.replicate_zero, List.cons_append, List.nil_append, List.set_cons_succ, List.set_cons_zero, Nat.reduceAdd, Nat.reduceSub, Nat.zero_add]
      have g3 := DGet.k (k := .inr nm) eTD6
      rw [vl] at g3
      refine ⟨_, rfl, _, rfl, TD, .ref l, rfl, g3, l, rfl, ⟨_, SqL.of el7⟩, ?_⟩
      refine for_it (walk_list (K := K) (a := l) (xs := rsl.map V.int)) (fun i σ H8' => ∃ (y7 : Option V), σ = [some (.int (n : Int)), some (.ref p.x), some (.ref TD), some (.int (c : Int)), some (.ref F), some (.str nm), some (.int (wf ((rsl.map (tb · c)).take i))), y7] ∧ H8' = H6) ⟨_, rfl, rfl⟩ (fun i σ H8' _ ⟨_, _, e⟩ => by rw [e]; exact SqL.of el7) ?_ ?_
      · rintro i v σ H8' H9' hi ⟨y7, rfl, rfl⟩ ⟨rfl, hz'⟩
        obtain ⟨d, hd, rfl⟩ := at_int46 hz'
        try simp only [L2.start, List.map_cons, List.map_nil, List.length_cons, List.length_nil, List.replicate_succ, List.replicate_zero, List.cons_append, List.nil_append, List.set_cons_succ, List.set_cons_zero, Nat.reduceAdd, Nat.reduceSub, Nat.zero_add]
        refine ⟨_, rfl, _, _, rfl, rfl, .inl ⟨by decide, by decide⟩, _, rfl, _, rfl, _, c, rfl, rfl, _, 1, rfl, rfl, _, _, rfl, rfl, ?_⟩
        refine ⟨some (.int d), ?_, rfl⟩
        rw [List.take_add_one, List.getElem?_map, hd]
        show _ = [some (V.int (n : Int)), some (V.ref p.x), some (V.ref TD), some (V.int (c : Int)), some (V.ref F), some (V.str nm), some (V.int (wf ((rsl.map (tb · c)).take i ++ [tb d c]))), _]
        rw [wf_snoc]
        rfl
      · rintro σ H8' ⟨y7, rfl, rfl⟩
        have etake : (rsl.map (tb · c)).take (rsl.map V.int).length = rsl.map (tb · c) := by
          rw [List.length_map]
          exact List.take_of_length_le (by rw [List.length_map]; exact Nat.le_refl _)
        rw [etake, hw]
        refine ⟨_, rfl, .inl ⟨rfl, _, SqL.of eF6⟩, _, rfl, F, _, _, rfl, rfl, eF6, by rw [List.length_map, List.length_take]; exact big_lt (by omega), ?_⟩
        refine ⟨_, _, _, rfl, k6.trans (KeepS.upd (by simp)), ?_⟩
        rw [upd_same, List.take_add_one, hx, List.map_append]
        rfl
    · rintro σ H6 ⟨y5, y6, y7, rfl, k6, eF6⟩
      have eF7 : H6 F = some (.lst [.int ((fst1 (markB (vals.take n) (vals.drop n)) : Nat) : Int), .int zz]) := by
        rw [eF6, hnums]
        rfl
      have sc6 : Same HC H6 := fun y o e => k6.1 _ _ (scT _ _ e) (fun z => by
        rw [List.mem_singleton.mp z, nFH] at e
        cases e)
      try simp only [L2.start, List.map_cons, List.map_nil, List.length_cons, List.length_nil, List.replicate_succ, List.replicate_zero, List.cons_append, List.nil_append, List.set_cons_succ, List.set_cons_zero, Nat.reduceAdd, Nat.reduceSub, Nat.zero_add]
      refine ⟨_, rfl, F, _, rfl, .inl ⟨SqL.of eF7, fun T1 nT1 => ?_⟩⟩
      have sT1 := same_upd (o := .tup [.int ((fst1 (markB (vals.take n) (vals.drop n)) : Nat) : Int), .int zz]) nT1
      have eT1 : (upd H6 T1 (.tup [.int ((fst1 (markB (vals.take n) (vals.drop n)) : Nat) : Int), .int zz])) T1 = some (.tup [.int ((fst1 (markB (vals.take n) (vals.drop n)) : Nat) : Int), .int zz]) := upd_same
      have eF8 := sT1 _ _ eF7
      have sc7 := sc6.trans sT1
      generalize upd H6 T1 (.tup [.int ((fst1 (markB (vals.take n) (vals.drop n)) : Nat) : Int), .int zz]) = HD at *
      have p2c : ((2 ^ n : Nat) : Int) = 2 ^ n := PySem.W.kbt_cast n
      have d1 : (c : Int) / 2 ^ n = (numB (vals.take n) : Int) := by
        rw [ho, ← p2c]
        exact (Int.natCast_ediv _ _).symm
      have d2 : (c : Int) % 2 ^ n = (numB (vals.drop n) : Int) := by
        rw [ht, ← p2c]
        exact (Int.natCast_emod _ _).symm
      refine ⟨_, rfl, _, rfl, _, n, rfl, rfl, _, rfl, _, rfl, n, rfl, rfl, by omega, _, _, rfl, rfl, _, n, rfl, rfl, _, rfl, vals.take n, vals.drop n, n, by rw [d1, d2]; rfl, lo, lt, by omega, fun HE T2 sE eT2 => ?_⟩
      rw [← hzz] at eT2
      have eT1' := sE _ _ eT1
      have eF9 := sE _ _ eF8
      refine ⟨.tuple ([((fst1 (markB (vals.take n) (vals.drop n)) : Nat) : Int), zz].map PyData.int), .tuple ([((fst1 (markB (vals.take n) (vals.drop n)) : Nat) : Int), zz].map PyData.int), .tup (.inl (.inl eT1')) (dp_ints [((fst1 (markB (vals.take n) (vals.drop n)) : Nat) : Int), zz]), .tup (.inl (.inl eT2)) (dp_ints [((fst1 (markB (vals.take n) (vals.drop n)) : Nat) : Int), zz]), shaped_tupI _, shaped_tupI _, ?_⟩
      rw [PySem.SeqAt.eqv_refl _ (PySem.SeqAt.canLay_of_shaped (shaped_tupI _))]
      refine ⟨_, rfl, iteF ?_⟩
      dsimp only [tNext]
      refine ⟨_, rfl, F, _, _, _, rfl, rfl, SqL.of eF9, rfl, _, rfl, F, _, _, _, rfl, rfl, SqL.of eF9, rfl, _, _, rfl, rfl, ?_⟩
      have hx := near_one h1 h5 lo lt
      unfold near1 at hx
      rw [← hzz] at hx
      have hx := of_decide_eq_true hx
      dsimp only
      refine ⟨(by show 2 ≤ sizeLine; decide), fun T3 nT3 => ?_⟩
      have sT3 := same_upd (o := .tup [.int 0, .int 1]) nT3
      have eT3 : (upd HE T3 (.tup [.int 0, .int 1])) T3 = some (.tup [.int 0, .int 1]) := upd_same
      have sc8 := (sc7.trans sE).trans sT3
      generalize upd HE T3 (.tup [.int 0, .int 1]) = HF at *
      have hi : (!inV (.int (zz - ((fst1 (markB (vals.take n) (vals.drop n)) : Nat) : Int))) [.int 0, .int 1]) = false := by
        rcases hx with z | z <;> rw [z] <;> rfl
      refine ⟨T3, _, rfl, .inr (.inl (.inl eT3)), rfl, rfl, ?_⟩
      rw [if_pos rfl, hi]
      refine ⟨_, rfl, iteF ?_⟩
      dsimp only [tNext]
      exact ⟨_, _, _, _, _, rfl, sc8⟩
  · rintro σ H1 ⟨y3, y4, y5, y6, y7, rfl, sc⟩
    exact q _ (s09.trans sc)
theorem shp_told (A B : Int) : PySem.SeqAt.shaped (.list [.tuple [.str "guess", .int A], .tuple [.str "zeros", .int B]]) = true := by
  unfold PySem.SeqAt.shaped
  simp [PyData.canLay0, PyData.canLayAll0, PyData.depth, PyData.depthAll]
  exact ⟨by decide +kernel, by decide +kernel⟩
theorem wf_one (vals : List Bool) (gs : List Gt) (ws : List Nat) : wf (ws.map fun a => (rv 1 (vals.map bi) gs).getD a 0) = (numB (ws.map (wb vals gs)) : Int) := by
  rw [rv_rb, ← wf_num, List.map_map]
  congr 1
  refine List.map_congr_left fun a _ => ?_
  show ((rb vals gs).map bi).getD a 0 = bi (wb vals gs a)
  unfold wb
  simp only [List.getD, List.getElem?_map]
  cases (rb vals gs)[a]? <;> rfl
def spLaw (K : PySem.W.Frag) : Sp := fun vs H Q _ => ∃ (a : Addr) (ns : List Int), vs = [.ref a] ∧ SqL K H a (ns.map V.int) ∧ ns.length ≤ 63 ∧ ∀ H', Q (.bl true) H'
theorem ok_law {f : Addr} {fd : FuncData} (F : Fun K "law" "law" s_law f fd) (B : Bl mg) (L : LL K mg C a1 a2 a3 a4 a5 a6 a7 a8 a9 a10 a11 a12 a13 a14 a15 a16 a17 a18 a19 a20 a21 a22 a23 a24 a25 a26 a27 a28 a29 a30 a31 a32 a33 a34 a35 a36 a37 a38 l1 l2 l3 l4 l5 l6 l7 l8 l9 l10 l11 l12 l13 l14 l15 l16 l17 l18 l19 l20 l21 l22 l23 l24 l25 l26 l27 l28 l29 l30 l31 l32 l33 l34 l35 l36 l37 l38) : FnOk P w K mg base CX0 10 f fd ["_law_script"] (spLaw K) := by
  have G__law_box : FnOk P w K mg base CX0 9 a18 l18 ["_law_script", "_law_k"] (spBox K) := ok_box L.F__law_box B
  have G__law_take : FnOk P w K mg base CX0 9 a19 l19 ["_law_box_here", "_law_size"] (spTake 1) := (ok_take L.F__law_take L.b__law_take L.m__law_take B 1).mono (by decide)
  have G__law_all_right : FnOk P w K mg base CX0 9 a22 l22 ["_law_size"] spAllR := (ok__law_all_right B L).mono (by decide)
  have G_wired_guess : FnOk P w K mg base CX0 9 a12 l12 ["many"] (spWg C) := (ok_wired_guess B L).mono (by decide)
  have G__law_pair : FnOk P w K mg base CX0 9 a23 l23 ["_law_box_here", "_law_size"] spPair := (ok__law_pair B L).mono (by decide)
  have G__law_due : FnOk P w K mg base CX0 9 a21 l21 ["_law_one", "_law_other", "_law_size"] spDue := (ok__law_due B L).mono (by decide)
  have G_one_case : FnOk P w K mg base CX0 9 a17 l17 ["net", "word"] (spOneC C) := (ok_one_case B L).mono (by decide)
  refine F.ok sc_law (fun vs H Q E h => ?_) (fun cdv A outer s H vs Q E hr h => ?_)
  · obtain ⟨a, ns, rfl, _⟩ := h
    rfl
  obtain ⟨a, ns, rfl, hS, h63, q⟩ := h
  refine ⟨_, (pss_cons (ps_for PassesOwn.never rfl (pi_range1 (by rfl) B.range (pa_cons (pe_callB (call_max2 rfl) (by rfl) B.max boot_max (pa_cons pe_int (pa_cons (pe_callB (call_min2 rfl) (by rfl) B.min boot_min (pa_cons (pe_callB call_len_seq (by rfl) B.len PySem.boot_len (pa_cons (pv 0) pa_nil)) (pa_cons pe_int pa_nil))) pa_nil))) pa_nil)) (pg_name (i := 1) sc_law.nd rfl (.inl rfl)) (pss_cons (ps_set (i := 2) sc_law.nd rfl (.inl rfl) (pe_call G__law_box hr (by rfl) L.m__law_box L.F__law_box.kp L.b__law_box .nil pass0 (pa_cons (pv 0) (pa_cons (pv 1) pa_nil))))
    (pss_cons (ps_if (pt_not (pt_val (pe_call G__law_all_right hr (by rfl) L.m__law_all_right L.F__law_all_right.kp L.b__law_all_right .nil pass0 (pa_cons (pe_ix ix_list (pe_lst (pa_cons pe_int (pa_cons pe_int (pa_cons pe_int (pa_cons pe_int (pa_cons pe_int (pa_cons pe_int (pa_cons pe_int pa_nil)))))))) (pe_call G__law_take hr (by rfl) L.m__law_take L.F__law_take.kp L.b__law_take .nil pass0 (pa_cons (pv 2) (pa_cons pe_int pa_nil))) (fun _ _ => rfl)) pa_nil)))) (pss_one (ps_ret pe_bl)) pss_nil)
    (pss_cons (ps_set (i := 3) sc_law.nd rfl (.inl rfl) (pe_op op_add pe_int (pe_call G__law_take hr (by rfl) L.m__law_take L.F__law_take.kp L.b__law_take .nil pass0 (pa_cons (pv 2) (pa_cons pe_int pa_nil)))))
    (pss_cons (ps_set (i := 4) sc_law.nd rfl (.inl rfl) (pe_call G_wired_guess hr (by rfl) L.m_wired_guess L.F_wired_guess.kp L.b_wired_guess .nil pass0 (pa_cons (pv 3) pa_nil)))
    (pss_one (ps_for PassesOwn.never rfl (pi_range1 (by rfl) B.range (pa_cons pe_int pa_nil)) (pg_name (i := 5) sc_law.nd rfl (.inl rfl)) (pss_cons (ps_asg (pe_call G__law_pair hr (by rfl) L.m__law_pair L.F__law_pair.kp L.b__law_pair .nil pass0 (pa_cons (pv 2) (pa_cons (pv 3) pa_nil))) (pg_tup (by rfl) (pgs_cons (pg_name (i := 6) sc_law.nd rfl (.inl rfl)) (pgs_cons (pg_name (i := 7) sc_law.nd rfl (.inl rfl)) pgs_nil))))
    (pss_cons (ps_asg (pe_call G__law_due hr (by rfl) L.m__law_due L.F__law_due.kp L.b__law_due .nil pass0 (pa_cons (pv 6) (pa_cons (pv 7) (pa_cons (pv 3) pa_nil)))) (pg_tup (by rfl) (pgs_cons (pg_name (i := 8) sc_law.nd rfl (.inl rfl)) (pgs_cons (pg_name (i := 9) sc_law.nd rfl (.inl rfl)) pgs_nil))))
    (pss_one (ps_if (pt_cmpR (op_neD hr.units) (pe_call G_one_case hr (by rfl) L.m_one_case L.F_one_case.kp L.b_one_case .nil pass0 (pa_cons (pv 4) (pa_cons (pe_op op_orL (pe_op op_shlN (pv 6) (pv 3)) (pv 7)) pa_nil))) (pe_lst (pa_cons (pe_tup (pa_cons pe_str (pa_cons (pv 8) pa_nil))) (pa_cons (pe_tup (pa_cons pe_str (pa_cons (pv 9) pa_nil))) pa_nil))) (nomark _)) (pss_one (ps_ret pe_bl)) pss_nil)))))))))))
    (pss_one (ps_ret pe_bl))), ?_⟩
  refine ⟨_, rfl, a, _, rfl, .inl hS, _, _, rfl, ?_⟩
  obtain ⟨n, en, hn⟩ : ∃ n : Nat, (if (if (3 : Int) < (((ns.map V.int).length : Nat) : Int) then (3 : Int) else (((ns.map V.int).length : Nat) : Int)) > 1 then (if (3 : Int) < (((ns.map V.int).length : Nat) : Int) then (3 : Int) else (((ns.map V.int).length : Nat) : Int)) else 1) = (n : Int) ∧ n ≤ 63 := by
    rw [List.length_map]
    split <;> split <;> first | exact ⟨3, rfl, by decide⟩ | exact ⟨ns.length, rfl, h63⟩ | exact ⟨1, rfl, by decide⟩
  refine ⟨_, _, rfl, ?_⟩
  rw [en]
  refine ⟨_, rfl, by omega, by omega, ?_⟩
  rw [Int.toNat_natCast]
  refine for_range (n := n) (fun i σ H5 => ∃ (y1 y2 y3 y4 y5 y6 y7 y8 y9 : Option V), σ = [some (.ref a), y1, y2, y3, y4, y5, y6, y7, y8, y9] ∧ Same H H5) ⟨_, _, _, _, _, _, _, _, _, rfl, Same.refl _⟩ ?_ ?_
  · rintro i σ H5 hi ⟨y1, y2, y3, y4, y5, y6, y7, y8, y9, rfl, s5⟩
    dsimp only [gName]
    try simp only [L2.start, List.map_cons, List.map_nil, List.length_cons, List.length_nil, List.replicate_succ, List.replicate_zero, List.cons_append, List.nil_append, List.set_cons_succ, List.set_cons_zero, Nat.reduceAdd, Nat.reduceSub, Nat.zero_add]
    refine ⟨_, rfl, _, rfl, a, ns, _, rfl, s5.seq hS, by omega, by omega, fun b H6 nb s6 B6 => ?_⟩
    dsimp only [gName]
    try simp only [L2.start, List.map_cons, List.map_nil, List.length_cons, List.length_nil, List.replicate_succ, List.replicate_zero, List.cons_append, List.nil_append, List.set_cons_succ, List.set_cons_zero, Nat.reduceAdd, Nat.reduceSub, Nat.zero_add]
    refine ⟨(by show 7 ≤ sizeLine; decide), fun L nL => ?_⟩
    have nLb : L ≠ b := (B6.ne nL).symm
    have sL := same_upd (o := .lst [.int 1, .int 2, .int 3, .int 3, .int 4, .int 4, .int 5]) nL
    have eL : (upd H6 L (.lst [.int 1, .int 2, .int 3, .int 3, .int 4, .int 4, .int 5])) L = some (.lst [.int 1, .int 2, .int 3, .int 3, .int 4, .int 4, .int 5]) := upd_same
    have B7 := B6.same sL
    have s7 := s6.trans sL
    generalize upd H6 L (.lst [.int 1, .int 2, .int 3, .int 3, .int 4, .int 4, .int 5]) = H7 at *
    refine ⟨_, rfl, b, _, _, rfl, B7, by decide, by decide, by decide, by decide, by decide, fun r1 H8 u1 v1 B8 k8 => ?_⟩
    replace B8 := bx1 B8
    have eL8 := k8 _ _ eL nLb
    obtain ⟨m, em, m1, m5⟩ : ∃ m : Nat, atI [V.int 1, .int 2, .int 3, .int 3, .int 4, .int 4, .int 5] r1 = some (.int (m : Int)) ∧ 1 ≤ m ∧ m ≤ 5 := by
      have h7 : r1 = 0 ∨ r1 = 1 ∨ r1 = 2 ∨ r1 = 3 ∨ r1 = 4 ∨ r1 = 5 ∨ r1 = 6 := by omega
      rcases h7 with z | z | z | z | z | z | z <;> subst z
      · exact ⟨1, rfl, by decide, by decide⟩
      · exact ⟨2, rfl, by decide, by decide⟩
      · exact ⟨3, rfl, by decide, by decide⟩
      · exact ⟨3, rfl, by decide, by decide⟩
      · exact ⟨4, rfl, by decide, by decide⟩
      · exact ⟨4, rfl, by decide, by decide⟩
      · exact ⟨5, rfl, by decide, by decide⟩
    refine ⟨L, _, _, _, rfl, rfl, SqL.of eL8, em, m, rfl, m1, m5, fun H9 s9 => ⟨_, rfl, iteF ?_⟩⟩
    dsimp only [tNext]
    have B9 := B8.same s9
    refine ⟨_, rfl, b, _, _, rfl, B9, by decide, by decide, by decide, by decide, by decide, fun r2 HA u2 v2 BA kA => ?_⟩
    replace BA := bx1 BA
    obtain ⟨z, ez, z6, z12⟩ : ∃ z : Nat, 6 + r2 = (z : Int) ∧ 6 ≤ z ∧ z ≤ 12 := ⟨(6 + r2).toNat, by omega, by omega, by omega⟩
    refine ⟨_, _, rfl, rfl, ?_⟩
    dsimp only
    rw [ez]
    dsimp only [gName]
    try simp only [L2.start, List.map_cons, List.map_nil, List.length_cons, List.length_nil, List.replicate_succ, List.replicate_zero, List.cons_append, List.nil_append, List.set_cons_succ, List.set_cons_zero, Nat.reduceAdd, Nat.reduceSub, Nat.zero_add]
    obtain ⟨k, hk⟩ : ∃ k, k = Builtin.Int.intBits (z : Int) := ⟨_, rfl⟩
    obtain ⟨kk1, kk2⟩ := intk z12
    rw [← hk] at kk1 kk2
    have G := gw_ok (show 1 ≤ z by omega) z12 kk1 kk2
    refine ⟨_, rfl, z, k, [b], rfl, by omega, z12, hk, (fun y hy => by rw [List.mem_singleton.mp hy]; exact BA.some), fun p HB sB NB => ?_⟩
    have BB := BA.same sB
    have sAll : Same H HB := fun y o e => by
      have e5 := s5 _ _ e
      have nyb := ne_of_none e5 nb
      exact sB _ _ (kA _ _ (s9 _ _ (k8 _ _ (s7 _ _ e5) nyb)) nyb)
    have nbH : ∀ {y : Addr} {o : HO}, H y = some o → y ≠ b := fun e => ne_of_none (s5 _ _ e) nb
    dsimp only [gName]
    try simp only [L2.start, List.map_cons, List.map_nil, List.length_cons, List.length_nil, List.replicate_succ, List.replicate_zero, List.cons_append, List.nil_append, List.set_cons_succ, List.set_cons_zero, Nat.reduceAdd, Nat.reduceSub, Nat.zero_add]
    refine ⟨40, rfl, by decide, by decide, ?_⟩
    refine for_range (n := 40) (fun j σ H1 => ∃ (y5 y6 y7 y8 y9 : Option V), σ = [some (.ref a), some (.int (0 + (i : Int))), some (.ref b), some (.int (z : Int)), some (.ref p.x), y5, y6, y7, y8, y9] ∧ BoxAt (20 + 40 * j) H1 b ∧ Keep b HB H1) ⟨_, _, _, _, _, rfl, BB.mono (by decide), Keep.refl _ _⟩ ?_ ?_
    · rintro j σ H1 hj ⟨y5, y6, y7, y8, y9, rfl, B1, k1⟩
      dsimp only [gName]
      try simp only [L2.start, List.map_cons, List.map_nil, List.length_cons, List.length_nil, List.replicate_succ, List.replicate_zero, List.cons_append, List.nil_append, List.set_cons_succ, List.set_cons_zero, Nat.reduceAdd, Nat.reduceSub, Nat.zero_add]
      have N1 := NB.keepB k1 B1.some (by simp)
      refine ⟨_, rfl, _, rfl, b, z, _, rfl, B1, by omega, by omega, z12, fun x y T H2 hx hy eT B2 k2 => ?_⟩
      refine ⟨T, _, rfl, .inl (.inl eT), rfl, _, _, rfl, _, _, rfl, rfl, ?_⟩
      try simp only [L2.start, List.map_cons, List.map_nil, List.length_cons, List.length_nil, List.replicate_succ, List.replicate_zero, List.cons_append, List.nil_append, List.set_cons_succ, List.set_cons_zero, Nat.reduceAdd, Nat.reduceSub, Nat.zero_add]
      obtain ⟨vals, hvals⟩ : ∃ vals, vals = (downs (2 * z)).map fun p => (x * 2 ^ z + y).testBit p := ⟨_, rfl⟩
      have lv : vals.length = 2 * z := by rw [hvals, List.length_map, downs_len]
      have pz : 0 < 2 ^ z := Nat.pow_pos (by decide)
      have hW : x * 2 ^ z + y < 2 ^ (2 * z) := by
        rw [show 2 * z = z + z by omega, Nat.pow_add]
        have : (x + 1) * 2 ^ z ≤ 2 ^ z * 2 ^ z := Nat.mul_le_mul_right _ hx
        rw [Nat.add_mul] at this
        omega
      have nvv : numB vals = x * 2 ^ z + y := by rw [hvals, numB_downs, Nat.mod_eq_of_lt hW]
      obtain ⟨no, nt⟩ := half_num lv nvv
      rw [Nat.mul_comm, Nat.mul_add_div pz, Nat.div_eq_of_lt hy, Nat.add_zero] at no
      rw [Nat.mul_comm, Nat.mul_add_mod, Nat.mod_eq_of_lt hy] at nt
      obtain ⟨g1, g2⟩ := G.val vals lv
      obtain ⟨os, hos⟩ : ∃ os, os = vals.take z := ⟨_, rfl⟩
      obtain ⟨ts, hts⟩ : ∃ ts, ts = vals.drop z := ⟨_, rfl⟩
      rw [← hos] at no g1 g2
      rw [← hts] at nt g1 g2
      have lo : os.length = z := by rw [hos, List.length_take]; omega
      have lt : ts.length = z := by rw [hts, List.length_drop]; omega
      refine ⟨_, rfl, _, rfl, _, rfl, os, ts, z, by rw [no, nt]; rfl, lo, lt, by omega, fun H3 T2 s3 eT2 => ?_⟩
      refine ⟨T2, _, rfl, .inl (.inl eT2), rfl, _, _, rfl, _, _, rfl, rfl, ?_⟩
      try simp only [L2.start, List.map_cons, List.map_nil, List.length_cons, List.length_nil, List.replicate_succ, List.replicate_zero, List.cons_append, List.nil_append, List.set_cons_succ, List.set_cons_zero, Nat.reduceAdd, Nat.reduceSub, Nat.zero_add]
      obtain ⟨zz, hzz⟩ : ∃ zz : Int, zz = (z : Int) - ((Builtin.Int.intBits (((numB os : Int) - (numB ts : Int)).natAbs : Int) : Nat) : Int) := ⟨_, rfl⟩
      rw [← hzz] at g2 eT2
      rw [← hzz]
      obtain ⟨ff, hff⟩ : ∃ ff : Nat, ff = fst1 (markB os ts) := ⟨_, rfl⟩
      rw [← hff] at g1 eT2
      rw [← hff]
      have hmem : ∀ x ∈ gwN z k, x.2.length ≤ 900 ∧ ∀ a ∈ x.2, a < 2 * z + (gw7 z k).1.length := fun x hx => by
        unfold gwN at hx
        simp only [List.mem_cons, List.not_mem_nil, or_false] at hx
        rcases hx with z | z <;> subst z
        · exact ⟨by show (gw5 _ k).2.length ≤ 900; rw [G.l5]; omega, G.lt5⟩
        · exact ⟨by show (gw7 _ k).2.length ≤ 900; rw [G.l7]; omega, G.lt7⟩
      have B3 := B2.same s3
      have N3 := (N1.keepB k2 B2.some (by simp)).same s3
      have k13 := (k1.trans k2).trans (Keep.ofSame s3)
      have px : (2 : Int) ^ z ≤ 2 ^ 12 := GM.pow_le' z12
      have pzc : ((2 ^ z : Nat) : Int) = 2 ^ z := PySem.W.kbt_cast z
      refine ⟨_, rfl, _, rfl, _, rfl, x, z, rfl, rfl, ⟨by omega, by have := GM.bits_pow (x := x) (e := 12) (by omega); omega⟩, _, rfl, x, y, z, rfl, rfl, ⟨by omega, by omega, by omega⟩, [b], p, 2 * z, (gw7 z k).1, gwN z k, (x : Int) * 2 ^ z + y, rfl, N3, by have := G.len; omega, (by show 2 < 64; decide), G.ok, hmem, fun ys t H4 hp hs s4 hOne => ?_⟩
      have eys := names2 hp hs
      subst eys
      have ev1 : vals1 ((x : Int) * 2 ^ z + y) (2 * z) = vals.map bi := by
        rw [show ((x : Int) * 2 ^ z + (y : Int)) = ((x * 2 ^ z + y : Nat) : Int) by rw [← pzc]; exact (by rw [Int.natCast_add, Int.natCast_mul]), hvals]
        unfold vals1 downs
        refine List.ext_getElem? fun i => ?_
        rw [List.map_map, List.getElem?_map, List.getElem?_map]
        by_cases hi : i < 2 * z
        · rw [List.getElem?_range hi, show ((List.range (2 * z)).reverse)[i]? = some (2 * z - 1 - i) from downs_at hi]
          show some (tb ((x * 2 ^ z + y : Nat) : Int) (2 * z - 1 - i)) = some (bi ((x * 2 ^ z + y).testBit (2 * z - 1 - i)))
          congr 1
          rw [Nat.testBit_eq_decide_div_mod_eq]
          unfold tb bi
          have c : ((2 ^ (2 * z - 1 - i) : Nat) : Int) = 2 ^ (2 * z - 1 - i) := PySem.W.kbt_cast _
          rw [← c]
          by_cases h1 : (x * 2 ^ z + y) / 2 ^ (2 * z - 1 - i) % 2 = 1
          · rw [decide_eq_true h1, if_pos rfl]
            omega
          · rw [decide_eq_false h1, if_neg (by decide)]
            omega
        · rw [List.getElem?_eq_none (by rw [List.length_range]; omega), List.getElem?_eq_none (by rw [List.length_reverse, List.length_range]; omega)]
          rfl
      rw [ev1] at hOne
      obtain ⟨us, lus, et, hus⟩ := hOne
      match us, lus with
      | [u0, u1], _ =>
      obtain ⟨w0, m0, e0⟩ := hus 0 u0 "guess" rfl rfl
      obtain ⟨w1, m1', e1⟩ := hus 1 u1 "zeros" rfl rfl
      have ew0 : w0 = (gw5 z k).2 := by
        unfold gwN at m0
        simp only [List.mem_cons, List.not_mem_nil, or_false, Prod.mk.injEq] at m0
        rcases m0 with h | h
        · exact h.2
        · exact absurd h.1 (by decide)
      have ew1 : w1 = (gw7 z k).2 := by
        unfold gwN at m1'
        simp only [List.mem_cons, List.not_mem_nil, or_false, Prod.mk.injEq] at m1'
        rcases m1' with h | h
        · exact absurd h.1 (by decide)
        · exact h.2
      rw [wf_one, ew0, g1] at e0
      rw [wf_one, ew1, g2] at e1
      refine ⟨_, rfl, (by show 2 ≤ sizeLine; decide), fun P0 nP0 => ?_⟩
      have sP0 := same_upd (o := .tup [.str "guess", .int (ff : Int)]) nP0
      have eP0 : (upd H4 P0 (.tup [.str "guess", .int (ff : Int)])) P0 = some (.tup [.str "guess", .int (ff : Int)]) := upd_same
      generalize upd H4 P0 (.tup [.str "guess", .int (ff : Int)]) = H5' at *
      refine ⟨_, rfl, (by show 2 ≤ sizeLine; decide), fun P1 nP1 => ?_⟩
      have sP1 := same_upd (o := .tup [.str "zeros", .int zz]) nP1
      have eP1 : (upd H5' P1 (.tup [.str "zeros", .int zz])) P1 = some (.tup [.str "zeros", .int zz]) := upd_same
      generalize upd H5' P1 (.tup [.str "zeros", .int zz]) = H6' at *
      refine ⟨(by show 2 ≤ sizeLine; decide), fun PL nPL => ?_⟩
      have sPL := same_upd (o := .lst [.ref P0, .ref P1]) nPL
      have ePL : (upd H6' PL (.lst [.ref P0, .ref P1])) PL = some (.lst [.ref P0, .ref P1]) := upd_same
      generalize upd H6' PL (.lst [.ref P0, .ref P1]) = H7'' at *
      have s47 := (sP0.trans sP1).trans sPL
      have s57 := sP1.trans sPL
      refine ⟨.list [.tuple [.str "guess", .int (ff : Int)], .tuple [.str "zeros", .int zz]], .list [.tuple [.str "guess", .int (ff : Int)], .tuple [.str "zeros", .int zz]], .lst (SqL.of (s47 _ _ et)) (.cons (.tup (.inl (.inl (s47 _ _ e0))) (.cons (.str _) (.cons (.int _) .nil))) (.cons (.tup (.inl (.inl (s47 _ _ e1))) (.cons (.str _) (.cons (.int _) .nil))) .nil)), .lst (SqL.of ePL) (.cons (.tup (.inl (.inl (s57 _ _ eP0))) (.cons (.str _) (.cons (.int _) .nil))) (.cons (.tup (.inl (.inl (sPL _ _ eP1))) (.cons (.str _) (.cons (.int _) .nil))) .nil)), shp_told _ _, shp_told _ _, ?_⟩
      rw [PySem.SeqAt.eqv_refl _ (PySem.SeqAt.canLay_of_shaped (shp_told _ _))]
      refine ⟨_, rfl, iteF ?_⟩
      dsimp only [tNext]
      exact ⟨_, _, _, _, _, rfl, ((B3.same s4).same s47).mono (by omega), (k13.trans (Keep.ofSame s4)).trans (Keep.ofSame s47)⟩
    · rintro σ H1 ⟨y5, y6, y7, y8, y9, rfl, B1, k1⟩
      exact ⟨_, _, _, _, _, _, _, _, _, rfl, fun y o e => k1 _ _ (sAll _ _ e) (nbH e)⟩
  · rintro σ H5 ⟨y1, y2, y3, y4, y5, y6, y7, y8, y9, rfl, s5⟩
    exact q _
end
theorem all_mk {l : PySem.W.OpenLaw} {w : World} {K : PySem.W.Frag} {h : Heap} {mg : Str → Option Value} {fa f1 f2 f3 f4 f5 f6 f7 f8 f9 f10 f11 f12 f13 f14 f15 f16 f17 f18 f19 f20 f21 f22 f23 f24 f25 f26 f27 f28 f29 f30 f31 f32 f33 f34 f35 f36 f37 f38 f39 C : Addr} (X : K.In h) (G : h.Ns mainGlobals mg) (hfa : mg "law" = some (.ref fa))
    {od1 an1 od2 an2 od3 an3 od4 an4 od5 an5 od6 an6 od7 an7 od8 an8 od9 an9 od10 an10 od11 an11 od12 an12 od13 an13 od14 an14 od15 an15 od16 an16 od17 an17 od18 an18 od19 an19 od20 an20 od21 an21 od22 an22 od23 an23 od24 an24 od25 an25 od26 an26 od27 an27 od28 an28 od29 an29 od30 an30 od31 an31 od32 an32 od33 an33 od34 an34 od35 an35 od36 an36 od37 an37 od38 an38 od39 an39 : Option Addr} {sl1 sl2 sl3 sl4 sl5 sl6 sl7 sl8 sl9 sl10 sl11 sl12 sl13 sl14 sl15 sl16 sl17 sl18 sl19 sl20 sl21 sl22 sl23 sl24 sl25 sl26 sl27 sl28 sl29 sl30 sl31 sl32 sl33 sl34 sl35 sl36 sl37 sl38 sl39 : Array (Option Value)} {oc1 kV1 dc1 pm1 cd1 ct1 oc2 kV2 dc2 pm2 cd2 ct2 oc3 kV3 dc3 pm3 cd3 ct3 oc4 kV4 dc4 pm4 cd4 ct4 oc5 kV5 dc5 pm5 cd5 ct5 oc6 kV6 dc6 pm6 cd6 ct6 oc7 kV7 dc7 pm7 cd7 ct7 oc8 kV8 dc8 pm8 cd8 ct8 oc9 kV9 dc9 pm9 cd9 ct9 oc10 kV10 dc10 pm10 cd10 ct10 oc11 kV11 dc11 pm11 cd11 ct11 oc12 kV12 dc12 pm12 cd12 ct12 oc13 dc13 pm13 cd13 ct13 oc14 kV14 dc14 pm14 cd14 ct14 oc15 kV15 dc15 pm15 cd15 ct15 oc16 kV16 dc16 pm16 cd16 ct16 oc17 kV17 dc17 pm17 cd17 ct17 oc18 kV18 dc18 pm18 cd18 ct18 oc19 kV19 dc19 pm19 cd19 ct19 oc20 kV20 dc20 pm20 cd20 ct20 oc21 kV21 dc21 pm21 cd21 ct21 oc22 kV22 dc22 pm22 cd22 ct22 oc23 kV23 dc23 pm23 cd23 ct23 oc24 kV24 dc24 pm24 cd24 ct24 oc25 kV25 dc25 pm25 cd25 ct25 oc26 kV26 dc26 pm26 cd26 ct26 oc27 kV27 dc27 pm27 cd27 ct27 oc28 kV28 dc28 pm28 cd28 ct28 oc29 kV29 dc29 pm29 cd29 ct29 oc30 kV30 dc30 pm30 cd30 ct30 oc31 kV31 dc31 pm31 cd31 ct31 oc32 kV32 dc32 pm32 cd32 ct32 oc33 kV33 dc33 pm33 cd33 ct33 oc34 kV34 dc34 pm34 cd34 ct34 oc35 kV35 dc35 pm35 cd35 ct35 oc36 kV36 dc36 pm36 cd36 ct36 oc37 kV37 dc37 pm37 cd37 ct37 oc38 kV38 dc38 pm38 cd38 ct38 oc39 kV39 dc39 pm39 cd39 ct39 : Value}
    {Dk13 : Addr} {tk13_0 : Tok}
    (a1 : PySem.W.nsIn K mainGlobals "sum_wires" = some (some (.ref f1))) (l1 : K.lookup f1 = some ⟨oc1, od1, .func (PySem.W.fnOf "sum_wires" "sum_wires" (defArgs s_sum_wires) (defBody s_sum_wires) (defScope s_sum_wires) .none kV1 dc1 pm1 an1 cd1 ct1), sl1⟩) (c1 : PySem.W.codeIn K cd1 "sum_wires" = true) (k1 : PySem.W.keepIn K (.ref f1) = true)
    (a2 : PySem.W.nsIn K mainGlobals "any_wire" = some (some (.ref f2))) (l2 : K.lookup f2 = some ⟨oc2, od2, .func (PySem.W.fnOf "any_wire" "any_wire" (defArgs s_any_wire) (defBody s_any_wire) (defScope s_any_wire) .none kV2 dc2 pm2 an2 cd2 ct2), sl2⟩) (c2 : PySem.W.codeIn K cd2 "any_wire" = true) (k2 : PySem.W.keepIn K (.ref f2) = true)
    (a3 : PySem.W.nsIn K mainGlobals "zero_wires" = some (some (.ref f3))) (l3 : K.lookup f3 = some ⟨oc3, od3, .func (PySem.W.fnOf "zero_wires" "zero_wires" (defArgs s_zero_wires) (defBody s_zero_wires) (defScope s_zero_wires) .none kV3 dc3 pm3 an3 cd3 ct3), sl3⟩) (c3 : PySem.W.codeIn K cd3 "zero_wires" = true) (k3 : PySem.W.keepIn K (.ref f3) = true)
    (a4 : PySem.W.nsIn K mainGlobals "first_wires" = some (some (.ref f4))) (l4 : K.lookup f4 = some ⟨oc4, od4, .func (PySem.W.fnOf "first_wires" "first_wires" (defArgs s_first_wires) (defBody s_first_wires) (defScope s_first_wires) .none kV4 dc4 pm4 an4 cd4 ct4), sl4⟩) (c4 : PySem.W.codeIn K cd4 "first_wires" = true) (k4 : PySem.W.keepIn K (.ref f4) = true)
    (a5 : PySem.W.nsIn K mainGlobals "mark_wires" = some (some (.ref f5))) (l5 : K.lookup f5 = some ⟨oc5, od5, .func (PySem.W.fnOf "mark_wires" "mark_wires" (defArgs s_mark_wires) (defBody s_mark_wires) (defScope s_mark_wires) .none kV5 dc5 pm5 an5 cd5 ct5), sl5⟩) (c5 : PySem.W.codeIn K cd5 "mark_wires" = true) (k5 : PySem.W.keepIn K (.ref f5) = true)
    (a6 : PySem.W.nsIn K mainGlobals "chosen_wires" = some (some (.ref f6))) (l6 : K.lookup f6 = some ⟨oc6, od6, .func (PySem.W.fnOf "chosen_wires" "chosen_wires" (defArgs s_chosen_wires) (defBody s_chosen_wires) (defScope s_chosen_wires) .none kV6 dc6 pm6 an6 cd6 ct6), sl6⟩) (c6 : PySem.W.codeIn K cd6 "chosen_wires" = true) (k6 : PySem.W.keepIn K (.ref f6) = true)
    (a7 : PySem.W.nsIn K mainGlobals "is_less_wire" = some (some (.ref f7))) (l7 : K.lookup f7 = some ⟨oc7, od7, .func (PySem.W.fnOf "is_less_wire" "is_less_wire" (defArgs s_is_less_wire) (defBody s_is_less_wire) (defScope s_is_less_wire) .none kV7 dc7 pm7 an7 cd7 ct7), sl7⟩) (c7 : PySem.W.codeIn K cd7 "is_less_wire" = true) (k7 : PySem.W.keepIn K (.ref f7) = true)
    (a8 : PySem.W.nsIn K mainGlobals "lengthened" = some (some (.ref f8))) (l8 : K.lookup f8 = some ⟨oc8, od8, .func (PySem.W.fnOf "lengthened" "lengthened" (defArgs s_lengthened) (defBody s_lengthened) (defScope s_lengthened) .none kV8 dc8 pm8 an8 cd8 ct8), sl8⟩) (c8 : PySem.W.codeIn K cd8 "lengthened" = true) (k8 : PySem.W.keepIn K (.ref f8) = true)
    (a9 : PySem.W.nsIn K mainGlobals "worth_of" = some (some (.ref f9))) (l9 : K.lookup f9 = some ⟨oc9, od9, .func (PySem.W.fnOf "worth_of" "worth_of" (defArgs s_worth_of) (defBody s_worth_of) (defScope s_worth_of) .none kV9 dc9 pm9 an9 cd9 ct9), sl9⟩) (c9 : PySem.W.codeIn K cd9 "worth_of" = true) (k9 : PySem.W.keepIn K (.ref f9) = true)
    (a10 : PySem.W.nsIn K mainGlobals "turned_wires" = some (some (.ref f10))) (l10 : K.lookup f10 = some ⟨oc10, od10, .func (PySem.W.fnOf "turned_wires" "turned_wires" (defArgs s_turned_wires) (defBody s_turned_wires) (defScope s_turned_wires) .none kV10 dc10 pm10 an10 cd10 ct10), sl10⟩) (c10 : PySem.W.codeIn K cd10 "turned_wires" = true) (k10 : PySem.W.keepIn K (.ref f10) = true)
    (a11 : PySem.W.nsIn K mainGlobals "less_wires" = some (some (.ref f11))) (l11 : K.lookup f11 = some ⟨oc11, od11, .func (PySem.W.fnOf "less_wires" "less_wires" (defArgs s_less_wires) (defBody s_less_wires) (defScope s_less_wires) .none kV11 dc11 pm11 an11 cd11 ct11), sl11⟩) (c11 : PySem.W.codeIn K cd11 "less_wires" = true) (k11 : PySem.W.keepIn K (.ref f11) = true)
    (a12 : PySem.W.nsIn K mainGlobals "wired_guess" = some (some (.ref f12))) (l12 : K.lookup f12 = some ⟨oc12, od12, .func (PySem.W.fnOf "wired_guess" "wired_guess" (defArgs s_wired_guess) (defBody s_wired_guess) (defScope s_wired_guess) .none kV12 dc12 pm12 an12 cd12 ct12), sl12⟩) (c12 : PySem.W.codeIn K cd12 "wired_guess" = true) (k12 : PySem.W.keepIn K (.ref f12) = true)
    (a13 : PySem.W.nsIn K mainGlobals "ran" = some (some (.ref f13))) (l13 : K.lookup f13 = some ⟨oc13, od13, .func (PySem.W.fnOf "ran" "ran" (defArgs s_ran) (defBody s_ran) (defScope s_ran) .none (.ref Dk13) dc13 pm13 an13 cd13 ct13), sl13⟩) (c13 : PySem.W.codeIn K cd13 "ran" = true) (k13 : PySem.W.keepIn K (.ref f13) = true)
    (w13_0 : PySem.W.nsIn K Dk13 "many" = some (some (.int 1 tk13_0)))
    (a14 : PySem.W.nsIn K mainGlobals "gate_bits" = some (some (.ref f14))) (l14 : K.lookup f14 = some ⟨oc14, od14, .func (PySem.W.fnOf "gate_bits" "gate_bits" (defArgs s_gate_bits) (defBody s_gate_bits) (defScope s_gate_bits) .none kV14 dc14 pm14 an14 cd14 ct14), sl14⟩) (c14 : PySem.W.codeIn K cd14 "gate_bits" = true) (k14 : PySem.W.keepIn K (.ref f14) = true)
    (a15 : PySem.W.nsIn K mainGlobals "all_cases" = some (some (.ref f15))) (l15 : K.lookup f15 = some ⟨oc15, od15, .func (PySem.W.fnOf "all_cases" "all_cases" (defArgs s_all_cases) (defBody s_all_cases) (defScope s_all_cases) .none kV15 dc15 pm15 an15 cd15 ct15), sl15⟩) (c15 : PySem.W.codeIn K cd15 "all_cases" = true) (k15 : PySem.W.keepIn K (.ref f15) = true)
    (a16 : PySem.W.nsIn K mainGlobals "place_in_cases" = some (some (.ref f16))) (l16 : K.lookup f16 = some ⟨oc16, od16, .func (PySem.W.fnOf "place_in_cases" "place_in_cases" (defArgs s_place_in_cases) (defBody s_place_in_cases) (defScope s_place_in_cases) .none kV16 dc16 pm16 an16 cd16 ct16), sl16⟩) (c16 : PySem.W.codeIn K cd16 "place_in_cases" = true) (k16 : PySem.W.keepIn K (.ref f16) = true)
    (a17 : PySem.W.nsIn K mainGlobals "one_case" = some (some (.ref f17))) (l17 : K.lookup f17 = some ⟨oc17, od17, .func (PySem.W.fnOf "one_case" "one_case" (defArgs s_one_case) (defBody s_one_case) (defScope s_one_case) .none kV17 dc17 pm17 an17 cd17 ct17), sl17⟩) (c17 : PySem.W.codeIn K cd17 "one_case" = true) (k17 : PySem.W.keepIn K (.ref f17) = true)
    (a18 : PySem.W.nsIn K mainGlobals "_law_box" = some (some (.ref f18))) (l18 : K.lookup f18 = some ⟨oc18, od18, .func (PySem.W.fnOf "_law_box" "_law_box" (defArgs sBox) (defBody sBox) (defScope sBox) .none kV18 dc18 pm18 an18 cd18 ct18), sl18⟩) (c18 : PySem.W.codeIn K cd18 "_law_box" = true) (k18 : PySem.W.keepIn K (.ref f18) = true)
    (a19 : PySem.W.nsIn K mainGlobals "_law_take" = some (some (.ref f19))) (l19 : K.lookup f19 = some ⟨oc19, od19, .func (PySem.W.fnOf "_law_take" "_law_take" (defArgs sTake) (defBody sTake) (defScope sTake) .none kV19 dc19 pm19 an19 cd19 ct19), sl19⟩) (c19 : PySem.W.codeIn K cd19 "_law_take" = true) (k19 : PySem.W.keepIn K (.ref f19) = true)
    (a20 : PySem.W.nsIn K mainGlobals "_law_guess" = some (some (.ref f20))) (l20 : K.lookup f20 = some ⟨oc20, od20, .func (PySem.W.fnOf "_law_guess" "_law_guess" (defArgs s__law_guess) (defBody s__law_guess) (defScope s__law_guess) .none kV20 dc20 pm20 an20 cd20 ct20), sl20⟩) (c20 : PySem.W.codeIn K cd20 "_law_guess" = true) (k20 : PySem.W.keepIn K (.ref f20) = true)
    (a21 : PySem.W.nsIn K mainGlobals "_law_due" = some (some (.ref f21))) (l21 : K.lookup f21 = some ⟨oc21, od21, .func (PySem.W.fnOf "_law_due" "_law_due" (defArgs s__law_due) (defBody s__law_due) (defScope s__law_due) .none kV21 dc21 pm21 an21 cd21 ct21), sl21⟩) (c21 : PySem.W.codeIn K cd21 "_law_due" = true) (k21 : PySem.W.keepIn K (.ref f21) = true)
    (a22 : PySem.W.nsIn K mainGlobals "_law_all_right" = some (some (.ref f22))) (l22 : K.lookup f22 = some ⟨oc22, od22, .func (PySem.W.fnOf "_law_all_right" "_law_all_right" (defArgs s__law_all_right) (defBody s__law_all_right) (defScope s__law_all_right) .none kV22 dc22 pm22 an22 cd22 ct22), sl22⟩) (c22 : PySem.W.codeIn K cd22 "_law_all_right" = true) (k22 : PySem.W.keepIn K (.ref f22) = true)
    (a23 : PySem.W.nsIn K mainGlobals "_law_pair" = some (some (.ref f23))) (l23 : K.lookup f23 = some ⟨oc23, od23, .func (PySem.W.fnOf "_law_pair" "_law_pair" (defArgs s__law_pair) (defBody s__law_pair) (defScope s__law_pair) .none kV23 dc23 pm23 an23 cd23 ct23), sl23⟩) (c23 : PySem.W.codeIn K cd23 "_law_pair" = true) (k23 : PySem.W.keepIn K (.ref f23) = true)
    (a24 : PySem.W.nsIn K mainGlobals "law" = some (some (.ref f24))) (l24 : K.lookup f24 = some ⟨oc24, od24, .func (PySem.W.fnOf "law" "law" (defArgs s_law) (defBody s_law) (defScope s_law) .none kV24 dc24 pm24 an24 cd24 ct24), sl24⟩) (c24 : PySem.W.codeIn K cd24 "law" = true) (k24 : PySem.W.keepIn K (.ref f24) = true)
    (aC : PySem.W.nsIn K mainGlobals "Net" = some (some (.ref C)))
    (pgC : PySem.W.plainGet K C Str.empty = true) (hdC : PySem.W.hasDictIn K C = true) (poC : PySem.W.plainOver K C = true) (saC : PySem.W.findIn K (.ref C) "__setattr__" = some (some (.builtin "object.__setattr__"))) (mkC : PySem.W.makesIn K C = true) (kcC : PySem.W.keepIn K (.ref C) = true)
    (naC0 : PySem.W.findIn K (.ref C) "input_count" = some none)
    (naC1 : PySem.W.findIn K (.ref C) "made" = some none)
    (naC2 : PySem.W.findIn K (.ref C) "depths" = some none)
    (naC3 : PySem.W.findIn K (.ref C) "by_name" = some none)
    (a25 : PySem.W.findIn K (.ref C) "__init__" = some (some (.ref f25))) (i25 : PySem.W.isFn K (.ref f25) = true) (l25 : K.lookup f25 = some ⟨oc25, od25, .func (PySem.W.fnOf "__init__" "Net.__init__" (defArgs s_Net___init__) (defBody s_Net___init__) (defScope s_Net___init__) .none kV25 dc25 pm25 an25 cd25 ct25), sl25⟩) (c25 : PySem.W.codeIn K cd25 "Net.__init__" = true) (k25 : PySem.W.keepIn K (.ref f25) = true)
    (a26 : PySem.W.findIn K (.ref C) "both" = some (some (.ref f26))) (i26 : PySem.W.isFn K (.ref f26) = true) (l26 : K.lookup f26 = some ⟨oc26, od26, .func (PySem.W.fnOf "both" "Net.both" (defArgs s_Net_both) (defBody s_Net_both) (defScope s_Net_both) .none kV26 dc26 pm26 an26 cd26 ct26), sl26⟩) (c26 : PySem.W.codeIn K cd26 "Net.both" = true) (k26 : PySem.W.keepIn K (.ref f26) = true)
    (a27 : PySem.W.findIn K (.ref C) "either" = some (some (.ref f27))) (i27 : PySem.W.isFn K (.ref f27) = true) (l27 : K.lookup f27 = some ⟨oc27, od27, .func (PySem.W.fnOf "either" "Net.either" (defArgs s_Net_either) (defBody s_Net_either) (defScope s_Net_either) .none kV27 dc27 pm27 an27 cd27 ct27), sl27⟩) (c27 : PySem.W.codeIn K cd27 "Net.either" = true) (k27 : PySem.W.keepIn K (.ref f27) = true)
    (a28 : PySem.W.findIn K (.ref C) "unlike" = some (some (.ref f28))) (i28 : PySem.W.isFn K (.ref f28) = true) (l28 : K.lookup f28 = some ⟨oc28, od28, .func (PySem.W.fnOf "unlike" "Net.unlike" (defArgs s_Net_unlike) (defBody s_Net_unlike) (defScope s_Net_unlike) .none kV28 dc28 pm28 an28 cd28 ct28), sl28⟩) (c28 : PySem.W.codeIn K cd28 "Net.unlike" = true) (k28 : PySem.W.keepIn K (.ref f28) = true)
    (a29 : PySem.W.findIn K (.ref C) "other" = some (some (.ref f29))) (i29 : PySem.W.isFn K (.ref f29) = true) (l29 : K.lookup f29 = some ⟨oc29, od29, .func (PySem.W.fnOf "other" "Net.other" (defArgs s_Net_other) (defBody s_Net_other) (defScope s_Net_other) .none kV29 dc29 pm29 an29 cd29 ct29), sl29⟩) (c29 : PySem.W.codeIn K cd29 "Net.other" = true) (k29 : PySem.W.keepIn K (.ref f29) = true)
    (a30 : PySem.W.findIn K (.ref C) "fixed" = some (some (.ref f30))) (i30 : PySem.W.isFn K (.ref f30) = true) (l30 : K.lookup f30 = some ⟨oc30, od30, .func (PySem.W.fnOf "fixed" "Net.fixed" (defArgs s_Net_fixed) (defBody s_Net_fixed) (defScope s_Net_fixed) .none kV30 dc30 pm30 an30 cd30 ct30), sl30⟩) (c30 : PySem.W.codeIn K cd30 "Net.fixed" = true) (k30 : PySem.W.keepIn K (.ref f30) = true)
    (a31 : PySem.W.findIn K (.ref C) "put" = some (some (.ref f31))) (i31 : PySem.W.isFn K (.ref f31) = true) (l31 : K.lookup f31 = some ⟨oc31, od31, .func (PySem.W.fnOf "put" "Net.put" (defArgs s_Net_put) (defBody s_Net_put) (defScope s_Net_put) .none kV31 dc31 pm31 an31 cd31 ct31), sl31⟩) (c31 : PySem.W.codeIn K cd31 "Net.put" = true) (k31 : PySem.W.keepIn K (.ref f31) = true)
    (a32 : PySem.W.findIn K (.ref C) "put_gate" = some (some (.ref f32))) (i32 : PySem.W.isFn K (.ref f32) = true) (l32 : K.lookup f32 = some ⟨oc32, od32, .func (PySem.W.fnOf "put_gate" "Net.put_gate" (defArgs s_Net_put_gate) (defBody s_Net_put_gate) (defScope s_Net_put_gate) .none kV32 dc32 pm32 an32 cd32 ct32), sl32⟩) (c32 : PySem.W.codeIn K cd32 "Net.put_gate" = true) (k32 : PySem.W.keepIn K (.ref f32) = true)
    (a33 : PySem.W.findIn K (.ref C) "need" = some (some (.ref f33))) (i33 : PySem.W.isFn K (.ref f33) = true) (l33 : K.lookup f33 = some ⟨oc33, od33, .func (PySem.W.fnOf "need" "Net.need" (defArgs s_Net_need) (defBody s_Net_need) (defScope s_Net_need) .none kV33 dc33 pm33 an33 cd33 ct33), sl33⟩) (c33 : PySem.W.codeIn K cd33 "Net.need" = true) (k33 : PySem.W.keepIn K (.ref f33) = true)
    (a34 : PySem.W.findIn K (.ref C) "give" = some (some (.ref f34))) (i34 : PySem.W.isFn K (.ref f34) = true) (l34 : K.lookup f34 = some ⟨oc34, od34, .func (PySem.W.fnOf "give" "Net.give" (defArgs s_Net_give) (defBody s_Net_give) (defScope s_Net_give) .none kV34 dc34 pm34 an34 cd34 ct34), sl34⟩) (c34 : PySem.W.codeIn K cd34 "Net.give" = true) (k34 : PySem.W.keepIn K (.ref f34) = true)
    (a35 : PySem.W.findIn K (.ref C) "given" = some (some (.ref f35))) (i35 : PySem.W.isFn K (.ref f35) = true) (l35 : K.lookup f35 = some ⟨oc35, od35, .func (PySem.W.fnOf "given" "Net.given" (defArgs s_Net_given) (defBody s_Net_given) (defScope s_Net_given) .none kV35 dc35 pm35 an35 cd35 ct35), sl35⟩) (c35 : PySem.W.codeIn K cd35 "Net.given" = true) (k35 : PySem.W.keepIn K (.ref f35) = true)
    (a36 : PySem.W.findIn K (.ref C) "names" = some (some (.ref f36))) (i36 : PySem.W.isFn K (.ref f36) = true) (l36 : K.lookup f36 = some ⟨oc36, od36, .func (PySem.W.fnOf "names" "Net.names" (defArgs s_Net_names) (defBody s_Net_names) (defScope s_Net_names) .none kV36 dc36 pm36 an36 cd36 ct36), sl36⟩) (c36 : PySem.W.codeIn K cd36 "Net.names" = true) (k36 : PySem.W.keepIn K (.ref f36) = true)
    (a37 : PySem.W.findIn K (.ref C) "inputs" = some (some (.ref f37))) (i37 : PySem.W.isFn K (.ref f37) = true) (l37 : K.lookup f37 = some ⟨oc37, od37, .func (PySem.W.fnOf "inputs" "Net.inputs" (defArgs s_Net_inputs) (defBody s_Net_inputs) (defScope s_Net_inputs) .none kV37 dc37 pm37 an37 cd37 ct37), sl37⟩) (c37 : PySem.W.codeIn K cd37 "Net.inputs" = true) (k37 : PySem.W.keepIn K (.ref f37) = true)
    (a38 : PySem.W.findIn K (.ref C) "gates" = some (some (.ref f38))) (i38 : PySem.W.isFn K (.ref f38) = true) (l38 : K.lookup f38 = some ⟨oc38, od38, .func (PySem.W.fnOf "gates" "Net.gates" (defArgs s_Net_gates) (defBody s_Net_gates) (defScope s_Net_gates) .none kV38 dc38 pm38 an38 cd38 ct38), sl38⟩) (c38 : PySem.W.codeIn K cd38 "Net.gates" = true) (k38 : PySem.W.keepIn K (.ref f38) = true)
    (a39 : PySem.W.findIn K (.ref C) "__len__" = some (some (.ref f39))) (i39 : PySem.W.isFn K (.ref f39) = true) (l39 : K.lookup f39 = some ⟨oc39, od39, .func (PySem.W.fnOf "__len__" "Net.__len__" (defArgs s_Net___len__) (defBody s_Net___len__) (defScope s_Net___len__) .none kV39 dc39 pm39 an39 cd39 ct39), sl39⟩) (c39 : PySem.W.codeIn K cd39 "Net.__len__" = true) (k39 : PySem.W.keepIn K (.ref f39) = true)
    (z1 : PySem.W.nsIn K mainGlobals "len" = some none)
    (z2 : PySem.W.nsIn K mainGlobals "abs" = some none)
    (z3 : PySem.W.nsIn K mainGlobals "int" = some none)
    (z4 : PySem.W.nsIn K mainGlobals "divmod" = some none)
    (z5 : PySem.W.nsIn K mainGlobals "list" = some none)
    (z6 : PySem.W.nsIn K mainGlobals "enumerate" = some none)
    (z7 : PySem.W.nsIn K mainGlobals "isinstance" = some none)
    (z8 : PySem.W.nsIn K mainGlobals "tuple" = some none)
    (z9 : PySem.W.nsIn K mainGlobals "str" = some none)
    (z10 : PySem.W.nsIn K mainGlobals "bool" = some none)
    (z11 : PySem.W.nsIn K mainGlobals "zip" = some none)
    (z12 : PySem.W.nsIn K mainGlobals "all" = some none)
    (z13 : PySem.W.nsIn K mainGlobals "range" = some none)
    (z14 : PySem.W.nsIn K mainGlobals "max" = some none)
    (z15 : PySem.W.nsIn K mainGlobals "any" = some none)
    (z16 : PySem.W.nsIn K mainGlobals "min" = some none)
    (z17 : PySem.W.nsIn K mainGlobals "sum" = some none)
    (zsorted : PySem.W.nsIn K mainGlobals "sorted" = some none)
    (zdict : PySem.W.nsIn K mainGlobals "dict" = some none)
    : ∃ fd : FuncData, (∀ (s : Shared) (v : Value), BindsTo s fd ⟨[v], []⟩ [("_law_script", v)]) ∧ ∀ base : Heap, K.In base → base.Ns mainGlobals mg → FnOk l.prog w K mg base CX0 10 fa fd ["_law_script"] (spLaw K) := by
  have e := hfa.symm.trans (PySem.W.mg_of X G a24)
  cases e
  have F1 := fun_mk (st := s_sum_wires) l1 c1 k1
  have b1 := F1.binds (ps := ["net", "ones", "others", "carry"]) fun _ _ _ _ _ _ us hl => match us, hl with | [_, _, _, _], _ => rfl
  have m1 := PySem.W.mg_of X G a1
  have F2 := fun_mk (st := s_any_wire) l2 c2 k2
  have b2 := F2.binds (ps := ["net", "wires"]) fun _ _ _ _ _ _ us hl => match us, hl with | [_, _], _ => rfl
  have m2 := PySem.W.mg_of X G a2
  have F3 := fun_mk (st := s_zero_wires) l3 c3 k3
  have b3 := F3.binds (ps := ["net", "ones"]) fun _ _ _ _ _ _ us hl => match us, hl with | [_, _], _ => rfl
  have m3 := PySem.W.mg_of X G a3
  have F4 := fun_mk (st := s_first_wires) l4 c4 k4
  have b4 := F4.binds (ps := ["net", "ones"]) fun _ _ _ _ _ _ us hl => match us, hl with | [_, _], _ => rfl
  have m4 := PySem.W.mg_of X G a4
  have F5 := fun_mk (st := s_mark_wires) l5 c5 k5
  have b5 := F5.binds (ps := ["net", "ones", "others"]) fun _ _ _ _ _ _ us hl => match us, hl with | [_, _, _], _ => rfl
  have m5 := PySem.W.mg_of X G a5
  have F6 := fun_mk (st := s_chosen_wires) l6 c6 k6
  have b6 := F6.binds (ps := ["net", "wire", "ones", "others"]) fun _ _ _ _ _ _ us hl => match us, hl with | [_, _, _, _], _ => rfl
  have m6 := PySem.W.mg_of X G a6
  have F7 := fun_mk (st := s_is_less_wire) l7 c7 k7
  have b7 := F7.binds (ps := ["net", "ones", "others"]) fun _ _ _ _ _ _ us hl => match us, hl with | [_, _, _], _ => rfl
  have m7 := PySem.W.mg_of X G a7
  have F8 := fun_mk (st := s_lengthened) l8 c8 k8
  have b8 := F8.binds (ps := ["net", "wires", "many"]) fun _ _ _ _ _ _ us hl => match us, hl with | [_, _, _], _ => rfl
  have m8 := PySem.W.mg_of X G a8
  have F9 := fun_mk (st := s_worth_of) l9 c9 k9
  have b9 := F9.binds (ps := ["digits"]) fun _ _ _ _ _ _ us hl => match us, hl with | [_], _ => rfl
  have m9 := PySem.W.mg_of X G a9
  have F10 := fun_mk (st := s_turned_wires) l10 c10 k10
  have b10 := F10.binds (ps := ["net", "wires"]) fun _ _ _ _ _ _ us hl => match us, hl with | [_, _], _ => rfl
  have m10 := PySem.W.mg_of X G a10
  have F11 := fun_mk (st := s_less_wires) l11 c11 k11
  have b11 := F11.binds (ps := ["net", "ones", "others"]) fun _ _ _ _ _ _ us hl => match us, hl with | [_, _, _], _ => rfl
  have m11 := PySem.W.mg_of X G a11
  have F12 := fun_mk (st := s_wired_guess) l12 c12 k12
  have b12 := F12.binds (ps := ["many"]) fun _ _ _ _ _ _ us hl => match us, hl with | [_], _ => rfl
  have m12 := PySem.W.mg_of X G a12
  have F13 := fun_mk (st := s_ran) l13 c13 k13
  have m13 := PySem.W.mg_of X G a13
  have F14 := fun_mk (st := s_gate_bits) l14 c14 k14
  have b14 := F14.binds (ps := ["gate", "wires", "full"]) fun _ _ _ _ _ _ us hl => match us, hl with | [_, _, _], _ => rfl
  have m14 := PySem.W.mg_of X G a14
  have F15 := fun_mk (st := s_all_cases) l15 c15 k15
  have b15 := F15.binds (ps := ["many"]) fun _ _ _ _ _ _ us hl => match us, hl with | [_], _ => rfl
  have m15 := PySem.W.mg_of X G a15
  have F16 := fun_mk (st := s_place_in_cases) l16 c16 k16
  have b16 := F16.binds (ps := ["place", "many"]) fun _ _ _ _ _ _ us hl => match us, hl with | [_, _], _ => rfl
  have m16 := PySem.W.mg_of X G a16
  have F17 := fun_mk (st := s_one_case) l17 c17 k17
  have b17 := F17.binds (ps := ["net", "word"]) fun _ _ _ _ _ _ us hl => match us, hl with | [_, _], _ => rfl
  have m17 := PySem.W.mg_of X G a17
  have F18 := fun_mk (st := sBox) l18 c18 k18
  have b18 := F18.binds (ps := ["_law_script", "_law_k"]) fun _ _ _ _ _ _ us hl => match us, hl with | [_, _], _ => rfl
  have m18 := PySem.W.mg_of X G a18
  have F19 := fun_mk (st := sTake) l19 c19 k19
  have b19 := F19.binds (ps := ["_law_box_here", "_law_size"]) fun _ _ _ _ _ _ us hl => match us, hl with | [_, _], _ => rfl
  have m19 := PySem.W.mg_of X G a19
  have F20 := fun_mk (st := s__law_guess) l20 c20 k20
  have b20 := F20.binds (ps := ["_law_one", "_law_other", "_law_size"]) fun _ _ _ _ _ _ us hl => match us, hl with | [_, _, _], _ => rfl
  have m20 := PySem.W.mg_of X G a20
  have F21 := fun_mk (st := s__law_due) l21 c21 k21
  have b21 := F21.binds (ps := ["_law_one", "_law_other", "_law_size"]) fun _ _ _ _ _ _ us hl => match us, hl with | [_, _, _], _ => rfl
  have m21 := PySem.W.mg_of X G a21
  have F22 := fun_mk (st := s__law_all_right) l22 c22 k22
  have b22 := F22.binds (ps := ["_law_size"]) fun _ _ _ _ _ _ us hl => match us, hl with | [_], _ => rfl
  have m22 := PySem.W.mg_of X G a22
  have F23 := fun_mk (st := s__law_pair) l23 c23 k23
  have b23 := F23.binds (ps := ["_law_box_here", "_law_size"]) fun _ _ _ _ _ _ us hl => match us, hl with | [_, _], _ => rfl
  have m23 := PySem.W.mg_of X G a23
  have F24 := fun_mk (st := s_law) l24 c24 k24
  have F25 := fun_mk (st := s_Net___init__) l25 c25 k25
  have b25 := F25.binds (ps := ["self", "many"]) fun _ _ _ _ _ _ us hl => match us, hl with | [_, _], _ => rfl
  have M25 : Meth K C "__init__" f25 := ⟨a25, i25, k25⟩
  have F26 := fun_mk (st := s_Net_both) l26 c26 k26
  have b26 := F26.binds (ps := ["self", "a", "b"]) fun _ _ _ _ _ _ us hl => match us, hl with | [_, _, _], _ => rfl
  have M26 : Meth K C "both" f26 := ⟨a26, i26, k26⟩
  have F27 := fun_mk (st := s_Net_either) l27 c27 k27
  have b27 := F27.binds (ps := ["self", "a", "b"]) fun _ _ _ _ _ _ us hl => match us, hl with | [_, _, _], _ => rfl
  have M27 : Meth K C "either" f27 := ⟨a27, i27, k27⟩
  have F28 := fun_mk (st := s_Net_unlike) l28 c28 k28
  have b28 := F28.binds (ps := ["self", "a", "b"]) fun _ _ _ _ _ _ us hl => match us, hl with | [_, _, _], _ => rfl
  have M28 : Meth K C "unlike" f28 := ⟨a28, i28, k28⟩
  have F29 := fun_mk (st := s_Net_other) l29 c29 k29
  have b29 := F29.binds (ps := ["self", "a"]) fun _ _ _ _ _ _ us hl => match us, hl with | [_, _], _ => rfl
  have M29 : Meth K C "other" f29 := ⟨a29, i29, k29⟩
  have F30 := fun_mk (st := s_Net_fixed) l30 c30 k30
  have b30 := F30.binds (ps := ["self", "bit"]) fun _ _ _ _ _ _ us hl => match us, hl with | [_, _], _ => rfl
  have M30 : Meth K C "fixed" f30 := ⟨a30, i30, k30⟩
  have F31 := fun_mk (st := s_Net_put) l31 c31 k31
  have b31 := F31.binds (ps := ["self", "kind", "wires"]) fun _ _ _ _ _ _ us hl => match us, hl with | [_, _, _], _ => rfl
  have M31 : Meth K C "put" f31 := ⟨a31, i31, k31⟩
  have F32 := fun_mk (st := s_Net_put_gate) l32 c32 k32
  have b32 := F32.binds (ps := ["self", "gate", "depth"]) fun _ _ _ _ _ _ us hl => match us, hl with | [_, _, _], _ => rfl
  have M32 : Meth K C "put_gate" f32 := ⟨a32, i32, k32⟩
  have F33 := fun_mk (st := s_Net_need) l33 c33 k33
  have b33 := F33.binds (ps := ["self", "wires"]) fun _ _ _ _ _ _ us hl => match us, hl with | [_, _], _ => rfl
  have M33 : Meth K C "need" f33 := ⟨a33, i33, k33⟩
  have F34 := fun_mk (st := s_Net_give) l34 c34 k34
  have b34 := F34.binds (ps := ["self", "name", "wires"]) fun _ _ _ _ _ _ us hl => match us, hl with | [_, _, _], _ => rfl
  have M34 : Meth K C "give" f34 := ⟨a34, i34, k34⟩
  have F35 := fun_mk (st := s_Net_given) l35 c35 k35
  have b35 := F35.binds (ps := ["self", "name"]) fun _ _ _ _ _ _ us hl => match us, hl with | [_, _], _ => rfl
  have M35 : Meth K C "given" f35 := ⟨a35, i35, k35⟩
  have F36 := fun_mk (st := s_Net_names) l36 c36 k36
  have b36 := F36.binds (ps := ["self"]) fun _ _ _ _ _ _ us hl => match us, hl with | [_], _ => rfl
  have M36 : Meth K C "names" f36 := ⟨a36, i36, k36⟩
  have F37 := fun_mk (st := s_Net_inputs) l37 c37 k37
  have b37 := F37.binds (ps := ["self"]) fun _ _ _ _ _ _ us hl => match us, hl with | [_], _ => rfl
  have M37 : Meth K C "inputs" f37 := ⟨a37, i37, k37⟩
  have F38 := fun_mk (st := s_Net_gates) l38 c38 k38
  have b38 := F38.binds (ps := ["self"]) fun _ _ _ _ _ _ us hl => match us, hl with | [_], _ => rfl
  have M38 : Meth K C "gates" f38 := ⟨a38, i38, k38⟩
  have F39 := fun_mk (st := s_Net___len__) l39 c39 k39
  have b39 := F39.binds (ps := ["self"]) fun _ _ _ _ _ _ us hl => match us, hl with | [_], _ => rfl
  have M39 : Meth K C "__len__" f39 := ⟨a39, i39, k39⟩
  have clC : Cls K C := ⟨pgC, hdC, poC, saC⟩
  have mgC := PySem.W.mg_of X G aC
  have B : Bl mg := ⟨PySem.W.mg_none_of X G z1, PySem.W.mg_none_of X G z2, PySem.W.mg_none_of X G z3, PySem.W.mg_none_of X G z4, PySem.W.mg_none_of X G z5, PySem.W.mg_none_of X G z6, PySem.W.mg_none_of X G z7, PySem.W.mg_none_of X G z8, PySem.W.mg_none_of X G z9, PySem.W.mg_none_of X G z10, PySem.W.mg_none_of X G z11, PySem.W.mg_none_of X G z12, PySem.W.mg_none_of X G z13, PySem.W.mg_none_of X G z14, PySem.W.mg_none_of X G z15, PySem.W.mg_none_of X G z16, PySem.W.mg_none_of X G z17⟩
  refine ⟨PySem.W.fnOf "law" "law" (defArgs s_law) (defBody s_law) (defScope s_law) .none kV24 dc24 pm24 an24 cd24 ct24, fun s v => .of_eq rfl, fun base _ _ => ?_⟩
  have kb13_ : ∃ ds, Vals [.int 1] ds ∧ Binds K (PySem.W.fnOf "ran" "ran" (defArgs s_ran) (defBody s_ran) (defScope s_ran) .none (.ref Dk13) dc13 pm13 an13 cd13 ct13) ["net", "values", "many"] ds := ⟨_, (.cons ⟨_, rfl⟩ .nil), bnd_of (st := s_ran) (ml := [("many", .int 1 tk13_0)]) (ds := [.int 1 tk13_0]) (fun q hq => by rcases List.mem_cons.mp hq with rfl | hq; exact w13_0; exact nomatch hq) (fun us l1 => match us, l1 with | [_, _], _ => ⟨_, _, _, _, _, _, rfl, rfl, (show _ = pure _ from rfl)⟩)⟩
  have kb13_many : ∃ g, KBn K (PySem.W.fnOf "ran" "ran" (defArgs s_ran) (defBody s_ran) (defScope s_ran) .none (.ref Dk13) dc13 pm13 an13 cd13 ct13) ["net", "values", "many"] 2 ["many"] g (fun vs zs => vs ++ zs) := ⟨fun vs zs => vs ++ zs, ⟨kbn_of (st := s_ran) (ml := []) (gV := fun vs zs => vs ++ zs) (fun q hq => nomatch hq) (fun us ws l1 l2 => match us, ws, l1, l2 with | [_, _], [_], _, _ => (show _ = pure _ from rfl)) (fun _ _ r1 r2 => r1.append r2), fun r1 r2 => r1.append r2⟩⟩
  have L : LL K mg C f1 f2 f3 f4 f5 f6 f7 f8 f9 f10 f11 f12 f13 f14 f15 f16 f17 f18 f19 f20 f21 f22 f23 f25 f26 f27 f28 f29 f30 f31 f32 f33 f34 f35 f36 f37 f38 f39 _ _ _ _ _ _ _ _ _ _ _ _ _ _ _ _ _ _ _ _ _ _ _ _ _ _ _ _ _ _ _ _ _ _ _ _ _ _  := ⟨F1, m1, b1, F2, m2, b2, F3, m3, b3, F4, m4, b4, F5, m5, b5, F6, m6, b6, F7, m7, b7, F8, m8, b8, F9, m9, b9, F10, m10, b10, F11, m11, b11, F12, m12, b12, F13, m13, kb13_, kb13_many, F14, m14, b14, F15, m15, b15, F16, m16, b16, F17, m17, b17, F18, m18, b18, F19, m19, b19, F20, m20, b20, F21, m21, b21, F22, m22, b22, F23, m23, b23, ⟨clC, naC0, naC1, naC2, naC3, mgC⟩, ⟨mkC, a25, i25, kcC⟩, F25, b25, F26, b26, M26, F27, b27, M27, F28, b28, M28, F29, b29, M29, F30, b30, M30, F31, b31, M31, F32, b32, M32, F33, b33, M33, F34, b34, M34, F35, b35, M35, F36, b36, M36, F37, b37, M37, F38, b38, M38, F39, b39, M39, PySem.W.mg_none_of X G zsorted, PySem.W.mg_none_of X G zdict⟩
  exact ok_law F24 B L
end GZ
open PySem PySem.W PyProof.Rows
set_option maxRecDepth 100000 in
set_option maxHeartbeats 0 in
theorem PySem.Challenge.cw_guessedzeros_k54_wired_guesses_holds : PySem.Challenge.rw_guessedzeros_k54_wired_guesses.Holds := by
  w_on; o_law; k_headLK; (case hw => w_witness2)
  k_fill
  refine L2.walk_of (l := PySem.Challenge.rw_guessedzeros_k54_wired_guesses) (n := 63) (k := 10) (x := "_law_script") (CX := fun _ => L2.CX0) (sp := fun w => GZ.spLaw _) rfl (by decide) rfl ⟨rfl, by decide, by decide⟩ (fun w h Y => PySem.W.kIn_of Y) ?F (fun _ _ a ns hl _ hS => ⟨a, ns, rfl, hS, hl, fun _ => rfl⟩) (fun _ _ _ _ _ h => h)
  case F =>
    intro w mg fa h KX G hmg
    refine' GZ.all_mk KX G hmg ?a1 ?l1 ?c1 ?k1 ?a2 ?l2 ?c2 ?k2 ?a3 ?l3 ?c3 ?k3 ?a4 ?l4 ?c4 ?k4 ?a5 ?l5 ?c5 ?k5 ?a6 ?l6 ?c6 ?k6 ?a7 ?l7 ?c7 ?k7 ?a8 ?l8 ?c8 ?k8 ?a9 ?l9 ?c9 ?k9 ?a10 ?l10 ?c10 ?k10 ?a11 ?l11 ?c11 ?k11 ?a12 ?l12 ?c12 ?k12 ?a13 ?l13 ?c13 ?k13 ?w13_0 ?a14 ?l14 ?c14 ?k14 ?a15 ?l15 ?c15 ?k15 ?a16 ?l16 ?c16 ?k16 ?a17 ?l17 ?c17 ?k17 ?a18 ?l18 ?c18 ?k18 ?a19 ?l19 ?c19 ?k19 ?a20 ?l20 ?c20 ?k20 ?a21 ?l21 ?c21 ?k21 ?a22 ?l22 ?c22 ?k22 ?a23 ?l23 ?c23 ?k23 ?a24 ?l24 ?c24 ?k24 ?aC ?pgC ?hdC ?poC ?saC ?mkC ?kcC ?naC0 ?naC1 ?naC2 ?naC3 ?a25 ?i25 ?l25 ?c25 ?k25 ?a26 ?i26 ?l26 ?c26 ?k26 ?a27 ?i27 ?l27 ?c27 ?k27 ?a28 ?i28 ?l28 ?c28 ?k28 ?a29 ?i29 ?l29 ?c29 ?k29 ?a30 ?i30 ?l30 ?c30 ?k30 ?a31 ?i31 ?l31 ?c31 ?k31 ?a32 ?i32 ?l32 ?c32 ?k32 ?a33 ?i33 ?l33 ?c33 ?k33 ?a34 ?i34 ?l34 ?c34 ?k34 ?a35 ?i35 ?l35 ?c35 ?k35 ?a36 ?i36 ?l36 ?c36 ?k36 ?a37 ?i37 ?l37 ?c37 ?k37 ?a38 ?i38 ?l38 ?c38 ?k38 ?a39 ?i39 ?l39 ?c39 ?k39 ?z1 ?z2 ?z3 ?z4 ?z5 ?z6 ?z7 ?z8 ?z9 ?z10 ?z11 ?z12 ?z13 ?z14 ?z15 ?z16 ?z17 ?zsorted ?zdict
    (case a1 => k_is)
    (case l1 => k_is)
    (case c1 => k_is)
    (case k1 => k_is)
    (case a2 => k_is)
    (case l2 => k_is)
    (case c2 => k_is)
    (case k2 => k_is)
    (case a3 => k_is)
    (case l3 => k_is)
    (case c3 => k_is)
    (case k3 => k_is)
    (case a4 => k_is)
    (case l4 => k_is)
    (case c4 => k_is)
    (case k4 => k_is)
    (case a5 => k_is)
    (case l5 => k_is)
    (case c5 => k_is)
    (case k5 => k_is)
    (case a6 => k_is)
    (case l6 => k_is)
    (case c6 => k_is)
    (case k6 => k_is)
    (case a7 => k_is)
    (case l7 => k_is)
    (case c7 => k_is)
    (case k7 => k_is)
    (case a8 => k_is)
    (case l8 => k_is)
    (case c8 => k_is)
    (case k8 => k_is)
    (case a9 => k_is)
    (case l9 => k_is)
    (case c9 => k_is)
    (case k9 => k_is)
    (case a10 => k_is)
    (case l10 => k_is)
    (case c10 => k_is)
    (case k10 => k_is)
    (case a11 => k_is)
    (case l11 => k_is)
    (case c11 => k_is)
    (case k11 => k_is)
    (case a12 => k_is)
    (case l12 => k_is)
    (case c12 => k_is)
    (case k12 => k_is)
    (case a13 => k_is)
    (case l13 => k_is)
    (case c13 => k_is)
    (case k13 => k_is)
    (case w13_0 => k_is)
    (case a14 => k_is)
    (case l14 => k_is)
    (case c14 => k_is)
    (case k14 => k_is)
    (case a15 => k_is)
    (case l15 => k_is)
    (case c15 => k_is)
    (case k15 => k_is)
    (case a16 => k_is)
    (case l16 => k_is)
    (case c16 => k_is)
    (case k16 => k_is)
    (case a17 => k_is)
    (case l17 => k_is)
    (case c17 => k_is)
    (case k17 => k_is)
    (case a18 => k_is)
    (case l18 => k_is)
    (case c18 => k_is)
    (case k18 => k_is)
    (case a19 => k_is)
    (case l19 => k_is)
    (case c19 => k_is)
    (case k19 => k_is)
    (case a20 => k_is)
    (case l20 => k_is)
    (case c20 => k_is)
    (case k20 => k_is)
    (case a21 => k_is)
    (case l21 => k_is)
    (case c21 => k_is)
    (case k21 => k_is)
    (case a22 => k_is)
    (case l22 => k_is)
    (case c22 => k_is)
    (case k22 => k_is)
    (case a23 => k_is)
    (case l23 => k_is)
    (case c23 => k_is)
    (case k23 => k_is)
    (case a24 => k_is)
    (case l24 => k_is)
    (case c24 => k_is)
    (case k24 => k_is)
    (case aC => k_is)
    (case pgC => k_is)
    (case hdC => k_is)
    (case poC => k_is)
    (case saC => k_is)
    (case mkC => k_is)
    (case kcC => k_is)
    (case naC0 => k_is)
    (case naC1 => k_is)
    (case naC2 => k_is)
    (case naC3 => k_is)
    (case a25 => k_is)
    (case i25 => k_is)
    (case l25 => k_is)
    (case c25 => k_is)
    (case k25 => k_is)
    (case a26 => k_is)
    (case i26 => k_is)
    (case l26 => k_is)
    (case c26 => k_is)
    (case k26 => k_is)
    (case a27 => k_is)
    (case i27 => k_is)
    (case l27 => k_is)
    (case c27 => k_is)
    (case k27 => k_is)
    (case a28 => k_is)
    (case i28 => k_is)
    (case l28 => k_is)
    (case c28 => k_is)
    (case k28 => k_is)
    (case a29 => k_is)
    (case i29 => k_is)
    (case l29 => k_is)
    (case c29 => k_is)
    (case k29 => k_is)
    (case a30 => k_is)
    (case i30 => k_is)
    (case l30 => k_is)
    (case c30 => k_is)
    (case k30 => k_is)
    (case a31 => k_is)
    (case i31 => k_is)
    (case l31 => k_is)
    (case c31 => k_is)
    (case k31 => k_is)
    (case a32 => k_is)
    (case i32 => k_is)
    (case l32 => k_is)
    (case c32 => k_is)
    (case k32 => k_is)
    (case a33 => k_is)
    (case i33 => k_is)
    (case l33 => k_is)
    (case c33 => k_is)
    (case k33 => k_is)
    (case a34 => k_is)
    (case i34 => k_is)
    (case l34 => k_is)
    (case c34 => k_is)
    (case k34 => k_is)
    (case a35 => k_is)
    (case i35 => k_is)
    (case l35 => k_is)
    (case c35 => k_is)
    (case k35 => k_is)
    (case a36 => k_is)
    (case i36 => k_is)
    (case l36 => k_is)
    (case c36 => k_is)
    (case k36 => k_is)
    (case a37 => k_is)
    (case i37 => k_is)
    (case l37 => k_is)
    (case c37 => k_is)
    (case k37 => k_is)
    (case a38 => k_is)
    (case i38 => k_is)
    (case l38 => k_is)
    (case c38 => k_is)
    (case k38 => k_is)
    (case a39 => k_is)
    (case i39 => k_is)
    (case l39 => k_is)
    (case c39 => k_is)
    (case k39 => k_is)
    (case z1 => k_is)
    (case z2 => k_is)
    (case z3 => k_is)
    (case z4 => k_is)
    (case z5 => k_is)
    (case z6 => k_is)
    (case z7 => k_is)
    (case z8 => k_is)
    (case z9 => k_is)
    (case z10 => k_is)
    (case z11 => k_is)
    (case z12 => k_is)
    (case z13 => k_is)
    (case z14 => k_is)
    (case z15 => k_is)
    (case z16 => k_is)
    (case z17 => k_is)
    (case zsorted => k_is)
    (case zdict => k_is)

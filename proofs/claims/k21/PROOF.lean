import PyProof.Rows.All
import Wide.All
import OpenK.AllK
import Wide.FinOn
import HandS.ForMost
import HandS.Walk
import HandS.Zip
import HandS.WideBits
import HandS.IsInst
import OpenK.KEqL
import PySem.Challenge.RW_guessedzeros_k21_digits_and_zeros
set_option Elab.async false
set_option linter.all false
set_option maxRecDepth 100000
set_option maxHeartbeats 4000000
namespace GZ
open PySem PySem.Spec PyProof.Rows L2
/-! ### the text by places -/
def topS (i : Nat) : Stmt := PySem.Challenge.pw_guessedzeros_k21_digits_and_zeros.main.body.getD i (.Pass ⟨0, 0, 0, 0⟩)
abbrev s_digits_of : Stmt := topS 1
theorem sc_digits_of : FnScope ["one", "other", "many", "place"] ["one", "other", "many"] (defScope s_digits_of) := ⟨rfl, rfl, rfl, by decide +kernel, rfl, by decide +kernel, by decide +kernel⟩
abbrev s_worth_of : Stmt := topS 2
theorem sc_worth_of : FnScope ["digits", "worth", "digit"] ["digits"] (defScope s_worth_of) := ⟨rfl, rfl, rfl, by decide +kernel, rfl, by decide +kernel, by decide +kernel⟩
abbrev s_zeros_of : Stmt := topS 3
theorem sc_zeros_of : FnScope ["number", "many"] ["number", "many"] (defScope s_zeros_of) := ⟨rfl, rfl, rfl, by decide +kernel, rfl, by decide +kernel, by decide +kernel⟩
abbrev sBox : Stmt := topS 5
abbrev sTake : Stmt := topS 6
abbrev sFolded : Stmt := topS 7
abbrev sSame : Stmt := topS 8
abbrev s__law_bits : Stmt := topS 9
theorem sc__law_bits : FnScope ["_law_number_here", "_law_size", "_law_place"] ["_law_number_here", "_law_size"] (defScope s__law_bits) := ⟨rfl, rfl, rfl, by decide +kernel, rfl, by decide +kernel, by decide +kernel⟩
abbrev s__law_digits : Stmt := topS 10
theorem sc__law_digits : FnScope ["_law_one", "_law_other", "_law_many", "_law_mine", "_law_its"] ["_law_one", "_law_other", "_law_many"] (defScope s__law_digits) := ⟨rfl, rfl, rfl, by decide +kernel, rfl, by decide +kernel, by decide +kernel⟩
abbrev s__law_worth : Stmt := topS 11
theorem sc__law_worth : FnScope ["_law_digits_here", "_law_place", "_law_digit"] ["_law_digits_here"] (defScope s__law_worth) := ⟨rfl, rfl, rfl, by decide +kernel, rfl, by decide +kernel, by decide +kernel⟩
abbrev s__law_zeros : Stmt := topS 12
theorem sc__law_zeros : FnScope ["_law_number_here", "_law_many", "_law_size", "_law_found"] ["_law_number_here", "_law_many"] (defScope s__law_zeros) := ⟨rfl, rfl, rfl, by decide +kernel, rfl, by decide +kernel, by decide +kernel⟩
abbrev s__law_pair : Stmt := topS 13
theorem sc__law_pair : FnScope ["_law_box_here", "_law_many", "_law_way", "_law_full", "_law_one", "_law_low", "_law_high", "_law_run", "_law_some"] ["_law_box_here", "_law_many"] (defScope s__law_pair) := ⟨rfl, rfl, rfl, by decide +kernel, rfl, by decide +kernel, by decide +kernel⟩
abbrev s__law_number : Stmt := topS 14
theorem sc__law_number : FnScope ["_law_box_here", "_law_size", "_law_found", "_law_turn"] ["_law_box_here", "_law_size"] (defScope s__law_number) := ⟨rfl, rfl, rfl, by decide +kernel, rfl, by decide +kernel, by decide +kernel⟩
abbrev s__law_right : Stmt := topS 15
theorem sc__law_right : FnScope ["_law_box_here", "_law_many", "_law_one", "_law_other", "_law_due", "_law_turn", "_law_found", "_law_some", "_law_handed", "_law_size"] ["_law_box_here"] (defScope s__law_right) := ⟨rfl, rfl, rfl, by decide +kernel, rfl, by decide +kernel, by decide +kernel⟩
abbrev s_law : Stmt := topS 16
theorem sc_law : FnScope ["_law_script", "_law_cells", "_law_k", "_law_box_here", "_law_turn"] ["_law_script"] (defScope s_law) := ⟨rfl, rfl, rfl, by decide +kernel, rfl, by decide +kernel, by decide +kernel⟩
/-! ### built-in names that the text leaves alone -/
structure Bl (mg : Str → Option Value) : Prop where
  len : mg "len" = none
  abs : mg "abs" = none
  int : mg "int" = none
  divmod : mg "divmod" = none
  list : mg "list" = none
  enumerate : mg "enumerate" = none
  isinstance : mg "isinstance" = none
  tuple : mg "tuple" = none
  str : mg "str" = none
  bool : mg "bool" = none
  zip : mg "zip" = none
  all : mg "all" = none
  range : mg "range" = none
  max : mg "max" = none
  any : mg "any" = none
  min : mg "min" = none
  sum : mg "sum" = none
/-! ### rules with the written part told (for the blocks of comprehensions) -/
section
variable {X : Cx} {K : PySem.W.Frag}
theorem call_len_seqK (h : X.K = K := by rfl) : CallR X (.builtin "len") (fun xs H Q => ∃ p ys, xs = [.ref p] ∧ (SqL K H p ys ∨ SqT K H p ys) ∧ Q (.int ys.length) H) := by subst h; exact call_len_seq
theorem call_list_ofK (h : X.K = K := by rfl) : CallR X (.type "list") (fun xs H Q => ∃ p ys, xs = [.ref p] ∧ (SqL K H p ys ∨ SqT K H p ys) ∧ ∀ l, H l = none → Q (.ref l) (upd H l (.lst ys))) := by subst h; exact call_list_of
theorem call_tuple_ofK (h : X.K = K := by rfl) : CallR X (.type "tuple") (fun xs H Q => ∃ p ys, xs = [.ref p] ∧ ((SqL K H p ys ∧ ∀ l, H l = none → Q (.ref l) (upd H l (.tup ys))) ∨ (SqT K H p ys ∧ Q (.ref p) H))) := by subst h; exact call_tuple_of
theorem ix_listK (h : X.K = K := by rfl) : IxR X (rIxL K) := by subst h; exact ix_list
theorem ix_tupK (h : X.K = K := by rfl) : IxR X (rIxT K) := by subst h; exact ix_tup
theorem ix_seqK (h : X.K = K := by rfl) : IxR X (rIx K) := by subst h; exact ix_seq
theorem op_in_seqK (h : X.K = K := by rfl) : OpR X (compareOp .In) (rIn K false) := by subst h; exact op_in_seq
theorem op_notIn_seqK (h : X.K = K := by rfl) : OpR X (compareOp .NotIn) (rIn K true) := by subst h; exact op_notIn_seq
theorem sl_listK (h : X.K = K := by rfl) : SlR X (rSlL K) := by subst h; exact sl_list
theorem cr_sumK (hc : X.calm = true) (h : X.K = K := by rfl) : CallR X (.builtin "sum") (rSum K) := by subst h; exact cr_sum hc
theorem cr_allK (hc : X.calm = true) (h : X.K = K := by rfl) : CallR X (.builtin "all") (rAll K) := by subst h; exact cr_all hc
theorem cr_anyK (hc : X.calm = true) (h : X.K = K := by rfl) : CallR X (.builtin "any") (rAny K) := by subst h; exact cr_any hc
theorem call_isiK' (h : X.K = K := by rfl) : CallR X (.builtin "isinstance") (rIsi K) := by subst h; exact call_isi
theorem pi_listK {tg l : Expr} {tl : TE} (hl : PE X l tl) (h : X.K = K := by rfl) : PI X tg l (iList K tl) := by subst h; exact pi_list hl
theorem pi_tupK {tg l : Expr} {tl : TE} (hl : PE X l tl) (h : X.K = K := by rfl) : PI X tg l (iTup K tl) := by subst h; exact pi_tup hl
end
/-! ### heaps -/
theorem same_upd {H : Hp} {p : Addr} {o : HO} (h : H p = none) : Same H (upd H p o) := fun b x e => by
  rw [upd_ne (ne_of_none e h)]
  exact e
/-- all but what stands at b is as it was -/
def Keep (b : Addr) (H H' : Hp) : Prop := ∀ p o, H p = some o → p ≠ b → H' p = some o
theorem Keep.refl (b : Addr) (H : Hp) : Keep b H H := fun _ _ h _ => h
theorem Keep.trans {b : Addr} {H H1 H2 : Hp} (x : Keep b H H1) (y : Keep b H1 H2) : Keep b H H2 := fun p o h n => y p o (x p o h n) n
theorem Keep.ofSame {b : Addr} {H H1 : Hp} (x : Same H H1) : Keep b H H1 := fun p o h _ => x p o h
theorem Keep.upd {b : Addr} {H : Hp} {o : HO} : Keep b H (upd H b o) := fun p x h n => by
  rw [upd_ne n]
  exact h
theorem Keep.new {b p : Addr} {H : Hp} {o : HO} (h : H p = none) : Keep b H (L2.upd H p o) := .ofSame (same_upd h)
theorem Keep.seq {K : PySem.W.Frag} {b a : Addr} {H H' : Hp} {xs : List V} (e : Keep b H H') (n : a ≠ b) (h : SqL K H a xs) : SqL K H' a xs := by
  rcases h with (h | ⟨o, h⟩) | h
  · exact .inl (.inl (e _ _ h n))
  · exact .inl (.inr ⟨o, e _ _ h n⟩)
  · exact .inr h
theorem Keep.seqT {K : PySem.W.Frag} {b a : Addr} {H H' : Hp} {xs : List V} (e : Keep b H H') (n : a ≠ b) (h : SqT K H a xs) : SqT K H' a xs := by
  rcases h with (h | ⟨o, h⟩) | h
  · exact .inl (.inl (e _ _ h n))
  · exact .inl (.inr ⟨o, e _ _ h n⟩)
  · exact .inr h
theorem Same.seqT {K : PySem.W.Frag} {a : Addr} {H H' : Hp} {xs : List V} (e : Same H H') (h : SqT K H a xs) : SqT K H' a xs := by
  rcases h with (h | ⟨o, h⟩) | h
  · exact .inl (.inl (e _ _ h))
  · exact .inl (.inr ⟨o, e _ _ h⟩)
  · exact .inr h
/-- a drawing box: three ints, the last at most c -/
def BoxAt (c : Int) (H : Hp) (b : Addr) : Prop := ∃ x0 x1 x2 : Int, H b = some (.lst [.int x0, .int x1, .int x2]) ∧ 0 ≤ x0 ∧ 0 ≤ x1 ∧ x1 < 2147483647 ∧ 0 ≤ x2 ∧ x2 ≤ c
theorem BoxAt.mono {c d : Int} {H : Hp} {b : Addr} (h : BoxAt c H b) (l : c ≤ d) : BoxAt d H b := by
  obtain ⟨x0, x1, x2, e, a1, a2, a3, a4, a5⟩ := h
  exact ⟨x0, x1, x2, e, a1, a2, a3, a4, by omega⟩
theorem BoxAt.same {c : Int} {H H' : Hp} {b : Addr} (h : BoxAt c H b) (s : Same H H') : BoxAt c H' b := by
  obtain ⟨x0, x1, x2, e, r⟩ := h
  exact ⟨x0, x1, x2, s _ _ e, r⟩
theorem BoxAt.at {c : Int} {H H' : Hp} {b : Addr} (h : BoxAt c H b) (s : H' b = H b) : BoxAt c H' b := by
  obtain ⟨x0, x1, x2, e, r⟩ := h
  exact ⟨x0, x1, x2, by rw [s]; exact e, r⟩
theorem BoxAt.ne {c : Int} {H : Hp} {b p : Addr} (h : BoxAt c H b) (n : H p = none) : b ≠ p := by
  obtain ⟨x0, x1, x2, e, r⟩ := h
  exact ne_of_none e n
theorem e7 : (10 : Int) ^ ((7 : Int).toNat) = 10000000 := by decide
theorem e18 : (10 : Int) ^ ((18 : Int).toNat) = 1000000000000000000 := by decide
theorem divp_small {i j : Int} (h0 : 0 < j) (h1 : j < 2 ^ 64) : CDivP i j := by
  refine ⟨h0, ?_⟩
  show (decide ((if j == 0 then 0 else j.natAbs.log2 / 30 + 1) > 300) && _) = false
  rw [if_neg (show ¬ (j == 0) = true by simpa using (show j ≠ 0 by omega))]
  have hl : j.natAbs.log2 < 64 := PySem.Flt.log2_lt_of (by decide) (by omega)
  rw [decide_eq_false (show ¬ (j.natAbs.log2 / 30 + 1 > 300) by omega), Bool.false_and]
section
variable {P : Program} {w : World} {K : PySem.W.Frag} {mg : Str → Option Value} {base : Heap}
/-! ### _law_take -/
theorem scTake : FnScope ["_law_box_here", "_law_size", "_law_found", "_law_step", "_law_once", "_law_twice"] ["_law_box_here", "_law_size"] (defScope sTake) := ⟨rfl, rfl, rfl, by decide +kernel, rfl, by decide +kernel, by decide +kernel⟩
def spTake (k : Nat) : Sp := fun vs H Q _ => ∃ (b : Addr) (n c : Int), vs = [.ref b, .int n] ∧ BoxAt c H b ∧ 1 ≤ n ∧ n ≤ 10000000 ^ k ∧ n < 2 ^ 60 ∧ c + 2 ^ k ≤ 1000000000 ∧ 0 < k ∧
  ∀ (r : Int) (H' : Hp), 0 ≤ r → r < n → BoxAt (c + 2 ^ (k - 1)) H' b → Keep b H H' → Q (.int r) H'
theorem take_none {f : Addr} {fd : FuncData} : FnOk P w K mg base CX0 0 f fd ["_law_box_here", "_law_size"] (spTake 0) := by
  have no : ∀ vs H Q E, ¬ spTake 0 vs H Q E := fun vs H Q E h => by
    obtain ⟨b, n, c, _, _, _, _, _, _, h0, _⟩ := h
    omega
  exact ⟨fun vs H Q E h => absurd h (no vs H Q E), fun A outer s H args us vs Q E _ _ _ _ h => absurd h (no vs H Q E)⟩
theorem ok_take1 {f : Addr} {fd : FuncData} {k : Nat} (F : Fun K "_law_take" "_law_take" sTake f fd) (G : FnOk P w K mg base CX0 k f fd ["_law_box_here", "_law_size"] (spTake k)) (bf : Binds K fd ["_law_box_here", "_law_size"] []) (mf : mg "_law_take" = some (.ref f)) (B : Bl mg) :
    FnOk P w K mg base CX0 (k + 1) f fd ["_law_box_here", "_law_size"] (spTake (k + 1)) := by
  refine F.ok scTake (fun vs H Q E h => ?_) (fun cdv A outer s H vs Q E hr h => ?_)
  · obtain ⟨b, n, c, rfl, _⟩ := h
    rfl
  obtain ⟨b, n, c, rfl, hB, hn1, hnk, hn60, hc, _, q⟩ := h
  obtain ⟨x0, x1, x2, hb, h0, h1, h1', h2, h2'⟩ := hB
  have hp : (0 : Int) < 2 ^ k := Int.pow_pos (by decide)
  have hk2 : (2 : Int) ^ (k + 1) = 2 ^ k * 2 := Int.pow_succ 2 k
  refine ⟨_, pss_cons (ps_if (pt_cmpR op_gt (pe_ix ix_list (pv 0) pe_int (fun _ _ => rfl)) pe_int (nomark _))
      (pss_cons (ps_asg (pe_callB call_divmodW (by rfl) B.divmod boot_divmod (pa_cons (pe_ix ix_list (pv 0) pe_int (fun _ _ => rfl)) (pa_cons (pv 1) pa_nil)))
          (pg_tup (by rfl) (pgs_cons (pg_sub (pv 0) pe_int set_list) (pgs_cons (pg_name (i := 2) scTake.nd rfl (.inl rfl)) pgs_nil))))
        (pss_one (ps_ret (pv 2)))) pss_nil)
    (pss_cons (ps_if (pt_cmpR op_gt (pv 1) (pe_op op_pow pe_int pe_int) (nomark _))
      (pss_one (ps_ret (pe_op op_mod (pe_op op_add (pe_call G hr (by rfl) mf F.kp bf .nil pass0 (pa_cons (pv 0) (pa_cons (pe_op op_pow pe_int pe_int) pa_nil)))
          (pe_op op_mul (pe_op op_pow pe_int pe_int) (pe_call G hr (by rfl) mf F.kp bf .nil pass0 (pa_cons (pv 0) (pa_cons (pe_op op_add (pe_op op_fdiv (pe_op op_sub (pv 1) pe_int) (pe_op op_pow pe_int pe_int)) pe_int) pa_nil))))) (pv 1)))) pss_nil)
    (pss_cons (ps_asg (pe_op op_add (pe_ix ix_list (pv 0) pe_int (fun _ _ => rfl)) pe_int) (pg_sub (pv 0) pe_int set_list))
    (pss_cons (ps_set (i := 3) scTake.nd rfl (.inl rfl) (pe_op op_add pe_int (pe_op op_mul (pe_ix ix_list (pv 0) pe_int (fun _ _ => rfl)) (pe_ix ix_list (pv 0) pe_int (fun _ _ => rfl)))))
    (pss_cons (ps_set (i := 4) scTake.nd rfl (.inl rfl) (pe_op op_mod (pe_op op_mul (pe_op op_add (pe_ix ix_list (pv 0) pe_int (fun _ _ => rfl)) (pe_op op_mul pe_int (pe_ix ix_list (pv 0) pe_int (fun _ _ => rfl)))) (pv 3)) pe_int))
    (pss_cons (ps_set (i := 5) scTake.nd rfl (.inl rfl) (pe_op op_mod (pe_op op_add (pe_op op_mul (pv 4) (pe_op op_add (pe_op op_mod (pv 4) pe_int) pe_int)) (pe_ix ix_list (pv 0) pe_int (fun _ _ => rfl))) pe_int))
    (pss_one (ps_ret (pe_op op_mod (pe_op op_fdiv (pe_op op_mod (pe_op op_mul (pv 5) (pe_op op_add (pe_op op_mod (pv 5) pe_int) pe_int)) pe_int) pe_int) (pv 1))))))))), ?_⟩
  refine ⟨_, rfl, b, _, _, _, rfl, rfl, SqL.of hb, rfl, _, _, rfl, rfl, _, rfl, ite2 (fun cc => ?_) (fun cc => ?_)⟩
  · -- the great number's own digits
    refine ⟨_, rfl, b, _, _, _, rfl, rfl, SqL.of hb, rfl, _, rfl, _, _, rfl, divp_small (by omega) (by omega), fun p np => ?_⟩
    have nbp : b ≠ p := ne_of_none hb np
    refine ⟨p, _, rfl, .inl (.inl upd_same), rfl, _, _, rfl, _, rfl, b, _, _, 0, rfl, rfl, (by rw [upd_ne nbp]; exact hb), rfl, _, _, rfl, rfl, _, rfl, ?_⟩
    refine q _ _ (Int.emod_nonneg _ (by omega)) (Int.emod_lt_of_pos _ (by omega)) ⟨x0 / n, x1, x2, upd_same, Int.ediv_nonneg h0 (by omega), h1, h1', h2, by show x2 ≤ c + 2 ^ k; omega⟩ ?_
    exact Keep.trans (Keep.new np) Keep.upd
  · refine ⟨_, rfl, _, _, rfl, rfl, ⟨by decide, by decide, by decide⟩, _, _, rfl, rfl, _, rfl, ite2 (fun c2 => ?_) (fun c2 => ?_)⟩
    · -- two lesser draws
      have c3 : (10 : Int) ^ ((7 : Int).toNat) < n := of_decide_eq_true c2
      rw [e7] at c3
      have hk : 0 < k := by
        rcases Nat.eq_zero_or_pos k with z | z
        · subst z
          rw [show (10000000 : Int) ^ (0 + 1) = 10000000 by decide] at hnk
          omega
        · exact z
      obtain ⟨j, rfl⟩ : ∃ j, k = j + 1 := ⟨k - 1, by omega⟩
      have hj2 : (2 : Int) ^ (j + 1) = 2 ^ j * 2 := Int.pow_succ 2 j
      have hjp : (0 : Int) < 2 ^ j := Int.pow_pos (by decide)
      have h10 : (10000000 : Int) ≤ 10000000 ^ (j + 1) := by
        rw [Int.pow_succ]
        have : (0 : Int) < 10000000 ^ j := Int.pow_pos (by decide)
        omega
      have hdiv : (n - 1) / 10000000 + 1 ≤ 10000000 ^ (j + 1) := by
        rw [Int.pow_succ] at hnk
        have : n - 1 < 10000000 ^ (j + 1) * 10000000 := by omega
        have := Int.ediv_lt_of_lt_mul (by decide) this
        omega
      refine ⟨_, rfl, _, _, rfl, rfl, ⟨by decide, by decide, by decide⟩, b, _, c, rfl, ⟨x0, x1, x2, hb, h0, h1, h1', h2, h2'⟩, (by rw [e7]; decide), (by rw [e7]; exact h10), (by rw [e7]; decide), by omega, by omega, fun r1 H1 a1 a2 B1 k1 => ?_⟩
      refine ⟨_, _, rfl, rfl, ⟨by decide, by decide, by decide⟩, _, rfl, _, rfl, _, _, rfl, rfl, _, _, rfl, rfl, ⟨by decide, by decide, by decide⟩, _, _, rfl, rfl, (by rw [e7]; exact ⟨by decide, by decide⟩), _, _, rfl, rfl, ?_⟩
      rw [e7]
      refine ⟨b, _, c + 2 ^ j, rfl, B1, by omega, hdiv, by omega, by omega, by omega, fun r2 H2 a3 a4 B2 k2 => ?_⟩
      refine ⟨_, _, rfl, rfl, .inl ⟨by decide, by decide⟩, _, _, rfl, rfl, _, rfl, _, _, rfl, rfl, (by show (0 : Int) < n; omega), ?_⟩
      refine q _ _ (Int.emod_nonneg _ (by omega)) (Int.emod_lt_of_pos _ (by omega)) (B2.mono ?_) (k1.trans k2)
      show c + 2 ^ j + 2 ^ j ≤ c + 2 ^ (j + 1)
      omega
    · -- a turn of the wheel
      refine ⟨_, rfl, b, _, _, _, rfl, rfl, SqL.of hb, rfl, _, _, rfl, rfl, _, rfl, b, _, _, 2, rfl, rfl, hb, rfl, ?_⟩
      have hb2 : (upd H b (.lst [.int x0, .int x1, .int (x2 + 1)])) b = some (.lst [.int x0, .int x1, .int (x2 + 1)]) := upd_same
      refine ⟨_, rfl, b, _, _, _, rfl, rfl, SqL.of hb2, rfl, _, rfl, b, _, _, _, rfl, rfl, SqL.of hb2, rfl, _, _, rfl, rfl, .inl ⟨by omega, by omega⟩, _, _, rfl, rfl, ?_⟩
      refine ⟨_, rfl, b, _, _, _, rfl, rfl, SqL.of hb2, rfl, _, rfl, b, _, _, _, rfl, rfl, SqL.of hb2, rfl, _, _, rfl, rfl, .inl ⟨by omega, by omega⟩, _, _, rfl, rfl, _, rfl, _, _, rfl, rfl, .inl ⟨by omega, by omega⟩, _, _, rfl, rfl, (by show (0 : Int) < 2147483587; decide), ?_⟩
      generalize (x1 + 39373 * (x2 + 1)) * (69621 + (x2 + 1) * (x2 + 1)) = y
      have y1 := Int.emod_nonneg y (show (2147483587 : Int) ≠ 0 by decide)
      have y2 := Int.emod_lt_of_pos y (show (0 : Int) < 2147483587 by decide)
      refine ⟨_, rfl, _, rfl, _, _, rfl, rfl, (by show (0 : Int) < 30011; decide), _, _, rfl, rfl, _, _, rfl, rfl, .inl ⟨by omega, by omega⟩, _, rfl, b, _, _, _, rfl, rfl, SqL.of hb2, rfl, _, _, rfl, rfl, _, _, rfl, rfl, (by show (0 : Int) < 2147483563; decide), ?_⟩
      generalize (y % 2147483587 * (y % 2147483587 % 30011 + 5) + (x2 + 1)) = z
      have z1 := Int.emod_nonneg z (show (2147483563 : Int) ≠ 0 by decide)
      have z2 := Int.emod_lt_of_pos z (show (0 : Int) < 2147483563 by decide)
      refine ⟨_, rfl, _, rfl, _, _, rfl, rfl, (by show (0 : Int) < 1013; decide), _, _, rfl, rfl, _, _, rfl, rfl, .inl ⟨by omega, by omega⟩, _, _, rfl, rfl, (by show (0 : Int) < 998244353; decide), _, _, rfl, rfl, ⟨by decide, by decide⟩, _, rfl, _, _, rfl, rfl, (by show (0 : Int) < n; omega), ?_⟩
      refine q _ _ (Int.emod_nonneg _ (by omega)) (Int.emod_lt_of_pos _ (by omega)) ⟨x0, x1, x2 + 1, hb2, h0, h1, h1', by omega, by show x2 + 1 ≤ c + 2 ^ k; omega⟩ Keep.upd
theorem ok_take {f : Addr} {fd : FuncData} (F : Fun K "_law_take" "_law_take" sTake f fd) (bf : Binds K fd ["_law_box_here", "_law_size"] []) (mf : mg "_law_take" = some (.ref f)) (B : Bl mg) : ∀ k : Nat, FnOk P w K mg base CX0 k f fd ["_law_box_here", "_law_size"] (spTake k)
  | 0 => take_none
  | k + 1 => ok_take1 F (ok_take F bf mf B k) bf mf B
/-! ### _law_box -/
theorem scBox : FnScope ["_law_script", "_law_k", "_law_cell"] ["_law_script", "_law_k"] (defScope sBox) := ⟨rfl, rfl, rfl, by decide +kernel, rfl, by decide +kernel, by decide +kernel⟩
def spBox (K : PySem.W.Frag) : Sp := fun vs H Q _ => ∃ (a : Addr) (zs : List Int) (k : Int), vs = [.ref a, .int k] ∧ SqL K H a (zs.map V.int) ∧ 0 ≤ k ∧ k ≤ 1000 ∧
  ∀ (p : Addr) (H' : Hp), H p = none → Same H H' → BoxAt 0 H' p → Q (.ref p) H'
theorem b01 (b : Bool) : (-(2 ^ 64) < (if b = true then (1 : Int) else 0)) ∧ (if b = true then (1 : Int) else 0) < 2 ^ 64 := by cases b <;> decide
theorem b01n (b : Bool) : 0 ≤ (if b = true then (1 : Int) else 0) := by cases b <;> decide
theorem abs_nn (i : Int) : 0 ≤ (if i < 0 then -i else i) := by
  split <;> omega
theorem at_int {zs : List Int} {k : Int} (h0 : 0 ≤ k) (h : k < (zs.length : Int)) : ∃ v : Int, atI (zs.map V.int) k = some (.int v) ∧ zs[k.toNat]? = some v := by
  have hk : k.toNat < zs.length := by omega
  have ek : k = ((k.toNat : Nat) : Int) := by omega
  have q : atI (zs.map V.int) ((k.toNat : Nat) : Int) = some (.int zs[k.toNat]) := atI_nat (by rw [List.getElem?_map, List.getElem?_eq_getElem hk] <;> rfl)
  rw [← ek] at q
  exact ⟨zs[k.toNat], q, List.getElem?_eq_getElem hk⟩
theorem ok_box {f : Addr} {fd : FuncData} {k : Nat} (F : Fun K "_law_box" "_law_box" sBox f fd) (B : Bl mg) : FnOk P w K mg base CX0 (k + 1) f fd ["_law_script", "_law_k"] (spBox K) := by
  refine F.ok scBox (fun vs H Q E h => ?_) (fun cdv A outer s H vs Q E hr h => ?_)
  · obtain ⟨a, zs, k, rfl, _⟩ := h
    rfl
  obtain ⟨a, zs, k, rfl, hS, h0, h1, q⟩ := h
  refine ⟨_, pss_cons (ps_set (i := 2) scBox.nd rfl (.inl rfl) (pe_ifExp (pt_cmpR op_lt (pv 1) (pe_callB call_len_seq (by rfl) B.len PySem.boot_len (pa_cons (pv 0) pa_nil)) (nomark _)) (pe_ix ix_list (pv 0) (pv 1) (fun _ _ => rfl)) pe_int))
    (pss_one (ps_ret (pe_lst (pa_cons (pe_op op_mul (pe_callB call_abs (by rfl) B.abs boot_abs (pa_cons (pv 2) pa_nil)) (pe_callTy call_int1 (by rfl) B.int PyProof.Rows.boot_int (pa_cons (pe_cmpR op_ge (pe_callB call_abs (by rfl) B.abs boot_abs (pa_cons (pv 2) pa_nil)) (pe_op op_pow pe_int pe_int) (nomark _)) pa_nil)))
      (pa_cons (pe_op op_mod (pe_op op_mul (pe_op op_add (pe_op op_add (pe_op op_mod (pv 2) pe_int) (pe_op op_mul pe_int (pv 1))) pe_int) pe_int) pe_int) (pa_cons pe_int pa_nil)))))), ?_⟩
  refine ⟨_, rfl, _, rfl, a, _, rfl, .inl hS, _, _, rfl, rfl, _, rfl, ite2 (fun cc => ?_) (fun cc => ?_)⟩
  · have c1 : k < (((zs.map V.int).length : Nat) : Int) := of_decide_eq_true cc
    rw [List.length_map] at c1
    obtain ⟨v, hv, _⟩ := at_int h0 c1
    refine ⟨_, rfl, _, rfl, a, _, _, _, rfl, rfl, hS, hv, ?_⟩
    refine ⟨_, rfl, _, rfl, _, rfl, _, rfl, _, _, rfl, rfl, ⟨by decide, by decide, by decide⟩, _, _, rfl, rfl, .inr ⟨_, rfl, ?_⟩⟩
    refine ⟨_, _, rfl, rfl, .inr (b01 _), _, rfl, _, _, rfl, rfl, (by show (0 : Int) < 2147483629; decide), _, rfl, _, _, rfl, rfl, .inl ⟨by decide, by decide⟩, _, _, rfl, rfl, _, _, rfl, rfl, _, _, rfl, rfl, .inr ⟨by decide, by decide⟩, _, _, rfl, rfl, (by show (0 : Int) < 2147483647; decide), (by show 3 ≤ sizeLine; decide), fun p np => ?_⟩
    refine q p _ np (same_upd np) ⟨_, _, _, upd_same, Int.mul_nonneg (abs_nn v) (b01n _), Int.emod_nonneg _ (by decide), Int.emod_lt_of_pos _ (by decide), by decide, by decide⟩
  · refine ⟨_, rfl, _, rfl, _, rfl, _, rfl, _, _, rfl, rfl, ⟨by decide, by decide, by decide⟩, _, _, rfl, rfl, .inr ⟨_, rfl, ?_⟩⟩
    refine ⟨_, _, rfl, rfl, .inr (b01 _), _, rfl, _, _, rfl, rfl, (by show (0 : Int) < 2147483629; decide), _, rfl, _, _, rfl, rfl, .inl ⟨by decide, by decide⟩, _, _, rfl, rfl, _, _, rfl, rfl, _, _, rfl, rfl, .inr ⟨by decide, by decide⟩, _, _, rfl, rfl, (by show (0 : Int) < 2147483647; decide), (by show 3 ≤ sizeLine; decide), fun p np => ?_⟩
    refine q p _ np (same_upd np) ⟨_, _, _, upd_same, Int.mul_nonneg (abs_nn 0) (b01n _), Int.emod_nonneg _ (by decide), Int.emod_lt_of_pos _ (by decide), by decide, by decide⟩
/-! ### _law_folded -/
theorem scFolded : FnScope ["_law_script", "_law_size", "_law_cells", "_law_k", "_law_cell"] ["_law_script", "_law_size"] (defScope sFolded) := ⟨rfl, rfl, rfl, by decide +kernel, rfl, by decide +kernel, by decide +kernel⟩
def spFolded (K : PySem.W.Frag) : Sp := fun vs H Q _ => ∃ (a : Addr) (ns : List Int) (m : Nat), vs = [.ref a, .int (m : Int)] ∧ SqL K H a (ns.map V.int) ∧ ns.length ≤ 63 ∧ 1 ≤ m ∧ m ≤ 63 ∧
  ∀ (p : Addr) (H' : Hp) (zs : List Int), H p = none → Same H H' → H' p = some (.lst (zs.map V.int)) → zs.length = min ns.length m → Q (.ref p) H'
theorem cut_lo (ns : List Int) (m : Nat) : cutV (ns.map V.int) none (some (m : Int)) = (ns.take m).map V.int := by
  unfold cutV
  rw [HT.sIx_none, HT.sIx_nat, List.drop_zero, Nat.sub_zero, List.length_map, ← List.map_take]
  congr 1
  rw [List.take_eq_take_iff]
  omega
theorem cut_mid (ns : List Int) (m j : Nat) : ∃ ws : List Int, cutV (ns.map V.int) (some (m : Int)) (some (j : Int)) = ws.map V.int ∧ ws.length ≤ ns.length - m := by
  unfold cutV
  rw [HT.sIx_nat, HT.sIx_nat, List.length_map, ← List.map_drop, ← List.map_take]
  refine ⟨_, rfl, ?_⟩
  rw [List.length_take, List.length_drop]
  omega
theorem int_at {ws : List Int} {i : Nat} {x : V} (h : (ws.map V.int)[i]? = some x) : ∃ z, ws[i]? = some z ∧ x = .int z := by
  rw [List.getElem?_map] at h
  cases e : ws[i]? with
  | none =>
    rw [e] at h
    cases h
  | some z =>
    rw [e] at h
    exact ⟨z, rfl, (Option.some.inj h).symm⟩
theorem map_set (zs : List Int) (j : Nat) (v : Int) : (zs.map V.int).set j (.int v) = (zs.set j v).map V.int := List.map_set.symm
theorem ixN_nat {n j : Nat} (h : j < n) : ixN n (j : Int) = some j := by
  unfold ixN
  rw [if_pos (Int.natCast_nonneg j), if_pos (by omega), Int.toNat_natCast]
theorem ok_folded {f : Addr} {fd : FuncData} {k : Nat} (F : Fun K "_law_folded" "_law_folded" sFolded f fd) (B : Bl mg) : FnOk P w K mg base CX0 (k + 1) f fd ["_law_script", "_law_size"] (spFolded K) := by
  refine F.ok scFolded (fun vs H Q E h => ?_) (fun cdv A outer s H vs Q E hr h => ?_)
  · obtain ⟨a, ns, m, rfl, _⟩ := h
    rfl
  obtain ⟨a, ns, m, rfl, hS, h63, hm1, hm2, q⟩ := h
  refine ⟨_, pss_cons (ps_set (i := 2) scFolded.nd rfl (.inl rfl) (pe_callTy call_list_of (by rfl) B.list PyProof.Rows.boot_list (pa_cons (pe_slice sl_list (pv 0) po_none (po_some (pv 1))) pa_nil)))
    (pss_cons (ps_for PassesOwn.never rfl (pi_enum (by rfl) B.enumerate (pa_cons (pe_slice sl_list (pv 0) (po_some (pv 1)) (po_some pe_int)) pa_nil))
        (pg_tup rfl (pgs_cons (pg_name (i := 3) scFolded.nd rfl (.inl rfl)) (pgs_cons (pg_name (i := 4) scFolded.nd rfl (.inl rfl)) pgs_nil)))
      (pss_one (ps_asg (pe_op op_add (pe_ix ix_list (pv 2) (pe_op op_mod (pv 3) (pv 1)) (fun _ _ => rfl)) (pe_op op_mul (pv 4) (pe_op op_add (pv 3) pe_int))) (pg_sub (pv 2) (pe_op op_mod (pv 3) (pv 1)) set_list))))
    (pss_one (ps_ret (pv 2)))), ?_⟩
  refine ⟨_, rfl, _, rfl, _, rfl, a, _, rfl, hS, fun c0 nc0 => ?_⟩
  rw [cut_lo]
  have s0 : Same H (upd H c0 (.lst ((ns.take m).map V.int))) := same_upd nc0
  refine ⟨c0, _, rfl, .inl (.inl (.inl upd_same)), fun p np => ?_⟩
  have npH : H p = none := s0.free np
  have ne0 : c0 ≠ p := fun e => by
    subst e
    rw [upd_same] at np
    cases np
  have s1 := s0.trans (same_upd (o := .lst ((ns.take m).map V.int)) np)
  refine ⟨_, rfl, _, rfl, _, rfl, _, rfl, a, _, rfl, s1.seq hS, fun c nc => ?_⟩
  obtain ⟨ws, ew, lw⟩ := cut_mid ns m 63
  rw [show ((63 : Nat) : Int) = (63 : Int) from rfl] at ew
  rw [ew]
  have s2 := s1.trans (same_upd (o := .lst (ws.map V.int)) nc)
  have nec : c ≠ p := fun e => by
    subst e
    rw [upd_same] at nc
    cases nc
  refine ⟨c, _, rfl, .inl (.inl upd_same), ?_⟩
  refine for_it (walk_enum (K := K) (a := c) (xs := ws.map V.int)) (fun i σ H3 => ∃ (y3 y4 : Option V) (zs : List Int), σ = [some (.ref a), some (.int (m : Int)), some (.ref p), y3, y4] ∧ Same H H3 ∧ H3 c = some (.lst (ws.map V.int)) ∧ H3 p = some (.lst (zs.map V.int)) ∧ zs.length = min ns.length m)
    ⟨none, none, ns.take m, rfl, s2, upd_same, ?_, ?_⟩ (fun i σ H3 _ ⟨_, _, _, _, _, e, _⟩ => .inl (.inl e)) ?_ ?_
  · rw [upd_ne nec.symm]
    exact upd_same
  · rw [List.length_take, Nat.min_comm]
  · rintro i v σ H3 H4 hi ⟨y3, y4, zs, rfl, s3, ec, ep, el⟩ ⟨T, x, y, rfl, nT, rfl, e1, e2⟩
    cases e1
    obtain ⟨z, _, rfl⟩ := int_at e2
    rw [List.length_map] at hi
    have npT : p ≠ T := ne_of_none ep nT
    have ncT : c ≠ T := ne_of_none ec nT
    have sT : Same H3 (upd H3 T (.tup [.int (i : Nat), .int z])) := same_upd nT
    refine ⟨T, _, rfl, .inl (.inl upd_same), rfl, _, _, rfl, _, _, rfl, rfl, ?_⟩
    have lm : (i : Int) % (m : Int) = ((i % m : Nat) : Int) := rfl
    have hl : i % m < zs.length := by
      have := Nat.mod_lt i (show 0 < m by omega)
      omega
    have ev : (zs.map V.int)[i % m]? = some (.int zs[i % m]) := by
      rw [List.getElem?_map, List.getElem?_eq_getElem hl]
      rfl
    refine ⟨_, rfl, _, rfl, _, rfl, _, _, rfl, rfl, (by show (0 : Int) < (m : Int); omega), p, _, _, _, rfl, rfl, SqL.of (sT _ _ ep), (by rw [lm]; exact atI_nat ev), _, rfl, _, rfl, _, _, rfl, rfl, _, _, rfl, rfl, .inr ⟨by omega, by omega⟩, _, _, rfl, rfl, ?_⟩
    refine ⟨_, rfl, _, rfl, _, rfl, _, _, rfl, rfl, (by show (0 : Int) < (m : Int); omega), p, _, _, i % m, rfl, rfl, sT _ _ ep, (by rw [lm, List.length_map]; exact ixN_nat hl), ?_⟩
    refine ⟨_, _, zs.set (i % m) (zs[i % m] + z * ((i : Int) + 2)), rfl, fun b o e => ?_, ?_, ?_, ?_⟩
    · rw [upd_ne (ne_of_none e npH)]
      exact sT _ _ (s3 _ _ e)
    · rw [upd_ne nec]
      exact sT _ _ ec
    · rw [upd_same, map_set]
    · rw [List.length_set]
      exact el
  · rintro σ H3 ⟨y3, y4, zs, rfl, s3, ec, ep, el⟩
    exact ⟨_, rfl, q p H3 zs npH s3 ep el⟩
/-! ### _law_same: of two things of one kind and worth -/
theorem scSame : FnScope ["_law_found", "_law_due", "_law_one", "_law_other"] ["_law_found", "_law_due"] (defScope sSame) := ⟨rfl, rfl, rfl, by decide +kernel, rfl, by decide +kernel, by decide +kernel⟩
def Lv : Nat → PyData → Prop
  | _, .none => True
  | _, .bool _ => True
  | _, .int _ => True
  | _, .str _ => True
  | n + 1, .list ds => ds.length ≤ 1000000 ∧ ∀ d ∈ ds, Lv n d
  | n + 1, .tuple ds => ds.length ≤ 1000000 ∧ ∀ d ∈ ds, Lv n d
  | _, _ => False
mutual
theorem Dp.same {H H' : Hp} (s : Same H H') : ∀ (d : PyData) (v : V), Dp K H v d → Dp K H' v d
  | .none, _, h => by
    cases h
    exact .non
  | .bool b, _, h => by
    cases h
    exact .bl b
  | .int i, _, h => by
    cases h
    exact .int i
  | .str x, _, h => by
    cases h
    exact .str x
  | .list ds, _, h => by
    cases h with
    | lst hs ha => exact .lst (s.seq hs) (Dp.sameAll s ds _ ha)
  | .tuple ds, _, h => by
    cases h with
    | tup hs ha => exact .tup (Same.seqT s hs) (Dp.sameAll s ds _ ha)
  | .dict _, _, h => by cases h
theorem Dp.sameAll {H H' : Hp} (s : Same H H') : ∀ (ds : List PyData) (vs : List V), DpAll K H vs ds → DpAll K H' vs ds
  | [], _, h => by
    cases h
    exact .nil
  | d :: ds, _, h => by
    cases h with
    | cons h1 h2 => exact .cons (Dp.same s d _ h1) (Dp.sameAll s ds _ h2)
end
theorem DpAll.len {H : Hp} : ∀ {ds : List PyData} {vs : List V}, DpAll K H vs ds → vs.length = ds.length
  | [], _, h => by
    cases h
    rfl
  | d :: ds, _, h => by
    cases h with
    | cons h1 h2 => rw [List.length_cons, List.length_cons, DpAll.len h2]
theorem DpAll.get {H : Hp} : ∀ {ds : List PyData} {vs : List V} {i : Nat} {x : V}, DpAll K H vs ds → vs[i]? = some x → ∃ d, ds[i]? = some d ∧ Dp K H x d
  | [], _, i, x, h, e => by
    cases h
    cases e
  | d :: ds, _, 0, x, h, e => by
    cases h with
    | cons h1 h2 =>
      cases e
      exact ⟨d, rfl, h1⟩
  | d :: ds, _, i + 1, x, h, e => by
    cases h with
    | @cons _ vs _ _ h1 h2 => exact DpAll.get (ds := ds) (vs := vs) h2 (show vs[i]? = some x from e)
theorem walk_zipT {a b : Addr} {xs ys : List V} {n : Nat} (hn : n = min xs.length ys.length) : Walk (RZ.ItzT K a b) n (fun H => SqT K H a xs ∧ SqT K H b ys) (YPair (fun i => xs[i]?) (fun i => ys[i]?)) := by
  subst hn
  refine ⟨fun i _ hi q => ?_, fun _ q => ⟨xs, ys, q.1, q.2, by omega⟩, fun i H v H' _ q y => ?_⟩
  · have h1 : i < xs.length := by omega
    have h2 : i < ys.length := by omega
    exact ⟨xs, ys, xs[i], ys[i], q.1, q.2, by simp [h1], by simp [h2]⟩
  · obtain ⟨T, x, z, h1, h2, h3, h4, h5⟩ := y
    exact ⟨T, x, z, h1, h2, h3, h4 xs q.1, h5 ys q.2⟩
theorem ty_lst {H : Hp} {a : Addr} {xs : List V} (h : SqL K H a xs) : TyX K H (.ref a) (.type "list") := by
  rcases h with (h | ⟨o, h⟩) | ⟨o, its, n, h1, h2, _⟩
  · exact .base (.lst h)
  · exact .base (.frz h)
  · exact .kList h1 h2
theorem ty_tup {H : Hp} {a : Addr} {xs : List V} (h : SqT K H a xs) : TyX K H (.ref a) (.type "tuple") := by
  rcases h with (h | ⟨o, h⟩) | ⟨o, its, n, h1, h2, _⟩
  · exact .base (.tup h)
  · exact .fTuple h
  · exact .kTuple h1 h2
def spSame (K : PySem.W.Frag) (k : Nat) : Sp := fun vs H Q _ => ∃ (x y : V) (d : PyData) (j : Nat), vs = [x, y] ∧ k = j + 1 ∧ Lv j d ∧ Dp K H x d ∧ Dp K H y d ∧ ∀ H', Same H H' → Q (.bl true) H'
theorem same_none {f : Addr} {fd : FuncData} : FnOk P w K mg base CX0 0 f fd ["_law_found", "_law_due"] (spSame K 0) := by
  have no : ∀ vs H Q E, ¬ spSame K 0 vs H Q E := fun vs H Q E h => by
    obtain ⟨x, y, d, j, _, h0, _⟩ := h
    omega
  exact ⟨fun vs H Q E h => absurd h (no vs H Q E), fun A outer s H args us vs Q E _ _ _ _ h => absurd h (no vs H Q E)⟩
theorem yesT {σ : L2.St} {H : Hp} {R S : Hp → Prop} (h : R H) : tYes σ H fun b H3 => if b = true then R H3 else S H3 := h
theorem repl_snoc {α : Type} (i : Nat) (x : α) : List.replicate i x ++ [x] = List.replicate (i + 1) x := List.replicate_succ'.symm
theorem all_repl (n : Nat) : (List.replicate n true).all id = true := by
  rw [List.all_eq_true]
  intro x hx
  rw [List.eq_of_mem_replicate hx]
  rfl
theorem kitLT {t : String} {r1 r2 : Bool} (h1 : kitB t "list" = some r1) (h2 : kitB t "tuple" = some r2) : PySem.W.kitAny K (.type t) [.type "list", .type "tuple"] = some (r1 || r2) := by
  refine kitAny_cons (kit_ty h1) (fun e => ?_) (fun e => by rw [e]; rfl)
  rw [e, Bool.false_or]
  refine kitAny_cons (kit_ty h2) (fun e => ?_) (fun e => e)
  rw [e]
  rfl
theorem ok_same1 {f : Addr} {fd : FuncData} {k : Nat} (F : Fun K "_law_same" "_law_same" sSame f fd) (G : FnOk P w K mg base CX0 k f fd ["_law_found", "_law_due"] (spSame K k)) (bf : Binds K fd ["_law_found", "_law_due"] []) (mf : mg "_law_same" = some (.ref f)) (B : Bl mg) :
    FnOk P w K mg base CX0 (k + 1) f fd ["_law_found", "_law_due"] (spSame K (k + 1)) := by
  refine F.ok scSame (fun vs H Q E h => ?_) (fun cdv A outer s H vs Q E hr h => ?_)
  · obtain ⟨x, y, d, j, rfl, _⟩ := h
    rfl
  obtain ⟨x, y, d, j, rfl, ej, lv, dx, dy, q⟩ := h
  obtain rfl : k = j := by omega
  refine ⟨_, pss_cons (ps_if (pt_val (pe_callB call_isiT (by rfl) B.isinstance boot_isinstance (pa_cons (pv 1) (pa_cons (pe_tup (pa_cons (pe_bltn (v := .ty "list") (by rfl) B.list PyProof.Rows.boot_list rfl) (pa_cons (pe_bltn (v := .ty "tuple") (by rfl) B.tuple PyProof.Rows.boot_tuple rfl) pa_nil))) pa_nil))))
      (pss_cons (ps_if (PW.pt (pw_or (pt_cmpR op_ne (pe_callB call_isi (by rfl) B.isinstance boot_isinstance (pa_cons (pv 0) (pa_cons (pe_bltn (v := .ty "list") (by rfl) B.list PyProof.Rows.boot_list rfl) pa_nil))) (pe_callB call_isi (by rfl) B.isinstance boot_isinstance (pa_cons (pv 1) (pa_cons (pe_bltn (v := .ty "list") (by rfl) B.list PyProof.Rows.boot_list rfl) pa_nil))) (nomark _))
          (pw_or1 (pt_cmpR op_ne (pe_callB call_isi (by rfl) B.isinstance boot_isinstance (pa_cons (pv 0) (pa_cons (pe_bltn (v := .ty "tuple") (by rfl) B.tuple PyProof.Rows.boot_tuple rfl) pa_nil))) (pe_callB call_isi (by rfl) B.isinstance boot_isinstance (pa_cons (pv 1) (pa_cons (pe_bltn (v := .ty "tuple") (by rfl) B.tuple PyProof.Rows.boot_tuple rfl) pa_nil))) (nomark _)))))
          (pss_one (ps_ret pe_bl)) pss_nil)
        (pss_one (ps_ret (pe_and (pe_cmpR op_eq (pe_callB call_len_seq (by rfl) B.len PySem.boot_len (pa_cons (pv 0) pa_nil)) (pe_callB call_len_seq (by rfl) B.len PySem.boot_len (pa_cons (pv 1) pa_nil)) (nomark _))
          (pe_one (pe_callB (cr_all rfl) (by rfl) B.all boot_all (pa_cons (pe_lc (own := [("_law_one", 2), ("_law_other", 3)]) (g := gTup K 2 (gCons (gName 2) (gCons (gName 3) gNil))) (by rfl) scSame.nd (RZ.pi_zipA (by rfl) B.zip (pa_cons (pv 0) (pa_cons (pv 1) pa_nil)))
            (blkOk_by (own := [("_law_one", 2), ("_law_other", 3)]) (N := ["_law_found", "_law_due", "_law_one", "_law_other"]) (sc := defScope sSame) (by decide +kernel))
            (fun _ _ _ _ _ => pg_tup rfl (pgs_cons (pg_name (i := 2) scSame.nd rfl (Or.inl rfl) (.inr rfl)) (pgs_cons (pg_name (i := 3) scSame.nd rfl (Or.inl rfl) (.inr rfl)) pgs_nil))) (fun _ _ _ _ _ => pts_nil)
            (fun _ _ _ _ _ => pe_call G hr (by rfl) mf F.kp bf .nil pass0 (pa_cons (pv 2) (pa_cons (pv 3) pa_nil)))) pa_nil))))))) pss_nil)
    (pss_cons (ps_if (PW.pt (pw_or (pt_cmpR op_isN (pv 1) pe_non (nomark _)) (pw_or1 (pt_val (pe_callB call_isi (by rfl) B.isinstance boot_isinstance (pa_cons (pv 1) (pa_cons (pe_bltn (v := .ty "str") (by rfl) B.str PyProof.Rows.boot_str rfl) pa_nil)))))))
      (pss_one (ps_ret (pe_and (pe_cmpR op_eq (pv 0) (pv 1) (nomark _)) (pe_one (pe_cmpR op_eq (pe_callB call_isi (by rfl) B.isinstance boot_isinstance (pa_cons (pv 0) (pa_cons (pe_bltn (v := .ty "str") (by rfl) B.str PyProof.Rows.boot_str rfl) pa_nil))) (pe_callB call_isi (by rfl) B.isinstance boot_isinstance (pa_cons (pv 1) (pa_cons (pe_bltn (v := .ty "str") (by rfl) B.str PyProof.Rows.boot_str rfl) pa_nil))) (nomark _)))))) pss_nil)
    (pss_one (ps_ret (pe_and (pe_callB call_isi (by rfl) B.isinstance boot_isinstance (pa_cons (pv 0) (pa_cons (pe_bltn (v := .ty "int") (by rfl) B.int PyProof.Rows.boot_int rfl) pa_nil))) (pe_and (pe_cmpR op_eq (pe_callB call_isi (by rfl) B.isinstance boot_isinstance (pa_cons (pv 0) (pa_cons (pe_bltn (v := .ty "bool") (by rfl) B.bool PyProof.Rows.boot_bool rfl) pa_nil))) (pe_callB call_isi (by rfl) B.isinstance boot_isinstance (pa_cons (pv 1) (pa_cons (pe_bltn (v := .ty "bool") (by rfl) B.bool PyProof.Rows.boot_bool rfl) pa_nil))) (nomark _))
      (pe_one (pe_cmpR op_eq (pv 0) (pv 1) (nomark _)))))))), ?_⟩
  have pr : Paired ClsV [.ty "list", .ty "tuple"] [.type "list", .type "tuple"] := .cons (.ty _) (.cons (.ty _) .nil)
  refine ⟨_, rfl, (by show 2 ≤ sizeLine; decide), fun tp ntp => ?_⟩
  have s0 : Same H (upd H tp (.tup [.ty "list", .ty "tuple"])) := same_upd ntp
  cases d with
  | none =>
    cases dx
    cases dy
    refine ⟨_, tp, _, _, _, _, rfl, upd_same, pr, .base .non, kitLT (t := "NoneType") (r1 := false) (r2 := false) (by decide +kernel) (by decide +kernel), _, rfl, iteF ?_⟩
    refine ⟨_, rfl, rfl, _, rfl, iteT (iteT ?_)⟩
    refine ⟨_, rfl, _, rfl, rfl, _, rfl, iteT ?_⟩
    refine ⟨_, rfl, _, _, _, _, _, rfl, .ty _, .base .non, kit_ty (by decide +kernel : kitB "NoneType" "str" = some false), _, rfl, _, _, _, _, _, rfl, .ty _, .base .non, kit_ty (by decide +kernel : kitB "NoneType" "str" = some false), rfl, q _ s0⟩
  | bool b =>
    cases dx
    cases dy
    refine ⟨_, tp, _, _, _, _, rfl, upd_same, pr, .base (.bl _), kitLT (t := "bool") (r1 := false) (r2 := false) (by decide +kernel) (by decide +kernel), _, rfl, iteF ?_⟩
    refine ⟨_, rfl, rfl, _, rfl, iteF ?_⟩
    refine ⟨_, rfl, _, _, _, _, _, rfl, .ty _, .base (.bl _), kit_ty (by decide +kernel : kitB "bool" "str" = some false), _, rfl, iteF ?_⟩
    refine ⟨_, rfl, _, _, _, _, _, rfl, .ty _, .base (.bl _), kit_ty (by decide +kernel : kitB "bool" "int" = some true), _, rfl, iteT ?_⟩
    refine ⟨_, rfl, _, _, _, _, _, rfl, .ty _, .base (.bl _), kit_ty (by decide +kernel : kitB "bool" "bool" = some true), _, rfl, _, _, _, _, _, rfl, .ty _, .base (.bl _), kit_ty (by decide +kernel : kitB "bool" "bool" = some true), rfl, _, rfl, iteT ?_⟩
    refine ⟨_, rfl, _, rfl, rfl, ?_⟩
    rw [decide_eq_true rfl]
    exact q _ s0
  | int i =>
    cases dx
    cases dy
    refine ⟨_, tp, _, _, _, _, rfl, upd_same, pr, .base (.int _), kitLT (t := "int") (r1 := false) (r2 := false) (by decide +kernel) (by decide +kernel), _, rfl, iteF ?_⟩
    refine ⟨_, rfl, rfl, _, rfl, iteF ?_⟩
    refine ⟨_, rfl, _, _, _, _, _, rfl, .ty _, .base (.int _), kit_ty (by decide +kernel : kitB "int" "str" = some false), _, rfl, iteF ?_⟩
    refine ⟨_, rfl, _, _, _, _, _, rfl, .ty _, .base (.int _), kit_ty (by decide +kernel : kitB "int" "int" = some true), _, rfl, iteT ?_⟩
    refine ⟨_, rfl, _, _, _, _, _, rfl, .ty _, .base (.int _), kit_ty (by decide +kernel : kitB "int" "bool" = some false), _, rfl, _, _, _, _, _, rfl, .ty _, .base (.int _), kit_ty (by decide +kernel : kitB "int" "bool" = some false), rfl, _, rfl, iteT ?_⟩
    refine ⟨_, rfl, _, rfl, rfl, ?_⟩
    rw [decide_eq_true rfl]
    exact q _ s0
  | str z =>
    cases dx
    cases dy
    refine ⟨_, tp, _, _, _, _, rfl, upd_same, pr, .base (.str _), kitLT (t := "str") (r1 := false) (r2 := false) (by decide +kernel) (by decide +kernel), _, rfl, iteF ?_⟩
    refine ⟨_, rfl, rfl, _, rfl, iteF ?_⟩
    refine ⟨_, rfl, _, _, _, _, _, rfl, .ty _, .base (.str _), kit_ty (by decide +kernel : kitB "str" "str" = some true), _, rfl, iteT ?_⟩
    refine ⟨_, rfl, _, rfl, rfl, ?_⟩
    rw [decide_eq_true rfl]
    refine ⟨_, rfl, iteT ?_⟩
    exact ⟨_, rfl, _, _, _, _, _, rfl, .ty _, .base (.str _), kit_ty (by decide +kernel : kitB "str" "str" = some true), _, rfl, _, _, _, _, _, rfl, .ty _, .base (.str _), kit_ty (by decide +kernel : kitB "str" "str" = some true), rfl, q _ s0⟩
  | list ds =>
    cases dx with
    | @lst a xs _ hx ax =>
    cases dy with
    | @lst b ys _ hy ay =>
    obtain ⟨i, rfl⟩ : ∃ i, k = i + 1 := by
      cases k with
      | zero => exact absurd lv id
      | succ i => exact ⟨i, rfl⟩
    have lx := DpAll.len ax
    have ly := DpAll.len ay
    have hx1 := s0.seq hx
    have hy1 := s0.seq hy
    refine ⟨_, tp, _, _, _, _, rfl, upd_same, pr, ty_lst hy1, kitLT (t := "list") (r1 := true) (r2 := false) (by decide +kernel) (by decide +kernel), _, rfl, iteT ?_⟩
    refine ⟨_, rfl, _, _, _, _, _, rfl, .ty _, ty_lst hx1, kit_ty (by decide +kernel : kitB "list" "list" = some true), _, rfl, _, _, _, _, _, rfl, .ty _, ty_lst hy1, kit_ty (by decide +kernel : kitB "list" "list" = some true), rfl, _, rfl, iteF ?_⟩
    refine ⟨_, rfl, _, _, _, _, _, rfl, .ty _, ty_lst hx1, kit_ty (by decide +kernel : kitB "list" "tuple" = some false), _, rfl, _, _, _, _, _, rfl, .ty _, ty_lst hy1, kit_ty (by decide +kernel : kitB "list" "tuple" = some false), rfl, _, rfl, iteF ?_⟩
    refine ⟨_, rfl, a, _, rfl, .inl hx1, _, rfl, b, _, rfl, .inl hy1, rfl, ?_⟩
    rw [decide_eq_true (by rw [lx, ly])]
    refine ⟨_, rfl, iteT ?_⟩
    refine ⟨_, rfl, _, rfl, a, b, xs, ys, rfl, .inl ⟨hx1, hy1, fun D nD => ?_⟩⟩
    have sD := s0.trans (same_upd (o := .lst []) nD)
    refine lc_it (walk_zip (K := K) (a := a) (b := b) (xs := xs) (ys := ys) rfl) (fun i H3 => Same H H3 ∧ H3 D = some (.lst (List.replicate i (.bl true)))) ⟨sD, upd_same⟩ (fun i H3 _ ⟨s3, _⟩ => ⟨s3.seq hx, s3.seq hy⟩) ?_ ?_
    · rintro i v H3 H4 hi ⟨s3, eD⟩ ⟨T, x, y, rfl, nT, rfl, e1, e2⟩
      obtain ⟨d1, g1, p1⟩ := DpAll.get ax e1
      obtain ⟨d2, g2, p2⟩ := DpAll.get ay e2
      obtain rfl : d1 = d2 := Option.some.inj (g1.symm.trans g2)
      have s4 := s3.trans (same_upd (o := .tup [x, y]) nT)
      refine ⟨T, _, rfl, .inl (.inl upd_same), rfl, _, _, rfl, _, _, rfl, rfl, rfl, ?_⟩
      refine yesT ?_
      refine ⟨_, rfl, _, rfl, x, y, d1, _, rfl, rfl, lv.2 d1 (List.mem_of_getElem? g1), Dp.same s4 _ _ p1, Dp.same s4 _ _ p2, fun H5 s5 => ?_⟩
      refine ⟨_, s5 _ _ (by rw [upd_ne (ne_of_none eD nT)]; exact eD), ?_, fun p o e => ?_, ?_⟩
      · rw [List.length_replicate]
        have := lv.1
        refine Nat.lt_of_lt_of_le (show i < 1000000 by omega) (by decide)
      · rw [upd_ne (ne_of_none e (s0.free nD))]
        exact s5 _ _ (s4 _ _ e)
      · rw [upd_same, repl_snoc]
    · rintro H3 ⟨s3, eD⟩
      refine ⟨D, List.replicate (min xs.length ys.length) true, rfl, .inl (.inl (by rw [List.map_replicate]; exact eD)), ?_⟩
      rw [all_repl]
      exact q _ s3
  | tuple ds =>
    cases dx with
    | @tup a xs _ hx ax =>
    cases dy with
    | @tup b ys _ hy ay =>
    obtain ⟨i, rfl⟩ : ∃ i, k = i + 1 := by
      cases k with
      | zero => exact absurd lv id
      | succ i => exact ⟨i, rfl⟩
    have lx := DpAll.len ax
    have ly := DpAll.len ay
    have hx1 := Same.seqT s0 hx
    have hy1 := Same.seqT s0 hy
    refine ⟨_, tp, _, _, _, _, rfl, upd_same, pr, ty_tup hy1, kitLT (t := "tuple") (r1 := false) (r2 := true) (by decide +kernel) (by decide +kernel), _, rfl, iteT ?_⟩
    refine ⟨_, rfl, _, _, _, _, _, rfl, .ty _, ty_tup hx1, kit_ty (by decide +kernel : kitB "tuple" "list" = some false), _, rfl, _, _, _, _, _, rfl, .ty _, ty_tup hy1, kit_ty (by decide +kernel : kitB "tuple" "list" = some false), rfl, _, rfl, iteF ?_⟩
    refine ⟨_, rfl, _, _, _, _, _, rfl, .ty _, ty_tup hx1, kit_ty (by decide +kernel : kitB "tuple" "tuple" = some true), _, rfl, _, _, _, _, _, rfl, .ty _, ty_tup hy1, kit_ty (by decide +kernel : kitB "tuple" "tuple" = some true), rfl, _, rfl, iteF ?_⟩
    refine ⟨_, rfl, a, _, rfl, .inr hx1, _, rfl, b, _, rfl, .inr hy1, rfl, ?_⟩
    rw [decide_eq_true (by rw [lx, ly])]
    refine ⟨_, rfl, iteT ?_⟩
    refine ⟨_, rfl, _, rfl, a, b, xs, ys, rfl, .inr ⟨hx1, hy1, fun D nD => ?_⟩⟩
    have sD := s0.trans (same_upd (o := .lst []) nD)
    refine lc_it (walk_zipT (K := K) (a := a) (b := b) (xs := xs) (ys := ys) rfl) (fun i H3 => Same H H3 ∧ H3 D = some (.lst (List.replicate i (.bl true)))) ⟨sD, upd_same⟩ (fun i H3 _ ⟨s3, _⟩ => ⟨Same.seqT s3 hx, Same.seqT s3 hy⟩) ?_ ?_
    · rintro i v H3 H4 hi ⟨s3, eD⟩ ⟨T, x, y, rfl, nT, rfl, e1, e2⟩
      obtain ⟨d1, g1, p1⟩ := DpAll.get ax e1
      obtain ⟨d2, g2, p2⟩ := DpAll.get ay e2
      obtain rfl : d1 = d2 := Option.some.inj (g1.symm.trans g2)
      have s4 := s3.trans (same_upd (o := .tup [x, y]) nT)
      refine ⟨T, _, rfl, .inl (.inl upd_same), rfl, _, _, rfl, _, _, rfl, rfl, rfl, ?_⟩
      refine yesT ?_
      refine ⟨_, rfl, _, rfl, x, y, d1, _, rfl, rfl, lv.2 d1 (List.mem_of_getElem? g1), Dp.same s4 _ _ p1, Dp.same s4 _ _ p2, fun H5 s5 => ?_⟩
      refine ⟨_, s5 _ _ (by rw [upd_ne (ne_of_none eD nT)]; exact eD), ?_, fun p o e => ?_, ?_⟩
      · rw [List.length_replicate]
        have := lv.1
        refine Nat.lt_of_lt_of_le (show i < 1000000 by omega) (by decide)
      · rw [upd_ne (ne_of_none e (s0.free nD))]
        exact s5 _ _ (s4 _ _ e)
      · rw [upd_same, repl_snoc]
    · rintro H3 ⟨s3, eD⟩
      refine ⟨D, List.replicate (min xs.length ys.length) true, rfl, .inl (.inl (by rw [List.map_replicate]; exact eD)), ?_⟩
      rw [all_repl]
      exact q _ s3
  | dict _ => cases dx
theorem ok_same {f : Addr} {fd : FuncData} (F : Fun K "_law_same" "_law_same" sSame f fd) (bf : Binds K fd ["_law_found", "_law_due"] []) (mf : mg "_law_same" = some (.ref f)) (B : Bl mg) : ∀ k : Nat, FnOk P w K mg base CX0 k f fd ["_law_found", "_law_due"] (spSame K k)
  | 0 => same_none
  | k + 1 => ok_same1 F (ok_same F bf mf B k) bf mf B
end
end GZ
namespace GM
/-! ### digits, their worth, marks, the first mark -/
def wv : List Int → Int
  | [] => 0
  | d :: r => d * 2 ^ r.length + wv r
def isM (p d nx : Int) : Bool := decide (d ≠ 0) && decide (nx ≠ (if p = 0 then -d else d))
def fmS : Int → List Int → Nat
  | _, [] => 0
  | p, d :: r => if isM p d (r.headD 0) then 0 else fmS d r + 1
def Dig (ds : List Int) : Prop := ∀ d ∈ ds, d = 0 ∨ d = 1 ∨ d = -1
theorem pow_pos' (n : Nat) : (0 : Int) < 2 ^ n := Int.pow_pos (by decide)
theorem pow_s (n : Nat) : (2 : Int) ^ (n + 1) = 2 ^ n * 2 := Int.pow_succ 2 n
theorem wv_lt : ∀ ds : List Int, Dig ds → -(2 ^ ds.length) < wv ds ∧ wv ds < 2 ^ ds.length
  | [], _ => by decide
  | d :: r, h => by
    have ih := wv_lt r fun x hx => h x (List.mem_cons_of_mem _ hx)
    have hd := h d List.mem_cons_self
    have hp := pow_s r.length
    show -(2 ^ (r.length + 1)) < d * 2 ^ r.length + wv r ∧ d * 2 ^ r.length + wv r < 2 ^ (r.length + 1)
    rcases hd with z | z | z <;> subst z <;> omega
theorem fmS_le : ∀ (p : Int) (ds : List Int), fmS p ds ≤ ds.length
  | _, [] => Nat.le_refl _
  | p, d :: r => by
    have := fmS_le d r
    unfold fmS
    split <;> simp only [List.length_cons] <;> omega
theorem run_lemma : ∀ (ds : List Int) (s p c : Int), Dig ds → (s = 1 ∨ s = -1) → ((p = 0 ∧ c = s) ∨ (p ≠ 0 ∧ c = -s)) →
    fmS p (c :: ds) ≤ ds.length ∧ (2 : Int) ^ (ds.length - fmS p (c :: ds)) < 2 * (s * (s * 2 ^ ds.length + wv ds)) ∧ s * (s * 2 ^ ds.length + wv ds) < 2 ^ (ds.length - fmS p (c :: ds) + 1)
  | [], s, p, c, _, hs, hc => by
    have e : fmS p [c] = 0 := by
      unfold fmS isM
      rcases hc with ⟨h1, h2⟩ | ⟨h1, h2⟩
      · subst h1 h2
        rcases hs with z | z <;> subst z <;> decide
      · have n1 : ¬ p = 0 := h1
        rw [if_neg n1]
        subst h2
        rcases hs with z | z <;> subst z <;> decide
    rw [e]
    rcases hs with z | z <;> subst z <;> decide
  | d :: r, s, p, c, hd, hs, hc => by
    have hr : Dig r := fun x hx => hd x (List.mem_cons_of_mem _ hx)
    have hd0 := hd d List.mem_cons_self
    have hcv : c ≠ 0 ∧ (if p = 0 then -c else c) = -s := by
      rcases hc with ⟨h1, h2⟩ | ⟨h1, h2⟩
      · rw [if_pos h1]
        omega
      · rw [if_neg h1]
        omega
    have em : fmS p (c :: d :: r) = if d = -s then fmS c (d :: r) + 1 else 0 := by
      show (if isM p c d = true then 0 else fmS c (d :: r) + 1) = _
      unfold isM
      rw [hcv.2]
      by_cases e : d = -s
      · rw [if_pos e, decide_eq_false (show ¬ d ≠ -s from fun z => z e), Bool.and_false, if_neg Bool.false_ne_true]
      · rw [if_neg e, decide_eq_true (show d ≠ -s from e), decide_eq_true hcv.1]
        rfl
    have hlen : (d :: r).length = r.length + 1 := rfl
    have hw : wv (d :: r) = d * 2 ^ r.length + wv r := rfl
    have hp := pow_s r.length
    by_cases e : d = -s
    · rw [em, if_pos e]
      obtain ⟨i1, i2, i3⟩ := run_lemma r s c d hr hs (.inr ⟨hcv.1, e⟩)
      have ev : s * (s * 2 ^ (d :: r).length + wv (d :: r)) = s * (s * 2 ^ r.length + wv r) := by
        rw [hlen, hw, e, hp]
        rcases hs with z | z <;> subst z <;> omega
      rw [ev, hlen]
      refine ⟨by omega, ?_, ?_⟩
      · rw [show r.length + 1 - (fmS c (d :: r) + 1) = r.length - fmS c (d :: r) by omega]
        exact i2
      · rw [show r.length + 1 - (fmS c (d :: r) + 1) = r.length - fmS c (d :: r) by omega]
        exact i3
    · rw [em, if_neg e, hlen, hw, Nat.sub_zero]
      have hb := wv_lt r hr
      have hpp := pow_pos' r.length
      have hp2 := pow_s (r.length + 1)
      refine ⟨Nat.zero_le _, ?_, ?_⟩
      · rcases hs with z | z <;> subst z <;> rcases hd0 with y | y | y <;> subst y <;> omega
      · rcases hs with z | z <;> subst z <;> rcases hd0 with y | y | y <;> subst y <;> omega
/-- the guess: all digits 0, or the worth's size between two powers -/
theorem guess_lemma : ∀ ds : List Int, Dig ds → (fmS 0 ds = ds.length ∧ wv ds = 0) ∨
    (fmS 0 ds < ds.length ∧ (2 : Int) ^ (ds.length - 1 - fmS 0 ds) < 2 * (wv ds).natAbs ∧ ((wv ds).natAbs : Int) < 2 ^ (ds.length - fmS 0 ds))
  | [], _ => .inl ⟨rfl, rfl⟩
  | d :: r, h => by
    have hr : Dig r := fun x hx => h x (List.mem_cons_of_mem _ hx)
    have hd0 := h d List.mem_cons_self
    have hlen : (d :: r).length = r.length + 1 := rfl
    by_cases e : d = 0
    · have ef : fmS 0 (d :: r) = fmS 0 r + 1 := by
        subst e
        rfl
      have ew : wv (d :: r) = wv r := by
        subst e
        show 0 * 2 ^ r.length + wv r = wv r
        omega
      rw [ef, ew, hlen]
      rcases guess_lemma r hr with ⟨i1, i2⟩ | ⟨i1, i2, i3⟩
      · exact .inl ⟨by omega, i2⟩
      · refine .inr ⟨by omega, ?_, ?_⟩
        · rw [show r.length + 1 - 1 - (fmS 0 r + 1) = r.length - 1 - fmS 0 r by omega]
          exact i2
        · rw [show r.length + 1 - (fmS 0 r + 1) = r.length - fmS 0 r by omega]
          exact i3
    · have hs : d = 1 ∨ d = -1 := by omega
      obtain ⟨i1, i2, i3⟩ := run_lemma r d 0 d hr hs (.inl ⟨rfl, rfl⟩)
      have hb := wv_lt r hr
      have hpp := pow_pos' r.length
      have ea : d * (d * 2 ^ r.length + wv r) = ((wv (d :: r)).natAbs : Int) := by
        show d * (d * 2 ^ r.length + wv r) = ((d * 2 ^ r.length + wv r).natAbs : Int)
        rcases hs with z | z <;> subst z <;> omega
      rw [ea] at i2 i3
      refine .inr ⟨by omega, ?_, ?_⟩
      · rw [hlen, show r.length + 1 - 1 - fmS 0 (d :: r) = r.length - fmS 0 (d :: r) by omega]
        exact i2
      · rw [hlen, show r.length + 1 - fmS 0 (d :: r) = r.length - fmS 0 (d :: r) + 1 by omega]
        exact i3
/-! ### bits -/
def bit (a : Int) (n : Nat) : Int := a / 2 ^ n % 2
def dgr (a b : Int) : Nat → List Int
  | 0 => []
  | n + 1 => (bit a n - bit b n) :: dgr a b n
theorem dgr_len (a b : Int) : ∀ n, (dgr a b n).length = n
  | 0 => rfl
  | n + 1 => by
    show (dgr a b n).length + 1 = n + 1
    rw [dgr_len a b n]
theorem dgr_get (a b : Int) : ∀ (n i : Nat), i < n → (dgr a b n)[i]? = some (bit a (n - 1 - i) - bit b (n - 1 - i))
  | 0, i, h => absurd h (Nat.not_lt_zero i)
  | n + 1, 0, _ => rfl
  | n + 1, i + 1, h => by
    show (dgr a b n)[i]? = _
    rw [dgr_get a b n i (by omega), show n + 1 - 1 - (i + 1) = n - 1 - i by omega]
theorem bit_01 (a : Int) (n : Nat) : bit a n = 0 ∨ bit a n = 1 := by
  unfold bit
  omega
theorem dgr_dig (a b : Int) : ∀ n, Dig (dgr a b n)
  | 0 => fun _ h => nomatch h
  | n + 1 => fun d hd => by
    rcases List.mem_cons.mp hd with e | e
    · have h1 := bit_01 a n
      have h2 := bit_01 b n
      omega
    · exact dgr_dig a b n d e
theorem mod_step (a : Int) (n : Nat) : bit a n * 2 ^ n + a % 2 ^ n = a % 2 ^ (n + 1) := by
  unfold bit
  have hp := pow_pos' n
  have e1 := Int.emod_add_mul_ediv a (2 ^ n)
  have e2 := Int.emod_add_mul_ediv (a / 2 ^ n) 2
  have h1 := Int.emod_nonneg a (show (2 : Int) ^ n ≠ 0 by omega)
  have h2 := Int.emod_lt_of_pos a hp
  have h3 := Int.emod_nonneg (a / 2 ^ n) (show (2 : Int) ≠ 0 by decide)
  have h4 := Int.emod_lt_of_pos (a / 2 ^ n) (show (0 : Int) < 2 by decide)
  have e3 : 2 ^ n * (a / 2 ^ n) = a / 2 ^ n % 2 * 2 ^ n + a / 2 ^ n / 2 * (2 ^ n * 2) := by
    conv => lhs; rw [← e2]
    rw [Int.mul_add, Int.mul_comm (2 ^ n) (a / 2 ^ n % 2), ← Int.mul_assoc, Int.mul_comm (2 ^ n * 2) _]
  have key : (a / 2 ^ n % 2 * 2 ^ n + a % 2 ^ n) + a / 2 ^ n / 2 * 2 ^ (n + 1) = a := by
    rw [pow_s]
    omega
  have hb : 0 ≤ a / 2 ^ n % 2 * 2 ^ n + a % 2 ^ n ∧ a / 2 ^ n % 2 * 2 ^ n + a % 2 ^ n < 2 ^ (n + 1) := by
    rw [pow_s]
    have : a / 2 ^ n % 2 = 0 ∨ a / 2 ^ n % 2 = 1 := by omega
    rcases this with z | z <;> rw [z] <;> omega
  have em := Int.add_mul_emod_self_right (a / 2 ^ n % 2 * 2 ^ n + a % 2 ^ n) (a / 2 ^ n / 2) (2 ^ (n + 1))
  rw [key, Int.emod_eq_of_lt hb.1 hb.2] at em
  exact em.symm
theorem wv_dgr (a b : Int) : ∀ n, wv (dgr a b n) = a % 2 ^ n - b % 2 ^ n
  | 0 => by
    show (0 : Int) = a % 1 - b % 1
    omega
  | n + 1 => by
    show (bit a n - bit b n) * 2 ^ (dgr a b n).length + wv (dgr a b n) = _
    rw [dgr_len, wv_dgr a b n, ← mod_step a n, ← mod_step b n, Int.sub_mul]
    omega
theorem wv_dgr_lt {a b : Int} {n : Nat} (ha : 0 ≤ a) (ha2 : a < 2 ^ n) (hb : 0 ≤ b) (hb2 : b < 2 ^ n) : wv (dgr a b n) = a - b := by
  rw [wv_dgr, Int.emod_eq_of_lt ha ha2, Int.emod_eq_of_lt hb hb2]
theorem bit_high {a : Int} {n : Nat} (ha : 0 ≤ a) (ha2 : a < 2 ^ n) : bit a n = 0 := by
  unfold bit
  rw [Int.ediv_eq_zero_of_lt ha ha2]
  rfl
theorem pow_le' {m n : Nat} (h : m ≤ n) : (2 : Int) ^ m ≤ 2 ^ n := by
  induction n with
  | zero =>
    have : m = 0 := by omega
    rw [this]
    exact Int.le_refl _
  | succ n ih =>
    by_cases e : m = n + 1
    · rw [e]
      exact Int.le_refl _
    · have := ih (by omega)
      have := pow_s n
      have := pow_pos' n
      omega
theorem fm_ahead {a b : Int} {n : Nat} (ha : 0 ≤ a) (ha2 : a < 2 ^ n) (hb : 0 ≤ b) (hb2 : b < 2 ^ n) : ∀ k : Nat, fmS 0 (dgr a b (n + k)) = fmS 0 (dgr a b n) + k
  | 0 => rfl
  | k + 1 => by
    have h1 : (2 : Int) ^ n ≤ 2 ^ (n + k) := pow_le' (by omega)
    have e1 := bit_high (a := a) (n := n + k) ha (by omega)
    have e2 := bit_high (a := b) (n := n + k) hb (by omega)
    show fmS 0 ((bit a (n + k) - bit b (n + k)) :: dgr a b (n + k)) = _
    rw [e1, e2]
    show fmS 0 (dgr a b (n + k)) + 1 = _
    rw [fm_ahead ha ha2 hb hb2 k]
    omega
/-! ### how many bits -/
theorem bits_pow {x : Nat} {e : Nat} (h : x < 2 ^ e) : PySem.Builtin.Int.intBits (x : Int) ≤ e := PyProof.Rows.intBits_le (by rw [Int.natAbs_natCast]; exact h)
theorem bits_le_pow {x : Nat} {e : Nat} (h : 2 ^ e ≤ x) : e + 1 ≤ PySem.Builtin.Int.intBits (x : Int) := by
  have hx : x ≠ 0 := by
    have := Nat.two_pow_pos e
    omega
  unfold PySem.Builtin.Int.intBits
  rw [if_neg (by simpa using hx), Int.natAbs_natCast]
  have := (Nat.le_log2 hx).mpr h
  omega
theorem bits_zero : PySem.Builtin.Int.intBits 0 = 0 := rfl
/-- (b): a guess is how many zeros there are, or one less -/
theorem guess_zeros {ds : List Int} (h : Dig ds) : ∃ m : Nat, m ≤ 1 ∧ fmS 0 ds + m + PySem.Builtin.Int.intBits ((wv ds).natAbs : Int) = ds.length ∧ (fmS 0 ds = ds.length ↔ wv ds = 0) := by
  rcases guess_lemma ds h with ⟨h1, h2⟩ | ⟨h1, h2, h3⟩
  · refine ⟨0, by omega, ?_, fun _ => h2, fun _ => h1⟩
    rw [h1, h2]
    show ds.length + 0 + 0 = ds.length
    rfl
  · have n0 : wv ds ≠ 0 := fun z => by
      rw [z] at h2
      have := pow_pos' (ds.length - 1 - fmS 0 ds)
      simp at h2
      omega
    have hb : PySem.Builtin.Int.intBits ((wv ds).natAbs : Int) ≤ ds.length - fmS 0 ds := bits_pow (by
      have e : ((2 ^ (ds.length - fmS 0 ds) : Nat) : Int) = (2 : Int) ^ (ds.length - fmS 0 ds) := PySem.W.kbt_cast _
      omega)
    have hl : ds.length - fmS 0 ds - 1 ≤ PySem.Builtin.Int.intBits ((wv ds).natAbs : Int) := by
      by_cases z : ds.length - 1 - fmS 0 ds = 0
      · omega
      · obtain ⟨e, he⟩ : ∃ e, ds.length - 1 - fmS 0 ds = e + 1 := ⟨ds.length - 1 - fmS 0 ds - 1, by omega⟩
        rw [he, pow_s] at h2
        have e2 : ((2 ^ e : Nat) : Int) = (2 : Int) ^ e := PySem.W.kbt_cast _
        have := bits_le_pow (x := (wv ds).natAbs) (e := e) (by omega)
        omega
    refine ⟨ds.length - fmS 0 ds - PySem.Builtin.Int.intBits ((wv ds).natAbs : Int), by omega, by omega, fun z => by omega, fun z => absurd z n0⟩
end GM
namespace GM
/-! ### the law's own zeros; numbers without a second one -/
theorem zeros_exit {S f n : Nat} (h1 : S * 2 ^ f < 2 ^ n) (hf : f ≤ n) (h2 : f = n ∨ 2 ^ n ≤ S * 2 ^ (f + 1)) : f + PySem.Builtin.Int.intBits (S : Int) = n := by
  have hS : S < 2 ^ (n - f) := by
    have e : 2 ^ n = 2 ^ (n - f) * 2 ^ f := by rw [← Nat.pow_add]; congr 1; omega
    rw [e] at h1
    exact Nat.lt_of_mul_lt_mul_right h1
  have hb := bits_pow hS
  rcases h2 with z | z
  · subst z
    rw [Nat.sub_self] at hb
    omega
  · by_cases e : f = n
    · subst e
      rw [Nat.sub_self] at hS
      have : S = 0 := by simpa using hS
      rw [this, Nat.zero_mul] at z
      have := Nat.two_pow_pos f
      omega
    · have e2 : 2 ^ n = 2 ^ (n - f - 1) * 2 ^ (f + 1) := by rw [← Nat.pow_add]; congr 1; omega
      rw [e2] at z
      have := Nat.le_of_mul_le_mul_right z (Nat.two_pow_pos _)
      have := bits_le_pow this
      omega
def blr (a : Int) : Nat → List Int
  | 0 => []
  | n + 1 => bit a n :: blr a n
theorem blr_len (a : Int) : ∀ n, (blr a n).length = n
  | 0 => rfl
  | n + 1 => by
    show (blr a n).length + 1 = n + 1
    rw [blr_len a n]
theorem blr_get (a : Int) : ∀ (n i : Nat), i < n → (blr a n)[i]? = some (bit a (n - 1 - i))
  | 0, i, h => absurd h (Nat.not_lt_zero i)
  | n + 1, 0, _ => rfl
  | n + 1, i + 1, h => by
    show (blr a n)[i]? = _
    rw [blr_get a n i (by omega), show n + 1 - 1 - (i + 1) = n - 1 - i by omega]
theorem bit_nought (n : Nat) : bit 0 n = 0 := by
  unfold bit
  rw [Int.zero_ediv]
  rfl
theorem dgr_nought (a : Int) : ∀ n, ∀ d ∈ dgr a 0 n, d = 0 ∨ d = 1
  | 0 => fun _ h => nomatch h
  | n + 1 => fun d hd => by
    rcases List.mem_cons.mp hd with e | e
    · have h1 := bit_01 a n
      have h2 := bit_nought n
      omega
    · exact dgr_nought a n d e
theorem plain_guess : ∀ ds : List Int, (∀ d ∈ ds, d = 0 ∨ d = 1) → 0 ≤ wv ds ∧ fmS 0 ds + PySem.Builtin.Int.intBits (wv ds) = ds.length
  | [], _ => ⟨by decide, rfl⟩
  | d :: r, h => by
    have hr := plain_guess r fun x hx => h x (List.mem_cons_of_mem _ hx)
    have hd := h d List.mem_cons_self
    have hD : Dig (d :: r) := fun x hx => by
      have := h x hx
      omega
    rcases hd with z | z
    · subst z
      have ew : wv (0 :: r) = wv r := by
        show 0 * 2 ^ r.length + wv r = wv r
        omega
      rw [ew]
      refine ⟨hr.1, ?_⟩
      show fmS 0 r + 1 + _ = r.length + 1
      omega
    · subst z
      have hb := wv_lt _ hD
      have hp := pow_pos' r.length
      have ew : wv (1 :: r) = 2 ^ r.length + wv r := by
        show 1 * 2 ^ r.length + wv r = _
        omega
      have em : fmS 0 (1 :: r) = 0 := by
        show (if isM 0 1 (r.headD 0) = true then 0 else fmS 1 r + 1) = 0
        have hh : r.headD 0 = 0 ∨ r.headD 0 = 1 := by
          cases r with
          | nil => exact .inl rfl
          | cons x t => exact h x (List.mem_cons_of_mem _ List.mem_cons_self)
        rcases hh with z | z <;> rw [z] <;> rfl
      rw [em]
      refine ⟨by omega, ?_⟩
      obtain ⟨x, hx⟩ := Int.eq_ofNat_of_zero_le (show 0 ≤ wv (1 :: r) by omega)
      have c1 : ((2 ^ r.length : Nat) : Int) = (2 : Int) ^ r.length := PySem.W.kbt_cast _
      have c2 : ((2 ^ (r.length + 1) : Nat) : Int) = (2 : Int) ^ (r.length + 1) := PySem.W.kbt_cast _
      have hl : (1 :: r).length = r.length + 1 := rfl
      rw [hl] at hb ⊢
      rw [hx]
      have l1 := bits_pow (x := x) (e := r.length + 1) (by omega)
      have l2 := bits_le_pow (x := x) (e := r.length) (by omega)
      omega
/-- a number less 0: the guess is how many zeros there are -/
theorem guess_nought {a : Int} {n : Nat} (ha : 0 ≤ a) (ha2 : a < 2 ^ n) : fmS 0 (dgr a 0 n) + PySem.Builtin.Int.intBits a = n := by
  have h := plain_guess (dgr a 0 n) (dgr_nought a n)
  have hp := pow_pos' n
  have e : wv (dgr a 0 n) = a := by
    rw [wv_dgr_lt ha ha2 (by decide) hp]
    omega
  rw [e, dgr_len] at h
  exact h.2
end GM
namespace GM
/-! ### worths, one digit after the other and by places -/
theorem fold_wv : ∀ (ds : List Int) (w : Int), ds.foldl (fun w d => 2 * w + d) w = w * 2 ^ ds.length + wv ds
  | [], w => by
    show w = w * 2 ^ 0 + 0
    rw [Int.pow_zero]
    omega
  | d :: r, w => by
    show r.foldl (fun w d => 2 * w + d) (2 * w + d) = w * 2 ^ (r.length + 1) + (d * 2 ^ r.length + wv r)
    rw [fold_wv r, pow_s, Int.add_mul, Int.mul_comm 2 w, Int.mul_assoc, Int.mul_comm 2 (2 ^ r.length)]
    omega
def places : List Int → List Int
  | [] => []
  | d :: r => d * 2 ^ r.length :: places r
theorem places_sum : ∀ ds : List Int, (places ds).sum = wv ds
  | [] => rfl
  | d :: r => by
    show (d * 2 ^ r.length :: places r).sum = d * 2 ^ r.length + wv r
    rw [List.sum_cons, places_sum r]
theorem places_len : ∀ ds : List Int, (places ds).length = ds.length
  | [] => rfl
  | d :: r => by
    show (places r).length + 1 = r.length + 1
    rw [places_len r]
theorem places_get : ∀ (ds : List Int) (i : Nat) (d : Int), ds[i]? = some d → (places ds)[i]? = some (d * 2 ^ (ds.length - 1 - i))
  | [], i, d, h => by cases h
  | x :: r, 0, d, h => by
    cases h
    rfl
  | x :: r, i + 1, d, h => by
    show (places r)[i]? = _
    rw [places_get r i d h, show (x :: r).length - 1 - (i + 1) = r.length - 1 - i by rw [List.length_cons]; omega]
end GM
namespace GZ
open PySem PySem.Spec PyProof.Rows L2
section
variable {K : PySem.W.Frag}
theorem dp_ints {H : Hp} : ∀ ds : List Int, DpAll K H (ds.map V.int) (ds.map PyData.int)
  | [] => .nil
  | d :: ds => .cons (.int d) (dp_ints ds)
theorem lv_ints {n : Nat} (ds : List Int) (h : ds.length ≤ 1000) : Lv (n + 1) (.list (ds.map PyData.int)) := by
  refine ⟨by rw [List.length_map]; omega, fun d hd => ?_⟩
  obtain ⟨x, _, rfl⟩ := List.mem_map.mp hd
  cases n <;> trivial
theorem flat_ints : ∀ ds : List Int, (ds.map V.int).all flatV = true
  | [] => rfl
  | d :: ds => by
    rw [List.map_cons, List.all_cons, flat_ints ds]
    rfl
theorem eqv_ints (ds : List Int) : PyData.eqv (.list (ds.map PyData.int)) (.list (ds.map PyData.int)) = true := PySem.SeqAt.eqv_refl _ (PySem.SeqAt.canLay_of_shaped (PySem.W.shaped_ints ds))
end
section
variable {P : Program} {w : World} {K : PySem.W.Frag} {mg : Str → Option Value} {base : Heap}
/-! ### digits_of -/
def spDigitsOf : Sp := fun vs H Q _ => ∃ (a b : Int) (n : Nat), vs = [.int a, .int b, .int (n : Int)] ∧ n ≤ 1000 ∧
  ∀ (p : Addr) (H' : Hp), H p = none → Same H H' → H' p = some (.lst ((GM.dgr a b n).map V.int)) → Q (.ref p) H'
theorem place_nat {n i : Nat} (h : i < n) : (n : Int) - 1 + (i : Nat) * (-1) = ((n - 1 - i : Nat) : Int) := by omega
theorem take_dgr {a b : Int} {n i : Nat} (h : i < n) : (GM.dgr a b n).take (i + 1) = (GM.dgr a b n).take i ++ [GM.bit a (n - 1 - i) - GM.bit b (n - 1 - i)] := by
  rw [List.take_add_one, GM.dgr_get a b n i h]
  rfl
theorem ok_digitsOf {f : Addr} {fd : FuncData} {k : Nat} (F : Fun K "digits_of" "digits_of" s_digits_of f fd) (B : Bl mg) : FnOk P w K mg base CX0 (k + 1) f fd ["one", "other", "many"] spDigitsOf := by
  refine F.ok sc_digits_of (fun vs H Q E h => ?_) (fun cdv A outer s H vs Q E hr h => ?_)
  · obtain ⟨a, b, n, rfl, _⟩ := h
    rfl
  obtain ⟨a, b, n, rfl, hn, q⟩ := h
  refine ⟨_, pss_one (ps_ret (pe_lc (own := [("place", 3)]) (by rfl) sc_digits_of.nd (pi_range3 (by rfl) B.range (pa_cons (pe_op op_sub (pv 2) pe_int) (pa_cons (pe_un un_neg pe_int) (pa_cons (pe_un un_neg pe_int) pa_nil))))
    (blkOk_by (own := [("place", 3)]) (N := ["one", "other", "many", "place"]) (sc := defScope s_digits_of) (by decide +kernel)) (fun _ _ _ _ _ => pg_name (i := 3) sc_digits_of.nd rfl (Or.inl rfl)) (fun _ _ _ _ _ => pts_nil)
    (fun _ _ _ _ _ => pe_op op_sub (pe_op op_andM (pe_op op_shrN (pv 0) (pv 3)) pe_int) (pe_op op_andM (pe_op op_shrN (pv 1) (pv 3)) pe_int)))), ?_⟩
  refine ⟨_, rfl, _, _, rfl, rfl, _, rfl, _, rfl, _, _, _, ((n : Int) - 1 - -1).toNat, rfl, RgC.neg (by omega) (by omega) (by decide) (by decide), fun D nD => ?_⟩
  rw [show ((n : Int) - 1 - -1).toNat = n by omega]
  have sD : Same H (upd H D (.lst [])) := same_upd nD
  refine lc_it walk_rangeC (fun i H3 => Same H H3 ∧ H3 D = some (.lst (((GM.dgr a b n).take i).map V.int))) ⟨sD, upd_same⟩ (fun _ _ _ _ => trivial) ?_ ?_
  · rintro i x H3 H4 hi ⟨s3, eD⟩ ⟨rfl, rfl⟩
    show gName _ (V.int ((n : Int) - 1 + (i : Nat) * (-1))) _ _ _
    rw [place_nat hi]
    refine ⟨rfl, yesT ?_⟩
    refine ⟨_, rfl, _, rfl, _, _, rfl, rfl, _, 1, rfl, rfl, _, rfl, _, rfl, _, _, rfl, rfl, _, 1, rfl, rfl, _, _, rfl, rfl, _, eD, ?_, fun b o e => ?_, ?_⟩
    · rw [List.length_map, List.length_take]
      exact Nat.lt_of_le_of_lt (Nat.min_le_left _ _) (small1000 (by omega))
    · rw [upd_ne (ne_of_none e nD)]
      exact s3 _ _ e
    · rw [upd_same, take_dgr hi, List.map_append]
      rfl
  · rintro H3 ⟨s3, eD⟩
    refine q D H3 nD s3 ?_
    rw [List.take_of_length_le (by rw [GM.dgr_len]; exact Nat.le_refl _)] at eD
    exact eD
/-! ### zeros_of -/
def spZerosOf : Sp := fun vs H Q _ => ∃ (x n : Int), vs = [.int x, .int n] ∧ Q (.int (n - (Builtin.Int.intBits (x.natAbs : Int) : Nat))) H
theorem abs_eq (x : Int) : (if x < 0 then -x else x) = (x.natAbs : Int) := by split <;> omega
theorem ok_zerosOf {f : Addr} {fd : FuncData} {k : Nat} (F : Fun K "zeros_of" "zeros_of" s_zeros_of f fd) (B : Bl mg) : FnOk P w K mg base CX0 (k + 1) f fd ["number", "many"] spZerosOf := by
  refine F.ok sc_zeros_of (fun vs H Q E h => ?_) (fun cdv A outer s H vs Q E hr h => ?_)
  · obtain ⟨x, n, rfl, _⟩ := h
    rfl
  obtain ⟨x, n, rfl, q⟩ := h
  refine ⟨_, pss_one (ps_ret (pe_op op_sub (pv 1) (pe_bits (pe_callB call_abs (by rfl) B.abs boot_abs (pa_cons (pv 0) pa_nil))))), ?_⟩
  rw [← abs_eq] at q
  exact ⟨_, rfl, _, rfl, _, rfl, _, rfl, _, _, rfl, rfl, q⟩
end
section
variable {P : Program} {w : World} {K : PySem.W.Frag} {mg : Str → Option Value} {base : Heap}
/-! ### _law_bits, _law_digits -/
def spBits : Sp := fun vs H Q _ => ∃ (a : Int) (n : Nat), vs = [.int a, .int (n : Int)] ∧ n ≤ 1000 ∧
  ∀ (p : Addr) (H' : Hp), H p = none → Same H H' → H' p = some (.lst ((GM.blr a n).map V.int)) → Q (.ref p) H'
theorem take_blr {a : Int} {n i : Nat} (h : i < n) : (GM.blr a n).take (i + 1) = (GM.blr a n).take i ++ [GM.bit a (n - 1 - i)] := by
  rw [List.take_add_one, GM.blr_get a n i h]
  rfl
theorem ok_bits {f : Addr} {fd : FuncData} {k : Nat} (F : Fun K "_law_bits" "_law_bits" s__law_bits f fd) (B : Bl mg) : FnOk P w K mg base CX0 (k + 1) f fd ["_law_number_here", "_law_size"] spBits := by
  refine F.ok sc__law_bits (fun vs H Q E h => ?_) (fun cdv A outer s H vs Q E hr h => ?_)
  · obtain ⟨a, n, rfl, _⟩ := h
    rfl
  obtain ⟨a, n, rfl, hn, q⟩ := h
  refine ⟨_, pss_one (ps_ret (pe_lc (own := [("_law_place", 2)]) (by rfl) sc__law_bits.nd (pi_range3 (by rfl) B.range (pa_cons (pe_op op_sub (pv 1) pe_int) (pa_cons (pe_un un_neg pe_int) (pa_cons (pe_un un_neg pe_int) pa_nil))))
    (blkOk_by (own := [("_law_place", 2)]) (N := ["_law_number_here", "_law_size", "_law_place"]) (sc := defScope s__law_bits) (by decide +kernel)) (fun _ _ _ _ _ => pg_name (i := 2) sc__law_bits.nd rfl (Or.inl rfl)) (fun _ _ _ _ _ => pts_nil)
    (fun _ _ _ _ _ => pe_op op_andM (pe_op op_shrN (pv 0) (pv 2)) pe_int))), ?_⟩
  refine ⟨_, rfl, _, _, rfl, rfl, _, rfl, _, rfl, _, _, _, ((n : Int) - 1 - -1).toNat, rfl, RgC.neg (by omega) (by omega) (by decide) (by decide), fun D nD => ?_⟩
  rw [show ((n : Int) - 1 - -1).toNat = n by omega]
  have sD : Same H (upd H D (.lst [])) := same_upd nD
  refine lc_it walk_rangeC (fun i H3 => Same H H3 ∧ H3 D = some (.lst (((GM.blr a n).take i).map V.int))) ⟨sD, upd_same⟩ (fun _ _ _ _ => trivial) ?_ ?_
  · rintro i x H3 H4 hi ⟨s3, eD⟩ ⟨rfl, rfl⟩
    show gName _ (V.int ((n : Int) - 1 + (i : Nat) * (-1))) _ _ _
    rw [place_nat hi]
    refine ⟨rfl, yesT ?_⟩
    refine ⟨_, rfl, _, rfl, _, _, rfl, rfl, _, 1, rfl, rfl, _, eD, ?_, fun b o e => ?_, ?_⟩
    · rw [List.length_map, List.length_take]
      exact Nat.lt_of_le_of_lt (Nat.min_le_left _ _) (small1000 (by omega))
    · rw [upd_ne (ne_of_none e nD)]
      exact s3 _ _ e
    · rw [upd_same, take_blr hi, List.map_append]
      rfl
  · rintro H3 ⟨s3, eD⟩
    refine q D H3 nD s3 ?_
    rw [List.take_of_length_le (by rw [GM.blr_len]; exact Nat.le_refl _)] at eD
    exact eD
theorem ok_digits {f g : Addr} {fd gd : FuncData} {k : Nat} (F : Fun K "_law_digits" "_law_digits" s__law_digits f fd) (FB : Fun K "_law_bits" "_law_bits" s__law_bits g gd) (bB : Binds K gd ["_law_number_here", "_law_size"] []) (mB : mg "_law_bits" = some (.ref g)) (B : Bl mg) :
    FnOk P w K mg base CX0 (k + 2) f fd ["_law_one", "_law_other", "_law_many"] spDigitsOf := by
  have G : FnOk P w K mg base CX0 (k + 1) g gd ["_law_number_here", "_law_size"] spBits := ok_bits FB B
  refine F.ok sc__law_digits (fun vs H Q E h => ?_) (fun cdv A outer s H vs Q E hr h => ?_)
  · obtain ⟨a, b, n, rfl, _⟩ := h
    rfl
  obtain ⟨a, b, n, rfl, hn, q⟩ := h
  refine ⟨_, pss_one (ps_ret (pe_lc (own := [("_law_mine", 3), ("_law_its", 4)]) (g := gTup K 2 (gCons (gName 3) (gCons (gName 4) gNil))) (by rfl) sc__law_digits.nd
    (pi_zip (by rfl) B.zip (pa_cons (pe_call G hr (by rfl) mB FB.kp bB .nil pass0 (pa_cons (pv 0) (pa_cons (pv 2) pa_nil))) (pa_cons (pe_call G hr (by rfl) mB FB.kp bB .nil pass0 (pa_cons (pv 1) (pa_cons (pv 2) pa_nil))) pa_nil)))
    (blkOk_by (own := [("_law_mine", 3), ("_law_its", 4)]) (N := ["_law_one", "_law_other", "_law_many", "_law_mine", "_law_its"]) (sc := defScope s__law_digits) (by decide +kernel))
    (fun _ _ _ _ _ => pg_tup rfl (pgs_cons (pg_name (i := 3) sc__law_digits.nd rfl (Or.inl rfl) (.inr rfl)) (pgs_cons (pg_name (i := 4) sc__law_digits.nd rfl (Or.inl rfl) (.inr rfl)) pgs_nil))) (fun _ _ _ _ _ => pts_nil)
    (fun _ _ _ _ _ => pe_op op_sub (pv 3) (pv 4)))), ?_⟩
  refine ⟨_, rfl, _, rfl, a, n, rfl, hn, fun u H1 nu s1 eu => ?_⟩
  refine ⟨_, rfl, _, rfl, b, n, rfl, hn, fun v H2 nv s2 ev => ?_⟩
  have hu : SqL K H2 u ((GM.blr a n).map V.int) := SqL.of (s2 _ _ eu)
  have hv : SqL K H2 v ((GM.blr b n).map V.int) := SqL.of ev
  refine ⟨u, v, _, _, rfl, hu, hv, fun D nD => ?_⟩
  have sD := (s1.trans s2).trans (same_upd (o := .lst []) nD)
  have sD2 : Same H2 (upd H2 D (.lst [])) := same_upd nD
  refine lc_it (walk_zip (K := K) (a := u) (b := v) (xs := (GM.blr a n).map V.int) (ys := (GM.blr b n).map V.int) (n := n) (by rw [List.length_map, List.length_map, GM.blr_len, GM.blr_len]; omega)) (fun i H3 => Same H2 H3 ∧ H3 D = some (.lst (((GM.dgr a b n).take i).map V.int))) ⟨sD2, upd_same⟩ (fun i H3 _ ⟨s3, _⟩ => ⟨s3.seq hu, s3.seq hv⟩) ?_ ?_
  · rintro i x H3 H4 hi ⟨s3, eD⟩ ⟨T, x1, x2, rfl, nT, rfl, e1, e2⟩
    obtain ⟨z1, f1, rfl⟩ := int_at e1
    obtain ⟨z2, f2, rfl⟩ := int_at e2
    rw [GM.blr_get a n i hi] at f1
    rw [GM.blr_get b n i hi] at f2
    cases f1
    cases f2
    have sT : Same H3 (upd H3 T (.tup [.int (GM.bit a (n - 1 - i)), .int (GM.bit b (n - 1 - i))])) := same_upd nT
    refine ⟨T, _, rfl, .inl (.inl upd_same), rfl, _, _, rfl, _, _, rfl, rfl, rfl, ?_⟩
    refine yesT ?_
    refine ⟨_, rfl, _, rfl, _, _, rfl, rfl, _, sT _ _ eD, ?_, fun b o e => ?_, ?_⟩
    · rw [List.length_map, List.length_take]
      exact Nat.lt_of_le_of_lt (Nat.min_le_left _ _) (small1000 (by omega))
    · rw [upd_ne (ne_of_none e nD)]
      exact sT _ _ (s3 _ _ e)
    · rw [upd_same, take_dgr hi, List.map_append]
      rfl
  · rintro H3 ⟨s3, eD⟩
    refine q D H3 ((s1.trans s2).free nD) ((s1.trans s2).trans s3) ?_
    rw [List.take_of_length_le (by rw [GM.dgr_len]; exact Nat.le_refl _)] at eD
    exact eD
/-! ### _law_zeros -/
def spZeros : Sp := fun vs H Q _ => ∃ (x : Int) (n : Nat), vs = [.int x, .int (n : Int)] ∧ n ≤ 1000 ∧ x.natAbs < 2 ^ n ∧ Q (.int ((n : Int) - (Builtin.Int.intBits (x.natAbs : Int) : Nat))) H
theorem ok_zeros {f : Addr} {fd : FuncData} {k : Nat} (F : Fun K "_law_zeros" "_law_zeros" s__law_zeros f fd) (B : Bl mg) : FnOk P w K mg base CX0 (k + 1) f fd ["_law_number_here", "_law_many"] spZeros := by
  refine F.ok sc__law_zeros (fun vs H Q E h => ?_) (fun cdv A outer s H vs Q E hr h => ?_)
  · obtain ⟨x, n, rfl, _⟩ := h
    rfl
  obtain ⟨x, n, rfl, hn, hx, q⟩ := h
  refine ⟨_, pss_cons (ps_par (by rfl) sc__law_zeros.nd (i := 2) (j := 3) rfl rfl (by decide) rfl rfl (pa_cons (pe_callB call_abs (by rfl) B.abs boot_abs (pa_cons (pv 0) pa_nil)) (pa_cons pe_int pa_nil)) (by rfl))
    (pss_cons (ps_while PassesOwn.never (PW.pt (pw_and (pt_cmpR op_lt (pv 3) (pv 1) (nomark _)) (pw_and1 (pt_cmpR op_le (pe_op op_shlN (pv 2) (pe_op op_add (pv 3) pe_int)) (pe_op op_sub (pe_op op_oneShl pe_int (pv 1)) pe_int) (nomark _)))))
      (pss_one (ps_set (i := 3) sc__law_zeros.nd rfl (.inl rfl) (pe_op op_add (pv 3) pe_int))))
    (pss_one (ps_ret (pv 3)))), ?_⟩
  refine ⟨_, rfl, _, rfl, _, _, rfl, ?_⟩
  rw [abs_eq]
  generalize x.natAbs = S at *
  have cN : ((2 ^ n : Nat) : Int) = (2 : Int) ^ n := PySem.W.kbt_cast _
  refine ⟨fun m σ H3 => ∃ g : Nat, σ = [some (.int x), some (.int (n : Int)), some (.int (S : Int)), some (.int (g : Int))] ∧ m + g = n ∧ S * 2 ^ g < 2 ^ n ∧ H3 = H, ⟨n, 0, rfl, rfl, by rw [Nat.pow_zero, Nat.mul_one]; exact hx, rfl⟩, ?_⟩
  rintro m σ H3 ⟨g, rfl, hm, hS, rfl⟩
  have done : (g = n ∨ 2 ^ n ≤ S * 2 ^ (g + 1)) → Q (.int (g : Int)) H3 := fun h => by
    have e := GM.zeros_exit hS (by omega) h
    rw [show (n : Int) - (Builtin.Int.intBits (S : Int) : Nat) = (g : Int) by omega] at q
    exact q
  refine ⟨_, rfl, _, rfl, _, _, rfl, rfl, _, rfl, ite2 (fun c => ?_) (fun c => ?_)⟩
  · have c1 : (g : Int) < (n : Int) := of_decide_eq_true c
    have hSn : S < 2 ^ n := Nat.lt_of_le_of_lt (Nat.le_mul_of_pos_right _ (Nat.two_pow_pos g)) hS
    refine ⟨_, rfl, _, rfl, _, _, rfl, rfl, _, g + 1, rfl, rfl, shl_ok (n := 1000) (Nat.lt_of_lt_of_le (by rw [Int.natAbs_natCast]; exact hSn) (Nat.pow_le_pow_right (by decide) hn)) (by omega), _, rfl, n, rfl, rfl, by omega, _, _, rfl, rfl, _, _, rfl, rfl, _, rfl, ite2 (fun c2 => ?_) (fun c2 => ?_)⟩
    · have c3 : (S : Int) * 2 ^ (g + 1) ≤ 2 ^ n - 1 := of_decide_eq_true c2
      have cG : ((2 ^ (g + 1) : Nat) : Int) = (2 : Int) ^ (g + 1) := PySem.W.kbt_cast _
      rw [← cG, ← cN, ← Int.natCast_mul] at c3
      refine ⟨fun σ' H' => ∃ g' : Nat, σ' = [some (.int x), some (.int (n : Int)), some (.int (S : Int)), some (.int (g' : Int))] ∧ g' = g + 1 ∧ S * 2 ^ g' < 2 ^ n ∧ H' = H3, fun σ' H' => ?_, ?_⟩
      · rintro ⟨g', e1, e2, e3, e4⟩
        exact ⟨n - g', by omega, g', e1, by omega, e3, e4⟩
      · exact ⟨_, rfl, _, _, rfl, rfl, g + 1, rfl, rfl, by omega, rfl⟩
    · have c3 : ¬ (S : Int) * 2 ^ (g + 1) ≤ 2 ^ n - 1 := of_decide_eq_false (Bool.eq_false_iff.mpr c2)
      have cG : ((2 ^ (g + 1) : Nat) : Int) = (2 : Int) ^ (g + 1) := PySem.W.kbt_cast _
      rw [← cG, ← cN, ← Int.natCast_mul] at c3
      exact ⟨_, rfl, done (.inr (by omega))⟩
  · have c1 : ¬ (g : Int) < (n : Int) := of_decide_eq_false (Bool.eq_false_iff.mpr c)
    exact iteF ⟨_, rfl, done (.inl (by omega))⟩
end
section
variable {P : Program} {w : World} {K : PySem.W.Frag} {mg : Str → Option Value} {base : Heap}
theorem bx1 {c : Int} {H : Hp} {b : Addr} (h : BoxAt (c + 2 ^ (1 - 1)) H b) : BoxAt (c + 1) H b := h
theorem Keep.none {b p : Addr} {H H' : Hp} (k : Keep b H H') (n : p ≠ b) (h : H' p = none) : H p = none := by
  cases q : H p with
  | none => rfl
  | some o =>
    rw [k p o q n] at h
    cases h
/-! ### _law_number -/
def spNumber : Sp := fun vs H Q _ => ∃ (b : Addr) (n : Nat) (c : Int), vs = [.ref b, .int (n : Int)] ∧ n ≤ 100 ∧ BoxAt c H b ∧ c ≤ 900000000 ∧
  ∀ (r : Int) (H' : Hp), 0 ≤ r → r < 2 ^ n → BoxAt (c + 11) H' b → Keep b H H' → Q (.int r) H'
theorem ok_number {f g : Addr} {fd gd : FuncData} {k : Nat} (F : Fun K "_law_number" "_law_number" s__law_number f fd) (FT : Fun K "_law_take" "_law_take" sTake g gd) (bT : Binds K gd ["_law_box_here", "_law_size"] []) (mT : mg "_law_take" = some (.ref g)) (B : Bl mg) :
    FnOk P w K mg base CX0 2 f fd ["_law_box_here", "_law_size"] spNumber := by
  have G : FnOk P w K mg base CX0 1 g gd ["_law_box_here", "_law_size"] (spTake 1) := ok_take FT bT mT B 1
  refine F.ok sc__law_number (fun vs H Q E h => ?_) (fun cdv A outer s H vs Q E hr h => ?_)
  · obtain ⟨b, n, c, rfl, _⟩ := h
    rfl
  obtain ⟨b, n, c, rfl, hn, hB, hc, q⟩ := h
  refine ⟨_, pss_cons (ps_set (i := 2) sc__law_number.nd rfl (.inl rfl) pe_int)
    (pss_cons (ps_for PassesOwn.never rfl (pi_range1 (by rfl) B.range (pa_cons (pe_op op_add pe_int (pe_op op_fdiv (pv 1) pe_int)) pa_nil)) (pg_name (i := 3) sc__law_number.nd rfl (.inl rfl))
      (pss_one (ps_set (i := 2) sc__law_number.nd rfl (.inl rfl) (pe_op op_add (pe_op op_mul (pv 2) pe_int) (pe_call G hr (by rfl) mT FT.kp bT .nil pass0 (pa_cons (pv 0) (pa_cons pe_int pa_nil)))))))
    (pss_one (ps_ret (pe_op op_mod (pv 2) (pe_op op_oneShl pe_int (pv 1)))))), ?_⟩
  refine ⟨_, rfl, _, _, rfl, rfl, ⟨by decide, by decide⟩, _, _, rfl, rfl, _, rfl, by omega, by omega, ?_⟩
  refine for_range (fun i σ H5 => ∃ (y2 : Int) (y3 : Option V), σ = [some (.ref b), some (.int (n : Int)), some (.int y2), y3] ∧ BoxAt (c + i) H5 b ∧ Keep b H H5) ⟨0, none, rfl, hB.mono (by omega), Keep.refl _ _⟩ ?_ ?_
  · rintro i σ H5 hi ⟨y2, y3, rfl, B5, k5⟩
    refine ⟨_, rfl, _, _, rfl, rfl, .inr ⟨by decide, by decide⟩, _, rfl, b, _, _, rfl, B5, (by decide), (by decide), (by decide), (by omega), (by decide), fun r H6 r0 r1 B6 k6 => ?_⟩
    replace B6 := bx1 B6
    exact ⟨_, _, rfl, rfl, _, _, rfl, B6.mono (by omega), k5.trans k6⟩
  · rintro σ H5 ⟨y2, y3, rfl, B5, k5⟩
    have hp := GM.pow_pos' n
    refine ⟨_, rfl, _, rfl, n, rfl, rfl, by omega, _, _, rfl, rfl, (by show (0 : Int) < 2 ^ n; omega), ?_⟩
    exact q _ _ (Int.emod_nonneg _ (by omega)) (Int.emod_lt_of_pos _ hp) (B5.mono (by omega)) k5
/-! ### _law_pair -/
def spPair : Sp := fun vs H Q _ => ∃ (b : Addr) (n : Nat) (c : Int), vs = [.ref b, .int (n : Int)] ∧ 1 ≤ n ∧ n ≤ 80 ∧ BoxAt c H b ∧ c ≤ 800000000 ∧
  ∀ (p : Addr) (x y : Int) (H' : Hp), p ≠ b → H p = none → H' p = some (.tup [.int x, .int y]) → 0 ≤ x → x < 2 ^ n → 0 ≤ y → y < 2 ^ n → BoxAt (c + 40) H' b → Keep b H H' → Q (.ref p) H'
theorem ok_pair {f g g2 : Addr} {fd gd gd2 : FuncData} {k : Nat} (F : Fun K "_law_pair" "_law_pair" s__law_pair f fd) (FT : Fun K "_law_take" "_law_take" sTake g gd) (bT : Binds K gd ["_law_box_here", "_law_size"] []) (mT : mg "_law_take" = some (.ref g))
    (FN : Fun K "_law_number" "_law_number" s__law_number g2 gd2) (bN : Binds K gd2 ["_law_box_here", "_law_size"] []) (mN : mg "_law_number" = some (.ref g2)) (B : Bl mg) :
    FnOk P w K mg base CX0 3 f fd ["_law_box_here", "_law_many"] spPair := by
  have G : FnOk P w K mg base CX0 1 g gd ["_law_box_here", "_law_size"] (spTake 1) := ok_take FT bT mT B 1
  have GN : FnOk P w K mg base CX0 2 g2 gd2 ["_law_box_here", "_law_size"] spNumber := ok_number (k := 0) FN FT bT mT B
  refine F.ok sc__law_pair (fun vs H Q E h => ?_) (fun cdv A outer s H vs Q E hr h => ?_)
  · obtain ⟨b, n, c, rfl, _⟩ := h
    rfl
  obtain ⟨b, n, c, rfl, hn1, hn, hB, hc, q⟩ := h
  have hr1 : Room 1 _ := hr.mono (by decide)
  refine ⟨_, (pss_cons (ps_par (by rfl) sc__law_pair.nd (i := 2) (j := 3) rfl rfl (by decide) rfl rfl (pa_cons (pe_call G hr1 (by rfl) mT FT.kp bT .nil pass0 (pa_cons (pv 0) (pa_cons pe_int pa_nil))) (pa_cons (pe_op op_sub (pe_op op_oneShl pe_int (pv 1)) pe_int) pa_nil)) (by rfl))
    (pss_cons (ps_set (i := 4) sc__law_pair.nd rfl (.inl rfl) (pe_call GN hr (by rfl) mN FN.kp bN .nil pass0 (pa_cons (pv 0) (pa_cons (pv 1) pa_nil))))
    (pss_cons (ps_if (pt_cmpR op_eq (pv 2) pe_int (nomark _)) (pss_one (ps_ret (pe_tup (pa_cons (pv 4) (pa_cons (pe_call GN hr (by rfl) mN FN.kp bN .nil pass0 (pa_cons (pv 0) (pa_cons (pv 1) pa_nil))) pa_nil))))) pss_nil)
    (pss_cons (ps_if (pt_cmpR op_eq (pv 2) pe_int (nomark _)) (pss_one (ps_ret (pe_tup (pa_cons (pv 4) (pa_cons (pe_callB (call_max2 rfl) (by rfl) B.max boot_max (pa_cons pe_int (pa_cons (pe_callB (call_min2 rfl) (by rfl) B.min boot_min (pa_cons (pv 3) (pa_cons (pe_op op_sub (pe_op op_add (pv 4) (pe_call G hr1 (by rfl) mT FT.kp bT .nil pass0 (pa_cons (pv 0) (pa_cons pe_int pa_nil)))) pe_int) pa_nil))) pa_nil))) pa_nil))))) pss_nil)
    (pss_cons (ps_if (pt_cmpR op_eq (pv 2) pe_int (nomark _)) (pss_cons (ps_set (i := 5) sc__law_pair.nd rfl (.inl rfl) (pe_call G hr1 (by rfl) mT FT.kp bT .nil pass0 (pa_cons (pv 0) (pa_cons (pv 1) pa_nil))))
    (pss_one (ps_ret (pe_tup (pa_cons (pe_op op_oneShl pe_int (pv 5)) (pa_cons (pe_op op_sub (pe_op op_sub (pe_op op_oneShl pe_int (pv 5)) pe_int) (pe_call G hr1 (by rfl) mT FT.kp bT .nil pass0 (pa_cons (pv 0) (pa_cons (pe_callB (call_min2 rfl) (by rfl) B.min boot_min (pa_cons pe_int (pa_cons (pe_op op_oneShl pe_int (pv 5)) pa_nil))) pa_nil)))) pa_nil)))))) pss_nil)
    (pss_cons (ps_if (pt_cmpR op_eq (pv 2) pe_int (nomark _)) (pss_one (ps_ret (pe_tup (pa_cons (pv 4) (pa_cons (pv 4) pa_nil))))) pss_nil)
    (pss_cons (ps_par (by rfl) sc__law_pair.nd (i := 6) (j := 5) rfl rfl (by decide) rfl rfl (pa_cons (pe_call G hr1 (by rfl) mT FT.kp bT .nil pass0 (pa_cons (pv 0) (pa_cons (pe_op op_add (pv 1) pe_int) pa_nil))) (pa_cons (pe_call G hr1 (by rfl) mT FT.kp bT .nil pass0 (pa_cons (pv 0) (pa_cons (pe_op op_add (pv 1) pe_int) pa_nil))) pa_nil)) (by rfl))
    (pss_cons (ps_set (i := 7) sc__law_pair.nd rfl (.inl rfl) (pe_op op_sub (pe_op op_oneShl pe_int (pe_callB (call_max2 rfl) (by rfl) B.max boot_max (pa_cons (pv 6) (pa_cons (pv 5) pa_nil)))) (pe_op op_oneShl pe_int (pe_callB (call_min2 rfl) (by rfl) B.min boot_min (pa_cons (pv 6) (pa_cons (pv 5) pa_nil))))))
    (pss_cons (ps_set (i := 8) sc__law_pair.nd rfl (.inl rfl) (pe_lst (pa_cons (pv 7) (pa_cons (pe_op op_xor (pv 7) (pe_op op_and (pv 4) pe_int)) (pa_cons (pe_op op_xor (pv 3) (pv 7)) (pa_cons (pe_op op_and (pv 4) (pv 7)) pa_nil))))))
    (pss_one (ps_ret (pe_tup (pa_cons (pe_op op_andM (pe_ix ix_list (pv 8) (pe_call G hr1 (by rfl) mT FT.kp bT .nil pass0 (pa_cons (pv 0) (pa_cons pe_int pa_nil))) (fun _ _ => rfl)) (pv 3)) (pa_cons (pe_op op_andM (pe_ix ix_list (pe_lst (pa_cons pe_int (pa_cons (pv 7) (pa_cons (pe_op op_and (pv 4) pe_int) pa_nil)))) (pe_call G hr1 (by rfl) mT FT.kp bT .nil pass0 (pa_cons (pv 0) (pa_cons pe_int pa_nil))) (fun _ _ => rfl)) (pv 3)) pa_nil)))))))))))))), ?_⟩
  have hp := GM.pow_pos' n
  -- a way out
  have out : ∀ (x y : Int) (H1 : Hp) (d : Int), BoxAt d H1 b → d ≤ c + 40 → Keep b H H1 → 0 ≤ x → x < 2 ^ n → 0 ≤ y → y < 2 ^ n → 2 ≤ sizeLine ∧ ∀ p, H1 p = none → Q (.ref p) (upd H1 p (.tup [.int x, .int y])) := fun x y H1 d B1 hd k1 x0 x1 y0 y1 => by
    refine ⟨by decide, fun p np => ?_⟩
    have npb : p ≠ b := (B1.ne np).symm
    exact q p x y _ npb (k1.none npb np) upd_same x0 x1 y0 y1 ((B1.same (same_upd np)).mono hd) (k1.trans (Keep.new np))
  refine ⟨_, rfl, b, _, _, rfl, hB, (by decide), (by decide), (by decide), (by omega), (by decide), fun way H1 w0 w1 B1 k1 => ?_⟩
  replace B1 := bx1 B1
  refine ⟨_, rfl, n, rfl, rfl, by omega, _, _, rfl, rfl, _, _, rfl, ?_⟩
  refine ⟨_, rfl, _, rfl, b, n, _, rfl, by omega, B1, by omega, fun one H2 o0 o1 B2 k2 => ?_⟩
  have kk := k1.trans k2
  refine ⟨_, rfl, rfl, _, rfl, ite2 (fun c1 => ?_) (fun c1 => ?_)⟩
  · refine ⟨_, rfl, _, rfl, _, rfl, b, n, _, rfl, by omega, B2, by omega, fun two H3 t0 t1 B3 k3 => ?_⟩
    exact out one two H3 _ B3 (by omega) (kk.trans k3) o0 o1 t0 t1
  refine ⟨_, rfl, rfl, _, rfl, ite2 (fun c1 => ?_) (fun c1 => ?_)⟩
  · refine ⟨_, rfl, _, rfl, _, rfl, _, rfl, b, _, _, rfl, B2, (by decide), (by decide), (by decide), (by omega), (by decide), fun r H3 r0 r1 B3 k3 => ?_⟩
    replace B3 := bx1 B3
    refine ⟨_, _, rfl, rfl, _, _, rfl, rfl, _, _, rfl, _, _, rfl, ?_⟩
    refine out one _ H3 _ B3 (by omega) (kk.trans k3) o0 o1 ?_ ?_
    · split <;> split at * <;> omega
    · split <;> split at * <;> omega
  refine ⟨_, rfl, rfl, _, rfl, ite2 (fun c1 => ?_) (fun c1 => ?_)⟩
  · refine ⟨_, rfl, _, rfl, b, _, _, rfl, B2, (by omega), (by rw [Int.pow_one]; omega), (by omega), (by omega), (by decide), fun low H3 r0 r1 B3 k3 => ?_⟩
    replace B3 := bx1 B3
    obtain ⟨l, rfl⟩ : ∃ l : Nat, low = (l : Int) := ⟨low.toNat, by omega⟩
    have hl := GM.pow_pos' l
    have hln : (2 : Int) ^ l ≤ 2 ^ (n - 1) := GM.pow_le' (by omega)
    have hn2 : (2 : Int) ^ n = 2 ^ (n - 1) * 2 := by
      rw [← GM.pow_s]
      congr 1
      omega
    have hpn := GM.pow_pos' (n - 1)
    refine ⟨_, rfl, l, rfl, rfl, by omega, _, rfl, l, rfl, rfl, by omega, _, _, rfl, rfl, _, rfl, _, rfl, l, rfl, rfl, by omega, _, _, rfl, ?_⟩
    refine ⟨b, _, _, rfl, B3, ?_, ?_, ?_, (by omega), (by decide), fun r H4 r0 r1 B4 k4 => ?_⟩
    · split <;> omega
    · rw [Int.pow_one]
      split <;> omega
    · split <;> omega
    replace B4 := bx1 B4
    refine ⟨_, _, rfl, rfl, ?_⟩
    have r2 : r < 2 ^ l := by
      split at r1 <;> omega
    exact out _ _ H4 _ B4 (by omega) ((kk.trans k3).trans k4) (by omega) (by omega) (by omega) (by omega)
  refine ⟨_, rfl, rfl, _, rfl, ite2 (fun c1 => ?_) (fun c1 => ?_)⟩
  · exact ⟨_, rfl, _, rfl, out one one H2 _ B2 (by omega) kk o0 o1 o0 o1⟩
  refine ⟨_, rfl, _, rfl, _, _, rfl, rfl, b, _, _, rfl, B2, (by omega), (by rw [Int.pow_one]; omega), (by omega), (by omega), (by decide), fun high H3 r0 r1 B3 k3 => ?_⟩
  replace B3 := bx1 B3
  refine ⟨_, rfl, _, rfl, _, _, rfl, rfl, b, _, _, rfl, B3, (by omega), (by rw [Int.pow_one]; omega), (by omega), (by omega), (by decide), fun low H4 u0 u1 B4 k4 => ?_⟩
  replace B4 := bx1 B4
  obtain ⟨l, rfl⟩ : ∃ l : Nat, low = (l : Int) := ⟨low.toNat, by omega⟩
  obtain ⟨h, rfl⟩ : ∃ h : Nat, high = (h : Int) := ⟨high.toNat, by omega⟩
  refine ⟨_, _, rfl, ?_⟩
  obtain ⟨mx, emx, hmx⟩ : ∃ mx : Nat, (if (l : Int) > (h : Int) then (l : Int) else (h : Int)) = (mx : Int) ∧ mx ≤ 200 := by
    split
    · exact ⟨l, rfl, by omega⟩
    · exact ⟨h, rfl, by omega⟩
  obtain ⟨mn, emn, hmn⟩ : ∃ mn : Nat, (if (l : Int) < (h : Int) then (l : Int) else (h : Int)) = (mn : Int) ∧ mn ≤ 200 := by
    split
    · exact ⟨l, rfl, by omega⟩
    · exact ⟨h, rfl, by omega⟩
  refine ⟨_, rfl, _, rfl, _, _, rfl, mx, rfl, congrArg V.int emx, by omega, _, rfl, _, rfl, _, _, rfl, mn, rfl, congrArg V.int emn, by omega, _, _, rfl, rfl, ?_⟩
  refine ⟨_, rfl, _, rfl, _, rfl, _, _, rfl, rfl, _, _, rfl, rfl, _, rfl, _, rfl, _, _, rfl, rfl, _, rfl, _, rfl, _, _, rfl, rfl, (by show 4 ≤ sizeLine; decide), fun so nso => ?_⟩
  have B4' := B4.same (same_upd (o := .lst [.int ((2 : Int) ^ mx - 2 ^ mn), .int (Builtin.bitXor ((2 : Int) ^ mx - 2 ^ mn) (Builtin.bitAnd one 7)), .int (Builtin.bitXor (2 ^ n - 1) ((2 : Int) ^ mx - 2 ^ mn)), .int (Builtin.bitAnd one ((2 : Int) ^ mx - 2 ^ mn))]) nso)
  have nsb : so ≠ b := (B4.ne nso).symm
  refine ⟨_, rfl, _, rfl, b, _, _, rfl, B4', (by decide), (by decide), (by decide), (by omega), (by decide), fun r3 H5 a0 a1 B5 k5 => ?_⟩
  replace B5 := bx1 B5
  have es := k5 _ _ upd_same nsb
  obtain ⟨x, hx⟩ : ∃ x : Int, atI ([.int ((2 : Int) ^ mx - 2 ^ mn), .int (Builtin.bitXor ((2 : Int) ^ mx - 2 ^ mn) (Builtin.bitAnd one 7)), .int (Builtin.bitXor (2 ^ n - 1) ((2 : Int) ^ mx - 2 ^ mn)), .int (Builtin.bitAnd one ((2 : Int) ^ mx - 2 ^ mn))] : List V) r3 = some (.int x) := by
    have c3 : r3 = 0 ∨ r3 = 1 ∨ r3 = 2 ∨ r3 = 3 := by omega
    rcases c3 with z | z | z | z
    · subst z; exact ⟨((2 : Int) ^ mx - 2 ^ mn), rfl⟩
    · subst z; exact ⟨(Builtin.bitXor ((2 : Int) ^ mx - 2 ^ mn) (Builtin.bitAnd one 7)), rfl⟩
    · subst z; exact ⟨(Builtin.bitXor (2 ^ n - 1) ((2 : Int) ^ mx - 2 ^ mn)), rfl⟩
    · subst z; exact ⟨(Builtin.bitAnd one ((2 : Int) ^ mx - 2 ^ mn)), rfl⟩
  refine ⟨so, _, _, _, rfl, rfl, SqL.of es, hx, _, rfl, _, n, rfl, rfl, ?_⟩
  refine ⟨_, rfl, _, rfl, _, _, rfl, rfl, (by show 3 ≤ sizeLine; decide), fun s2 ns2 => ?_⟩
  have B5' := B5.same (same_upd (o := .lst [.int 0, .int ((2 : Int) ^ mx - 2 ^ mn), .int (Builtin.bitAnd one 15)]) ns2)
  have ns2b : s2 ≠ b := (B5.ne ns2).symm
  refine ⟨_, rfl, b, _, _, rfl, B5', (by decide), (by decide), (by decide), (by omega), (by decide), fun r4 H6 a2 a3 B6 k6 => ?_⟩
  replace B6 := bx1 B6
  have es2 := k6 _ _ upd_same ns2b
  obtain ⟨y, hy⟩ : ∃ y : Int, atI ([.int 0, .int ((2 : Int) ^ mx - 2 ^ mn), .int (Builtin.bitAnd one 15)] : List V) r4 = some (.int y) := by
    have c3 : r4 = 0 ∨ r4 = 1 ∨ r4 = 2 := by omega
    rcases c3 with z | z | z
    · subst z; exact ⟨0, rfl⟩
    · subst z; exact ⟨((2 : Int) ^ mx - 2 ^ mn), rfl⟩
    · subst z; exact ⟨(Builtin.bitAnd one 15), rfl⟩
  refine ⟨s2, _, _, _, rfl, rfl, SqL.of es2, hy, _, rfl, _, n, rfl, rfl, ?_⟩
  exact out _ _ H6 _ B6 (by omega) ((((kk.trans k3).trans k4).trans ((Keep.new nso).trans k5)).trans ((Keep.new ns2).trans k6)) (Int.emod_nonneg _ (by omega)) (Int.emod_lt_of_pos _ hp) (Int.emod_nonneg _ (by omega)) (Int.emod_lt_of_pos _ hp)
end
section
variable {P : Program} {w : World} {K : PySem.W.Frag} {mg : Str → Option Value} {base : Heap}
/-- a list or a tuple of these ints -/
def Sq (K : PySem.W.Frag) (H : Hp) (a : Addr) (ds : List Int) : Prop := SqL K H a (ds.map V.int) ∨ SqT K H a (ds.map V.int)
theorem Sq.same {H H' : Hp} {a : Addr} {ds : List Int} (h : Sq K H a ds) (s : Same H H') : Sq K H' a ds := h.elim (fun h => .inl (s.seq h)) (fun h => .inr (Same.seqT s h))
/-! ### worth_of -/
def spWorthOf (K : PySem.W.Frag) : Sp := fun vs H Q _ => ∃ (a : Addr) (ds : List Int), vs = [.ref a] ∧ Sq K H a ds ∧ Q (.int (GM.wv ds)) H
theorem fold_take {ds : List Int} {i : Nat} {d : Int} (h : ds[i]? = some d) : (ds.take (i + 1)).foldl (fun w d => 2 * w + d) 0 = 2 * (ds.take i).foldl (fun w d => 2 * w + d) (0 : Int) + d := by
  rw [List.take_add_one, h, List.foldl_append]
  rfl
theorem fold_all (ds : List Int) {n : Nat} (h : ds.length ≤ n) : (ds.take n).foldl (fun w d => 2 * w + d) 0 = GM.wv ds := by
  rw [List.take_of_length_le h, GM.fold_wv]
  omega
theorem ok_worthOf {f : Addr} {fd : FuncData} {k : Nat} (F : Fun K "worth_of" "worth_of" s_worth_of f fd) (B : Bl mg) : FnOk P w K mg base CX0 (k + 1) f fd ["digits"] (spWorthOf K) := by
  refine F.ok sc_worth_of (fun vs H Q E h => ?_) (fun cdv A outer s H vs Q E hr h => ?_)
  · obtain ⟨a, ds, rfl, _⟩ := h
    rfl
  obtain ⟨a, ds, rfl, hS, q⟩ := h
  rcases hS with hS | hS
  · refine ⟨_, (pss_cons (ps_set (i := 1) sc_worth_of.nd rfl (.inl rfl) pe_int)
    (pss_cons (ps_for PassesOwn.never rfl (pi_list (pv 0)) (pg_name (i := 2) sc_worth_of.nd rfl (.inl rfl)) (pss_one (ps_set (i := 1) sc_worth_of.nd rfl (.inl rfl) (pe_op op_add (pe_op op_mul pe_int (pv 1)) (pv 2)))))
    (pss_one (ps_ret (pv 1))))), ?_⟩
    refine ⟨_, rfl, a, rfl, ⟨_, hS⟩, for_list (K := K) (a := a) (xs := ds.map V.int) (fun i σ H3 => ∃ y2 : Option V, σ = [some (.ref a), some (.int ((ds.take i).foldl (fun w d => 2 * w + d) 0)), y2] ∧ H3 = H) ⟨none, rfl, rfl⟩ (fun i σ H3 _ ⟨_, _, e⟩ => by rw [e]; exact hS) ?_ ?_⟩
    · rintro i x σ H3 hx ⟨y2, rfl, rfl⟩
      obtain ⟨z, ez, rfl⟩ := int_at hx
      refine ⟨_, rfl, _, _, rfl, rfl, .inl ⟨by decide, by decide⟩, _, rfl, _, _, rfl, rfl, some (.int z), ?_, rfl⟩
      rw [fold_take ez]
      rfl
    · rintro σ H3 ⟨y2, rfl, rfl⟩
      rw [fold_all ds (by rw [List.length_map]; exact Nat.le_refl _)]
      exact ⟨_, rfl, q⟩
  · refine ⟨_, (pss_cons (ps_set (i := 1) sc_worth_of.nd rfl (.inl rfl) pe_int)
    (pss_cons (ps_for PassesOwn.never rfl (pi_tup (pv 0)) (pg_name (i := 2) sc_worth_of.nd rfl (.inl rfl)) (pss_one (ps_set (i := 1) sc_worth_of.nd rfl (.inl rfl) (pe_op op_add (pe_op op_mul pe_int (pv 1)) (pv 2)))))
    (pss_one (ps_ret (pv 1))))), ?_⟩
    refine ⟨_, rfl, a, rfl, ⟨_, hS⟩, for_tup (K := K) (a := a) (xs := ds.map V.int) (fun i σ H3 => ∃ y2 : Option V, σ = [some (.ref a), some (.int ((ds.take i).foldl (fun w d => 2 * w + d) 0)), y2] ∧ H3 = H) ⟨none, rfl, rfl⟩ (fun i σ H3 _ ⟨_, _, e⟩ => by rw [e]; exact hS) ?_ ?_⟩
    · rintro i x σ H3 hx ⟨y2, rfl, rfl⟩
      obtain ⟨z, ez, rfl⟩ := int_at hx
      refine ⟨_, rfl, _, _, rfl, rfl, .inl ⟨by decide, by decide⟩, _, rfl, _, _, rfl, rfl, some (.int z), ?_, rfl⟩
      rw [fold_take ez]
      rfl
    · rintro σ H3 ⟨y2, rfl, rfl⟩
      rw [fold_all ds (by rw [List.length_map]; exact Nat.le_refl _)]
      exact ⟨_, rfl, q⟩
/-! ### _law_worth -/
def spWorth (K : PySem.W.Frag) : Sp := fun vs H Q _ => ∃ (a : Addr) (ds : List Int), vs = [.ref a] ∧ SqL K H a (ds.map V.int) ∧ ds.length ≤ 1000 ∧ (∀ d ∈ ds, d.natAbs < 2) ∧ ∀ H', Same H H' → Q (.int (GM.wv ds)) H'
theorem ok_worth {f : Addr} {fd : FuncData} {k : Nat} (F : Fun K "_law_worth" "_law_worth" s__law_worth f fd) (B : Bl mg) : FnOk P w K mg base CX0 (k + 1) f fd ["_law_digits_here"] (spWorth K) := by
  refine F.ok sc__law_worth (fun vs H Q E h => ?_) (fun cdv A outer s H vs Q E hr h => ?_)
  · obtain ⟨a, ds, rfl, _⟩ := h
    rfl
  obtain ⟨a, ds, rfl, hS, hl, hd, q⟩ := h
  refine ⟨_, (pss_one (ps_ret (pe_callB (cr_sum rfl) (by rfl) B.sum boot_sum (pa_cons (pe_lc (own := [("_law_place", 1), ("_law_digit", 2)]) (g := gTup K 2 (gCons (gName 1) (gCons (gName 2) gNil))) (by rfl) sc__law_worth.nd (pi_enum (by rfl) B.enumerate (pa_cons (pv 0) pa_nil)) (blkOk_by (own := [("_law_place", 1), ("_law_digit", 2)]) (N := ["_law_digits_here", "_law_place", "_law_digit"]) (sc := defScope s__law_worth) (by decide +kernel)) (fun _ _ _ _ _ => pg_tup rfl (pgs_cons (pg_name (i := 1) sc__law_worth.nd rfl (Or.inl rfl) (.inr rfl)) (pgs_cons (pg_name (i := 2) sc__law_worth.nd rfl (Or.inl rfl) (.inr rfl)) pgs_nil))) (fun _ _ _ _ _ => pts_nil) (fun _ _ _ _ _ => (pe_op op_shlN (pv 2) (pe_op op_sub (pe_op op_sub (pe_callB (call_len_seqK (K := K)) (by rfl) B.len PySem.boot_len (pa_cons (pv 0) pa_nil)) pe_int) (pv 1))))) pa_nil)))), ?_⟩
  refine ⟨_, rfl, a, _, rfl, hS, fun D nD => ?_⟩
  have sD : Same H (upd H D (.lst [])) := same_upd nD
  refine lc_it (walk_enum (K := K) (a := a) (xs := ds.map V.int)) (fun i H3 => Same H H3 ∧ H3 D = some (.lst (((GM.places ds).take i).map V.int))) ⟨sD, upd_same⟩ (fun i H3 _ ⟨s3, _⟩ => s3.seq hS) ?_ ?_
  · rintro i v H3 H4 hi ⟨s3, eD⟩ ⟨T, x, y, rfl, nT, rfl, e1, e2⟩
    cases e1
    obtain ⟨z, ez, rfl⟩ := int_at e2
    rw [List.length_map] at hi
    have sT : Same H3 (upd H3 T (.tup [.int (i : Nat), .int z])) := same_upd nT
    have hA := (s3.trans sT).seq hS
    refine ⟨T, _, rfl, .inl (.inl upd_same), rfl, _, _, rfl, _, _, rfl, rfl, rfl, ?_⟩
    refine yesT ?_
    refine ⟨_, rfl, _, rfl, a, _, rfl, .inl hA, _, _, rfl, rfl, _, rfl, _, _, rfl, rfl, _, ds.length - 1 - i, rfl, ?_, shl_ok (n := 1) (hd z (List.mem_of_getElem? ez)) (by omega), ?_⟩
    · rw [List.length_map]
      exact congrArg V.int (by omega)
    refine ⟨_, sT _ _ eD, ?_, fun b o e => ?_, ?_⟩
    · rw [List.length_map, List.length_take]
      exact Nat.lt_of_le_of_lt (Nat.min_le_left _ _) (small1000 (by omega))
    · rw [upd_ne (ne_of_none e nD)]
      exact sT _ _ (s3 _ _ e)
    · rw [upd_same, List.take_add_one, GM.places_get ds i z ez, List.map_append]
      rfl
  · rintro H3 ⟨s3, eD⟩
    rw [List.length_map, List.take_of_length_le (by rw [GM.places_len]; exact Nat.le_refl _)] at eD
    refine ⟨D, _, rfl, SqL.of eD, ?_⟩
    rw [GM.places_sum]
    exact q _ s3
end
section
variable {P : Program} {w : World} {K : PySem.W.Frag} {mg : Str → Option Value} {base : Heap}
structure Law1 (K : PySem.W.Frag) (mg : Str → Option Value) (e1 e2 e3 e4 e5 e6 e7 e8 e9 e10 e11 : Addr) (k1 k2 k3 k4 k5 k6 k7 k8 k9 k10 k11 : FuncData) : Prop where
  F1 : Fun K "_law_pair" "_law_pair" s__law_pair e1 k1
  b1 : Binds K k1 ["_law_box_here", "_law_many"] []
  m1 : mg "_law_pair" = some (.ref e1)
  F2 : Fun K "_law_number" "_law_number" s__law_number e2 k2
  b2 : Binds K k2 ["_law_box_here", "_law_size"] []
  m2 : mg "_law_number" = some (.ref e2)
  F3 : Fun K "_law_take" "_law_take" sTake e3 k3
  b3 : Binds K k3 ["_law_box_here", "_law_size"] []
  m3 : mg "_law_take" = some (.ref e3)
  F4 : Fun K "_law_same" "_law_same" sSame e4 k4
  b4 : Binds K k4 ["_law_found", "_law_due"] []
  m4 : mg "_law_same" = some (.ref e4)
  F5 : Fun K "digits_of" "digits_of" s_digits_of e5 k5
  b5 : Binds K k5 ["one", "other", "many"] []
  m5 : mg "digits_of" = some (.ref e5)
  F6 : Fun K "_law_bits" "_law_bits" s__law_bits e6 k6
  b6 : Binds K k6 ["_law_number_here", "_law_size"] []
  m6 : mg "_law_bits" = some (.ref e6)
  F7 : Fun K "_law_digits" "_law_digits" s__law_digits e7 k7
  b7 : Binds K k7 ["_law_one", "_law_other", "_law_many"] []
  m7 : mg "_law_digits" = some (.ref e7)
  F8 : Fun K "_law_zeros" "_law_zeros" s__law_zeros e8 k8
  b8 : Binds K k8 ["_law_number_here", "_law_many"] []
  m8 : mg "_law_zeros" = some (.ref e8)
  F9 : Fun K "worth_of" "worth_of" s_worth_of e9 k9
  b9 : Binds K k9 ["digits"] []
  m9 : mg "worth_of" = some (.ref e9)
  F10 : Fun K "_law_worth" "_law_worth" s__law_worth e10 k10
  b10 : Binds K k10 ["_law_digits_here"] []
  m10 : mg "_law_worth" = some (.ref e10)
  F11 : Fun K "zeros_of" "zeros_of" s_zeros_of e11 k11
  b11 : Binds K k11 ["number", "many"] []
  m11 : mg "zeros_of" = some (.ref e11)
def spRight : Sp := fun vs H Q _ => ∃ (b : Addr) (c : Int), vs = [.ref b] ∧ BoxAt c H b ∧ c ≤ 700000000 ∧
  ∀ (H' : Hp), BoxAt (c + 200) H' b → Keep b H H' → Q (.bl true) H'
theorem dp_int {H : Hp} (z : Int) : Dp K H (.int z) (.int z) := .int z
theorem ok_right {f e1 e2 e3 e4 e5 e6 e7 e8 e9 e10 e11 : Addr} {fd k1 k2 k3 k4 k5 k6 k7 k8 k9 k10 k11 : FuncData} (F : Fun K "_law_right" "_law_right" s__law_right f fd) (B : Bl mg)
    (L : Law1 K mg e1 e2 e3 e4 e5 e6 e7 e8 e9 e10 e11 k1 k2 k3 k4 k5 k6 k7 k8 k9 k10 k11) : FnOk P w K mg base CX0 4 f fd ["_law_box_here"] spRight := by
  have G1 : FnOk P w K mg base CX0 3 e1 k1 ["_law_box_here", "_law_many"] spPair := ok_pair (k := 0) L.F1 L.F3 L.b3 L.m3 L.F2 L.b2 L.m2 B
  have G3 : FnOk P w K mg base CX0 1 e3 k3 ["_law_box_here", "_law_size"] (spTake 1) := ok_take L.F3 L.b3 L.m3 B 1
  have G4 : FnOk P w K mg base CX0 2 e4 k4 ["_law_found", "_law_due"] (spSame K 2) := ok_same L.F4 L.b4 L.m4 B 2
  have G5 : FnOk P w K mg base CX0 3 e5 k5 ["one", "other", "many"] spDigitsOf := ok_digitsOf L.F5 B
  have G7 : FnOk P w K mg base CX0 3 e7 k7 ["_law_one", "_law_other", "_law_many"] spDigitsOf := ok_digits L.F7 L.F6 L.b6 L.m6 B
  have G8 : FnOk P w K mg base CX0 3 e8 k8 ["_law_number_here", "_law_many"] spZeros := ok_zeros L.F8 B
  have G9 : FnOk P w K mg base CX0 3 e9 k9 ["digits"] (spWorthOf K) := ok_worthOf L.F9 B
  have G10 : FnOk P w K mg base CX0 3 e10 k10 ["_law_digits_here"] (spWorth K) := ok_worth L.F10 B
  have G11 : FnOk P w K mg base CX0 3 e11 k11 ["number", "many"] spZerosOf := ok_zerosOf L.F11 B
  refine F.ok sc__law_right (fun vs H Q E h => ?_) (fun cdv A outer s H vs Q E hr h => ?_)
  · obtain ⟨b, c, rfl, _⟩ := h
    rfl
  obtain ⟨b, c, rfl, hB, hc, q⟩ := h
  have hr1 : Room 1 _ := hr.mono (by decide)
  have hr2 : Room 2 _ := hr.mono (by decide)
  refine ⟨_, (pss_cons (ps_set (i := 1) sc__law_right.nd rfl (.inl rfl) (pe_ix ix_list (pe_lst (pa_cons (pe_op op_add pe_int (pe_call G3 hr1 (by rfl) L.m3 L.F3.kp L.b3 .nil pass0 (pa_cons (pv 0) (pa_cons pe_int pa_nil)))) (pa_cons (pe_op op_add pe_int (pe_call G3 hr1 (by rfl) L.m3 L.F3.kp L.b3 .nil pass0 (pa_cons (pv 0) (pa_cons pe_int pa_nil)))) (pa_cons pe_int pa_nil)))) (pe_call G3 hr1 (by rfl) L.m3 L.F3.kp L.b3 .nil pass0 (pa_cons (pv 0) (pa_cons pe_int pa_nil))) (fun _ _ => rfl)))
    (pss_cons (ps_asg (pe_call G1 hr (by rfl) L.m1 L.F1.kp L.b1 .nil pass0 (pa_cons (pv 0) (pa_cons (pv 1) pa_nil))) (pg_tup (by rfl) (pgs_cons (pg_name (i := 2) sc__law_right.nd rfl (.inl rfl)) (pgs_cons (pg_name (i := 3) sc__law_right.nd rfl (.inl rfl)) pgs_nil))))
    (pss_cons (ps_set (i := 4) sc__law_right.nd rfl (.inl rfl) (pe_call G7 hr (by rfl) L.m7 L.F7.kp L.b7 .nil pass0 (pa_cons (pv 2) (pa_cons (pv 3) (pa_cons (pv 1) pa_nil)))))
    (pss_cons (ps_for PassesOwn.never rfl (pi_range1 (by rfl) B.range (pa_cons pe_int pa_nil)) (pg_name (i := 5) sc__law_right.nd rfl (.inl rfl)) (pss_cons (ps_set (i := 6) sc__law_right.nd rfl (.inl rfl) (pe_call G5 hr (by rfl) L.m5 L.F5.kp L.b5 .nil pass0 (pa_cons (pv 2) (pa_cons (pv 3) (pa_cons (pv 1) pa_nil)))))
    (pss_cons (ps_if (PW.pt (pw_or (pt_not (pt_val (pe_call G4 hr2 (by rfl) L.m4 L.F4.kp L.b4 .nil pass0 (pa_cons (pv 6) (pa_cons (pv 4) pa_nil))))) (pw_or1 (pt_not (pt_val (pe_call G4 hr2 (by rfl) L.m4 L.F4.kp L.b4 .nil pass0 (pa_cons (pe_call G9 hr (by rfl) L.m9 L.F9.kp L.b9 .nil pass0 (pa_cons (pe_ix ix_list (pe_lst (pa_cons (pv 6) (pa_cons (pe_callTy call_tuple_of (by rfl) B.tuple PyProof.Rows.boot_tuple (pa_cons (pv 6) pa_nil)) pa_nil))) (pv 5) (fun _ _ => rfl)) pa_nil)) (pa_cons (pe_op op_sub (pv 2) (pv 3)) pa_nil)))))))) (pss_one (ps_ret pe_bl)) pss_nil)
    (pss_cons (ps_expr (pe_bm0 PySem.F.plainAttrs_list PySem.F.slot_list_reverse PySem.F.type_list_reverse mt_reverse (pv 6)))
    (pss_one (ps_expr (pe_bm PySem.F.plainAttrs_list PySem.F.slot_list_append PySem.F.type_list_append mt_append (pv 6) (pa_cons pe_int pa_nil))))))))
    (pss_cons (ps_setLc (i := 7) (own := [("_law_turn", 5)]) (by rfl) sc__law_right.nd rfl rfl (sw_true rfl rfl rfl (by decide +kernel)) (pi_range1 (by rfl) B.range (pa_cons (pe_call G3 hr1 (by rfl) L.m3 L.F3.kp L.b3 .nil pass0 (pa_cons (pv 0) (pa_cons pe_int pa_nil))) pa_nil)) (blkOk_by (own := [("_law_turn", 5)]) (N := ["_law_box_here", "_law_many", "_law_one", "_law_other", "_law_due", "_law_turn", "_law_found", "_law_some", "_law_handed", "_law_size"]) (sc := defScope s__law_right) (by decide +kernel)) (fun _ _ _ _ _ => pg_name (i := 5) sc__law_right.nd rfl (Or.inl rfl)) (fun _ _ _ _ _ => pts_nil) (fun _ _ _ _ _ => (pe_op op_sub (pe_call G3 hr1 (by rfl) L.m3 L.F3.kp L.b3 .nil pass0 (pa_cons (pv 0) (pa_cons pe_int pa_nil))) pe_int)))
    (pss_cons (ps_set (i := 8) sc__law_right.nd rfl (.inl rfl) (pe_ix ix_list (pe_lst (pa_cons (pe_callTy call_list_of (by rfl) B.list PyProof.Rows.boot_list (pa_cons (pv 7) pa_nil)) (pa_cons (pe_callTy call_tuple_of (by rfl) B.tuple PyProof.Rows.boot_tuple (pa_cons (pv 7) pa_nil)) pa_nil))) (pe_call G3 hr1 (by rfl) L.m3 L.F3.kp L.b3 .nil pass0 (pa_cons (pv 0) (pa_cons pe_int pa_nil))) (fun _ _ => rfl)))
    (pss_cons (ps_if (PW.pt (pw_or (pt_not (pt_val (pe_call G4 hr2 (by rfl) L.m4 L.F4.kp L.b4 .nil pass0 (pa_cons (pe_call G9 hr (by rfl) L.m9 L.F9.kp L.b9 .nil pass0 (pa_cons (pv 8) pa_nil)) (pa_cons (pe_call G10 hr (by rfl) L.m10 L.F10.kp L.b10 .nil pass0 (pa_cons (pv 7) pa_nil)) pa_nil))))) (pw_or1 (pt_cmpR (op_neD hr.units) (pe_callTy call_list_of (by rfl) B.list PyProof.Rows.boot_list (pa_cons (pv 8) pa_nil)) (pv 7) (nomark _))))) (pss_one (ps_ret pe_bl)) pss_nil)
    (pss_cons (ps_for PassesOwn.never rfl (pi_tup (pe_tup (pa_cons (pe_op op_sub (pv 2) (pv 3)) (pa_cons (pe_op op_sub (pv 3) (pv 2)) (pa_cons (pv 2) (pa_cons pe_int (pa_cons (pe_op op_sub (pe_op op_oneShl pe_int (pv 1)) pe_int) (pa_cons (pe_un un_neg pe_int) pa_nil)))))))) (pg_name (i := 9) sc__law_right.nd rfl (.inl rfl)) (pss_one (ps_if (pt_not (pt_val (pe_call G4 hr2 (by rfl) L.m4 L.F4.kp L.b4 .nil pass0 (pa_cons (pe_call G11 hr (by rfl) L.m11 L.F11.kp L.b11 .nil pass0 (pa_cons (pv 9) (pa_cons (pv 1) pa_nil))) (pa_cons (pe_call G8 hr (by rfl) L.m8 L.F8.kp L.b8 .nil pass0 (pa_cons (pv 9) (pa_cons (pv 1) pa_nil))) pa_nil))))) (pss_one (ps_ret pe_bl)) pss_nil)))
    (pss_one (ps_ret pe_bl)))))))))), ?_⟩
  refine ⟨_, rfl, b, _, _, rfl, hB, (by decide), (by decide), (by decide), (by omega), (by decide), fun r1 H1 u0 u1 B1 k1 => ?_⟩
  replace B1 := bx1 B1
  refine ⟨_, _, rfl, rfl, _, rfl, b, _, _, rfl, B1, (by decide), (by decide), (by decide), (by omega), (by decide), fun r2 H2 v0 v1 B2 k2 => ?_⟩
  replace B2 := bx1 B2
  refine ⟨_, _, rfl, rfl, (by show 3 ≤ sizeLine; decide), fun m nm => ?_⟩
  have nmb : m ≠ b := (B2.ne nm).symm
  refine ⟨_, rfl, b, _, _, rfl, B2.same (same_upd nm), (by decide), (by decide), (by decide), (by omega), (by decide), fun r3 H3 w0 w1 B3 k3 => ?_⟩
  replace B3 := bx1 B3
  have em := k3 _ _ upd_same nmb
  obtain ⟨n, hn, hn1, hn80⟩ : ∃ n : Nat, atI ([.int (1 + r1), .int (1 + r2), .int 80] : List V) r3 = some (.int (n : Int)) ∧ 1 ≤ n ∧ n ≤ 80 := by
    have c3 : r3 = 0 ∨ r3 = 1 ∨ r3 = 2 := by omega
    rcases c3 with z | z | z
    · subst z
      exact ⟨(1 + r1).toNat, by rw [Int.toNat_of_nonneg (by omega)]; rfl, by omega, by omega⟩
    · subst z
      exact ⟨(1 + r2).toNat, by rw [Int.toNat_of_nonneg (by omega)]; rfl, by omega, by omega⟩
    · subst z
      exact ⟨80, rfl, by omega, by omega⟩
  refine ⟨m, _, _, _, rfl, rfl, SqL.of em, hn, ?_⟩
  have kA : Keep b H H3 := (k1.trans (k2.trans (Keep.new nm))).trans k3
  refine ⟨_, rfl, _, rfl, b, n, _, rfl, hn1, hn80, B3, by omega, fun p x y H4 npb np ep x0 x1 y0 y1 B4 k4 => ?_⟩
  refine ⟨p, _, rfl, .inl (.inl ep), rfl, _, _, rfl, _, _, rfl, rfl, ?_⟩
  have cN : ((2 ^ n : Nat) : Int) = (2 : Int) ^ n := PySem.W.kbt_cast _
  have hw : GM.wv (GM.dgr x y n) = x - y := GM.wv_dgr_lt x0 x1 y0 y1
  -- due
  refine ⟨_, rfl, _, rfl, _, rfl, _, _, n, rfl, by omega, fun d H5 nd s5 ed => ?_⟩
  have B5 := B4.same s5
  have k5 := (kA.trans k4).trans (Keep.ofSame s5)
  refine ⟨2, rfl, by decide, by decide, for_range (n := 2) (fun i σ H6 => ∃ (y5 y6 : Option V), σ = [some (.ref b), some (.int (n : Int)), some (.int x), some (.int y), some (.ref d), y5, y6, none, none, none] ∧ Same H5 H6) ⟨none, none, rfl, Same.refl _⟩ ?_ ?_⟩
  · rintro i σ H6 hi ⟨y5, y6, rfl, s6⟩
    refine ⟨_, rfl, _, rfl, _, rfl, _, _, n, rfl, by omega, fun o H7 no s7 eo => ?_⟩
    refine ⟨_, rfl, _, rfl, _, _, .list ((GM.dgr x y n).map PyData.int), 1, rfl, rfl, lv_ints _ (by rw [GM.dgr_len]; omega), .lst (SqL.of eo) (dp_ints _), .lst (SqL.of (s7 _ _ (s6 _ _ ed))) (dp_ints _), fun H8 s8 => ?_⟩
    refine ⟨_, rfl, iteF ?_⟩
    have eo8 := s8 _ _ eo
    refine ⟨_, rfl, _, rfl, o, _, rfl, .inl ⟨SqL.of eo8, fun t nt => ?_⟩⟩
    refine ⟨(by show 2 ≤ sizeLine; decide), fun m2 nm2 => ?_⟩
    have t9 := (same_upd (o := .tup ((GM.dgr x y n).map V.int)) nt).trans (same_upd (o := .lst [.ref o, .ref t]) nm2)
    have et := same_upd (o := .lst [.ref o, .ref t]) nm2 _ _ (show (upd H8 t (.tup ((GM.dgr x y n).map V.int))) t = some (.tup ((GM.dgr x y n).map V.int)) from upd_same)
    obtain ⟨hd, eh, hS⟩ : ∃ hd : Addr, atI ([.ref o, .ref t] : List V) (0 + (i : Int)) = some (.ref hd) ∧ Sq K (upd (upd H8 t (.tup ((GM.dgr x y n).map V.int))) m2 (.lst [.ref o, .ref t])) hd (GM.dgr x y n) := by
      match i, hi with
      | 0, _ => exact ⟨o, rfl, .inl (SqL.of (t9 _ _ eo8))⟩
      | 1, _ => exact ⟨t, rfl, .inr (.inl (.inl et))⟩
    refine ⟨_, rfl, m2, _, _, _, rfl, rfl, SqL.of upd_same, eh, ?_⟩
    refine ⟨hd, _, rfl, hS, ?_⟩
    rw [hw]
    refine ⟨_, rfl, _, rfl, _, _, rfl, rfl, _, _, .int (x - y), 1, rfl, rfl, trivial, dp_int _, dp_int _, fun H10 s10 => ?_⟩
    refine ⟨_, rfl, iteF ?_⟩
    have eo10 := s10 _ _ (t9 _ _ eo8)
    have noH : ∀ x u', H5 x = some u' → x ≠ o := fun x u' e => ne_of_none (s6 _ _ e) no
    refine ⟨_, rfl, .inl ⟨rfl, _, SqL.of eo10⟩, o, _, rfl, rfl, eo10, ?_⟩
    refine ⟨_, rfl, .inl ⟨rfl, _, SqL.of upd_same⟩, o, _, _, rfl, rfl, upd_same, ?_, ?_⟩
    · rw [List.length_reverse, List.length_map, GM.dgr_len]
      exact small1000 (by omega)
    refine ⟨_, _, rfl, fun x u' e => ?_⟩
    rw [upd_ne (noH x u' e), upd_ne (noH x u' e)]
    exact s10 _ _ (t9 _ _ (s8 _ _ (s7 _ _ (s6 _ _ e))))
  rintro σ H6 ⟨y5, y6, rfl, s6⟩
  have B6 := B5.same s6
  have k6 := k5.trans (Keep.ofSame s6)
  -- some
  refine ⟨_, rfl, b, _, _, rfl, B6, (by decide), (by decide), (by decide), (by omega), (by decide), fun r4 H7 a0 a1 B7 k7 => ?_⟩
  replace B7 := bx1 B7
  refine ⟨_, rfl, by omega, by omega, fun D nD => ?_⟩
  have nDb : D ≠ b := (B7.ne nD).symm
  have k67 := k6.trans k7
  have nDH : H D = none := k67.none nDb nD
  refine lc_range (fun j H8 => ∃ ds : List Int, Keep b H7 H8 ∧ BoxAt (c + 50 + j) H8 b ∧ H8 D = some (.lst (ds.map V.int)) ∧ ds.length = j ∧ ∀ d ∈ ds, d.natAbs < 2) ⟨[], Keep.new nD, (B7.same (same_upd nD)).mono (by omega), upd_same, rfl, fun _ h => nomatch h⟩ ?_ ?_
  · rintro j H8 hj ⟨ds, k8, B8, eD, hdl, hds⟩
    refine ⟨rfl, yesT ?_⟩
    refine ⟨_, rfl, b, _, _, rfl, B8, (by decide), (by decide), (by decide), (by omega), (by decide), fun r H9 r0 r1 B9 k9 => ?_⟩
    replace B9 := bx1 B9
    refine ⟨_, _, rfl, rfl, _, k9 _ _ eD nDb, ?_, ds ++ [r - 1], fun x u e n => ?_, BoxAt.mono (B9.at (upd_ne nDb.symm)) (by omega), ?_, ?_, ?_⟩
    · rw [List.length_map]
      exact small1000 (by omega)
    · rw [upd_ne (ne_of_none e nD)]
      exact k9 _ _ (k8 _ _ e n) n
    · rw [upd_same, List.map_append]
      rfl
    · rw [List.length_append, hdl]
      rfl
    · intro z hz
      rcases List.mem_append.mp hz with h | h
      · exact hds z h
      · rw [List.mem_singleton] at h
        omega
  rintro H8 ⟨ds, k8, B8, eD, hdl, hds⟩
  have k68 := k67.trans k8
  have hds2 : ds.length ≤ 80 := by omega
  -- handed
  refine ⟨_, rfl, D, _, rfl, .inl (SqL.of eD), fun l nl => ?_⟩
  have sl := same_upd (o := .lst (ds.map V.int)) nl
  refine ⟨_, rfl, D, _, rfl, .inl ⟨SqL.of (sl _ _ eD), fun t nt => ?_⟩⟩
  have st := same_upd (o := .tup (ds.map V.int)) nt
  refine ⟨(by show 2 ≤ sizeLine; decide), fun m3 nm3 => ?_⟩
  have sm := same_upd (o := .lst [.ref l, .ref t]) nm3
  have B9 := ((B8.same sl).same st).same sm
  have nlb : l ≠ b := (B8.ne nl).symm
  have ntb : t ≠ b := ((B8.same sl).ne nt).symm
  have nm3b : m3 ≠ b := (((B8.same sl).same st).ne nm3).symm
  refine ⟨_, rfl, b, _, _, rfl, B9, (by decide), (by decide), (by decide), (by omega), (by decide), fun r H10 r0 r1 B10 k10 => ?_⟩
  replace B10 := bx1 B10
  have em3 := k10 _ _ upd_same nm3b
  have el := k10 _ _ (sm _ _ (st _ _ upd_same)) nlb
  have et := k10 _ _ (sm _ _ upd_same) ntb
  have eD10 := k10 _ _ (sm _ _ (st _ _ (sl _ _ eD))) nDb
  obtain ⟨hd, eh, hS⟩ : ∃ hd : Addr, atI ([.ref l, .ref t] : List V) r = some (.ref hd) ∧ Sq K H10 hd ds := by
    have c3 : r = 0 ∨ r = 1 := by omega
    rcases c3 with z | z
    · subst z
      exact ⟨l, rfl, .inl (SqL.of el)⟩
    · subst z
      exact ⟨t, rfl, .inr (.inl (.inl et))⟩
  refine ⟨m3, _, _, _, rfl, rfl, SqL.of em3, eh, ?_⟩
  have k70 := (k68.trans (Keep.ofSame (sl.trans (st.trans sm)))).trans k10
  -- both worths
  refine ⟨_, rfl, hd, _, rfl, hS, ?_⟩
  refine ⟨_, rfl, D, _, rfl, SqL.of eD10, by omega, hds, fun H11 s11 => ?_⟩
  refine ⟨_, _, .int (GM.wv ds), 1, rfl, rfl, trivial, dp_int _, dp_int _, fun H12 s12 => ?_⟩
  refine ⟨_, rfl, iteF ?_⟩
  have s02 := s11.trans s12
  refine ⟨_, rfl, hd, _, rfl, hS.same s02, fun l2 nl2 => ?_⟩
  have s03 := s02.trans (same_upd (o := .lst (ds.map V.int)) nl2)
  refine ⟨_, rfl, .list (ds.map PyData.int), .list (ds.map PyData.int), .lst (SqL.of upd_same) (dp_ints _), .lst (SqL.of (s03 _ _ eD10)) (dp_ints _), PySem.W.shaped_ints _, PySem.W.shaped_ints _, _, rfl, ?_⟩
  rw [eqv_ints]
  refine iteF ?_
  -- sizes
  have hp := GM.pow_pos' n
  have hp1 : (2 : Int) ≤ 2 ^ n := GM.pow_le' (m := 1) hn1
  refine ⟨_, rfl, _, rfl, _, _, rfl, rfl, _, rfl, _, rfl, _, _, rfl, rfl, _, rfl, _, rfl, n, rfl, rfl, by omega, _, _, rfl, rfl, _, rfl, (by show 6 ≤ sizeLine; decide), fun t6 nt6 => ?_⟩
  refine ⟨t6, rfl, ⟨_, .inl (.inl upd_same)⟩, for_tup (K := K) (a := t6) (xs := [.int (x - y), .int (y - x), .int x, .int 0, .int (2 ^ n - 1), .int (-1)]) (fun i σ H13 => ∃ (y9 : Option V), σ = [some (.ref b), some (.int (n : Int)), some (.int x), some (.int y), some (.ref d), y5, y6, some (.ref D), some (.ref hd), y9] ∧ Same _ H13)
    ⟨none, rfl, Same.refl _⟩ (fun i σ H13 _ ⟨_, _, s13⟩ => .inl (.inl (s13 _ _ upd_same))) ?_ ?_⟩
  · rintro i v σ H13 hv ⟨y9, rfl, s13⟩
    obtain ⟨z, rfl, hz⟩ : ∃ z : Int, v = .int z ∧ z.natAbs < 2 ^ n := by
      match i, hv with
      | 0, hv => cases hv; exact ⟨_, rfl, by omega⟩
      | 1, hv => cases hv; exact ⟨_, rfl, by omega⟩
      | 2, hv => cases hv; exact ⟨_, rfl, by omega⟩
      | 3, hv => cases hv; exact ⟨_, rfl, by omega⟩
      | 4, hv => cases hv; exact ⟨_, rfl, by omega⟩
      | 5, hv => cases hv; exact ⟨_, rfl, by omega⟩
      | j + 6, hv => cases hv
    refine ⟨_, rfl, _, rfl, _, _, rfl, ?_⟩
    refine ⟨_, rfl, _, rfl, _, n, rfl, by omega, hz, ?_⟩
    refine ⟨_, _, .int _, 1, rfl, rfl, trivial, dp_int _, dp_int _, fun H14 s14 => ?_⟩
    refine ⟨_, rfl, iteF ?_⟩
    exact ⟨_, rfl, s13.trans s14⟩
  · rintro σ H13 ⟨y9, rfl, s13⟩
    have sZ := (s03.trans (same_upd nt6)).trans s13
    exact q _ ((B10.same sZ).mono (by omega)) (k70.trans (Keep.ofSame sZ))
end
section
variable {P : Program} {w : World} {K : PySem.W.Frag} {mg : Str → Option Value} {base : Heap}
def spLaw (K : PySem.W.Frag) : Sp := fun vs H Q _ => ∃ (a : Addr) (ns : List Int), vs = [.ref a] ∧ SqL K H a (ns.map V.int) ∧ ns.length ≤ 63 ∧ ∀ H', Q (.bl true) H'
theorem dp_mixed {H : Hp} {p e : Addr} {x y : Int} (h : H p = some (.lst [.ref e, .int x, .int y])) (he : H e = some (.lst [])) : Dp K H (.ref p) (.list [.list [], .int x, .int y]) :=
  .lst (SqL.of h) (.cons (.lst (SqL.of he) .nil) (.cons (.int x) (.cons (.int y) .nil)))
theorem lv_mixed (x y : Int) : Lv 2 (.list [.list [], .int x, .int y]) := by
  refine ⟨Nat.le_of_ble_eq_true rfl, fun d hd => ?_⟩
  simp only [List.mem_cons, List.not_mem_nil, or_false] at hd
  rcases hd with z | z | z
  · subst z
    exact ⟨by decide, fun _ h => nomatch h⟩
  · subst z
    trivial
  · subst z
    trivial
theorem ok_law {f e1 e2 e3 e4 e5 e6 e7 : Addr} {fd k1 k2 k3 k4 k5 k6 k7 : FuncData} (F : Fun K "law" "law" s_law f fd) (B : Bl mg)
    (F1 : Fun K "_law_folded" "_law_folded" sFolded e1 k1) (b1 : Binds K k1 ["_law_script", "_law_size"] []) (m1 : mg "_law_folded" = some (.ref e1))
    (F2 : Fun K "_law_box" "_law_box" sBox e2 k2) (b2 : Binds K k2 ["_law_script", "_law_k"] []) (m2 : mg "_law_box" = some (.ref e2))
    (F3 : Fun K "_law_right" "_law_right" s__law_right e3 k3) (b3 : Binds K k3 ["_law_box_here"] []) (m3 : mg "_law_right" = some (.ref e3)) (G3 : FnOk P w K mg base CX0 4 e3 k3 ["_law_box_here"] spRight)
    (F4 : Fun K "_law_same" "_law_same" sSame e4 k4) (b4 : Binds K k4 ["_law_found", "_law_due"] []) (m4 : mg "_law_same" = some (.ref e4))
    (F5 : Fun K "digits_of" "digits_of" s_digits_of e5 k5) (b5 : Binds K k5 ["one", "other", "many"] []) (m5 : mg "digits_of" = some (.ref e5))
    (F6 : Fun K "worth_of" "worth_of" s_worth_of e6 k6) (b6 : Binds K k6 ["digits"] []) (m6 : mg "worth_of" = some (.ref e6))
    (F7 : Fun K "zeros_of" "zeros_of" s_zeros_of e7 k7) (b7 : Binds K k7 ["number", "many"] []) (m7 : mg "zeros_of" = some (.ref e7)) :
    FnOk P w K mg base CX0 5 f fd ["_law_script"] (spLaw K) := by
  have G1 : FnOk P w K mg base CX0 4 e1 k1 ["_law_script", "_law_size"] (spFolded K) := ok_folded F1 B
  have G2 : FnOk P w K mg base CX0 4 e2 k2 ["_law_script", "_law_k"] (spBox K) := ok_box F2 B
  have G4 : FnOk P w K mg base CX0 3 e4 k4 ["_law_found", "_law_due"] (spSame K 3) := ok_same F4 b4 m4 B 3
  have G5 : FnOk P w K mg base CX0 4 e5 k5 ["one", "other", "many"] spDigitsOf := ok_digitsOf F5 B
  have G6 : FnOk P w K mg base CX0 4 e6 k6 ["digits"] (spWorthOf K) := ok_worthOf F6 B
  have G7 : FnOk P w K mg base CX0 4 e7 k7 ["number", "many"] spZerosOf := ok_zerosOf F7 B
  refine F.ok sc_law (fun vs H Q E h => ?_) (fun cdv A outer s H vs Q E hr h => ?_)
  · obtain ⟨a, ns, rfl, _⟩ := h
    rfl
  obtain ⟨a, ns, rfl, hS, h63, q⟩ := h
  have hr3 : Room 3 _ := hr.mono (by decide)
  refine ⟨_, (pss_cons (ps_set (i := 1) sc_law.nd rfl (.inl rfl) (pe_call G1 hr (by rfl) m1 F1.kp b1 .nil pass0 (pa_cons (pv 0) (pa_cons pe_int pa_nil))))
    (pss_cons (ps_if (pt_not (pt_val (pe_call G4 hr3 (by rfl) m4 F4.kp b4 .nil pass0 (pa_cons (pe_lst (pa_cons (pe_call G5 hr (by rfl) m5 F5.kp b5 .nil pass0 (pa_cons pe_int (pa_cons pe_int (pa_cons pe_int pa_nil)))) (pa_cons (pe_call G6 hr (by rfl) m6 F6.kp b6 .nil pass0 (pa_cons (pe_lst pa_nil) pa_nil)) (pa_cons (pe_call G7 hr (by rfl) m7 F7.kp b7 .nil pass0 (pa_cons pe_int (pa_cons pe_int pa_nil))) pa_nil)))) (pa_cons (pe_lst (pa_cons (pe_lst pa_nil) (pa_cons pe_int (pa_cons pe_int pa_nil)))) pa_nil))))) (pss_one (ps_ret pe_bl)) pss_nil)
    (pss_cons (ps_for PassesOwn.never rfl (pi_range1 (by rfl) B.range (pa_cons (pe_callB (call_max2 rfl) (by rfl) B.max boot_max (pa_cons pe_int (pa_cons (pe_callB call_len_seq (by rfl) B.len PySem.boot_len (pa_cons (pv 1) pa_nil)) pa_nil))) pa_nil)) (pg_name (i := 2) sc_law.nd rfl (.inl rfl)) (pss_cons (ps_set (i := 3) sc_law.nd rfl (.inr rfl) (pe_call G2 hr (by rfl) m2 F2.kp b2 .nil pass0 (pa_cons (pv 1) (pa_cons (pv 2) pa_nil))))
    (pss_one (ps_if (pt_not (pt_val (pe_callB (cr_all rfl) (by rfl) B.all boot_all (pa_cons (pe_lc (own := [("_law_turn", 4)]) (by rfl) sc_law.nd (pi_range1 (by rfl) B.range (pa_cons pe_int pa_nil)) (blkOk_by (own := [("_law_turn", 4)]) (N := ["_law_script", "_law_cells", "_law_k", "_law_box_here", "_law_turn"]) (sc := defScope s_law) (by decide +kernel)) (fun _ _ _ _ _ => pg_name (i := 4) sc_law.nd rfl (Or.inl rfl)) (fun _ _ _ _ _ => pts_nil) (fun _ _ _ _ _ => (pe_call G3 hr (by rfl) m3 F3.kp b3 .nil pass0 (pa_cons (pv 3) pa_nil)))) pa_nil)))) (pss_one (ps_ret pe_bl)) pss_nil))))
    (pss_one (ps_ret pe_bl))))), ?_⟩
  refine ⟨_, rfl, a, ns, 4, rfl, hS, h63, by decide, by decide, fun p H1 zs np s1 ep lz => ?_⟩
  have lz2 : zs.length ≤ 4 := by omega
  -- of no bits at all
  refine ⟨_, _, 0, rfl, by decide, fun o1 H2 no1 s2 eo1 => ?_⟩
  refine ⟨Nat.zero_le _, fun o2 no2 => ?_⟩
  refine ⟨o2, [], rfl, .inl (SqL.of upd_same), ?_⟩
  refine ⟨_, _, rfl, ?_⟩
  refine ⟨(by show 3 ≤ sizeLine; decide), fun o3 no3 => ?_⟩
  refine ⟨Nat.zero_le _, fun o4 no4 => ?_⟩
  refine ⟨(by show 3 ≤ sizeLine; decide), fun o5 no5 => ?_⟩
  have t2 := same_upd (o := .lst []) no2
  have t3 := same_upd (o := .lst [.ref o1, .int 0, .int 0]) no3
  have t4 := same_upd (o := .lst []) no4
  have t5 := same_upd (o := .lst [.ref o4, .int 0, .int 0]) no5
  refine ⟨_, _, _, 2, rfl, rfl, lv_mixed 0 0, dp_mixed (t5 _ _ (t4 _ _ upd_same)) (t5 _ _ (t4 _ _ (t3 _ _ (t2 _ _ eo1)))), dp_mixed upd_same (t5 _ _ upd_same), fun H4 s4 => ?_⟩
  refine ⟨_, rfl, iteF ?_⟩
  have ep4 := s4 _ _ (t5 _ _ (t4 _ _ (t3 _ _ (t2 _ _ (s2 _ _ ep)))))
  refine ⟨_, rfl, p, _, rfl, .inl (SqL.of ep4), _, _, rfl, ?_⟩
  obtain ⟨n, en, hn⟩ : ∃ n : Nat, (if (((zs.map V.int).length : Nat) : Int) > 1 then (((zs.map V.int).length : Nat) : Int) else 1) = (n : Int) ∧ n ≤ 4 := by
    rw [List.length_map]
    split
    · exact ⟨zs.length, rfl, lz2⟩
    · exact ⟨1, rfl, by decide⟩
  rw [en]
  refine ⟨_, rfl, by omega, by omega, ?_⟩
  rw [Int.toNat_natCast]
  refine for_range (n := n) (fun i σ H5 => ∃ (y2 y3 : Option V), σ = [some (.ref a), some (.ref p), y2, y3, none] ∧ Same H4 H5) ⟨none, none, rfl, Same.refl _⟩ ?_ ?_
  · rintro i σ H5 hi ⟨y2, y3, rfl, s5⟩
    refine ⟨_, rfl, _, rfl, p, zs, _, rfl, SqL.of (s5 _ _ ep4), by omega, by omega, fun b H6 nb s6 B6 => ?_⟩
    refine ⟨6, rfl, by decide, by decide, fun D nD => ?_⟩
    have nDb : D ≠ b := (B6.ne nD).symm
    refine lc_range (n := 6) (fun j H7 => Keep b H6 H7 ∧ BoxAt (200 * j) H7 b ∧ H7 D = some (.lst (List.replicate j (.bl true)))) ⟨Keep.new nD, (B6.same (same_upd nD)).mono (by omega), upd_same⟩ ?_ ?_
    · rintro j H7 hj ⟨k7, B7, eD⟩
      refine ⟨rfl, yesT ?_⟩
      refine ⟨_, rfl, b, _, rfl, B7, by omega, fun H8 B8 k8 => ?_⟩
      refine ⟨_, k8 _ _ eD nDb, ?_, fun x u e n => ?_, BoxAt.mono (B8.at (upd_ne nDb.symm)) (by omega), ?_⟩
      · rw [List.length_replicate]
        exact small1000 (by omega)
      · rw [upd_ne (ne_of_none e nD)]
        exact k8 _ _ (k7 _ _ e n) n
      · rw [upd_same, repl_snoc]
    · rintro H7 ⟨k7, B7, eD⟩
      refine ⟨D, List.replicate 6 true, rfl, .inl (.inl (by rw [List.map_replicate]; exact eD)), _, rfl, ?_⟩
      refine iteF ?_
      exact ⟨_, _, rfl, fun x u e => k7 _ _ (s6 _ _ (s5 _ _ e)) (ne_of_none (s5 _ _ e) nb)⟩
  · rintro σ H5 ⟨y2, y3, rfl, s5⟩
    exact q _
end
theorem all_mk {l : PySem.W.OpenLaw} {w : World} {K : PySem.W.Frag} {h : Heap} {mg : Str → Option Value} {fa f1 f2 f3 f4 f5 f6 f7 f8 f9 f10 f11 f12 f13 f14 f15 : Addr} (X : K.In h) (G : h.Ns mainGlobals mg) (hfa : mg "law" = some (.ref fa))
    {od1 an1 od2 an2 od3 an3 od4 an4 od5 an5 od6 an6 od7 an7 od8 an8 od9 an9 od10 an10 od11 an11 od12 an12 od13 an13 od14 an14 od15 an15 : Option Addr} {sl1 sl2 sl3 sl4 sl5 sl6 sl7 sl8 sl9 sl10 sl11 sl12 sl13 sl14 sl15 : Array (Option Value)} {oc1 kV1 dc1 pm1 cd1 ct1 oc2 kV2 dc2 pm2 cd2 ct2 oc3 kV3 dc3 pm3 cd3 ct3 oc4 kV4 dc4 pm4 cd4 ct4 oc5 kV5 dc5 pm5 cd5 ct5 oc6 kV6 dc6 pm6 cd6 ct6 oc7 kV7 dc7 pm7 cd7 ct7 oc8 kV8 dc8 pm8 cd8 ct8 oc9 kV9 dc9 pm9 cd9 ct9 oc10 kV10 dc10 pm10 cd10 ct10 oc11 kV11 dc11 pm11 cd11 ct11 oc12 kV12 dc12 pm12 cd12 ct12 oc13 kV13 dc13 pm13 cd13 ct13 oc14 kV14 dc14 pm14 cd14 ct14 oc15 kV15 dc15 pm15 cd15 ct15 : Value}
    (a1 : PySem.W.nsIn K mainGlobals "digits_of" = some (some (.ref f1))) (l1 : K.lookup f1 = some ⟨oc1, od1, .func (PySem.W.fnOf "digits_of" "digits_of" (defArgs s_digits_of) (defBody s_digits_of) (defScope s_digits_of) .none kV1 dc1 pm1 an1 cd1 ct1), sl1⟩) (c1 : PySem.W.codeIn K cd1 "digits_of" = true) (k1 : PySem.W.keepIn K (.ref f1) = true)
    (a2 : PySem.W.nsIn K mainGlobals "worth_of" = some (some (.ref f2))) (l2 : K.lookup f2 = some ⟨oc2, od2, .func (PySem.W.fnOf "worth_of" "worth_of" (defArgs s_worth_of) (defBody s_worth_of) (defScope s_worth_of) .none kV2 dc2 pm2 an2 cd2 ct2), sl2⟩) (c2 : PySem.W.codeIn K cd2 "worth_of" = true) (k2 : PySem.W.keepIn K (.ref f2) = true)
    (a3 : PySem.W.nsIn K mainGlobals "zeros_of" = some (some (.ref f3))) (l3 : K.lookup f3 = some ⟨oc3, od3, .func (PySem.W.fnOf "zeros_of" "zeros_of" (defArgs s_zeros_of) (defBody s_zeros_of) (defScope s_zeros_of) .none kV3 dc3 pm3 an3 cd3 ct3), sl3⟩) (c3 : PySem.W.codeIn K cd3 "zeros_of" = true) (k3 : PySem.W.keepIn K (.ref f3) = true)
    (a4 : PySem.W.nsIn K mainGlobals "_law_box" = some (some (.ref f4))) (l4 : K.lookup f4 = some ⟨oc4, od4, .func (PySem.W.fnOf "_law_box" "_law_box" (defArgs sBox) (defBody sBox) (defScope sBox) .none kV4 dc4 pm4 an4 cd4 ct4), sl4⟩) (c4 : PySem.W.codeIn K cd4 "_law_box" = true) (k4 : PySem.W.keepIn K (.ref f4) = true)
    (a5 : PySem.W.nsIn K mainGlobals "_law_take" = some (some (.ref f5))) (l5 : K.lookup f5 = some ⟨oc5, od5, .func (PySem.W.fnOf "_law_take" "_law_take" (defArgs sTake) (defBody sTake) (defScope sTake) .none kV5 dc5 pm5 an5 cd5 ct5), sl5⟩) (c5 : PySem.W.codeIn K cd5 "_law_take" = true) (k5 : PySem.W.keepIn K (.ref f5) = true)
    (a6 : PySem.W.nsIn K mainGlobals "_law_folded" = some (some (.ref f6))) (l6 : K.lookup f6 = some ⟨oc6, od6, .func (PySem.W.fnOf "_law_folded" "_law_folded" (defArgs sFolded) (defBody sFolded) (defScope sFolded) .none kV6 dc6 pm6 an6 cd6 ct6), sl6⟩) (c6 : PySem.W.codeIn K cd6 "_law_folded" = true) (k6 : PySem.W.keepIn K (.ref f6) = true)
    (a7 : PySem.W.nsIn K mainGlobals "_law_same" = some (some (.ref f7))) (l7 : K.lookup f7 = some ⟨oc7, od7, .func (PySem.W.fnOf "_law_same" "_law_same" (defArgs sSame) (defBody sSame) (defScope sSame) .none kV7 dc7 pm7 an7 cd7 ct7), sl7⟩) (c7 : PySem.W.codeIn K cd7 "_law_same" = true) (k7 : PySem.W.keepIn K (.ref f7) = true)
    (a8 : PySem.W.nsIn K mainGlobals "_law_bits" = some (some (.ref f8))) (l8 : K.lookup f8 = some ⟨oc8, od8, .func (PySem.W.fnOf "_law_bits" "_law_bits" (defArgs s__law_bits) (defBody s__law_bits) (defScope s__law_bits) .none kV8 dc8 pm8 an8 cd8 ct8), sl8⟩) (c8 : PySem.W.codeIn K cd8 "_law_bits" = true) (k8 : PySem.W.keepIn K (.ref f8) = true)
    (a9 : PySem.W.nsIn K mainGlobals "_law_digits" = some (some (.ref f9))) (l9 : K.lookup f9 = some ⟨oc9, od9, .func (PySem.W.fnOf "_law_digits" "_law_digits" (defArgs s__law_digits) (defBody s__law_digits) (defScope s__law_digits) .none kV9 dc9 pm9 an9 cd9 ct9), sl9⟩) (c9 : PySem.W.codeIn K cd9 "_law_digits" = true) (k9 : PySem.W.keepIn K (.ref f9) = true)
    (a10 : PySem.W.nsIn K mainGlobals "_law_worth" = some (some (.ref f10))) (l10 : K.lookup f10 = some ⟨oc10, od10, .func (PySem.W.fnOf "_law_worth" "_law_worth" (defArgs s__law_worth) (defBody s__law_worth) (defScope s__law_worth) .none kV10 dc10 pm10 an10 cd10 ct10), sl10⟩) (c10 : PySem.W.codeIn K cd10 "_law_worth" = true) (k10 : PySem.W.keepIn K (.ref f10) = true)
    (a11 : PySem.W.nsIn K mainGlobals "_law_zeros" = some (some (.ref f11))) (l11 : K.lookup f11 = some ⟨oc11, od11, .func (PySem.W.fnOf "_law_zeros" "_law_zeros" (defArgs s__law_zeros) (defBody s__law_zeros) (defScope s__law_zeros) .none kV11 dc11 pm11 an11 cd11 ct11), sl11⟩) (c11 : PySem.W.codeIn K cd11 "_law_zeros" = true) (k11 : PySem.W.keepIn K (.ref f11) = true)
    (a12 : PySem.W.nsIn K mainGlobals "_law_pair" = some (some (.ref f12))) (l12 : K.lookup f12 = some ⟨oc12, od12, .func (PySem.W.fnOf "_law_pair" "_law_pair" (defArgs s__law_pair) (defBody s__law_pair) (defScope s__law_pair) .none kV12 dc12 pm12 an12 cd12 ct12), sl12⟩) (c12 : PySem.W.codeIn K cd12 "_law_pair" = true) (k12 : PySem.W.keepIn K (.ref f12) = true)
    (a13 : PySem.W.nsIn K mainGlobals "_law_number" = some (some (.ref f13))) (l13 : K.lookup f13 = some ⟨oc13, od13, .func (PySem.W.fnOf "_law_number" "_law_number" (defArgs s__law_number) (defBody s__law_number) (defScope s__law_number) .none kV13 dc13 pm13 an13 cd13 ct13), sl13⟩) (c13 : PySem.W.codeIn K cd13 "_law_number" = true) (k13 : PySem.W.keepIn K (.ref f13) = true)
    (a14 : PySem.W.nsIn K mainGlobals "_law_right" = some (some (.ref f14))) (l14 : K.lookup f14 = some ⟨oc14, od14, .func (PySem.W.fnOf "_law_right" "_law_right" (defArgs s__law_right) (defBody s__law_right) (defScope s__law_right) .none kV14 dc14 pm14 an14 cd14 ct14), sl14⟩) (c14 : PySem.W.codeIn K cd14 "_law_right" = true) (k14 : PySem.W.keepIn K (.ref f14) = true)
    (a15 : PySem.W.nsIn K mainGlobals "law" = some (some (.ref f15))) (l15 : K.lookup f15 = some ⟨oc15, od15, .func (PySem.W.fnOf "law" "law" (defArgs s_law) (defBody s_law) (defScope s_law) .none kV15 dc15 pm15 an15 cd15 ct15), sl15⟩) (c15 : PySem.W.codeIn K cd15 "law" = true) (k15 : PySem.W.keepIn K (.ref f15) = true)
    (z1 : PySem.W.nsIn K mainGlobals "len" = some none)
    (z2 : PySem.W.nsIn K mainGlobals "abs" = some none)
    (z3 : PySem.W.nsIn K mainGlobals "int" = some none)
    (z4 : PySem.W.nsIn K mainGlobals "divmod" = some none)
    (z5 : PySem.W.nsIn K mainGlobals "list" = some none)
    (z6 : PySem.W.nsIn K mainGlobals "enumerate" = some none)
    (z7 : PySem.W.nsIn K mainGlobals "isinstance" = some none)
    (z8 : PySem.W.nsIn K mainGlobals "tuple" = some none)
    (z9 : PySem.W.nsIn K mainGlobals "str" = some none)
    (z10 : PySem.W.nsIn K mainGlobals "bool" = some none)
    (z11 : PySem.W.nsIn K mainGlobals "zip" = some none)
    (z12 : PySem.W.nsIn K mainGlobals "all" = some none)
    (z13 : PySem.W.nsIn K mainGlobals "range" = some none)
    (z14 : PySem.W.nsIn K mainGlobals "max" = some none)
    (z15 : PySem.W.nsIn K mainGlobals "any" = some none)
    (z16 : PySem.W.nsIn K mainGlobals "min" = some none)
    (z17 : PySem.W.nsIn K mainGlobals "sum" = some none)
    : ∃ fd : FuncData, (∀ (s : Shared) (v : Value), BindsTo s fd ⟨[v], []⟩ [("_law_script", v)]) ∧ ∀ base : Heap, K.In base → base.Ns mainGlobals mg → FnOk l.prog w K mg base CX0 5 fa fd ["_law_script"] (spLaw K) := by
  have e := hfa.symm.trans (PySem.W.mg_of X G a15)
  cases e
  have F1 := fun_mk (st := s_digits_of) l1 c1 k1
  have b1 := F1.binds (ps := ["one", "other", "many"]) fun _ _ _ _ _ _ us hl => match us, hl with | [_, _, _], _ => rfl
  have m1 := PySem.W.mg_of X G a1
  have F2 := fun_mk (st := s_worth_of) l2 c2 k2
  have b2 := F2.binds (ps := ["digits"]) fun _ _ _ _ _ _ us hl => match us, hl with | [_], _ => rfl
  have m2 := PySem.W.mg_of X G a2
  have F3 := fun_mk (st := s_zeros_of) l3 c3 k3
  have b3 := F3.binds (ps := ["number", "many"]) fun _ _ _ _ _ _ us hl => match us, hl with | [_, _], _ => rfl
  have m3 := PySem.W.mg_of X G a3
  have F4 := fun_mk (st := sBox) l4 c4 k4
  have b4 := F4.binds (ps := ["_law_script", "_law_k"]) fun _ _ _ _ _ _ us hl => match us, hl with | [_, _], _ => rfl
  have m4 := PySem.W.mg_of X G a4
  have F5 := fun_mk (st := sTake) l5 c5 k5
  have b5 := F5.binds (ps := ["_law_box_here", "_law_size"]) fun _ _ _ _ _ _ us hl => match us, hl with | [_, _], _ => rfl
  have m5 := PySem.W.mg_of X G a5
  have F6 := fun_mk (st := sFolded) l6 c6 k6
  have b6 := F6.binds (ps := ["_law_script", "_law_size"]) fun _ _ _ _ _ _ us hl => match us, hl with | [_, _], _ => rfl
  have m6 := PySem.W.mg_of X G a6
  have F7 := fun_mk (st := sSame) l7 c7 k7
  have b7 := F7.binds (ps := ["_law_found", "_law_due"]) fun _ _ _ _ _ _ us hl => match us, hl with | [_, _], _ => rfl
  have m7 := PySem.W.mg_of X G a7
  have F8 := fun_mk (st := s__law_bits) l8 c8 k8
  have b8 := F8.binds (ps := ["_law_number_here", "_law_size"]) fun _ _ _ _ _ _ us hl => match us, hl with | [_, _], _ => rfl
  have m8 := PySem.W.mg_of X G a8
  have F9 := fun_mk (st := s__law_digits) l9 c9 k9
  have b9 := F9.binds (ps := ["_law_one", "_law_other", "_law_many"]) fun _ _ _ _ _ _ us hl => match us, hl with | [_, _, _], _ => rfl
  have m9 := PySem.W.mg_of X G a9
  have F10 := fun_mk (st := s__law_worth) l10 c10 k10
  have b10 := F10.binds (ps := ["_law_digits_here"]) fun _ _ _ _ _ _ us hl => match us, hl with | [_], _ => rfl
  have m10 := PySem.W.mg_of X G a10
  have F11 := fun_mk (st := s__law_zeros) l11 c11 k11
  have b11 := F11.binds (ps := ["_law_number_here", "_law_many"]) fun _ _ _ _ _ _ us hl => match us, hl with | [_, _], _ => rfl
  have m11 := PySem.W.mg_of X G a11
  have F12 := fun_mk (st := s__law_pair) l12 c12 k12
  have b12 := F12.binds (ps := ["_law_box_here", "_law_many"]) fun _ _ _ _ _ _ us hl => match us, hl with | [_, _], _ => rfl
  have m12 := PySem.W.mg_of X G a12
  have F13 := fun_mk (st := s__law_number) l13 c13 k13
  have b13 := F13.binds (ps := ["_law_box_here", "_law_size"]) fun _ _ _ _ _ _ us hl => match us, hl with | [_, _], _ => rfl
  have m13 := PySem.W.mg_of X G a13
  have F14 := fun_mk (st := s__law_right) l14 c14 k14
  have b14 := F14.binds (ps := ["_law_box_here"]) fun _ _ _ _ _ _ us hl => match us, hl with | [_], _ => rfl
  have m14 := PySem.W.mg_of X G a14
  have F15 := fun_mk (st := s_law) l15 c15 k15
  have B : Bl mg := ⟨PySem.W.mg_none_of X G z1, PySem.W.mg_none_of X G z2, PySem.W.mg_none_of X G z3, PySem.W.mg_none_of X G z4, PySem.W.mg_none_of X G z5, PySem.W.mg_none_of X G z6, PySem.W.mg_none_of X G z7, PySem.W.mg_none_of X G z8, PySem.W.mg_none_of X G z9, PySem.W.mg_none_of X G z10, PySem.W.mg_none_of X G z11, PySem.W.mg_none_of X G z12, PySem.W.mg_none_of X G z13, PySem.W.mg_none_of X G z14, PySem.W.mg_none_of X G z15, PySem.W.mg_none_of X G z16, PySem.W.mg_none_of X G z17⟩
  refine ⟨PySem.W.fnOf "law" "law" (defArgs s_law) (defBody s_law) (defScope s_law) .none kV15 dc15 pm15 an15 cd15 ct15, fun s v => .of_eq rfl, fun base _ _ => ?_⟩
  have L : Law1 K mg f12 f13 f5 f7 f1 f8 f9 f11 f2 f10 f3 _ _ _ _ _ _ _ _ _ _ _ := ⟨F12, b12, m12, F13, b13, m13, F5, b5, m5, F7, b7, m7, F1, b1, m1, F8, b8, m8, F9, b9, m9, F11, b11, m11, F2, b2, m2, F10, b10, m10, F3, b3, m3⟩
  exact ok_law F15 B F6 b6 m6 F4 b4 m4 F14 b14 m14 (ok_right F14 B L) F7 b7 m7 F1 b1 m1 F2 b2 m2 F3 b3 m3
end GZ
open PySem PySem.W PyProof.Rows
set_option maxRecDepth 100000 in
set_option maxHeartbeats 0 in
theorem PySem.Challenge.cw_guessedzeros_k21_digits_and_zeros_holds : PySem.Challenge.rw_guessedzeros_k21_digits_and_zeros.Holds := by
  w_on; o_law; k_head; (case hw => w_witness2)
  k_fill
  refine L2.walk_of (l := PySem.Challenge.rw_guessedzeros_k21_digits_and_zeros) (n := 63) (k := 5) (x := "_law_script") (CX := fun _ => L2.CX0) (sp := fun w => GZ.spLaw _) rfl (by decide) rfl ⟨rfl, by decide, by decide⟩ (fun w h Y => PySem.W.kIn_of Y) ?F (fun _ _ a ns hl _ hS => ⟨a, ns, rfl, hS, hl, fun _ => rfl⟩) (fun _ _ _ _ _ h => h)
  case F =>
    intro w mg fa h KX G hmg
    refine' GZ.all_mk KX G hmg ?a1 ?l1 ?c1 ?k1 ?a2 ?l2 ?c2 ?k2 ?a3 ?l3 ?c3 ?k3 ?a4 ?l4 ?c4 ?k4 ?a5 ?l5 ?c5 ?k5 ?a6 ?l6 ?c6 ?k6 ?a7 ?l7 ?c7 ?k7 ?a8 ?l8 ?c8 ?k8 ?a9 ?l9 ?c9 ?k9 ?a10 ?l10 ?c10 ?k10 ?a11 ?l11 ?c11 ?k11 ?a12 ?l12 ?c12 ?k12 ?a13 ?l13 ?c13 ?k13 ?a14 ?l14 ?c14 ?k14 ?a15 ?l15 ?c15 ?k15 ?z1 ?z2 ?z3 ?z4 ?z5 ?z6 ?z7 ?z8 ?z9 ?z10 ?z11 ?z12 ?z13 ?z14 ?z15 ?z16 ?z17
    (case a1 => k_is)
    (case l1 => k_is)
    (case c1 => k_is)
    (case k1 => k_is)
    (case a2 => k_is)
    (case l2 => k_is)
    (case c2 => k_is)
    (case k2 => k_is)
    (case a3 => k_is)
    (case l3 => k_is)
    (case c3 => k_is)
    (case k3 => k_is)
    (case a4 => k_is)
    (case l4 => k_is)
    (case c4 => k_is)
    (case k4 => k_is)
    (case a5 => k_is)
    (case l5 => k_is)
    (case c5 => k_is)
    (case k5 => k_is)
    (case a6 => k_is)
    (case l6 => k_is)
    (case c6 => k_is)
    (case k6 => k_is)
    (case a7 => k_is)
    (case l7 => k_is)
    (case c7 => k_is)
    (case k7 => k_is)
    (case a8 => k_is)
    (case l8 => k_is)
    (case c8 => k_is)
    (case k8 => k_is)
    (case a9 => k_is)
    (case l9 => k_is)
    (case c9 => k_is)
    (case k9 => k_is)
    (case a10 => k_is)
    (case l10 => k_is)
    (case c10 => k_is)
    (case k10 => k_is)
    (case a11 => k_is)
    (case l11 => k_is)
    (case c11 => k_is)
    (case k11 => k_is)
    (case a12 => k_is)
    (case l12 => k_is)
    (case c12 => k_is)
    (case k12 => k_is)
    (case a13 => k_is)
    (case l13 => k_is)
    (case c13 => k_is)
    (case k13 => k_is)
    (case a14 => k_is)
    (case l14 => k_is)
    (case c14 => k_is)
    (case k14 => k_is)
    (case a15 => k_is)
    (case l15 => k_is)
    (case c15 => k_is)
    (case k15 => k_is)
    (case z1 => k_is)
    (case z2 => k_is)
    (case z3 => k_is)
    (case z4 => k_is)
    (case z5 => k_is)
    (case z6 => k_is)
    (case z7 => k_is)
    (case z8 => k_is)
    (case z9 => k_is)
    (case z10 => k_is)
    (case z11 => k_is)
    (case z12 => k_is)
    (case z13 => k_is)
    (case z14 => k_is)
    (case z15 => k_is)
    (case z16 => k_is)
    (case z17 => k_is)

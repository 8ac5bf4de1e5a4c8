import PyProof.Rows.All
import Wide.All
import OpenK.AllK
import Wide.FinOn
import HandS.ForMost
import HandS.Walk
import HandS.Zip
import HandS.WideBits
import HandS.IsInst
import OpenK.KEqL
import HandS.Text
import HandS.Style
import HandS.NoneIn
import HandS.Wide
import PySem.Challenge.RW_guessedzeros_k31_digits_of_base_four
set_option Elab.async false
set_option linter.all false
set_option maxRecDepth 100000
set_option maxHeartbeats 4000000
namespace GZ
open PySem PySem.Spec PyProof.Rows L2
/-! ### the text by places -/
def topS (i : Nat) : Stmt := PySem.Challenge.pw_guessedzeros_k31_digits_of_base_four.main.body.getD i (.Pass ⟨0, 0, 0, 0⟩)
abbrev s_fours_of : Stmt := topS 1
theorem sc_fours_of : FnScope ["number", "doubled", "place"] ["number"] (defScope s_fours_of) := ⟨rfl, rfl, rfl, by decide +kernel, rfl, by decide +kernel, by decide +kernel⟩
abbrev s_four_of : Stmt := topS 2
theorem sc_four_of : FnScope ["bits"] ["bits"] (defScope s_four_of) := ⟨rfl, rfl, rfl, by decide +kernel, rfl, by decide +kernel, by decide +kernel⟩
abbrev s_rows_of : Stmt := topS 3
theorem sc_rows_of : FnScope ["one", "number", "fours", "last", "at", "four"] ["one", "number"] (defScope s_rows_of) := ⟨rfl, rfl, rfl, by decide +kernel, rfl, by decide +kernel, by decide +kernel⟩
abbrev sBox : Stmt := topS 5
abbrev sTake : Stmt := topS 6
abbrev sFolded : Stmt := topS 7
abbrev sSame : Stmt := topS 8
abbrev s__law_number : Stmt := topS 9
theorem sc__law_number : FnScope ["_law_box_here", "_law_many", "_law_some"] ["_law_box_here"] (defScope s__law_number) := ⟨rfl, rfl, rfl, by decide +kernel, rfl, by decide +kernel, by decide +kernel⟩
abbrev s__law_digits : Stmt := topS 10
theorem sc__law_digits : FnScope ["_law_number_here", "_law_figures", "_law_place", "_law_line", "_law_found", "_law_at", "_law_above", "_law_own", "_law_below"] ["_law_number_here"] (defScope s__law_digits) := ⟨rfl, rfl, rfl, by decide +kernel, rfl, by decide +kernel, by decide +kernel⟩
abbrev s__law_right : Stmt := topS 11
theorem sc__law_right : FnScope ["_law_box_here", "_law_number_here", "_law_one", "_law_due", "_law_again", "_law_found", "_law_rows", "_law_total", "_law_digit", "_law_places", "_law_at_places", "_law_at", "_law_worth"] ["_law_box_here"] (defScope s__law_right) := ⟨rfl, rfl, rfl, by decide +kernel, rfl, by decide +kernel, by decide +kernel⟩
abbrev s_law : Stmt := topS 12
theorem sc_law : FnScope ["_law_script", "_law_cells", "_law_k", "_law_box_here", "_law_turn"] ["_law_script"] (defScope s_law) := ⟨rfl, rfl, rfl, by decide +kernel, rfl, by decide +kernel, by decide +kernel⟩
/-! ### built-in names that the text leaves alone -/
structure Bl (mg : Str → Option Value) : Prop where
  len : mg "len" = none
  abs : mg "abs" = none
  int : mg "int" = none
  divmod : mg "divmod" = none
  list : mg "list" = none
  enumerate : mg "enumerate" = none
  isinstance : mg "isinstance" = none
  tuple : mg "tuple" = none
  str : mg "str" = none
  bool : mg "bool" = none
  zip : mg "zip" = none
  all : mg "all" = none
  range : mg "range" = none
  max : mg "max" = none
  any : mg "any" = none
  min : mg "min" = none
  sum : mg "sum" = none
/-! ### rules with the written part told (for the blocks of comprehensions) -/
section
variable {X : Cx} {K : PySem.W.Frag}
theorem call_len_seqK (h : X.K = K := by rfl) : CallR X (.builtin "len") (fun xs H Q => ∃ p ys, xs = [.ref p] ∧ (SqL K H p ys ∨ SqT K H p ys) ∧ Q (.int ys.length) H) := by subst h; exact call_len_seq
theorem call_list_ofK (h : X.K = K := by rfl) : CallR X (.type "list") (fun xs H Q => ∃ p ys, xs = [.ref p] ∧ (SqL K H p ys ∨ SqT K H p ys) ∧ ∀ l, H l = none → Q (.ref l) (upd H l (.lst ys))) := by subst h; exact call_list_of
theorem call_tuple_ofK (h : X.K = K := by rfl) : CallR X (.type "tuple") (fun xs H Q => ∃ p ys, xs = [.ref p] ∧ ((SqL K H p ys ∧ ∀ l, H l = none → Q (.ref l) (upd H l (.tup ys))) ∨ (SqT K H p ys ∧ Q (.ref p) H))) := by subst h; exact call_tuple_of
theorem ix_listK (h : X.K = K := by rfl) : IxR X (rIxL K) := by subst h; exact ix_list
theorem ix_tupK (h : X.K = K := by rfl) : IxR X (rIxT K) := by subst h; exact ix_tup
theorem ix_seqK (h : X.K = K := by rfl) : IxR X (rIx K) := by subst h; exact ix_seq
theorem op_in_seqK (h : X.K = K := by rfl) : OpR X (compareOp .In) (rIn K false) := by subst h; exact op_in_seq
theorem op_notIn_seqK (h : X.K = K := by rfl) : OpR X (compareOp .NotIn) (rIn K true) := by subst h; exact op_notIn_seq
theorem sl_listK (h : X.K = K := by rfl) : SlR X (rSlL K) := by subst h; exact sl_list
theorem cr_sumK (hc : X.calm = true) (h : X.K = K := by rfl) : CallR X (.builtin "sum") (rSum K) := by subst h; exact cr_sum hc
theorem cr_allK (hc : X.calm = true) (h : X.K = K := by rfl) : CallR X (.builtin "all") (rAll K) := by subst h; exact cr_all hc
theorem cr_anyK (hc : X.calm = true) (h : X.K = K := by rfl) : CallR X (.builtin "any") (rAny K) := by subst h; exact cr_any hc
theorem call_isiK' (h : X.K = K := by rfl) : CallR X (.builtin "isinstance") (rIsi K) := by subst h; exact call_isi
theorem pi_listK {tg l : Expr} {tl : TE} (hl : PE X l tl) (h : X.K = K := by rfl) : PI X tg l (iList K tl) := by subst h; exact pi_list hl
theorem pi_tupK {tg l : Expr} {tl : TE} (hl : PE X l tl) (h : X.K = K := by rfl) : PI X tg l (iTup K tl) := by subst h; exact pi_tup hl
theorem pe_fldK {e : Expr} {ta : TE} {f : Str} {pos : Pos} (he : PE X e ta) (hb : attributeBase e f X.env (eval e X.env) = eval e X.env) (h : X.K = K := by rfl) : PE X (.Attribute e f pos) (tFld K ta f) := by subst h; exact pe_fld he hb
end
/-! ### heaps -/
theorem same_upd {H : Hp} {p : Addr} {o : HO} (h : H p = none) : Same H (upd H p o) := fun b x e => by
  rw [upd_ne (ne_of_none e h)]
  exact e
/-- all but what stands at b is as it was -/
def Keep (b : Addr) (H H' : Hp) : Prop := ∀ p o, H p = some o → p ≠ b → H' p = some o
theorem Keep.refl (b : Addr) (H : Hp) : Keep b H H := fun _ _ h _ => h
theorem Keep.trans {b : Addr} {H H1 H2 : Hp} (x : Keep b H H1) (y : Keep b H1 H2) : Keep b H H2 := fun p o h n => y p o (x p o h n) n
theorem Keep.ofSame {b : Addr} {H H1 : Hp} (x : Same H H1) : Keep b H H1 := fun p o h _ => x p o h
theorem Keep.upd {b : Addr} {H : Hp} {o : HO} : Keep b H (upd H b o) := fun p x h n => by
  rw [upd_ne n]
  exact h
theorem Keep.new {b p : Addr} {H : Hp} {o : HO} (h : H p = none) : Keep b H (L2.upd H p o) := .ofSame (same_upd h)
theorem Keep.seq {K : PySem.W.Frag} {b a : Addr} {H H' : Hp} {xs : List V} (e : Keep b H H') (n : a ≠ b) (h : SqL K H a xs) : SqL K H' a xs := by
  rcases h with (h | ⟨o, h⟩) | h
  · exact .inl (.inl (e _ _ h n))
  · exact .inl (.inr ⟨o, e _ _ h n⟩)
  · exact .inr h
theorem Keep.seqT {K : PySem.W.Frag} {b a : Addr} {H H' : Hp} {xs : List V} (e : Keep b H H') (n : a ≠ b) (h : SqT K H a xs) : SqT K H' a xs := by
  rcases h with (h | ⟨o, h⟩) | h
  · exact .inl (.inl (e _ _ h n))
  · exact .inl (.inr ⟨o, e _ _ h n⟩)
  · exact .inr h
theorem Same.seqT {K : PySem.W.Frag} {a : Addr} {H H' : Hp} {xs : List V} (e : Same H H') (h : SqT K H a xs) : SqT K H' a xs := by
  rcases h with (h | ⟨o, h⟩) | h
  · exact .inl (.inl (e _ _ h))
  · exact .inl (.inr ⟨o, e _ _ h⟩)
  · exact .inr h
/-- a drawing box: three ints, the last at most c -/
def BoxAt (c : Int) (H : Hp) (b : Addr) : Prop := ∃ x0 x1 x2 : Int, H b = some (.lst [.int x0, .int x1, .int x2]) ∧ 0 ≤ x0 ∧ 0 ≤ x1 ∧ x1 < 2147483647 ∧ 0 ≤ x2 ∧ x2 ≤ c
theorem BoxAt.mono {c d : Int} {H : Hp} {b : Addr} (h : BoxAt c H b) (l : c ≤ d) : BoxAt d H b := by
  obtain ⟨x0, x1, x2, e, a1, a2, a3, a4, a5⟩ := h
  exact ⟨x0, x1, x2, e, a1, a2, a3, a4, by omega⟩
theorem BoxAt.same {c : Int} {H H' : Hp} {b : Addr} (h : BoxAt c H b) (s : Same H H') : BoxAt c H' b := by
  obtain ⟨x0, x1, x2, e, r⟩ := h
  exact ⟨x0, x1, x2, s _ _ e, r⟩
theorem BoxAt.at {c : Int} {H H' : Hp} {b : Addr} (h : BoxAt c H b) (s : H' b = H b) : BoxAt c H' b := by
  obtain ⟨x0, x1, x2, e, r⟩ := h
  exact ⟨x0, x1, x2, by rw [s]; exact e, r⟩
theorem BoxAt.ne {c : Int} {H : Hp} {b p : Addr} (h : BoxAt c H b) (n : H p = none) : b ≠ p := by
  obtain ⟨x0, x1, x2, e, r⟩ := h
  exact ne_of_none e n
theorem e7 : (10 : Int) ^ ((7 : Int).toNat) = 10000000 := by decide
theorem e18 : (10 : Int) ^ ((18 : Int).toNat) = 1000000000000000000 := by decide
theorem divp_small {i j : Int} (h0 : 0 < j) (h1 : j < 2 ^ 250) : CDivP i j := by
  refine ⟨h0, ?_⟩
  show (decide ((if j == 0 then 0 else j.natAbs.log2 / 30 + 1) > 300) && _) = false
  rw [if_neg (show ¬ (j == 0) = true by simpa using (show j ≠ 0 by omega))]
  have hl : j.natAbs.log2 < 250 := PySem.Flt.log2_lt_of (by decide) (by omega)
  rw [decide_eq_false (show ¬ (j.natAbs.log2 / 30 + 1 > 300) by omega), Bool.false_and]
section
variable {P : Program} {w : World} {K : PySem.W.Frag} {mg : Str → Option Value} {base : Heap}
/-! ### _law_take -/
theorem scTake : FnScope ["_law_box_here", "_law_size", "_law_found", "_law_step", "_law_once", "_law_twice"] ["_law_box_here", "_law_size"] (defScope sTake) := ⟨rfl, rfl, rfl, by decide +kernel, rfl, by decide +kernel, by decide +kernel⟩
def spTake (k : Nat) : Sp := fun vs H Q _ => ∃ (b : Addr) (n c : Int), vs = [.ref b, .int n] ∧ BoxAt c H b ∧ 1 ≤ n ∧ n ≤ 10000000 ^ k ∧ n < 2 ^ 250 ∧ c + 2 ^ k ≤ 1000000000 ∧ 0 < k ∧
  ∀ (r : Int) (H' : Hp), 0 ≤ r → r < n → BoxAt (c + 2 ^ (k - 1)) H' b → Keep b H H' → Q (.int r) H'
theorem take_none {f : Addr} {fd : FuncData} : FnOk P w K mg base CX0 0 f fd ["_law_box_here", "_law_size"] (spTake 0) := by
  have no : ∀ vs H Q E, ¬ spTake 0 vs H Q E := fun vs H Q E h => by
    obtain ⟨b, n, c, _, _, _, _, _, _, h0, _⟩ := h
    omega
  exact ⟨fun vs H Q E h => absurd h (no vs H Q E), fun A outer s H args us vs Q E _ _ _ _ h => absurd h (no vs H Q E)⟩
theorem ok_take1 {f : Addr} {fd : FuncData} {k : Nat} (F : Fun K "_law_take" "_law_take" sTake f fd) (G : FnOk P w K mg base CX0 k f fd ["_law_box_here", "_law_size"] (spTake k)) (bf : Binds K fd ["_law_box_here", "_law_size"] []) (mf : mg "_law_take" = some (.ref f)) (B : Bl mg) :
    FnOk P w K mg base CX0 (k + 1) f fd ["_law_box_here", "_law_size"] (spTake (k + 1)) := by
  refine F.ok scTake (fun vs H Q E h => ?_) (fun cdv A outer s H vs Q E hr h => ?_)
  · obtain ⟨b, n, c, rfl, _⟩ := h
    rfl
  obtain ⟨b, n, c, rfl, hB, hn1, hnk, hn60, hc, _, q⟩ := h
  obtain ⟨x0, x1, x2, hb, h0, h1, h1', h2, h2'⟩ := hB
  have hp : (0 : Int) < 2 ^ k := Int.pow_pos (by decide)
  have hk2 : (2 : Int) ^ (k + 1) = 2 ^ k * 2 := Int.pow_succ 2 k
  refine ⟨_, pss_cons (ps_if (pt_cmpR op_gt (pe_ix ix_list (pv 0) pe_int (fun _ _ => rfl)) pe_int (nomark _))
      (pss_cons (ps_asg (pe_callB call_divmodW (by rfl) B.divmod boot_divmod (pa_cons (pe_ix ix_list (pv 0) pe_int (fun _ _ => rfl)) (pa_cons (pv 1) pa_nil)))
          (pg_tup (by rfl) (pgs_cons (pg_sub (pv 0) pe_int set_list) (pgs_cons (pg_name (i := 2) scTake.nd rfl (.inl rfl)) pgs_nil))))
        (pss_one (ps_ret (pv 2)))) pss_nil)
    (pss_cons (ps_if (pt_cmpR op_gt (pv 1) (pe_op op_pow pe_int pe_int) (nomark _))
      (pss_one (ps_ret (pe_op op_mod (pe_op op_add (pe_call G hr (by rfl) mf F.kp bf .nil pass0 (pa_cons (pv 0) (pa_cons (pe_op op_pow pe_int pe_int) pa_nil)))
          (pe_op op_mul (pe_op op_pow pe_int pe_int) (pe_call G hr (by rfl) mf F.kp bf .nil pass0 (pa_cons (pv 0) (pa_cons (pe_op op_add (pe_op op_fdiv (pe_op op_sub (pv 1) pe_int) (pe_op op_pow pe_int pe_int)) pe_int) pa_nil))))) (pv 1)))) pss_nil)
    (pss_cons (ps_asg (pe_op op_add (pe_ix ix_list (pv 0) pe_int (fun _ _ => rfl)) pe_int) (pg_sub (pv 0) pe_int set_list))
    (pss_cons (ps_set (i := 3) scTake.nd rfl (.inl rfl) (pe_op op_add pe_int (pe_op op_mul (pe_ix ix_list (pv 0) pe_int (fun _ _ => rfl)) (pe_ix ix_list (pv 0) pe_int (fun _ _ => rfl)))))
    (pss_cons (ps_set (i := 4) scTake.nd rfl (.inl rfl) (pe_op op_mod (pe_op op_mul (pe_op op_add (pe_ix ix_list (pv 0) pe_int (fun _ _ => rfl)) (pe_op op_mul pe_int (pe_ix ix_list (pv 0) pe_int (fun _ _ => rfl)))) (pv 3)) pe_int))
    (pss_cons (ps_set (i := 5) scTake.nd rfl (.inl rfl) (pe_op op_mod (pe_op op_add (pe_op op_mul (pv 4) (pe_op op_add (pe_op op_mod (pv 4) pe_int) pe_int)) (pe_ix ix_list (pv 0) pe_int (fun _ _ => rfl))) pe_int))
    (pss_one (ps_ret (pe_op op_mod (pe_op op_fdiv (pe_op op_mod (pe_op op_mul (pv 5) (pe_op op_add (pe_op op_mod (pv 5) pe_int) pe_int)) pe_int) pe_int) (pv 1))))))))), ?_⟩
  refine ⟨_, rfl, b, _, _, _, rfl, rfl, SqL.of hb, rfl, _, _, rfl, rfl, _, rfl, ite2 (fun cc => ?_) (fun cc => ?_)⟩
  · -- the great number's own digits
    refine ⟨_, rfl, b, _, _, _, rfl, rfl, SqL.of hb, rfl, _, rfl, _, _, rfl, divp_small (by omega) (by omega), fun p np => ?_⟩
    have nbp : b ≠ p := ne_of_none hb np
    refine ⟨p, _, rfl, .inl (.inl upd_same), rfl, _, _, rfl, _, rfl, b, _, _, 0, rfl, rfl, (by rw [upd_ne nbp]; exact hb), rfl, _, _, rfl, rfl, _, rfl, ?_⟩
    refine q _ _ (Int.emod_nonneg _ (by omega)) (Int.emod_lt_of_pos _ (by omega)) ⟨x0 / n, x1, x2, upd_same, Int.ediv_nonneg h0 (by omega), h1, h1', h2, by show x2 ≤ c + 2 ^ k; omega⟩ ?_
    exact Keep.trans (Keep.new np) Keep.upd
  · refine ⟨_, rfl, _, _, rfl, rfl, ⟨by decide, by decide, by decide⟩, _, _, rfl, rfl, _, rfl, ite2 (fun c2 => ?_) (fun c2 => ?_)⟩
    · -- two lesser draws
      have c3 : (10 : Int) ^ ((7 : Int).toNat) < n := of_decide_eq_true c2
      rw [e7] at c3
      have hk : 0 < k := by
        rcases Nat.eq_zero_or_pos k with z | z
        · subst z
          rw [show (10000000 : Int) ^ (0 + 1) = 10000000 by decide] at hnk
          omega
        · exact z
      obtain ⟨j, rfl⟩ : ∃ j, k = j + 1 := ⟨k - 1, by omega⟩
      have hj2 : (2 : Int) ^ (j + 1) = 2 ^ j * 2 := Int.pow_succ 2 j
      have hjp : (0 : Int) < 2 ^ j := Int.pow_pos (by decide)
      have h10 : (10000000 : Int) ≤ 10000000 ^ (j + 1) := by
        rw [Int.pow_succ]
        have : (0 : Int) < 10000000 ^ j := Int.pow_pos (by decide)
        omega
      have hdiv : (n - 1) / 10000000 + 1 ≤ 10000000 ^ (j + 1) := by
        rw [Int.pow_succ] at hnk
        have : n - 1 < 10000000 ^ (j + 1) * 10000000 := by omega
        have := Int.ediv_lt_of_lt_mul (by decide) this
        omega
      refine ⟨_, rfl, _, _, rfl, rfl, ⟨by decide, by decide, by decide⟩, b, _, c, rfl, ⟨x0, x1, x2, hb, h0, h1, h1', h2, h2'⟩, (by rw [e7]; decide), (by rw [e7]; exact h10), (by rw [e7]; decide), by omega, by omega, fun r1 H1 a1 a2 B1 k1 => ?_⟩
      refine ⟨_, _, rfl, rfl, ⟨by decide, by decide, by decide⟩, _, rfl, _, rfl, _, _, rfl, rfl, _, _, rfl, rfl, ⟨by decide, by decide, by decide⟩, _, _, rfl, rfl, (by rw [e7]; exact ⟨by decide, by decide⟩), _, _, rfl, rfl, ?_⟩
      rw [e7]
      refine ⟨b, _, c + 2 ^ j, rfl, B1, by omega, hdiv, by omega, by omega, by omega, fun r2 H2 a3 a4 B2 k2 => ?_⟩
      refine ⟨_, _, rfl, rfl, .inl ⟨by decide, by decide⟩, _, _, rfl, rfl, _, rfl, _, _, rfl, rfl, (by show (0 : Int) < n; omega), ?_⟩
      refine q _ _ (Int.emod_nonneg _ (by omega)) (Int.emod_lt_of_pos _ (by omega)) (B2.mono ?_) (k1.trans k2)
      show c + 2 ^ j + 2 ^ j ≤ c + 2 ^ (j + 1)
      omega
    · -- a turn of the wheel
      refine ⟨_, rfl, b, _, _, _, rfl, rfl, SqL.of hb, rfl, _, _, rfl, rfl, _, rfl, b, _, _, 2, rfl, rfl, hb, rfl, ?_⟩
      have hb2 : (upd H b (.lst [.int x0, .int x1, .int (x2 + 1)])) b = some (.lst [.int x0, .int x1, .int (x2 + 1)]) := upd_same
      refine ⟨_, rfl, b, _, _, _, rfl, rfl, SqL.of hb2, rfl, _, rfl, b, _, _, _, rfl, rfl, SqL.of hb2, rfl, _, _, rfl, rfl, .inl ⟨by omega, by omega⟩, _, _, rfl, rfl, ?_⟩
      refine ⟨_, rfl, b, _, _, _, rfl, rfl, SqL.of hb2, rfl, _, rfl, b, _, _, _, rfl, rfl, SqL.of hb2, rfl, _, _, rfl, rfl, .inl ⟨by omega, by omega⟩, _, _, rfl, rfl, _, rfl, _, _, rfl, rfl, .inl ⟨by omega, by omega⟩, _, _, rfl, rfl, (by show (0 : Int) < 2147483587; decide), ?_⟩
      generalize (x1 + 39373 * (x2 + 1)) * (69621 + (x2 + 1) * (x2 + 1)) = y
      have y1 := Int.emod_nonneg y (show (2147483587 : Int) ≠ 0 by decide)
      have y2 := Int.emod_lt_of_pos y (show (0 : Int) < 2147483587 by decide)
      refine ⟨_, rfl, _, rfl, _, _, rfl, rfl, (by show (0 : Int) < 30011; decide), _, _, rfl, rfl, _, _, rfl, rfl, .inl ⟨by omega, by omega⟩, _, rfl, b, _, _, _, rfl, rfl, SqL.of hb2, rfl, _, _, rfl, rfl, _, _, rfl, rfl, (by show (0 : Int) < 2147483563; decide), ?_⟩
      generalize (y % 2147483587 * (y % 2147483587 % 30011 + 5) + (x2 + 1)) = z
      have z1 := Int.emod_nonneg z (show (2147483563 : Int) ≠ 0 by decide)
      have z2 := Int.emod_lt_of_pos z (show (0 : Int) < 2147483563 by decide)
      refine ⟨_, rfl, _, rfl, _, _, rfl, rfl, (by show (0 : Int) < 1013; decide), _, _, rfl, rfl, _, _, rfl, rfl, .inl ⟨by omega, by omega⟩, _, _, rfl, rfl, (by show (0 : Int) < 998244353; decide), _, _, rfl, rfl, ⟨by decide, by decide⟩, _, rfl, _, _, rfl, rfl, (by show (0 : Int) < n; omega), ?_⟩
      refine q _ _ (Int.emod_nonneg _ (by omega)) (Int.emod_lt_of_pos _ (by omega)) ⟨x0, x1, x2 + 1, hb2, h0, h1, h1', by omega, by show x2 + 1 ≤ c + 2 ^ k; omega⟩ Keep.upd
theorem ok_take {f : Addr} {fd : FuncData} (F : Fun K "_law_take" "_law_take" sTake f fd) (bf : Binds K fd ["_law_box_here", "_law_size"] []) (mf : mg "_law_take" = some (.ref f)) (B : Bl mg) : ∀ k : Nat, FnOk P w K mg base CX0 k f fd ["_law_box_here", "_law_size"] (spTake k)
  | 0 => take_none
  | k + 1 => ok_take1 F (ok_take F bf mf B k) bf mf B
/-! ### _law_box -/
theorem scBox : FnScope ["_law_script", "_law_k", "_law_cell"] ["_law_script", "_law_k"] (defScope sBox) := ⟨rfl, rfl, rfl, by decide +kernel, rfl, by decide +kernel, by decide +kernel⟩
def spBox (K : PySem.W.Frag) : Sp := fun vs H Q _ => ∃ (a : Addr) (zs : List Int) (k : Int), vs = [.ref a, .int k] ∧ SqL K H a (zs.map V.int) ∧ 0 ≤ k ∧ k ≤ 1000 ∧
  ∀ (p : Addr) (H' : Hp), H p = none → Same H H' → BoxAt 0 H' p → Q (.ref p) H'
theorem b01 (b : Bool) : (-(2 ^ 64) < (if b = true then (1 : Int) else 0)) ∧ (if b = true then (1 : Int) else 0) < 2 ^ 64 := by cases b <;> decide
theorem b01n (b : Bool) : 0 ≤ (if b = true then (1 : Int) else 0) := by cases b <;> decide
theorem abs_nn (i : Int) : 0 ≤ (if i < 0 then -i else i) := by
  split <;> omega
theorem at_int {zs : List Int} {k : Int} (h0 : 0 ≤ k) (h : k < (zs.length : Int)) : ∃ v : Int, atI (zs.map V.int) k = some (.int v) ∧ zs[k.toNat]? = some v := by
  have hk : k.toNat < zs.length := by omega
  have ek : k = ((k.toNat : Nat) : Int) := by omega
  have q : atI (zs.map V.int) ((k.toNat : Nat) : Int) = some (.int zs[k.toNat]) := atI_nat (by rw [List.getElem?_map, List.getElem?_eq_getElem hk] <;> rfl)
  rw [← ek] at q
  exact ⟨zs[k.toNat], q, List.getElem?_eq_getElem hk⟩
theorem ok_box {f : Addr} {fd : FuncData} {k : Nat} (F : Fun K "_law_box" "_law_box" sBox f fd) (B : Bl mg) : FnOk P w K mg base CX0 (k + 1) f fd ["_law_script", "_law_k"] (spBox K) := by
  refine F.ok scBox (fun vs H Q E h => ?_) (fun cdv A outer s H vs Q E hr h => ?_)
  · obtain ⟨a, zs, k, rfl, _⟩ := h
    rfl
  obtain ⟨a, zs, k, rfl, hS, h0, h1, q⟩ := h
  refine ⟨_, pss_cons (ps_set (i := 2) scBox.nd rfl (.inl rfl) (pe_ifExp (pt_cmpR op_lt (pv 1) (pe_callB call_len_seq (by rfl) B.len PySem.boot_len (pa_cons (pv 0) pa_nil)) (nomark _)) (pe_ix ix_list (pv 0) (pv 1) (fun _ _ => rfl)) pe_int))
    (pss_one (ps_ret (pe_lst (pa_cons (pe_op op_mul (pe_callB call_abs (by rfl) B.abs boot_abs (pa_cons (pv 2) pa_nil)) (pe_callTy call_int1 (by rfl) B.int PyProof.Rows.boot_int (pa_cons (pe_cmpR op_ge (pe_callB call_abs (by rfl) B.abs boot_abs (pa_cons (pv 2) pa_nil)) (pe_op op_pow pe_int pe_int) (nomark _)) pa_nil)))
      (pa_cons (pe_op op_mod (pe_op op_mul (pe_op op_add (pe_op op_add (pe_op op_mod (pv 2) pe_int) (pe_op op_mul pe_int (pv 1))) pe_int) pe_int) pe_int) (pa_cons pe_int pa_nil)))))), ?_⟩
  refine ⟨_, rfl, _, rfl, a, _, rfl, .inl hS, _, _, rfl, rfl, _, rfl, ite2 (fun cc => ?_) (fun cc => ?_)⟩
  · have c1 : k < (((zs.map V.int).length : Nat) : Int) := of_decide_eq_true cc
    rw [List.length_map] at c1
    obtain ⟨v, hv, _⟩ := at_int h0 c1
    refine ⟨_, rfl, _, rfl, a, _, _, _, rfl, rfl, hS, hv, ?_⟩
    refine ⟨_, rfl, _, rfl, _, rfl, _, rfl, _, _, rfl, rfl, ⟨by decide, by decide, by decide⟩, _, _, rfl, rfl, .inr ⟨_, rfl, ?_⟩⟩
    refine ⟨_, _, rfl, rfl, .inr (b01 _), _, rfl, _, _, rfl, rfl, (by show (0 : Int) < 2147483629; decide), _, rfl, _, _, rfl, rfl, .inl ⟨by decide, by decide⟩, _, _, rfl, rfl, _, _, rfl, rfl, _, _, rfl, rfl, .inr ⟨by decide, by decide⟩, _, _, rfl, rfl, (by show (0 : Int) < 2147483647; decide), (by show 3 ≤ sizeLine; decide), fun p np => ?_⟩
    refine q p _ np (same_upd np) ⟨_, _, _, upd_same, Int.mul_nonneg (abs_nn v) (b01n _), Int.emod_nonneg _ (by decide), Int.emod_lt_of_pos _ (by decide), by decide, by decide⟩
  · refine ⟨_, rfl, _, rfl, _, rfl, _, rfl, _, _, rfl, rfl, ⟨by decide, by decide, by decide⟩, _, _, rfl, rfl, .inr ⟨_, rfl, ?_⟩⟩
    refine ⟨_, _, rfl, rfl, .inr (b01 _), _, rfl, _, _, rfl, rfl, (by show (0 : Int) < 2147483629; decide), _, rfl, _, _, rfl, rfl, .inl ⟨by decide, by decide⟩, _, _, rfl, rfl, _, _, rfl, rfl, _, _, rfl, rfl, .inr ⟨by decide, by decide⟩, _, _, rfl, rfl, (by show (0 : Int) < 2147483647; decide), (by show 3 ≤ sizeLine; decide), fun p np => ?_⟩
    refine q p _ np (same_upd np) ⟨_, _, _, upd_same, Int.mul_nonneg (abs_nn 0) (b01n _), Int.emod_nonneg _ (by decide), Int.emod_lt_of_pos _ (by decide), by decide, by decide⟩
/-! ### _law_folded -/
theorem scFolded : FnScope ["_law_script", "_law_size", "_law_cells", "_law_k", "_law_cell"] ["_law_script", "_law_size"] (defScope sFolded) := ⟨rfl, rfl, rfl, by decide +kernel, rfl, by decide +kernel, by decide +kernel⟩
def spFolded (K : PySem.W.Frag) : Sp := fun vs H Q _ => ∃ (a : Addr) (ns : List Int) (m : Nat), vs = [.ref a, .int (m : Int)] ∧ SqL K H a (ns.map V.int) ∧ ns.length ≤ 63 ∧ 1 ≤ m ∧ m ≤ 63 ∧
  ∀ (p : Addr) (H' : Hp) (zs : List Int), H p = none → Same H H' → H' p = some (.lst (zs.map V.int)) → zs.length = min ns.length m → Q (.ref p) H'
theorem cut_lo (ns : List Int) (m : Nat) : cutV (ns.map V.int) none (some (m : Int)) = (ns.take m).map V.int := by
  unfold cutV
  rw [HT.sIx_none, HT.sIx_nat, List.drop_zero, Nat.sub_zero, List.length_map, ← List.map_take]
  congr 1
  rw [List.take_eq_take_iff]
  omega
theorem cut_mid (ns : List Int) (m j : Nat) : ∃ ws : List Int, cutV (ns.map V.int) (some (m : Int)) (some (j : Int)) = ws.map V.int ∧ ws.length ≤ ns.length - m := by
  unfold cutV
  rw [HT.sIx_nat, HT.sIx_nat, List.length_map, ← List.map_drop, ← List.map_take]
  refine ⟨_, rfl, ?_⟩
  rw [List.length_take, List.length_drop]
  omega
theorem int_at {ws : List Int} {i : Nat} {x : V} (h : (ws.map V.int)[i]? = some x) : ∃ z, ws[i]? = some z ∧ x = .int z := by
  rw [List.getElem?_map] at h
  cases e : ws[i]? with
  | none =>
    rw [e] at h
    cases h
  | some z =>
    rw [e] at h
    exact ⟨z, rfl, (Option.some.inj h).symm⟩
theorem map_set (zs : List Int) (j : Nat) (v : Int) : (zs.map V.int).set j (.int v) = (zs.set j v).map V.int := List.map_set.symm
theorem ixN_nat {n j : Nat} (h : j < n) : ixN n (j : Int) = some j := by
  unfold ixN
  rw [if_pos (Int.natCast_nonneg j), if_pos (by omega), Int.toNat_natCast]
theorem ok_folded {f : Addr} {fd : FuncData} {k : Nat} (F : Fun K "_law_folded" "_law_folded" sFolded f fd) (B : Bl mg) : FnOk P w K mg base CX0 (k + 1) f fd ["_law_script", "_law_size"] (spFolded K) := by
  refine F.ok scFolded (fun vs H Q E h => ?_) (fun cdv A outer s H vs Q E hr h => ?_)
  · obtain ⟨a, ns, m, rfl, _⟩ := h
    rfl
  obtain ⟨a, ns, m, rfl, hS, h63, hm1, hm2, q⟩ := h
  refine ⟨_, pss_cons (ps_set (i := 2) scFolded.nd rfl (.inl rfl) (pe_callTy call_list_of (by rfl) B.list PyProof.Rows.boot_list (pa_cons (pe_slice sl_list (pv 0) po_none (po_some (pv 1))) pa_nil)))
    (pss_cons (ps_for PassesOwn.never rfl (pi_enum (by rfl) B.enumerate (pa_cons (pe_slice sl_list (pv 0) (po_some (pv 1)) (po_some pe_int)) pa_nil))
        (pg_tup rfl (pgs_cons (pg_name (i := 3) scFolded.nd rfl (.inl rfl)) (pgs_cons (pg_name (i := 4) scFolded.nd rfl (.inl rfl)) pgs_nil)))
      (pss_one (ps_asg (pe_op op_add (pe_ix ix_list (pv 2) (pe_op op_mod (pv 3) (pv 1)) (fun _ _ => rfl)) (pe_op op_mul (pv 4) (pe_op op_add (pv 3) pe_int))) (pg_sub (pv 2) (pe_op op_mod (pv 3) (pv 1)) set_list))))
    (pss_one (ps_ret (pv 2)))), ?_⟩
  refine ⟨_, rfl, _, rfl, _, rfl, a, _, rfl, hS, fun c0 nc0 => ?_⟩
  rw [cut_lo]
  have s0 : Same H (upd H c0 (.lst ((ns.take m).map V.int))) := same_upd nc0
  refine ⟨c0, _, rfl, .inl (.inl (.inl upd_same)), fun p np => ?_⟩
  have npH : H p = none := s0.free np
  have ne0 : c0 ≠ p := fun e => by
    subst e
    rw [upd_same] at np
    cases np
  have s1 := s0.trans (same_upd (o := .lst ((ns.take m).map V.int)) np)
  refine ⟨_, rfl, _, rfl, _, rfl, _, rfl, a, _, rfl, s1.seq hS, fun c nc => ?_⟩
  obtain ⟨ws, ew, lw⟩ := cut_mid ns m 63
  rw [show ((63 : Nat) : Int) = (63 : Int) from rfl] at ew
  rw [ew]
  have s2 := s1.trans (same_upd (o := .lst (ws.map V.int)) nc)
  have nec : c ≠ p := fun e => by
    subst e
    rw [upd_same] at nc
    cases nc
  refine ⟨c, _, rfl, .inl (.inl upd_same), ?_⟩
  refine for_it (walk_enum (K := K) (a := c) (xs := ws.map V.int)) (fun i σ H3 => ∃ (y3 y4 : Option V) (zs : List Int), σ = [some (.ref a), some (.int (m : Int)), some (.ref p), y3, y4] ∧ Same H H3 ∧ H3 c = some (.lst (ws.map V.int)) ∧ H3 p = some (.lst (zs.map V.int)) ∧ zs.length = min ns.length m)
    ⟨none, none, ns.take m, rfl, s2, upd_same, ?_, ?_⟩ (fun i σ H3 _ ⟨_, _, _, _, _, e, _⟩ => .inl (.inl e)) ?_ ?_
  · rw [upd_ne nec.symm]
    exact upd_same
  · rw [List.length_take, Nat.min_comm]
  · rintro i v σ H3 H4 hi ⟨y3, y4, zs, rfl, s3, ec, ep, el⟩ ⟨T, x, y, rfl, nT, rfl, e1, e2⟩
    cases e1
    obtain ⟨z, _, rfl⟩ := int_at e2
    rw [List.length_map] at hi
    have npT : p ≠ T := ne_of_none ep nT
    have ncT : c ≠ T := ne_of_none ec nT
    have sT : Same H3 (upd H3 T (.tup [.int (i : Nat), .int z])) := same_upd nT
    refine ⟨T, _, rfl, .inl (.inl upd_same), rfl, _, _, rfl, _, _, rfl, rfl, ?_⟩
    have lm : (i : Int) % (m : Int) = ((i % m : Nat) : Int) := rfl
    have hl : i % m < zs.length := by
      have := Nat.mod_lt i (show 0 < m by omega)
      omega
    have ev : (zs.map V.int)[i % m]? = some (.int zs[i % m]) := by
      rw [List.getElem?_map, List.getElem?_eq_getElem hl]
      rfl
    refine ⟨_, rfl, _, rfl, _, rfl, _, _, rfl, rfl, (by show (0 : Int) < (m : Int); omega), p, _, _, _, rfl, rfl, SqL.of (sT _ _ ep), (by rw [lm]; exact atI_nat ev), _, rfl, _, rfl, _, _, rfl, rfl, _, _, rfl, rfl, .inr ⟨by omega, by omega⟩, _, _, rfl, rfl, ?_⟩
    refine ⟨_, rfl, _, rfl, _, rfl, _, _, rfl, rfl, (by show (0 : Int) < (m : Int); omega), p, _, _, i % m, rfl, rfl, sT _ _ ep, (by rw [lm, List.length_map]; exact ixN_nat hl), ?_⟩
    refine ⟨_, _, zs.set (i % m) (zs[i % m] + z * ((i : Int) + 2)), rfl, fun b o e => ?_, ?_, ?_, ?_⟩
    · rw [upd_ne (ne_of_none e npH)]
      exact sT _ _ (s3 _ _ e)
    · rw [upd_ne nec]
      exact sT _ _ ec
    · rw [upd_same, map_set]
    · rw [List.length_set]
      exact el
  · rintro σ H3 ⟨y3, y4, zs, rfl, s3, ec, ep, el⟩
    exact ⟨_, rfl, q p H3 zs npH s3 ep el⟩
/-! ### _law_same: of two things of one kind and worth -/
theorem scSame : FnScope ["_law_found", "_law_due", "_law_one", "_law_other"] ["_law_found", "_law_due"] (defScope sSame) := ⟨rfl, rfl, rfl, by decide +kernel, rfl, by decide +kernel, by decide +kernel⟩
def Lv : Nat → PyData → Prop
  | _, .none => True
  | _, .bool _ => True
  | _, .int _ => True
  | _, .str _ => True
  | n + 1, .list ds => ds.length ≤ 1000000 ∧ ∀ d ∈ ds, Lv n d
  | n + 1, .tuple ds => ds.length ≤ 1000000 ∧ ∀ d ∈ ds, Lv n d
  | _, _ => False
mutual
theorem Dp.same {H H' : Hp} (s : Same H H') : ∀ (d : PyData) (v : V), Dp K H v d → Dp K H' v d
  | .none, _, h => by
    cases h
    exact .non
  | .bool b, _, h => by
    cases h
    exact .bl b
  | .int i, _, h => by
    cases h
    exact .int i
  | .str x, _, h => by
    cases h
    exact .str x
  | .list ds, _, h => by
    cases h with
    | lst hs ha => exact .lst (s.seq hs) (Dp.sameAll s ds _ ha)
  | .tuple ds, _, h => by
    cases h with
    | tup hs ha => exact .tup (Same.seqT s hs) (Dp.sameAll s ds _ ha)
  | .dict _, _, h => by cases h
theorem Dp.sameAll {H H' : Hp} (s : Same H H') : ∀ (ds : List PyData) (vs : List V), DpAll K H vs ds → DpAll K H' vs ds
  | [], _, h => by
    cases h
    exact .nil
  | d :: ds, _, h => by
    cases h with
    | cons h1 h2 => exact .cons (Dp.same s d _ h1) (Dp.sameAll s ds _ h2)
end
theorem DpAll.len {H : Hp} : ∀ {ds : List PyData} {vs : List V}, DpAll K H vs ds → vs.length = ds.length
  | [], _, h => by
    cases h
    rfl
  | d :: ds, _, h => by
    cases h with
    | cons h1 h2 => rw [List.length_cons, List.length_cons, DpAll.len h2]
theorem DpAll.get {H : Hp} : ∀ {ds : List PyData} {vs : List V} {i : Nat} {x : V}, DpAll K H vs ds → vs[i]? = some x → ∃ d, ds[i]? = some d ∧ Dp K H x d
  | [], _, i, x, h, e => by
    cases h
    cases e
  | d :: ds, _, 0, x, h, e => by
    cases h with
    | cons h1 h2 =>
      cases e
      exact ⟨d, rfl, h1⟩
  | d :: ds, _, i + 1, x, h, e => by
    cases h with
    | @cons _ vs _ _ h1 h2 => exact DpAll.get (ds := ds) (vs := vs) h2 (show vs[i]? = some x from e)
theorem walk_zipT {a b : Addr} {xs ys : List V} {n : Nat} (hn : n = min xs.length ys.length) : Walk (RZ.ItzT K a b) n (fun H => SqT K H a xs ∧ SqT K H b ys) (YPair (fun i => xs[i]?) (fun i => ys[i]?)) := by
  subst hn
  refine ⟨fun i _ hi q => ?_, fun _ q => ⟨xs, ys, q.1, q.2, by omega⟩, fun i H v H' _ q y => ?_⟩
  · have h1 : i < xs.length := by omega
    have h2 : i < ys.length := by omega
    exact ⟨xs, ys, xs[i], ys[i], q.1, q.2, by simp [h1], by simp [h2]⟩
  · obtain ⟨T, x, z, h1, h2, h3, h4, h5⟩ := y
    exact ⟨T, x, z, h1, h2, h3, h4 xs q.1, h5 ys q.2⟩
theorem ty_lst {H : Hp} {a : Addr} {xs : List V} (h : SqL K H a xs) : TyX K H (.ref a) (.type "list") := by
  rcases h with (h | ⟨o, h⟩) | ⟨o, its, n, h1, h2, _⟩
  · exact .base (.lst h)
  · exact .base (.frz h)
  · exact .kList h1 h2
theorem ty_tup {H : Hp} {a : Addr} {xs : List V} (h : SqT K H a xs) : TyX K H (.ref a) (.type "tuple") := by
  rcases h with (h | ⟨o, h⟩) | ⟨o, its, n, h1, h2, _⟩
  · exact .base (.tup h)
  · exact .fTuple h
  · exact .kTuple h1 h2
def spSame (K : PySem.W.Frag) (k : Nat) : Sp := fun vs H Q _ => ∃ (x y : V) (d : PyData) (j : Nat), vs = [x, y] ∧ k = j + 1 ∧ Lv j d ∧ Dp K H x d ∧ Dp K H y d ∧ ∀ H', Same H H' → Q (.bl true) H'
theorem same_none {f : Addr} {fd : FuncData} : FnOk P w K mg base CX0 0 f fd ["_law_found", "_law_due"] (spSame K 0) := by
  have no : ∀ vs H Q E, ¬ spSame K 0 vs H Q E := fun vs H Q E h => by
    obtain ⟨x, y, d, j, _, h0, _⟩ := h
    omega
  exact ⟨fun vs H Q E h => absurd h (no vs H Q E), fun A outer s H args us vs Q E _ _ _ _ h => absurd h (no vs H Q E)⟩
theorem yesT {σ : L2.St} {H : Hp} {R S : Hp → Prop} (h : R H) : tYes σ H fun b H3 => if b = true then R H3 else S H3 := h
theorem repl_snoc {α : Type} (i : Nat) (x : α) : List.replicate i x ++ [x] = List.replicate (i + 1) x := List.replicate_succ'.symm
theorem all_repl (n : Nat) : (List.replicate n true).all id = true := by
  rw [List.all_eq_true]
  intro x hx
  rw [List.eq_of_mem_replicate hx]
  rfl
theorem kitLT {t : String} {r1 r2 : Bool} (h1 : kitB t "list" = some r1) (h2 : kitB t "tuple" = some r2) : PySem.W.kitAny K (.type t) [.type "list", .type "tuple"] = some (r1 || r2) := by
  refine kitAny_cons (kit_ty h1) (fun e => ?_) (fun e => by rw [e]; rfl)
  rw [e, Bool.false_or]
  refine kitAny_cons (kit_ty h2) (fun e => ?_) (fun e => e)
  rw [e]
  rfl
theorem ok_same1 {f : Addr} {fd : FuncData} {k : Nat} (F : Fun K "_law_same" "_law_same" sSame f fd) (G : FnOk P w K mg base CX0 k f fd ["_law_found", "_law_due"] (spSame K k)) (bf : Binds K fd ["_law_found", "_law_due"] []) (mf : mg "_law_same" = some (.ref f)) (B : Bl mg) :
    FnOk P w K mg base CX0 (k + 1) f fd ["_law_found", "_law_due"] (spSame K (k + 1)) := by
  refine F.ok scSame (fun vs H Q E h => ?_) (fun cdv A outer s H vs Q E hr h => ?_)
  · obtain ⟨x, y, d, j, rfl, _⟩ := h
    rfl
  obtain ⟨x, y, d, j, rfl, ej, lv, dx, dy, q⟩ := h
  obtain rfl : k = j := by omega
  refine ⟨_, pss_cons (ps_if (pt_val (pe_callB call_isiT (by rfl) B.isinstance boot_isinstance (pa_cons (pv 1) (pa_cons (pe_tup (pa_cons (pe_bltn (v := .ty "list") (by rfl) B.list PyProof.Rows.boot_list rfl) (pa_cons (pe_bltn (v := .ty "tuple") (by rfl) B.tuple PyProof.Rows.boot_tuple rfl) pa_nil))) pa_nil))))
      (pss_cons (ps_if (PW.pt (pw_or (pt_cmpR op_ne (pe_callB call_isi (by rfl) B.isinstance boot_isinstance (pa_cons (pv 0) (pa_cons (pe_bltn (v := .ty "list") (by rfl) B.list PyProof.Rows.boot_list rfl) pa_nil))) (pe_callB call_isi (by rfl) B.isinstance boot_isinstance (pa_cons (pv 1) (pa_cons (pe_bltn (v := .ty "list") (by rfl) B.list PyProof.Rows.boot_list rfl) pa_nil))) (nomark _))
          (pw_or1 (pt_cmpR op_ne (pe_callB call_isi (by rfl) B.isinstance boot_isinstance (pa_cons (pv 0) (pa_cons (pe_bltn (v := .ty "tuple") (by rfl) B.tuple PyProof.Rows.boot_tuple rfl) pa_nil))) (pe_callB call_isi (by rfl) B.isinstance boot_isinstance (pa_cons (pv 1) (pa_cons (pe_bltn (v := .ty "tuple") (by rfl) B.tuple PyProof.Rows.boot_tuple rfl) pa_nil))) (nomark _)))))
          (pss_one (ps_ret pe_bl)) pss_nil)
        (pss_one (ps_ret (pe_and (pe_cmpR op_eq (pe_callB call_len_seq (by rfl) B.len PySem.boot_len (pa_cons (pv 0) pa_nil)) (pe_callB call_len_seq (by rfl) B.len PySem.boot_len (pa_cons (pv 1) pa_nil)) (nomark _))
          (pe_one (pe_callB (cr_all rfl) (by rfl) B.all boot_all (pa_cons (pe_lc (own := [("_law_one", 2), ("_law_other", 3)]) (g := gTup K 2 (gCons (gName 2) (gCons (gName 3) gNil))) (by rfl) scSame.nd (RZ.pi_zipA (by rfl) B.zip (pa_cons (pv 0) (pa_cons (pv 1) pa_nil)))
            (blkOk_by (own := [("_law_one", 2), ("_law_other", 3)]) (N := ["_law_found", "_law_due", "_law_one", "_law_other"]) (sc := defScope sSame) (by decide +kernel))
            (fun _ _ _ _ _ => pg_tup rfl (pgs_cons (pg_name (i := 2) scSame.nd rfl (Or.inl rfl) (.inr rfl)) (pgs_cons (pg_name (i := 3) scSame.nd rfl (Or.inl rfl) (.inr rfl)) pgs_nil))) (fun _ _ _ _ _ => pts_nil)
            (fun _ _ _ _ _ => pe_call G hr (by rfl) mf F.kp bf .nil pass0 (pa_cons (pv 2) (pa_cons (pv 3) pa_nil)))) pa_nil))))))) pss_nil)
    (pss_cons (ps_if (PW.pt (pw_or (pt_cmpR op_isN (pv 1) pe_non (nomark _)) (pw_or1 (pt_val (pe_callB call_isi (by rfl) B.isinstance boot_isinstance (pa_cons (pv 1) (pa_cons (pe_bltn (v := .ty "str") (by rfl) B.str PyProof.Rows.boot_str rfl) pa_nil)))))))
      (pss_one (ps_ret (pe_and (pe_cmpR op_eq (pv 0) (pv 1) (nomark _)) (pe_one (pe_cmpR op_eq (pe_callB call_isi (by rfl) B.isinstance boot_isinstance (pa_cons (pv 0) (pa_cons (pe_bltn (v := .ty "str") (by rfl) B.str PyProof.Rows.boot_str rfl) pa_nil))) (pe_callB call_isi (by rfl) B.isinstance boot_isinstance (pa_cons (pv 1) (pa_cons (pe_bltn (v := .ty "str") (by rfl) B.str PyProof.Rows.boot_str rfl) pa_nil))) (nomark _)))))) pss_nil)
    (pss_one (ps_ret (pe_and (pe_callB call_isi (by rfl) B.isinstance boot_isinstance (pa_cons (pv 0) (pa_cons (pe_bltn (v := .ty "int") (by rfl) B.int PyProof.Rows.boot_int rfl) pa_nil))) (pe_and (pe_cmpR op_eq (pe_callB call_isi (by rfl) B.isinstance boot_isinstance (pa_cons (pv 0) (pa_cons (pe_bltn (v := .ty "bool") (by rfl) B.bool PyProof.Rows.boot_bool rfl) pa_nil))) (pe_callB call_isi (by rfl) B.isinstance boot_isinstance (pa_cons (pv 1) (pa_cons (pe_bltn (v := .ty "bool") (by rfl) B.bool PyProof.Rows.boot_bool rfl) pa_nil))) (nomark _))
      (pe_one (pe_cmpR op_eq (pv 0) (pv 1) (nomark _)))))))), ?_⟩
  have pr : Paired ClsV [.ty "list", .ty "tuple"] [.type "list", .type "tuple"] := .cons (.ty _) (.cons (.ty _) .nil)
  refine ⟨_, rfl, (by show 2 ≤ sizeLine; decide), fun tp ntp => ?_⟩
  have s0 : Same H (upd H tp (.tup [.ty "list", .ty "tuple"])) := same_upd ntp
  cases d with
  | none =>
    cases dx
    cases dy
    refine ⟨_, tp, _, _, _, _, rfl, upd_same, pr, .base .non, kitLT (t := "NoneType") (r1 := false) (r2 := false) (by decide +kernel) (by decide +kernel), _, rfl, iteF ?_⟩
    refine ⟨_, rfl, rfl, _, rfl, iteT (iteT ?_)⟩
    refine ⟨_, rfl, _, rfl, rfl, _, rfl, iteT ?_⟩
    refine ⟨_, rfl, _, _, _, _, _, rfl, .ty _, .base .non, kit_ty (by decide +kernel : kitB "NoneType" "str" = some false), _, rfl, _, _, _, _, _, rfl, .ty _, .base .non, kit_ty (by decide +kernel : kitB "NoneType" "str" = some false), rfl, q _ s0⟩
  | bool b =>
    cases dx
    cases dy
    refine ⟨_, tp, _, _, _, _, rfl, upd_same, pr, .base (.bl _), kitLT (t := "bool") (r1 := false) (r2 := false) (by decide +kernel) (by decide +kernel), _, rfl, iteF ?_⟩
    refine ⟨_, rfl, rfl, _, rfl, iteF ?_⟩
    refine ⟨_, rfl, _, _, _, _, _, rfl, .ty _, .base (.bl _), kit_ty (by decide +kernel : kitB "bool" "str" = some false), _, rfl, iteF ?_⟩
    refine ⟨_, rfl, _, _, _, _, _, rfl, .ty _, .base (.bl _), kit_ty (by decide +kernel : kitB "bool" "int" = some true), _, rfl, iteT ?_⟩
    refine ⟨_, rfl, _, _, _, _, _, rfl, .ty _, .base (.bl _), kit_ty (by decide +kernel : kitB "bool" "bool" = some true), _, rfl, _, _, _, _, _, rfl, .ty _, .base (.bl _), kit_ty (by decide +kernel : kitB "bool" "bool" = some true), rfl, _, rfl, iteT ?_⟩
    refine ⟨_, rfl, _, rfl, rfl, ?_⟩
    rw [decide_eq_true rfl]
    exact q _ s0
  | int i =>
    cases dx
    cases dy
    refine ⟨_, tp, _, _, _, _, rfl, upd_same, pr, .base (.int _), kitLT (t := "int") (r1 := false) (r2 := false) (by decide +kernel) (by decide +kernel), _, rfl, iteF ?_⟩
    refine ⟨_, rfl, rfl, _, rfl, iteF ?_⟩
    refine ⟨_, rfl, _, _, _, _, _, rfl, .ty _, .base (.int _), kit_ty (by decide +kernel : kitB "int" "str" = some false), _, rfl, iteF ?_⟩
    refine ⟨_, rfl, _, _, _, _, _, rfl, .ty _, .base (.int _), kit_ty (by decide +kernel : kitB "int" "int" = some true), _, rfl, iteT ?_⟩
    refine ⟨_, rfl, _, _, _, _, _, rfl, .ty _, .base (.int _), kit_ty (by decide +kernel : kitB "int" "bool" = some false), _, rfl, _, _, _, _, _, rfl, .ty _, .base (.int _), kit_ty (by decide +kernel : kitB "int" "bool" = some false), rfl, _, rfl, iteT ?_⟩
    refine ⟨_, rfl, _, rfl, rfl, ?_⟩
    rw [decide_eq_true rfl]
    exact q _ s0
  | str z =>
    cases dx
    cases dy
    refine ⟨_, tp, _, _, _, _, rfl, upd_same, pr, .base (.str _), kitLT (t := "str") (r1 := false) (r2 := false) (by decide +kernel) (by decide +kernel), _, rfl, iteF ?_⟩
    refine ⟨_, rfl, rfl, _, rfl, iteF ?_⟩
    refine ⟨_, rfl, _, _, _, _, _, rfl, .ty _, .base (.str _), kit_ty (by decide +kernel : kitB "str" "str" = some true), _, rfl, iteT ?_⟩
    refine ⟨_, rfl, _, rfl, rfl, ?_⟩
    rw [decide_eq_true rfl]
    refine ⟨_, rfl, iteT ?_⟩
    exact ⟨_, rfl, _, _, _, _, _, rfl, .ty _, .base (.str _), kit_ty (by decide +kernel : kitB "str" "str" = some true), _, rfl, _, _, _, _, _, rfl, .ty _, .base (.str _), kit_ty (by decide +kernel : kitB "str" "str" = some true), rfl, q _ s0⟩
  | list ds =>
    cases dx with
    | @lst a xs _ hx ax =>
    cases dy with
    | @lst b ys _ hy ay =>
    obtain ⟨i, rfl⟩ : ∃ i, k = i + 1 := by
      cases k with
      | zero => exact absurd lv id
      | succ i => exact ⟨i, rfl⟩
    have lx := DpAll.len ax
    have ly := DpAll.len ay
    have hx1 := s0.seq hx
    have hy1 := s0.seq hy
    refine ⟨_, tp, _, _, _, _, rfl, upd_same, pr, ty_lst hy1, kitLT (t := "list") (r1 := true) (r2 := false) (by decide +kernel) (by decide +kernel), _, rfl, iteT ?_⟩
    refine ⟨_, rfl, _, _, _, _, _, rfl, .ty _, ty_lst hx1, kit_ty (by decide +kernel : kitB "list" "list" = some true), _, rfl, _, _, _, _, _, rfl, .ty _, ty_lst hy1, kit_ty (by decide +kernel : kitB "list" "list" = some true), rfl, _, rfl, iteF ?_⟩
    refine ⟨_, rfl, _, _, _, _, _, rfl, .ty _, ty_lst hx1, kit_ty (by decide +kernel : kitB "list" "tuple" = some false), _, rfl, _, _, _, _, _, rfl, .ty _, ty_lst hy1, kit_ty (by decide +kernel : kitB "list" "tuple" = some false), rfl, _, rfl, iteF ?_⟩
    refine ⟨_, rfl, a, _, rfl, .inl hx1, _, rfl, b, _, rfl, .inl hy1, rfl, ?_⟩
    rw [decide_eq_true (by rw [lx, ly])]
    refine ⟨_, rfl, iteT ?_⟩
    refine ⟨_, rfl, _, rfl, a, b, xs, ys, rfl, .inl ⟨hx1, hy1, fun D nD => ?_⟩⟩
    have sD := s0.trans (same_upd (o := .lst []) nD)
    refine lc_it (walk_zip (K := K) (a := a) (b := b) (xs := xs) (ys := ys) rfl) (fun i H3 => Same H H3 ∧ H3 D = some (.lst (List.replicate i (.bl true)))) ⟨sD, upd_same⟩ (fun i H3 _ ⟨s3, _⟩ => ⟨s3.seq hx, s3.seq hy⟩) ?_ ?_
    · rintro i v H3 H4 hi ⟨s3, eD⟩ ⟨T, x, y, rfl, nT, rfl, e1, e2⟩
      obtain ⟨d1, g1, p1⟩ := DpAll.get ax e1
      obtain ⟨d2, g2, p2⟩ := DpAll.get ay e2
      obtain rfl : d1 = d2 := Option.some.inj (g1.symm.trans g2)
      have s4 := s3.trans (same_upd (o := .tup [x, y]) nT)
      refine ⟨T, _, rfl, .inl (.inl upd_same), rfl, _, _, rfl, _, _, rfl, rfl, rfl, ?_⟩
      refine yesT ?_
      refine ⟨_, rfl, _, rfl, x, y, d1, _, rfl, rfl, lv.2 d1 (List.mem_of_getElem? g1), Dp.same s4 _ _ p1, Dp.same s4 _ _ p2, fun H5 s5 => ?_⟩
      refine ⟨_, s5 _ _ (by rw [upd_ne (ne_of_none eD nT)]; exact eD), ?_, fun p o e => ?_, ?_⟩
      · rw [List.length_replicate]
        have := lv.1
        refine Nat.lt_of_lt_of_le (show i < 1000000 by omega) (by decide)
      · rw [upd_ne (ne_of_none e (s0.free nD))]
        exact s5 _ _ (s4 _ _ e)
      · rw [upd_same, repl_snoc]
    · rintro H3 ⟨s3, eD⟩
      refine ⟨D, List.replicate (min xs.length ys.length) true, rfl, .inl (.inl (by rw [List.map_replicate]; exact eD)), ?_⟩
      rw [all_repl]
      exact q _ s3
  | tuple ds =>
    cases dx with
    | @tup a xs _ hx ax =>
    cases dy with
    | @tup b ys _ hy ay =>
    obtain ⟨i, rfl⟩ : ∃ i, k = i + 1 := by
      cases k with
      | zero => exact absurd lv id
      | succ i => exact ⟨i, rfl⟩
    have lx := DpAll.len ax
    have ly := DpAll.len ay
    have hx1 := Same.seqT s0 hx
    have hy1 := Same.seqT s0 hy
    refine ⟨_, tp, _, _, _, _, rfl, upd_same, pr, ty_tup hy1, kitLT (t := "tuple") (r1 := false) (r2 := true) (by decide +kernel) (by decide +kernel), _, rfl, iteT ?_⟩
    refine ⟨_, rfl, _, _, _, _, _, rfl, .ty _, ty_tup hx1, kit_ty (by decide +kernel : kitB "tuple" "list" = some false), _, rfl, _, _, _, _, _, rfl, .ty _, ty_tup hy1, kit_ty (by decide +kernel : kitB "tuple" "list" = some false), rfl, _, rfl, iteF ?_⟩
    refine ⟨_, rfl, _, _, _, _, _, rfl, .ty _, ty_tup hx1, kit_ty (by decide +kernel : kitB "tuple" "tuple" = some true), _, rfl, _, _, _, _, _, rfl, .ty _, ty_tup hy1, kit_ty (by decide +kernel : kitB "tuple" "tuple" = some true), rfl, _, rfl, iteF ?_⟩
    refine ⟨_, rfl, a, _, rfl, .inr hx1, _, rfl, b, _, rfl, .inr hy1, rfl, ?_⟩
    rw [decide_eq_true (by rw [lx, ly])]
    refine ⟨_, rfl, iteT ?_⟩
    refine ⟨_, rfl, _, rfl, a, b, xs, ys, rfl, .inr ⟨hx1, hy1, fun D nD => ?_⟩⟩
    have sD := s0.trans (same_upd (o := .lst []) nD)
    refine lc_it (walk_zipT (K := K) (a := a) (b := b) (xs := xs) (ys := ys) rfl) (fun i H3 => Same H H3 ∧ H3 D = some (.lst (List.replicate i (.bl true)))) ⟨sD, upd_same⟩ (fun i H3 _ ⟨s3, _⟩ => ⟨Same.seqT s3 hx, Same.seqT s3 hy⟩) ?_ ?_
    · rintro i v H3 H4 hi ⟨s3, eD⟩ ⟨T, x, y, rfl, nT, rfl, e1, e2⟩
      obtain ⟨d1, g1, p1⟩ := DpAll.get ax e1
      obtain ⟨d2, g2, p2⟩ := DpAll.get ay e2
      obtain rfl : d1 = d2 := Option.some.inj (g1.symm.trans g2)
      have s4 := s3.trans (same_upd (o := .tup [x, y]) nT)
      refine ⟨T, _, rfl, .inl (.inl upd_same), rfl, _, _, rfl, _, _, rfl, rfl, rfl, ?_⟩
      refine yesT ?_
      refine ⟨_, rfl, _, rfl, x, y, d1, _, rfl, rfl, lv.2 d1 (List.mem_of_getElem? g1), Dp.same s4 _ _ p1, Dp.same s4 _ _ p2, fun H5 s5 => ?_⟩
      refine ⟨_, s5 _ _ (by rw [upd_ne (ne_of_none eD nT)]; exact eD), ?_, fun p o e => ?_, ?_⟩
      · rw [List.length_replicate]
        have := lv.1
        refine Nat.lt_of_lt_of_le (show i < 1000000 by omega) (by decide)
      · rw [upd_ne (ne_of_none e (s0.free nD))]
        exact s5 _ _ (s4 _ _ e)
      · rw [upd_same, repl_snoc]
    · rintro H3 ⟨s3, eD⟩
      refine ⟨D, List.replicate (min xs.length ys.length) true, rfl, .inl (.inl (by rw [List.map_replicate]; exact eD)), ?_⟩
      rw [all_repl]
      exact q _ s3
  | dict _ => cases dx
theorem ok_same {f : Addr} {fd : FuncData} (F : Fun K "_law_same" "_law_same" sSame f fd) (bf : Binds K fd ["_law_found", "_law_due"] []) (mf : mg "_law_same" = some (.ref f)) (B : Bl mg) : ∀ k : Nat, FnOk P w K mg base CX0 k f fd ["_law_found", "_law_due"] (spSame K k)
  | 0 => same_none
  | k + 1 => ok_same1 F (ok_same F bf mf B k) bf mf B
end
end GZ
namespace GM
theorem pow_pos' (n : Nat) : (0 : Int) < 2 ^ n := Int.pow_pos (by decide)
theorem pow_s (n : Nat) : (2 : Int) ^ (n + 1) = 2 ^ n * 2 := Int.pow_succ 2 n
theorem pow_le' {m n : Nat} (h : m ≤ n) : (2 : Int) ^ m ≤ 2 ^ n := by
  induction n with
  | zero =>
    have : m = 0 := by omega
    rw [this]
    exact Int.le_refl _
  | succ n ih =>
    by_cases e : m = n + 1
    · rw [e]
      exact Int.le_refl _
    · have := ih (by omega)
      have := pow_s n
      have := pow_pos' n
      omega
theorem pow_add' (m n : Nat) : (2 : Int) ^ (m + n) = 2 ^ m * 2 ^ n := Int.pow_add 2 m n
theorem bits_pow {x : Nat} {e : Nat} (h : x < 2 ^ e) : PySem.Builtin.Int.intBits (x : Int) ≤ e := PyProof.Rows.intBits_le (by rw [Int.natAbs_natCast]; exact h)
theorem bits_le_pow {x : Nat} {e : Nat} (h : 2 ^ e ≤ x) : e + 1 ≤ PySem.Builtin.Int.intBits (x : Int) := by
  have hx : x ≠ 0 := by
    have := Nat.two_pow_pos e
    omega
  unfold PySem.Builtin.Int.intBits
  rw [if_neg (by simpa using hx), Int.natAbs_natCast]
  have := (Nat.le_log2 hx).mpr h
  omega
theorem bits_unique {x e : Nat} (h1 : 2 ^ e ≤ x) (h2 : x < 2 ^ (e + 1)) : PySem.Builtin.Int.intBits (x : Int) = e + 1 := by
  have := bits_pow h2
  have := bits_le_pow h1
  omega
theorem bits_ex {x : Nat} (h : 0 < x) : ∃ e, 2 ^ e ≤ x ∧ x < 2 ^ (e + 1) := ⟨x.log2, Nat.log2_self_le (by omega), Nat.lt_log2_self⟩
theorem bits_half {x : Nat} (h : 0 < x) : PySem.Builtin.Int.intBits (x : Int) = PySem.Builtin.Int.intBits ((x / 2 : Nat) : Int) + 1 := by
  obtain ⟨e, h1, h2⟩ := bits_ex h
  rw [bits_unique h1 h2]
  cases e with
  | zero =>
    have : x = 1 := by
      simp at h1 h2
      omega
    rw [this]
    rfl
  | succ e =>
    rw [bits_unique (x := x / 2) (e := e)]
    · rw [Nat.pow_succ] at h1
      omega
    · rw [Nat.pow_succ] at h2
      omega
theorem bits_double {x m : Nat} (h : 0 < x) (hm : m ≤ 1) : PySem.Builtin.Int.intBits ((2 * x + m : Nat) : Int) = PySem.Builtin.Int.intBits (x : Int) + 1 := by
  rw [bits_half (x := 2 * x + m) (by omega), show (2 * x + m) / 2 = x by omega]
theorem shr_lt {x : Int} {a b : Nat} (h0 : 0 ≤ x) (h : x < 2 ^ (a + b)) : 0 ≤ x / 2 ^ b ∧ x / 2 ^ b < 2 ^ a := by
  have hb := pow_pos' b
  refine ⟨Int.ediv_nonneg h0 (by omega), ?_⟩
  rw [pow_add'] at h
  exact Int.ediv_lt_of_lt_mul hb h
end GM
namespace GM
/-! ### words: a sign, a scale of m bits, a tail of t bits -/
def bit (a : Int) (n : Nat) : Int := a / 2 ^ n % 2
def blr (a : Int) : Nat → List Int
  | 0 => []
  | n + 1 => bit a n :: blr a n
def wv : List Int → Int
  | [] => 0
  | d :: r => d * 2 ^ r.length + wv r
theorem blr_len (a : Int) : ∀ n, (blr a n).length = n
  | 0 => rfl
  | n + 1 => by
    show (blr a n).length + 1 = n + 1
    rw [blr_len a n]
theorem div_div (w : Int) (t m : Nat) : w / 2 ^ t / 2 ^ m = w / 2 ^ (t + m) := by
  rw [pow_add', Int.ediv_ediv_of_nonneg (Int.le_of_lt (pow_pos' t))]
theorem bit_div (w : Int) (t m : Nat) : bit (w / 2 ^ t) m = bit w (m + t) := by
  unfold bit
  rw [div_div, Nat.add_comm t m]
theorem blr_take (w : Int) (t : Nat) : ∀ m, (blr w (m + t)).take m = blr (w / 2 ^ t) m
  | 0 => rfl
  | m + 1 => by
    show (blr w ((m + 1) + t)).take (m + 1) = bit (w / 2 ^ t) m :: blr (w / 2 ^ t) m
    rw [show m + 1 + t = (m + t) + 1 by omega]
    show bit w (m + t) :: (blr w (m + t)).take m = _
    rw [blr_take w t m, bit_div]
theorem blr_drop (w : Int) (t : Nat) : ∀ m, (blr w (m + t)).drop m = blr w t
  | 0 => by rw [Nat.zero_add]; rfl
  | m + 1 => by
    rw [show m + 1 + t = (m + t) + 1 by omega]
    show (blr w (m + t)).drop m = _
    exact blr_drop w t m
theorem mod_step (a : Int) (n : Nat) : bit a n * 2 ^ n + a % 2 ^ n = a % 2 ^ (n + 1) := by
  unfold bit
  have hp := pow_pos' n
  have e1 := Int.emod_add_mul_ediv a (2 ^ n)
  have e2 := Int.emod_add_mul_ediv (a / 2 ^ n) 2
  have h1 := Int.emod_nonneg a (show (2 : Int) ^ n ≠ 0 by omega)
  have h2 := Int.emod_lt_of_pos a hp
  have e3 : 2 ^ n * (a / 2 ^ n) = a / 2 ^ n % 2 * 2 ^ n + a / 2 ^ n / 2 * (2 ^ n * 2) := by
    conv => lhs; rw [← e2]
    rw [Int.mul_add, Int.mul_comm (2 ^ n) (a / 2 ^ n % 2), ← Int.mul_assoc, Int.mul_comm (2 ^ n * 2) _]
  have key : (a / 2 ^ n % 2 * 2 ^ n + a % 2 ^ n) + a / 2 ^ n / 2 * 2 ^ (n + 1) = a := by
    rw [pow_s]
    omega
  have hb : 0 ≤ a / 2 ^ n % 2 * 2 ^ n + a % 2 ^ n ∧ a / 2 ^ n % 2 * 2 ^ n + a % 2 ^ n < 2 ^ (n + 1) := by
    rw [pow_s]
    have : a / 2 ^ n % 2 = 0 ∨ a / 2 ^ n % 2 = 1 := by omega
    rcases this with z | z <;> rw [z] <;> omega
  have em := Int.add_mul_emod_self_right (a / 2 ^ n % 2 * 2 ^ n + a % 2 ^ n) (a / 2 ^ n / 2) (2 ^ (n + 1))
  rw [key, Int.emod_eq_of_lt hb.1 hb.2] at em
  exact em.symm
theorem wv_blr (a : Int) : ∀ n, wv (blr a n) = a % 2 ^ n
  | 0 => by
    show (0 : Int) = a % 1
    omega
  | n + 1 => by
    show bit a n * 2 ^ (blr a n).length + wv (blr a n) = _
    rw [blr_len, wv_blr a n, ← mod_step a n]
theorem fold2 : ∀ (ds : List Int) (w : Int), ds.foldl (fun a b => a * 2 + b) w = w * 2 ^ ds.length + wv ds
  | [], w => by
    show w = w * 2 ^ 0 + 0
    rw [Int.pow_zero]
    omega
  | d :: r, w => by
    show r.foldl (fun a b => a * 2 + b) (w * 2 + d) = w * 2 ^ (r.length + 1) + (d * 2 ^ r.length + wv r)
    rw [fold2 r, pow_s, Int.add_mul, Int.mul_assoc, Int.mul_comm 2 (2 ^ r.length)]
    omega
theorem wv_ones : ∀ k, wv (List.replicate k 1) = 2 ^ k - 1
  | 0 => rfl
  | k + 1 => by
    rw [List.replicate_succ]
    show 1 * 2 ^ (List.replicate k (1 : Int)).length + wv (List.replicate k 1) = _
    rw [List.length_replicate, wv_ones k, pow_s]
    omega
/-- sign, scale, tail of a word -/
def sgn (m t : Nat) (w : Int) : Int := w / 2 ^ (m + t) % 2
def scl (m t : Nat) (w : Int) : Int := w / 2 ^ t % 2 ^ m
def tlp (t : Nat) (w : Int) : Int := w % 2 ^ t
theorem scl_tlp (m t : Nat) (w : Int) : scl m t w * 2 ^ t + tlp t w = w % 2 ^ (m + t) := by
  induction m with
  | zero =>
    unfold scl tlp
    rw [Int.pow_zero, Int.emod_one, Int.zero_mul, Int.zero_add, Nat.zero_add]
  | succ m ih =>
    have e := mod_step (w / 2 ^ t) m
    have e2 := mod_step w (m + t)
    rw [bit_div] at e
    unfold scl at ih ⊢
    rw [← e, Int.add_mul, show m + 1 + t = (m + t) + 1 by omega, ← e2, ← ih, Int.mul_assoc, ← pow_add']
    omega
theorem sgn_01 {m t : Nat} {w : Int} : sgn m t w = 0 ∨ sgn m t w = 1 := by
  unfold sgn
  omega
theorem word_eq {m t : Nat} {w : Int} (h0 : 0 ≤ w) (h1 : w < 2 ^ (1 + m + t)) : sgn m t w * 2 ^ (m + t) + w % 2 ^ (m + t) = w := by
  have e := mod_step w (m + t)
  rw [show m + t + 1 = 1 + m + t by omega, Int.emod_eq_of_lt h0 h1] at e
  exact e
theorem scl_nn (m t : Nat) (w : Int) : 0 ≤ scl m t w ∧ scl m t w < 2 ^ m := ⟨Int.emod_nonneg _ (by have := pow_pos' m; omega), Int.emod_lt_of_pos _ (pow_pos' m)⟩
theorem tlp_nn (t : Nat) (w : Int) : 0 ≤ tlp t w ∧ tlp t w < 2 ^ t := ⟨Int.emod_nonneg _ (by have := pow_pos' t; omega), Int.emod_lt_of_pos _ (pow_pos' t)⟩
/-- with the other sign -/
def trn (m t : Nat) (w : Int) : Int := (1 - sgn m t w) * 2 ^ (m + t) + w % 2 ^ (m + t)
theorem mk_parts {m t : Nat} {s r : Int} (hs : s = 0 ∨ s = 1) (h0 : 0 ≤ r) (h1 : r < 2 ^ (m + t)) : 0 ≤ s * 2 ^ (m + t) + r ∧ s * 2 ^ (m + t) + r < 2 ^ (1 + m + t) ∧ sgn m t (s * 2 ^ (m + t) + r) = s ∧ (s * 2 ^ (m + t) + r) % 2 ^ (m + t) = r := by
  have hp := pow_pos' (m + t)
  have e : (2 : Int) ^ (1 + m + t) = 2 ^ (m + t) * 2 := by rw [← pow_s]; congr 1; omega
  have em : (s * 2 ^ (m + t) + r) % 2 ^ (m + t) = r := by
    rw [Int.add_comm, Int.add_mul_emod_self_right, Int.emod_eq_of_lt h0 h1]
  have ed : (s * 2 ^ (m + t) + r) / 2 ^ (m + t) = s := by
    rw [Int.add_comm, Int.add_mul_ediv_right _ _ (by omega), Int.ediv_eq_zero_of_lt h0 h1, Int.zero_add]
  refine ⟨?_, ?_, ?_, em⟩
  · rcases hs with z | z <;> subst z <;> omega
  · rw [e]
    rcases hs with z | z <;> subst z <;> omega
  · unfold sgn
    rw [ed]
    omega
theorem trn_trn {m t : Nat} {w : Int} (h0 : 0 ≤ w) (h1 : w < 2 ^ (1 + m + t)) : trn m t (trn m t w) = w ∧ 0 ≤ trn m t w ∧ trn m t w < 2 ^ (1 + m + t) := by
  have hp := pow_pos' (m + t)
  have hs : 1 - sgn m t w = 0 ∨ 1 - sgn m t w = 1 := by
    have := sgn_01 (m := m) (t := t) (w := w)
    omega
  obtain ⟨a, b, c, d⟩ := mk_parts (m := m) (t := t) hs (Int.emod_nonneg w (show (2 : Int) ^ (m + t) ≠ 0 by omega)) (Int.emod_lt_of_pos w hp)
  refine ⟨?_, a, b⟩
  show (1 - sgn m t (trn m t w)) * 2 ^ (m + t) + trn m t w % 2 ^ (m + t) = w
  rw [show sgn m t (trn m t w) = 1 - sgn m t w from c, show trn m t w % 2 ^ (m + t) = w % 2 ^ (m + t) from d, show 1 - (1 - sgn m t w) = sgn m t w by omega]
  exact word_eq h0 h1
end GM
namespace GM
/-! ### digits of base four -/
theorem bit01 (a : Int) (n : Nat) : bit a n = 0 ∨ bit a n = 1 := by
  unfold bit
  omega
theorem bit_two (n : Int) (i : Nat) : bit (2 * n) (i + 1) = bit n i := by
  unfold bit
  rw [pow_s, Int.mul_comm 2 n, Int.mul_ediv_mul_of_pos_left _ _ (by decide)]
def fo (n : Int) (p : Nat) : Int := bit (2 * n) (2 * p + 1) + bit (2 * n) (2 * p) - 2 * bit (2 * n) (2 * p + 2)
def fol (n : Int) : Nat → List Int
  | 0 => []
  | k + 1 => fo n k :: fol n k
def rol (o n : Int) : Nat → List Int
  | 0 => []
  | k + 1 => fo n k * o * 2 ^ (2 * k) :: rol o n k
def s4 (n : Int) : Nat → Int
  | 0 => 0
  | k + 1 => fo n k * 2 ^ (2 * k) + s4 n k
theorem fo_in (n : Int) (p : Nat) : -2 ≤ fo n p ∧ fo n p ≤ 2 := by
  unfold fo
  have h1 := bit01 (2 * n) (2 * p + 1)
  have h2 := bit01 (2 * n) (2 * p)
  have h3 := bit01 (2 * n) (2 * p + 2)
  omega
theorem fol_len (n : Int) : ∀ k, (fol n k).length = k
  | 0 => rfl
  | k + 1 => by
    show (fol n k).length + 1 = k + 1
    rw [fol_len n k]
theorem rol_len (o n : Int) : ∀ k, (rol o n k).length = k
  | 0 => rfl
  | k + 1 => by
    show (rol o n k).length + 1 = k + 1
    rw [rol_len o n k]
theorem fol_get (n : Int) : ∀ (k i : Nat), i < k → (fol n k)[i]? = some (fo n (k - 1 - i))
  | 0, i, h => absurd h (Nat.not_lt_zero i)
  | k + 1, 0, _ => rfl
  | k + 1, i + 1, h => by
    show (fol n k)[i]? = _
    rw [fol_get n k i (by omega), show k + 1 - 1 - (i + 1) = k - 1 - i by omega]
theorem rol_get (o n : Int) : ∀ (k i : Nat), i < k → (rol o n k)[i]? = some (fo n (k - 1 - i) * o * 2 ^ (2 * (k - 1 - i)))
  | 0, i, h => absurd h (Nat.not_lt_zero i)
  | k + 1, 0, _ => rfl
  | k + 1, i + 1, h => by
    show (rol o n k)[i]? = _
    rw [rol_get o n k i (by omega), show k + 1 - 1 - (i + 1) = k - 1 - i by omega]
theorem fol_mem {n : Int} : ∀ {k : Nat} {d : Int}, d ∈ fol n k → -2 ≤ d ∧ d ≤ 2
  | 0, _, h => nomatch h
  | k + 1, d, h => by
    rcases List.mem_cons.mp h with e | e
    · rw [e]
      exact fo_in n k
    · exact fol_mem e
theorem take_fol {n : Int} {k i : Nat} (h : i < k) : (fol n k).take (i + 1) = (fol n k).take i ++ [fo n (k - 1 - i)] := by
  rw [List.take_add_one, fol_get n k i h]
  rfl
theorem take_rol {o n : Int} {k i : Nat} (h : i < k) : (rol o n k).take (i + 1) = (rol o n k).take i ++ [fo n (k - 1 - i) * o * 2 ^ (2 * (k - 1 - i))] := by
  rw [List.take_add_one, rol_get o n k i h]
  rfl
theorem rol_sum (o n : Int) : ∀ k, (rol o n k).sum = o * s4 n k
  | 0 => by
    show (0 : Int) = o * 0
    omega
  | k + 1 => by
    show (fo n k * o * 2 ^ (2 * k) :: rol o n k).sum = o * (fo n k * 2 ^ (2 * k) + s4 n k)
    rw [List.sum_cons, rol_sum o n k, Int.mul_add, Int.mul_comm (fo n k) o, Int.mul_assoc]
theorem s4_eq (n : Int) : ∀ k, s4 n k = n % 2 ^ (2 * k) - 2 ^ (2 * k) * bit (2 * n) (2 * k)
  | 0 => by
    show (0 : Int) = n % 1 - 1 * (2 * n / 1 % 2)
    omega
  | k + 1 => by
    show fo n k * 2 ^ (2 * k) + s4 n k = _
    rw [s4_eq n k]
    have e1 := mod_step n (2 * k)
    have e2 := mod_step n (2 * k + 1)
    have b1 := bit_two n (2 * k)
    have b2 := bit_two n (2 * k + 1)
    have p1 : (2 : Int) ^ (2 * k + 1) = 2 ^ (2 * k) * 2 := pow_s _
    have p2 : (2 : Int) ^ (2 * (k + 1)) = 2 ^ (2 * k) * 4 := by
      rw [show 2 * (k + 1) = 2 * k + 1 + 1 by omega, pow_s, pow_s]
      omega
    rw [show 2 * k + 1 + 1 = 2 * (k + 1) by omega] at e2 b2
    unfold fo
    rw [show 2 * k + 2 = 2 * (k + 1) by omega, b1, b2, p2]
    rw [p2] at e2
    rw [p1] at e1 e2
    generalize (2 : Int) ^ (2 * k) = q at *
    rcases bit01 n (2 * k) with h | h <;> rcases bit01 n (2 * k + 1) with h' | h' <;> rcases bit01 (2 * n) (2 * k) with h'' | h'' <;> rw [h, h', h''] <;> rw [h] at e1 <;> rw [h'] at e2 <;> omega
theorem fold4 (n : Int) : ∀ (k : Nat) (t : Int), (fol n k).foldl (fun t d => 4 * t + d) t = t * 2 ^ (2 * k) + s4 n k
  | 0, t => by
    show t = t * 1 + 0
    omega
  | k + 1, t => by
    show (fol n k).foldl (fun t d => 4 * t + d) (4 * t + fo n k) = t * 2 ^ (2 * (k + 1)) + (fo n k * 2 ^ (2 * k) + s4 n k)
    rw [fold4 n k, Int.add_mul, show 2 * (k + 1) = 2 * k + 1 + 1 by omega, pow_s, pow_s]
    rw [show t * (2 ^ (2 * k) * 2 * 2) = 4 * t * 2 ^ (2 * k) by rw [Int.mul_assoc (2 ^ (2 * k)), Int.mul_comm (2 ^ (2 * k)), ← Int.mul_assoc, Int.mul_comm 4 t]; rfl]
    omega
theorem s4_all {n : Int} {k : Nat} (h0 : 0 ≤ n) (h : n < 2 ^ (2 * k + 1)) : s4 n (k + 1) = n := by
  rw [s4_eq, show 2 * (k + 1) = 2 * k + 1 + 1 by omega, bit_two]
  have hp := pow_s (2 * k + 1)
  have hb : bit n (2 * k + 1) = 0 := by
    unfold bit
    rw [Int.ediv_eq_zero_of_lt h0 h]
    rfl
  rw [hb, Int.mul_zero, Int.emod_eq_of_lt h0 (by omega)]
  omega
end GM
namespace GM
def pwl : Nat → List Int
  | 0 => []
  | k + 1 => 2 ^ (2 * k) :: pwl k
theorem pwl_len : ∀ k, (pwl k).length = k
  | 0 => rfl
  | k + 1 => by
    show (pwl k).length + 1 = k + 1
    rw [pwl_len k]
theorem pwl_get : ∀ (k i : Nat), i < k → (pwl k)[i]? = some (2 ^ (2 * (k - 1 - i)))
  | 0, i, h => absurd h (Nat.not_lt_zero i)
  | k + 1, 0, _ => rfl
  | k + 1, i + 1, h => by
    show (pwl k)[i]? = _
    rw [pwl_get k i (by omega), show k + 1 - 1 - (i + 1) = k - 1 - i by omega]
theorem pwl_rev : ∀ k, ((List.range k).map fun j => (2 : Int) ^ (2 * j)).reverse = pwl k
  | 0 => rfl
  | k + 1 => by
    rw [List.range_succ, List.map_append, List.reverse_append, pwl_rev k]
    rfl
theorem fol_rev (n : Int) : ∀ k, ((List.range k).map (fo n)).reverse = fol n k
  | 0 => rfl
  | k + 1 => by
    rw [List.range_succ, List.map_append, List.reverse_append, fol_rev n k]
    rfl
theorem bit_hi {n : Int} {k j : Nat} (h0 : 0 ≤ n) (h1 : n < 2 ^ k) (h : k ≤ j) : bit n j = 0 := by
  unfold bit
  rw [Int.ediv_eq_zero_of_lt h0 (Int.lt_of_lt_of_le h1 (pow_le' h))]
  rfl
theorem blr_two (n : Int) : ∀ k, blr (2 * n) (k + 1) = blr n k ++ [0]
  | 0 => by
    show [2 * n / 1 % 2] = [0]
    congr 1
    omega
  | k + 1 => by
    show bit (2 * n) (k + 1) :: blr (2 * n) (k + 1) = bit n k :: blr n k ++ [0]
    rw [bit_two, blr_two n k]
    rfl
theorem blr_hi {n : Int} {k : Nat} (h0 : 0 ≤ n) (h1 : n < 2 ^ k) : blr (2 * n) (k + 5) = 0 :: 0 :: 0 :: 0 :: (blr n k ++ [0]) := by
  show bit (2 * n) (k + 3 + 1) :: bit (2 * n) (k + 2 + 1) :: bit (2 * n) (k + 1 + 1) :: bit (2 * n) (k + 1) :: blr (2 * n) (k + 1) = _
  rw [bit_two, bit_two, bit_two, bit_two, blr_two, bit_hi h0 h1 (by omega), bit_hi h0 h1 (by omega), bit_hi h0 h1 (by omega), bit_hi h0 h1 (by omega)]
end GM
namespace GZ
open PySem PySem.Spec PyProof.Rows L2
/-! ### a, b, c = a text of so many signs; '0' * 4 -/
section
variable {prog : Program} {w : World} {A : Around} {E : Value → Shared → Prop}
theorem draw_walk {I : Addr} {N : Nat} {x : Str} {St : Nat → Heap → Prop} (W : Walks prog w A I [I] [I] N (SignAt x) St) : ∀ (n i : Nat) (s : Shared) (Q : List Value → Shared → Prop), St i s.heap → i + n ≤ N →
    (∀ vs h' tk, Vals (((x.cps.toList.drop i).take n).map fun c => V.str ⟨#[c]⟩) vs → St (i + n) h' → (∀ b o, b ≠ I → s.heap.get? b = some o → h'.get? b = some o) → Q vs { s with heap := h', toks := tk }) → wpAny (model prog w) A (draw (.ref I) n) Q E s
  | 0, i, s, Q, st, _, hQ => by
    show wpAny _ _ (pure []) Q E s
    exact wpAny_pure (hQ [] s.heap s.toks .nil st fun _ _ _ e => e)
  | n + 1, i, s, Q, st, hle, hQ => by
    show wpAny _ _ (pyNext (.ref I) >>= _) Q E s
    refine wpAny_bind (W.item i s _ _ (by omega) st fun v h1 tk hv st1 k1 => ?_)
    obtain ⟨c, u, hc, rfl⟩ := hv
    refine wpAny_bind (wpAny_holding (draw_walk W n (i + 1) _ _ st1 (by omega) fun vs h2 tk2 hvs st2 k2 => wpAny_pure ?_))
    refine hQ _ h2 tk2 ?_ (by rw [show i + (n + 1) = i + 1 + n by omega]; exact st2) fun b o hb e => k2 b o hb (k1 b o (by simpa using hb) e)
    have hd : x.cps.toList.drop i = c :: x.cps.toList.drop (i + 1) := by
      have : x.cps.toList[i]? = some c := by rw [Array.getElem?_toList]; exact hc
      obtain ⟨hlt, e⟩ := List.getElem?_eq_some_iff.mp this
      rw [List.drop_eq_getElem_cons hlt, e]
    rw [hd, List.take_succ_cons, List.map_cons]
    exact .cons ⟨u, rfl⟩ hvs
theorem unpack_str {s : Shared} {x : Str} {t : Tok} {Q : List Value → Shared → Prop} (hh : A.handled = none)
    (hQ : ∀ h' tk vs, (∀ b o, s.heap.get? b = some o → h'.get? b = some o) → Vals (x.cps.toList.map fun c => V.str ⟨#[c]⟩) vs → Q vs { s with heap := h', toks := tk }) : wpAny (model prog w) A (unpackItems (.str x t) x.cps.size none) Q E s := by
  have go : ∀ (ty : String), Walks prog w A s.heap.objs.size [s.heap.objs.size] [s.heap.objs.size] x.cps.size (SignAt x) (fun i h => h.IsStrIter s.heap.objs.size ty x t i) →
      wpAny (model prog w) A (holding [Value.ref s.heap.objs.size] (draw (.ref s.heap.objs.size) x.cps.size) >>= fun items => (do
        if items.length < x.cps.size then
          rule "unpack.too-few"; raiseError "ValueError" s!"not enough values to unpack (expected {x.cps.size}, got {items.length})"
        if (← holding items (pyNext (.ref s.heap.objs.size))).isSome then
          rule "unpack.too-many"; raiseError "ValueError" s!"too many values to unpack (expected {x.cps.size})"
        return items)) Q E { s with heap := s.heap.push { cls := .type ty, data := .fields #[.str x t, .int 0 0] } } := fun ty W => by
    refine wpAny_bind (wpAny_holding (draw_walk W x.cps.size 0 _ _ ⟨_, Heap.get?_push_size _ rfl, rfl, rfl⟩ (by omega) fun vs h1 tk hvs st1 k1 => ?_))
    rw [Nat.zero_add] at st1
    rw [List.drop_zero, List.take_of_length_le (by simp)] at hvs
    have hl : vs.length = x.cps.size := by rw [← hvs.length]; simp
    rw [if_neg (by omega)]
    refine wpAny_bind (wpAny_holding (W.done _ _ _ st1 fun h2 tk2 k2 => ?_))
    simp only [Option.isSome_none, Bool.false_eq_true, if_false]
    refine wpAny_pure (hQ h2 tk2 vs (fun b o e => k2 b o ?_ (k1 b o ?_ (Heap.get?_push_of_some _ e))) hvs)
    · have := Nat.ne_of_lt (Heap.lt_size e)
      simpa using this
    · exact Nat.ne_of_lt (Heap.lt_size e)
  unfold unpackItems
  refine wpAny_bind ?_
  unfold notIterableAtAll
  refine wpAny_bind (wpAny_specialOf (typeIs_str s x t) PySem.F.slot_str_iter.lookup ?_)
  refine wpAny_pure ?_
  simp only [Bool.false_eq_true, if_false]
  refine wpAny_bind (wpAny_holding ?_)
  cases ha : x.cps.all (· < 128)
  · exact wpAny_pyIter_wide ha (go _ (Walks.strWide hh _ x t))
  · exact wpAny_pyIter_ascii ha (go _ (Walks.strAscii hh _ x t))
end
section
variable {X : Cx} {pos : Pos}
def gUnS (n : Nat) (t : TGs) : TG := fun v σ H Q => ∃ x : Str, v = .str x ∧ x.cps.size = n ∧ t (x.cps.toList.map fun c => .str ⟨#[c]⟩) σ H Q
theorem pg_unS {es : List Expr} {k : Nat} {t : TGs} {n : Nat} (hc : X.calm = true) (h : PGs X es t)
    (hn : (assignEach es X.env).length = n := by rfl) (hst : (assignEach es X.env).findIdx? (·.1) = none := by rfl) : PG X (.Tuple es k pos) (gUnS n t) := by
  refine ⟨fun pins s σ H v u Q I r hw => ?_⟩
  obtain ⟨x, rfl, hl, hw⟩ := hw
  obtain ⟨tk, rfl⟩ := r
  rw [PyProof.Rows.assign_Tuple]
  refine wpAny_bind (wpAny_standAt ?_)
  unfold unpack
  rw [hn.trans hl.symm, hst]
  refine wpAny_bind (wpAny_holding (unpack_str (I.ok.hd hc) fun h' tk' vs hx rv => ?_))
  have I1 : Inv X pins σ H { s with heap := h', toks := tk' } := I.kept (t' := tk') hx
  exact h.run pins _ σ H _ _ Q I1 rv hw
theorem op_zeros4 : OpR X (binaryOp .Mult) (fun x y H Q => x = .str "0" ∧ y = .int 4 ∧ Q (.str "0000") H) := by
  intro pins s σ H x y v u Q I rx ry h
  obtain ⟨rfl, rfl, q⟩ := h
  obtain ⟨t, rfl⟩ := rx
  obtain ⟨t', rfl⟩ := ry
  refine PySem.P.mul_str (by decide) (fun _ _ => by decide) (fun _ _ => by decide) ?_
  rw [if_neg (by decide), if_neg (by decide)]
  exact ⟨by decide, .str "0000", H, I.tok _, ⟨_, rfl⟩, q⟩
end
section
variable {P : Program} {w : World} {K : PySem.W.Frag} {mg : Str → Option Value} {base : Heap}
theorem bx1 {c : Int} {H : Hp} {b : Addr} (h : BoxAt (c + 2 ^ (1 - 1)) H b) : BoxAt (c + 1) H b := h
theorem Keep.none {b p : Addr} {H H' : Hp} (k : Keep b H H') (n : p ≠ b) (h : H' p = none) : H p = none := by
  cases q : H p with
  | none => rfl
  | some o =>
    rw [k p o q n] at h
    cases h
theorem dp_ints {H : Hp} : ∀ ds : List Int, DpAll K H (ds.map V.int) (ds.map PyData.int)
  | [] => .nil
  | d :: ds => .cons (.int d) (dp_ints ds)
theorem lv_ints {n : Nat} (ds : List Int) (h : ds.length ≤ 1000) : Lv (n + 1) (.list (ds.map PyData.int)) := by
  refine ⟨by rw [List.length_map]; omega, fun d hd => ?_⟩
  obtain ⟨x, _, rfl⟩ := List.mem_map.mp hd
  cases n <;> trivial
theorem eqv_ints (ds : List Int) : PyData.eqv (.list (ds.map PyData.int)) (.list (ds.map PyData.int)) = true := PySem.SeqAt.eqv_refl _ (PySem.SeqAt.canLay_of_shaped (PySem.W.shaped_ints ds))
structure LL (K : PySem.W.Frag) (mg : Str → Option Value) (a1 a2 a3 a4 a5 a6 a7 a8 a9 a10 : Addr) (l1 l2 l3 l4 l5 l6 l7 l8 l9 l10 : FuncData) : Prop where
  F_fours_of : Fun K "fours_of" "fours_of" s_fours_of a1 l1
  b_fours_of : Binds K l1 ["number"] []
  m_fours_of : mg "fours_of" = some (.ref a1)
  F_four_of : Fun K "four_of" "four_of" s_four_of a2 l2
  b_four_of : Binds K l2 ["bits"] []
  m_four_of : mg "four_of" = some (.ref a2)
  F_rows_of : Fun K "rows_of" "rows_of" s_rows_of a3 l3
  b_rows_of : Binds K l3 ["one", "number"] []
  m_rows_of : mg "rows_of" = some (.ref a3)
  F__law_box : Fun K "_law_box" "_law_box" sBox a4 l4
  b__law_box : Binds K l4 ["_law_script", "_law_k"] []
  m__law_box : mg "_law_box" = some (.ref a4)
  F__law_take : Fun K "_law_take" "_law_take" sTake a5 l5
  b__law_take : Binds K l5 ["_law_box_here", "_law_size"] []
  m__law_take : mg "_law_take" = some (.ref a5)
  F__law_folded : Fun K "_law_folded" "_law_folded" sFolded a6 l6
  b__law_folded : Binds K l6 ["_law_script", "_law_size"] []
  m__law_folded : mg "_law_folded" = some (.ref a6)
  F__law_same : Fun K "_law_same" "_law_same" sSame a7 l7
  b__law_same : Binds K l7 ["_law_found", "_law_due"] []
  m__law_same : mg "_law_same" = some (.ref a7)
  F__law_number : Fun K "_law_number" "_law_number" s__law_number a8 l8
  b__law_number : Binds K l8 ["_law_box_here"] []
  m__law_number : mg "_law_number" = some (.ref a8)
  F__law_digits : Fun K "_law_digits" "_law_digits" s__law_digits a9 l9
  b__law_digits : Binds K l9 ["_law_number_here"] []
  m__law_digits : mg "_law_digits" = some (.ref a9)
  F__law_right : Fun K "_law_right" "_law_right" s__law_right a10 l10
  b__law_right : Binds K l10 ["_law_box_here"] []
  m__law_right : mg "_law_right" = some (.ref a10)
variable {a1 a2 a3 a4 a5 a6 a7 a8 a9 a10 : Addr} {l1 l2 l3 l4 l5 l6 l7 l8 l9 l10 : FuncData}

theorem bx9 {c : Int} {H : Hp} {b : Addr} (h : BoxAt (c + 2 ^ (9 - 1)) H b) : BoxAt (c + 256) H b := h
/-! ### four_of, fours_of, rows_of -/
def spFour : Sp := fun vs H Q _ => ∃ x : Int, vs = [.int x] ∧ Q (.int (x / 2 ^ 1 % 2 ^ 1 + x % 2 ^ 1 - 2 * (x / 2 ^ 2 % 2 ^ 1))) H
theorem ok_four_of (B : Bl mg) (L : LL K mg a1 a2 a3 a4 a5 a6 a7 a8 a9 a10 l1 l2 l3 l4 l5 l6 l7 l8 l9 l10) : FnOk P w K mg base CX0 1 a2 l2 ["bits"] spFour := by
  refine L.F_four_of.ok sc_four_of (fun vs H Q E h => ?_) (fun cdv A outer s H vs Q E hr h => ?_)
  · obtain ⟨x, rfl, _⟩ := h
    rfl
  obtain ⟨x, rfl, q⟩ := h
  refine ⟨_, (pss_one (ps_ret (pe_op op_sub (pe_op op_add (pe_op op_andM (pe_op op_shrN (pv 0) pe_int) pe_int) (pe_op op_andM (pv 0) pe_int)) (pe_op op_mul pe_int (pe_op op_andM (pe_op op_shrN (pv 0) pe_int) pe_int))))), ?_⟩
  exact ⟨_, rfl, _, 1, rfl, rfl, _, 1, rfl, rfl, _, rfl, _, 1, rfl, rfl, _, _, rfl, rfl, _, rfl, _, 2, rfl, rfl, _, 1, rfl, rfl, _, _, rfl, rfl, .inl ⟨by decide, by decide⟩, _, _, rfl, rfl, q⟩
def kf (n : Int) : Nat := Builtin.Int.intBits n / 2 + 1
theorem fo_eq (n : Int) (p : Nat) : 2 * n / 2 ^ (2 * p) / 2 ^ 1 % 2 ^ 1 + 2 * n / 2 ^ (2 * p) % 2 ^ 1 - 2 * (2 * n / 2 ^ (2 * p) / 2 ^ 2 % 2 ^ 1) = GM.fo n p := by
  rw [GM.div_div, GM.div_div]
  rfl
def spFours : Sp := fun vs H Q _ => ∃ n : Int, vs = [.int n] ∧ 0 ≤ n ∧ n < 2 ^ 200 ∧
  ∀ (p : Addr) (H' : Hp), H p = none → Same H H' → H' p = some (.lst ((GM.fol n (kf n)).map V.int)) → Q (.ref p) H'
theorem kf_le {n : Int} (h0 : 0 ≤ n) (h1 : n < 2 ^ 200) : kf n ≤ 101 := by
  have : Builtin.Int.intBits n ≤ 200 := PyProof.Rows.intBits_le (by
    have c : ((2 ^ 200 : Nat) : Int) = (2 : Int) ^ 200 := PySem.W.kbt_cast _
    omega)
  unfold kf
  omega
theorem ok_fours_of (B : Bl mg) (L : LL K mg a1 a2 a3 a4 a5 a6 a7 a8 a9 a10 l1 l2 l3 l4 l5 l6 l7 l8 l9 l10) : FnOk P w K mg base CX0 2 a1 l1 ["number"] spFours := by
  have G_four_of : FnOk P w K mg base CX0 1 a2 l2 ["bits"] spFour := (ok_four_of B L).mono (by decide)
  refine L.F_fours_of.ok sc_fours_of (fun vs H Q E h => ?_) (fun cdv A outer s H vs Q E hr h => ?_)
  · obtain ⟨n, rfl, _⟩ := h
    rfl
  obtain ⟨n, rfl, h0, h1, q⟩ := h
  have hk := kf_le h0 h1
  refine ⟨_, (pss_cons (ps_set (i := 1) sc_fours_of.nd rfl (.inr rfl) (pe_op op_mul pe_int (pv 0)))
    (pss_one (ps_ret (pe_lc (own := [("place", 2)]) (by rfl) sc_fours_of.nd (pi_range3 (by rfl) B.range (pa_cons (pe_op op_fdiv (pe_bits (pv 0)) pe_int) (pa_cons (pe_un un_neg pe_int) (pa_cons (pe_un un_neg pe_int) pa_nil)))) (blkOk_by (own := [("place", 2)]) (N := ["number", "doubled", "place"]) (sc := defScope s_fours_of) (by decide +kernel)) (fun _ _ _ _ _ => pg_name (i := 2) sc_fours_of.nd rfl (Or.inl rfl)) (fun _ _ _ _ _ => pts_nil) (fun _ _ _ _ _ => (pe_call G_four_of hr (by rfl) L.m_four_of L.F_four_of.kp L.b_four_of .nil pass0 (pa_cons (pe_op op_shrN (pv 1) (pe_op op_mul pe_int (pv 2))) pa_nil))))))), ?_⟩
  refine ⟨_, rfl, _, _, rfl, rfl, .inl ⟨by decide, by decide⟩, ?_⟩
  refine ⟨_, rfl, _, rfl, _, _, rfl, rfl, ⟨by decide, by decide⟩, _, rfl, _, rfl, _, _, _, (((Builtin.Int.intBits n : Nat) : Int) / 2 - -1).toNat, rfl, RgC.neg (by omega) (by unfold kf at hk; omega) (by decide) (by decide), fun D nD => ?_⟩
  rw [show (((Builtin.Int.intBits n : Nat) : Int) / 2 - -1).toNat = kf n by unfold kf; omega]
  have sD : Same H (upd H D (.lst [])) := same_upd nD
  refine lc_it walk_rangeC (fun i H3 => Same H H3 ∧ H3 D = some (.lst (((GM.fol n (kf n)).take i).map V.int))) ⟨sD, upd_same⟩ (fun _ _ _ _ => trivial) ?_ ?_
  · rintro i x H3 H4 hi ⟨s3, eD⟩ ⟨rfl, rfl⟩
    show gName _ (V.int (((Builtin.Int.intBits n : Nat) : Int) / 2 + (i : Nat) * (-1))) _ _ _
    rw [show ((Builtin.Int.intBits n : Nat) : Int) / 2 + (i : Nat) * (-1) = ((kf n - 1 - i : Nat) : Int) by unfold kf at hi ⊢; omega]
    refine ⟨rfl, yesT ?_⟩
    refine ⟨_, rfl, _, rfl, _, _, rfl, rfl, .inl ⟨by decide, by decide⟩, _, 2 * (kf n - 1 - i), rfl, congrArg V.int (by omega), _, rfl, _, eD, ?_, fun b o e => ?_, ?_⟩
    · rw [List.length_map, List.length_take]
      exact Nat.lt_of_le_of_lt (Nat.min_le_left _ _) (small1000 (by omega))
    · rw [upd_ne (ne_of_none e nD)]
      exact s3 _ _ e
    · rw [upd_same, fo_eq, GM.take_fol hi, List.map_append]
      rfl
  · rintro H3 ⟨s3, eD⟩
    refine q D H3 nD s3 ?_
    rw [List.take_of_length_le (by rw [GM.fol_len]; exact Nat.le_refl _)] at eD
    exact eD
def spRows : Sp := fun vs H Q _ => ∃ o n : Int, vs = [.int o, .int n] ∧ 0 ≤ n ∧ n < 2 ^ 200 ∧ 0 ≤ o ∧ o < 2 ^ 200 ∧
  ∀ (p : Addr) (H' : Hp), H p = none → Same H H' → H' p = some (.lst ((GM.rol o n (kf n)).map V.int)) → Q (.ref p) H'
theorem ok_rows_of (B : Bl mg) (L : LL K mg a1 a2 a3 a4 a5 a6 a7 a8 a9 a10 l1 l2 l3 l4 l5 l6 l7 l8 l9 l10) : FnOk P w K mg base CX0 3 a3 l3 ["one", "number"] spRows := by
  have G_fours_of : FnOk P w K mg base CX0 2 a1 l1 ["number"] spFours := (ok_fours_of B L).mono (by decide)
  refine L.F_rows_of.ok sc_rows_of (fun vs H Q E h => ?_) (fun cdv A outer s H vs Q E hr h => ?_)
  · obtain ⟨o, n, rfl, _⟩ := h
    rfl
  obtain ⟨o, n, rfl, h0, h1, o0, o1, q⟩ := h
  have hk := kf_le h0 h1
  refine ⟨_, (pss_cons (ps_set (i := 2) sc_rows_of.nd rfl (.inl rfl) (pe_call G_fours_of hr (by rfl) L.m_fours_of L.F_fours_of.kp L.b_fours_of .nil pass0 (pa_cons (pv 1) pa_nil)))
    (pss_cons (ps_set (i := 3) sc_rows_of.nd rfl (.inr rfl) (pe_op op_sub (pe_callB call_len_seq (by rfl) B.len PySem.boot_len (pa_cons (pv 2) pa_nil)) pe_int))
    (pss_one (ps_ret (pe_lc (own := [("at", 4), ("four", 5)]) (g := gTup K 2 (gCons (gName 4) (gCons (gName 5) gNil))) (by rfl) sc_rows_of.nd (pi_enum (by rfl) B.enumerate (pa_cons (pv 2) pa_nil)) (blkOk_by (own := [("at", 4), ("four", 5)]) (N := ["one", "number", "fours", "last", "at", "four"]) (sc := defScope s_rows_of) (by decide +kernel)) (fun _ _ _ _ _ => pg_tup rfl (pgs_cons (pg_name (i := 4) sc_rows_of.nd rfl (Or.inl rfl) (.inr rfl)) (pgs_cons (pg_name (i := 5) sc_rows_of.nd rfl (Or.inl rfl) (.inr rfl)) pgs_nil))) (fun _ _ _ _ _ => pts_nil) (fun _ _ _ _ _ => (pe_op op_shlN (pe_op op_mul (pv 5) (pv 0)) (pe_op op_mul pe_int (pe_op op_sub (pv 3) (pv 4)))))))))), ?_⟩
  refine ⟨_, rfl, n, rfl, h0, h1, fun fs H1 nf s1 ef => ?_⟩
  refine ⟨_, rfl, fs, _, rfl, .inl (SqL.of ef), _, _, rfl, rfl, ?_⟩
  rw [List.length_map, GM.fol_len]
  refine ⟨_, rfl, fs, _, rfl, SqL.of ef, fun D nD => ?_⟩
  have sD := s1.trans (same_upd (o := .lst []) nD)
  refine lc_it (walk_enum (K := K) (a := fs) (xs := (GM.fol n (kf n)).map V.int)) (fun i H3 => Same H1 H3 ∧ H3 D = some (.lst (((GM.rol o n (kf n)).take i).map V.int))) ⟨same_upd nD, upd_same⟩ (fun i H3 _ ⟨s3, _⟩ => SqL.of (s3 _ _ ef)) ?_ ?_
  · rintro i x H3 H4 hi ⟨s3, eD⟩ ⟨T, x1, x2, rfl, nT, rfl, e1, e2⟩
    cases e1
    obtain ⟨z2, f2, rfl⟩ := int_at e2
    rw [List.length_map, GM.fol_len] at hi
    rw [GM.fol_get n (kf n) i hi] at f2
    cases f2
    have hfo := GM.fo_in n (kf n - 1 - i)
    have c200 : ((2 ^ 200 : Nat) : Int) = (2 : Int) ^ 200 := PySem.W.kbt_cast _
    have sT : Same H3 (upd H3 T (.tup [.int (i : Nat), .int (GM.fo n (kf n - 1 - i))])) := same_upd nT
    refine ⟨T, _, rfl, .inl (.inl upd_same), rfl, _, _, rfl, _, _, rfl, rfl, rfl, ?_⟩
    refine yesT ?_
    refine ⟨_, rfl, _, rfl, _, _, rfl, rfl, .inl ⟨by omega, by omega⟩, _, rfl, _, rfl, _, _, rfl, rfl, _, _, rfl, rfl, .inl ⟨by decide, by decide⟩, _, 2 * (kf n - 1 - i), rfl, congrArg V.int (by omega), shl_ok (n := 202) ?_ (by omega), _, sT _ _ eD, ?_, fun b u e => ?_, ?_⟩
    · exact wide_lt (a := 2) (b := 200) (by omega) (by omega)
    · rw [List.length_map, List.length_take]
      exact Nat.lt_of_le_of_lt (Nat.min_le_left _ _) (small1000 (by omega))
    · rw [upd_ne (ne_of_none e nD)]
      exact sT _ _ (s3 _ _ e)
    · rw [upd_same, GM.take_rol hi, List.map_append]
      rfl
  · rintro H3 ⟨s3, eD⟩
    refine q D H3 (s1.free nD) (s1.trans s3) ?_
    rw [List.take_of_length_le (by rw [GM.rol_len, List.length_map, GM.fol_len]; exact Nat.le_refl _)] at eD
    exact eD
/-! ### _law_number -/
def spNumber : Sp := fun vs H Q _ => ∃ (b : Addr) (c : Int), vs = [.ref b] ∧ BoxAt c H b ∧ c ≤ 900000000 ∧
  ∀ (r : Int) (H' : Hp), 0 ≤ r → r < 2 ^ 200 → BoxAt (c + 2000) H' b → Keep b H H' → Q (.int r) H'
theorem ok__law_number (B : Bl mg) (L : LL K mg a1 a2 a3 a4 a5 a6 a7 a8 a9 a10 l1 l2 l3 l4 l5 l6 l7 l8 l9 l10) : FnOk P w K mg base CX0 10 a8 l8 ["_law_box_here"] spNumber := by
  have G__law_take : FnOk P w K mg base CX0 9 a5 l5 ["_law_box_here", "_law_size"] (spTake 9) := (ok_take L.F__law_take L.b__law_take L.m__law_take B 9).mono (by decide)
  refine L.F__law_number.ok sc__law_number (fun vs H Q E h => ?_) (fun cdv A outer s H vs Q E hr h => ?_)
  · obtain ⟨b, c, rfl, _⟩ := h
    rfl
  obtain ⟨b, c, rfl, hB, hc, q⟩ := h
  refine ⟨_, (pss_cons (ps_set (i := 1) sc__law_number.nd rfl (.inl rfl) (pe_ix ix_list (pe_lst (pa_cons (pe_op op_add pe_int (pe_call G__law_take hr (by rfl) L.m__law_take L.F__law_take.kp L.b__law_take .nil pass0 (pa_cons (pv 0) (pa_cons pe_int pa_nil)))) (pa_cons (pe_op op_add pe_int (pe_call G__law_take hr (by rfl) L.m__law_take L.F__law_take.kp L.b__law_take .nil pass0 (pa_cons (pv 0) (pa_cons pe_int pa_nil)))) (pa_cons pe_int pa_nil)))) (pe_call G__law_take hr (by rfl) L.m__law_take L.F__law_take.kp L.b__law_take .nil pass0 (pa_cons (pv 0) (pa_cons pe_int pa_nil))) (fun _ _ => rfl)))
    (pss_cons (ps_set (i := 2) sc__law_number.nd rfl (.inl rfl) (pe_lst (pa_cons (pe_call G__law_take hr (by rfl) L.m__law_take L.F__law_take.kp L.b__law_take .nil pass0 (pa_cons (pv 0) (pa_cons (pe_op op_oneShl pe_int (pv 1)) pa_nil))) (pa_cons (pe_op op_sub (pe_op op_oneShl pe_int (pv 1)) pe_int) (pa_cons (pe_op op_oneShl pe_int (pe_op op_sub (pv 1) pe_int)) (pa_cons (pe_call G__law_take hr (by rfl) L.m__law_take L.F__law_take.kp L.b__law_take .nil pass0 (pa_cons (pv 0) (pa_cons pe_int pa_nil))) pa_nil))))))
    (pss_one (ps_ret (pe_ix ix_list (pv 2) (pe_ix ix_list (pe_lst (pa_cons pe_int (pa_cons pe_int (pa_cons pe_int (pa_cons pe_int (pa_cons pe_int (pa_cons pe_int pa_nil))))))) (pe_call G__law_take hr (by rfl) L.m__law_take L.F__law_take.kp L.b__law_take .nil pass0 (pa_cons (pv 0) (pa_cons pe_int pa_nil))) (fun _ _ => rfl)) (fun _ _ => rfl)))))), ?_⟩
  refine ⟨_, rfl, b, _, _, rfl, hB, (by decide), (by decide), (by decide), (by omega), (by decide), fun r1 H1 u0 u1 B1 k1 => ?_⟩
  replace B1 := bx9 B1
  refine ⟨_, _, rfl, rfl, _, rfl, b, _, _, rfl, B1, (by decide), (by decide), (by decide), (by omega), (by decide), fun r2 H2 v0 v1 B2 k2 => ?_⟩
  replace B2 := bx9 B2
  refine ⟨_, _, rfl, rfl, (by show 3 ≤ sizeLine; decide), fun m nm => ?_⟩
  have nmb : m ≠ b := (B2.ne nm).symm
  refine ⟨_, rfl, b, _, _, rfl, B2.same (same_upd nm), (by decide), (by decide), (by decide), (by omega), (by decide), fun r3 H3 w0 w1 B3 k3 => ?_⟩
  replace B3 := bx9 B3
  have em := k3 _ _ upd_same nmb
  obtain ⟨n, hn, hn1, hn200⟩ : ∃ n : Nat, atI ([.int (1 + r1), .int (1 + r2), .int 200] : List V) r3 = some (.int (n : Int)) ∧ 1 ≤ n ∧ n ≤ 200 := by
    have c3 : r3 = 0 ∨ r3 = 1 ∨ r3 = 2 := by omega
    rcases c3 with z | z | z
    · subst z
      exact ⟨(1 + r1).toNat, by rw [Int.toNat_of_nonneg (by omega)]; rfl, by omega, by omega⟩
    · subst z
      exact ⟨(1 + r2).toNat, by rw [Int.toNat_of_nonneg (by omega)]; rfl, by omega, by omega⟩
    · subst z
      exact ⟨200, rfl, by omega, by omega⟩
  refine ⟨m, _, _, _, rfl, rfl, SqL.of em, hn, ?_⟩
  have kA : Keep b H H3 := (k1.trans (k2.trans (Keep.new nm))).trans k3
  have hp := GM.pow_pos' n
  have hp2 : (2 : Int) ^ n ≤ 2 ^ 200 := GM.pow_le' hn200
  have hp3 : (2 : Int) ^ n = 2 ^ (n - 1) * 2 := by rw [← GM.pow_s]; congr 1; omega
  have hp4 := GM.pow_pos' (n - 1)
  refine ⟨_, rfl, _, rfl, n, rfl, rfl, by omega, b, _, _, rfl, B3, by omega, by omega, by omega, by omega, (by decide), fun r4 H4 x0 x1 B4 k4 => ?_⟩
  replace B4 := bx9 B4
  refine ⟨_, rfl, n, rfl, rfl, by omega, _, _, rfl, rfl, _, rfl, _, _, rfl, rfl, n - 1, rfl, congrArg V.int (by omega), by omega, ?_⟩
  refine ⟨_, rfl, b, _, _, rfl, B4, (by decide), (by decide), (by decide), (by omega), (by decide), fun r5 H5 y0 y1 B5 k5 => ?_⟩
  replace B5 := bx9 B5
  refine ⟨(by show 4 ≤ sizeLine; decide), fun l nl => ?_⟩
  have nlb : l ≠ b := (B5.ne nl).symm
  have B6 := B5.same (same_upd (o := .lst [.int r4, .int (2 ^ n - 1), .int (2 ^ (n - 1)), .int r5]) nl)
  refine ⟨_, rfl, (by show 6 ≤ sizeLine; decide), fun l2 nl2 => ?_⟩
  have nl2b : l2 ≠ b := (B6.ne nl2).symm
  refine ⟨_, rfl, b, _, _, rfl, B6.same (same_upd nl2), (by decide), (by decide), (by decide), (by omega), (by decide), fun r6 H7 z0 z1 B7 k7 => ?_⟩
  replace B7 := bx9 B7
  have el := k7 _ _ (same_upd (o := .lst [.int 0, .int 0, .int 0, .int 1, .int 2, .int 3]) nl2 _ _ upd_same) nlb
  have el2 := k7 _ _ upd_same nl2b
  obtain ⟨j, hj, jr⟩ : ∃ j : Int, atI ([.int 0, .int 0, .int 0, .int 1, .int 2, .int 3] : List V) r6 = some (.int j) ∧ (j = 0 ∨ j = 1 ∨ j = 2 ∨ j = 3) := by
    have c6 : r6 = 0 ∨ r6 = 1 ∨ r6 = 2 ∨ r6 = 3 ∨ r6 = 4 ∨ r6 = 5 := by omega
    rcases c6 with z | z | z | z | z | z <;> subst z
    · exact ⟨0, rfl, by decide⟩
    · exact ⟨0, rfl, by decide⟩
    · exact ⟨0, rfl, by decide⟩
    · exact ⟨1, rfl, by decide⟩
    · exact ⟨2, rfl, by decide⟩
    · exact ⟨3, rfl, by decide⟩
  obtain ⟨x, hx, hx0, hx1⟩ : ∃ x : Int, atI ([.int r4, .int (2 ^ n - 1), .int (2 ^ (n - 1)), .int r5] : List V) j = some (.int x) ∧ 0 ≤ x ∧ x < 2 ^ 200 := by
    rcases jr with z | z | z | z <;> subst z
    · exact ⟨_, rfl, by omega, by omega⟩
    · exact ⟨_, rfl, by omega, by omega⟩
    · exact ⟨_, rfl, by omega, by omega⟩
    · exact ⟨_, rfl, by omega, by omega⟩
  refine ⟨l2, _, _, _, rfl, rfl, SqL.of el2, hj, l, _, _, _, rfl, rfl, SqL.of el, hx, ?_⟩
  exact q _ _ hx0 hx1 (B7.mono (by omega)) ((kA.trans (k4.trans k5)).trans (((Keep.new nl).trans (Keep.new nl2)).trans k7))
end
section
variable {P : Program} {w : World} {K : PySem.W.Frag} {mg : Str → Option Value} {base : Heap}
variable {a1 a2 a3 a4 a5 a6 a7 a8 a9 a10 : Addr} {l1 l2 l3 l4 l5 l6 l7 l8 l9 l10 : FuncData}
/-! ### _law_digits -/
def bc (b : Int) : Nat := 48 + b.toNat
theorem str_bit {b : Int} (h : b = 0 ∨ b = 1) : ((toString b : String) : Str) = ⟨#[bc b]⟩ := by
  rcases h with z | z <;> subst z <;> decide +kernel
theorem int_bit {b : Int} (h : b = 0 ∨ b = 1) : PySem.intText? ⟨#[bc b]⟩ = some b := by
  rcases h with z | z <;> subst z <;> decide +kernel
theorem log_bit {b : Int} (h : b = 0 ∨ b = 1) : b.natAbs.log2 < 1920 := by
  rcases h with z | z <;> subst z <;> decide +kernel
def fgs (n : Int) (k : Nat) : Str := ⟨((GM.blr n k).map bc).toArray⟩
def lin (n : Int) (k : Nat) : Str := ⟨((GM.blr (2 * n) (k + 5)).map bc).toArray⟩
theorem fgs_len (n : Int) (k : Nat) : (fgs n k).length = k := by
  show ((GM.blr n k).map bc).toArray.size = k
  rw [List.size_toArray, List.length_map, GM.blr_len]
theorem lin_len (n : Int) (k : Nat) : (lin n k).length = k + 5 := by
  show ((GM.blr (2 * n) (k + 5)).map bc).toArray.size = k + 5
  rw [List.size_toArray, List.length_map, GM.blr_len]
theorem fgs_s (n : Int) (k : Nat) : (⟨#[bc (GM.bit n k)]⟩ : Str) ++ fgs n k = fgs n (k + 1) := by
  show (⟨#[bc (GM.bit n k)] ++ ((GM.blr n k).map bc).toArray⟩ : Str) = ⟨(bc (GM.bit n k) :: (GM.blr n k).map bc).toArray⟩
  congr 1
  simp
theorem lin_eq {n : Int} {k : Nat} (h0 : 0 ≤ n) (h1 : n < 2 ^ k) : (("0000" : Str) ++ fgs n k) ++ ("0" : Str) = lin n k := by
  unfold lin
  rw [GM.blr_hi h0 h1]
  show (⟨(#[48, 48, 48, 48] ++ ((GM.blr n k).map bc).toArray) ++ #[48]⟩ : Str) = _
  congr 1
  simp
  decide
theorem cut3 (n : Int) (k i : Nat) (h : 2 * i ≤ k + 2) : cutS (lin n k) (some (((k + 5 : Nat) : Int) - 3 - 2 * (0 + (i : Int)))) (some (((k + 5 : Nat) : Int) - 2 * (0 + (i : Int)))) = ⟨#[bc (GM.bit (2 * n) (2 * i + 2)), bc (GM.bit (2 * n) (2 * i + 1)), bc (GM.bit (2 * n) (2 * i))]⟩ := by
  rw [show ((k + 5 : Nat) : Int) - 3 - 2 * (0 + (i : Int)) = ((k + 2 - 2 * i : Nat) : Int) by omega, show ((k + 5 : Nat) : Int) - 2 * (0 + (i : Int)) = ((k + 5 - 2 * i : Nat) : Int) by omega]
  unfold cutS
  rw [HT.sIx_nat, HT.sIx_nat, lin_len]
  show (⟨((((GM.blr (2 * n) (k + 5)).map bc).toArray.toList.drop _).take _).toArray⟩ : Str) = _
  rw [show min (k + 2 - 2 * i) (k + 5) = k + 2 - 2 * i by omega, show min (k + 5 - 2 * i) (k + 5) - (k + 2 - 2 * i) = 3 by omega, show k + 5 = (k + 2 - 2 * i) + (2 * i + 3) by omega]
  rw [List.toList_toArray, ← List.map_drop, GM.blr_drop]
  rfl
def spDigits : Sp := spFours
theorem ok__law_digits (B : Bl mg) (L : LL K mg a1 a2 a3 a4 a5 a6 a7 a8 a9 a10 l1 l2 l3 l4 l5 l6 l7 l8 l9 l10) : FnOk P w K mg base CX0 1 a9 l9 ["_law_number_here"] spDigits := by
  refine L.F__law_digits.ok sc__law_digits (fun vs H Q E h => ?_) (fun cdv A outer s H vs Q E hr h => ?_)
  · obtain ⟨n, rfl, _⟩ := h
    rfl
  obtain ⟨n, rfl, h0, h1, q⟩ := h
  have hk := kf_le h0 h1
  refine ⟨_, (pss_cons (ps_set (i := 1) sc__law_digits.nd rfl (.inl rfl) pe_str)
    (pss_cons (ps_for PassesOwn.never rfl (pi_range1 (by rfl) B.range (pa_cons (pe_bits (pv 0)) pa_nil)) (pg_name (i := 2) sc__law_digits.nd rfl (.inl rfl)) (pss_one (ps_set (i := 1) sc__law_digits.nd rfl (.inl rfl) (pe_op op_add_str (pe_callTy call_str_int (by rfl) B.str PyProof.Rows.boot_str (pa_cons (pe_op op_andM (pe_op op_shrN (pv 0) (pv 2)) pe_int) pa_nil)) (pv 1)))))
    (pss_cons (ps_par (by rfl) sc__law_digits.nd (i := 3) (j := 4) rfl rfl (by decide) rfl rfl (pa_cons (pe_op op_add_str (pe_op op_add_str (pe_op op_zeros4 pe_str pe_int) (pv 1)) pe_str) (pa_cons (pe_lst pa_nil) pa_nil)) (by rfl))
    (pss_cons (ps_for PassesOwn.never rfl (pi_range1 (by rfl) B.range (pa_cons (pe_op op_add (pe_op op_fdiv (pe_callB call_len_str (by rfl) B.len PySem.boot_len (pa_cons (pv 1) pa_nil)) pe_int) pe_int) pa_nil)) (pg_name (i := 5) sc__law_digits.nd rfl (.inl rfl)) (pss_cons (ps_asg (pe_slice sl_str (pv 3) (po_some (pe_op op_sub (pe_op op_sub (pe_callB call_len_str (by rfl) B.len PySem.boot_len (pa_cons (pv 3) pa_nil)) pe_int) (pe_op op_mul pe_int (pv 5)))) (po_some (pe_op op_sub (pe_callB call_len_str (by rfl) B.len PySem.boot_len (pa_cons (pv 3) pa_nil)) (pe_op op_mul pe_int (pv 5))))) (pg_unS rfl (pgs_cons (pg_name (i := 6) sc__law_digits.nd rfl (.inl rfl)) (pgs_cons (pg_name (i := 7) sc__law_digits.nd rfl (.inl rfl)) (pgs_cons (pg_name (i := 8) sc__law_digits.nd rfl (.inl rfl)) pgs_nil)))))
    (pss_one (ps_expr (pe_bm PySem.F.plainAttrs_list PySem.F.slot_list_append PySem.F.type_list_append mt_append (pv 4) (pa_cons (pe_op op_sub (pe_op op_add (pe_callTy call_int_str (by rfl) B.int PyProof.Rows.boot_int (pa_cons (pv 7) pa_nil)) (pe_callTy call_int_str (by rfl) B.int PyProof.Rows.boot_int (pa_cons (pv 8) pa_nil))) (pe_op op_mul pe_int (pe_callTy call_int_str (by rfl) B.int PyProof.Rows.boot_int (pa_cons (pv 6) pa_nil)))) pa_nil))))))
    (pss_one (ps_ret (pe_revL (pv 4)))))))), ?_⟩
  obtain ⟨k, ek⟩ : ∃ k, k = Builtin.Int.intBits n := ⟨_, rfl⟩
  have hkk : kf n = k / 2 + 1 := by rw [ek]; rfl
  rw [hkk] at hk q
  have hn : n < 2 ^ k := by
    have c : ((2 ^ k : Nat) : Int) = (2 : Int) ^ k := PySem.W.kbt_cast _
    have : n.natAbs < 2 ^ k := by rw [ek]; exact PyProof.Rows.natAbs_lt_pow_bits n
    omega
  refine ⟨_, rfl, _, rfl, ?_⟩
  rw [← ek]
  refine ⟨_, rfl, by omega, by omega, ?_⟩
  rw [Int.toNat_natCast]
  refine for_range (n := k) (fun i σ H3 => ∃ (y2 : Option V), σ = [some (.int n), some (.str (fgs n i)), y2, none, none, none, none, none, none] ∧ H3 = H) ⟨none, rfl, rfl⟩ ?_ ?_
  · rintro i σ H3 hi ⟨y2, rfl, rfl⟩
    have hb : n / 2 ^ i % 2 ^ 1 = 0 ∨ n / 2 ^ i % 2 ^ 1 = 1 := GM.bit01 n i
    have e : ((toString (n / 2 ^ i % 2 ^ 1) : String) : Str) ++ fgs n i = fgs n (i + 1) := by
      rw [str_bit hb]
      exact fgs_s n i
    refine ⟨_, rfl, _, rfl, _, i, rfl, congrArg V.int (Int.zero_add _), _, 1, rfl, rfl, _, rfl, log_bit hb, _, rfl, _, _, rfl, rfl, ?_, ?_⟩
    · rw [str_bit hb, fgs_len]
      exact Nat.le_of_lt (small1000 (by show 1 + i ≤ 1000; omega))
    · rw [e]
      exact ⟨_, rfl, rfl⟩
  rintro σ H3 ⟨y2, rfl, rfl⟩
  refine ⟨rfl, rfl, _, rfl, _, _, rfl, rfl, ?_, _, _, rfl, rfl, ?_, Nat.zero_le _, fun o no => ?_⟩
  · rw [fgs_len]
    exact Nat.le_of_lt (small1000 (by show 4 + k ≤ 1000; omega))
  · exact Nat.le_of_lt (small1000 (by
      show (("0000" : Str) ++ fgs n k).length + 1 ≤ 1000
      have : (("0000" : Str) ++ fgs n k).length = 4 + (fgs n k).length := by
        show (#[48, 48, 48, 48] ++ (fgs n k).cps).size = 4 + (fgs n k).cps.size
        rw [Array.size_append]
        rfl
      rw [this, fgs_len]
      omega))
  rw [lin_eq h0 hn]
  refine ⟨_, _, rfl, ?_⟩
  have hl5 : (lin n k).length ≤ sizeLine := by
    rw [lin_len]
    exact Nat.le_of_lt (small1000 (by omega))
  refine ⟨_, rfl, _, rfl, ?_, _, _, rfl, rfl, ⟨by decide, by decide⟩, _, _, rfl, rfl, ?_⟩
  · rw [fgs_len]
    exact Nat.le_of_lt (small1000 (by omega))
  rw [fgs_len]
  refine ⟨_, rfl, by omega, by omega, ?_⟩
  rw [show ((k : Int) / 2 + 1).toNat = k / 2 + 1 by omega]
  refine for_range (n := k / 2 + 1) (fun i σ H4 => ∃ (y5 y6 y7 y8 : Option V), σ = [some (.int n), some (.str (fgs n k)), y2, some (.str (lin n k)), some (.ref o), y5, y6, y7, y8] ∧ Same H3 H4 ∧ H4 o = some (.lst (((List.range i).map (GM.fo n)).map V.int)))
    ⟨none, none, none, none, rfl, same_upd no, upd_same⟩ ?_ ?_
  · rintro i σ H4 hi ⟨y5, y6, y7, y8, rfl, s4, eo⟩
    refine ⟨_, rfl, _, rfl, _, rfl, hl5, _, _, rfl, rfl, _, rfl, _, _, rfl, rfl, .inl ⟨by decide, by decide⟩, _, _, rfl, rfl, _, rfl, _, rfl, _, rfl, hl5, _, rfl, _, _, rfl, rfl, .inl ⟨by decide, by decide⟩, _, _, rfl, rfl, _, rfl, _, rfl, hl5, ?_⟩
    rw [lin_len, cut3 n k i (by omega)]
    refine ⟨_, rfl, rfl, _, _, rfl, _, _, rfl, _, _, rfl, rfl, ?_⟩
    refine ⟨_, rfl, .inl ⟨rfl, _, SqL.of eo⟩, _, rfl, _, _, rfl, int_bit (GM.bit01 _ _), (by show 1 ≤ 640; decide), _, rfl, _, _, rfl, int_bit (GM.bit01 _ _), (by show 1 ≤ 640; decide), _, _, rfl, rfl, _, rfl, _, _, rfl, int_bit (GM.bit01 _ _), (by show 1 ≤ 640; decide), _, _, rfl, rfl, .inl ⟨by decide, by decide⟩, _, _, rfl, rfl, o, _, _, rfl, rfl, eo, ?_, ?_⟩
    · rw [List.length_map, List.length_map, List.length_range]
      exact small1000 (by omega)
    · refine ⟨_, _, _, _, rfl, fun x u e => ?_, ?_⟩
      · rw [upd_ne (ne_of_none e no)]
        exact s4 _ _ e
      · rw [upd_same, List.range_succ, List.map_append, List.map_append]
        rfl
  rintro σ H4 ⟨y5, y6, y7, y8, rfl, s4, eo⟩
  refine ⟨_, rfl, o, _, rfl, SqL.of eo, fun p np => ?_⟩
  refine q p _ (s4.free np) (s4.trans (same_upd np)) ?_
  rw [upd_same, ← List.map_reverse, GM.fol_rev]
end
section
variable {P : Program} {w : World} {K : PySem.W.Frag} {mg : Str → Option Value} {base : Heap}
variable {a1 a2 a3 a4 a5 a6 a7 a8 a9 a10 : Addr} {l1 l2 l3 l4 l5 l6 l7 l8 l9 l10 : FuncData}
def spRight : Sp := fun vs H Q _ => ∃ (b : Addr) (c : Int), vs = [.ref b] ∧ BoxAt c H b ∧ c ≤ 700000000 ∧
  ∀ (H' : Hp), BoxAt (c + 4000) H' b → Keep b H H' → Q (.bl true) H'
theorem s4n {n : Int} (h0 : 0 ≤ n) : GM.s4 n (kf n) = n := by
  unfold kf
  refine GM.s4_all h0 ?_
  have c : ((2 ^ Builtin.Int.intBits n : Nat) : Int) = (2 : Int) ^ Builtin.Int.intBits n := PySem.W.kbt_cast _
  have h1 : n.natAbs < 2 ^ Builtin.Int.intBits n := PyProof.Rows.natAbs_lt_pow_bits n
  have h2 : (2 : Int) ^ Builtin.Int.intBits n ≤ 2 ^ (2 * (Builtin.Int.intBits n / 2) + 1) := GM.pow_le' (by omega)
  omega
theorem foldl_take {xs : List Int} {i : Nat} {z t : Int} (h : xs[i]? = some z) : (xs.take (i + 1)).foldl (fun t d => 4 * t + d) t = 4 * (xs.take i).foldl (fun t d => 4 * t + d) t + z := by
  rw [List.take_add_one, h]
  show ((xs.take i) ++ [z]).foldl _ t = _
  rw [List.foldl_append]
  rfl
theorem nabs_pow {k : Nat} {x : Int} (h0 : 0 ≤ x) (h1 : x < 2 ^ k) : x.natAbs < 2 ^ k := by
  have c : ((2 ^ k : Nat) : Int) = (2 : Int) ^ k := PySem.W.kbt_cast _
  omega
theorem ok__law_right (B : Bl mg) (L : LL K mg a1 a2 a3 a4 a5 a6 a7 a8 a9 a10 l1 l2 l3 l4 l5 l6 l7 l8 l9 l10) : FnOk P w K mg base CX0 12 a10 l10 ["_law_box_here"] spRight := by
  have G__law_number : FnOk P w K mg base CX0 11 a8 l8 ["_law_box_here"] spNumber := (ok__law_number B L).mono (by decide)
  have G__law_digits : FnOk P w K mg base CX0 11 a9 l9 ["_law_number_here"] spDigits := (ok__law_digits B L).mono (by decide)
  have G_fours_of : FnOk P w K mg base CX0 11 a1 l1 ["number"] spFours := (ok_fours_of B L).mono (by decide)
  have G_rows_of : FnOk P w K mg base CX0 11 a3 l3 ["one", "number"] spRows := (ok_rows_of B L).mono (by decide)
  have G__law_same : FnOk P w K mg base CX0 11 a7 l7 ["_law_found", "_law_due"] (spSame K 2) := (ok_same L.F__law_same L.b__law_same L.m__law_same B 2).mono (by decide)
  refine L.F__law_right.ok sc__law_right (fun vs H Q E h => ?_) (fun cdv A outer s H vs Q E hr h => ?_)
  · obtain ⟨b, c, rfl, _⟩ := h
    rfl
  obtain ⟨b, c, rfl, hB, hc, q⟩ := h
  refine ⟨_, (pss_cons (ps_asg (pe_tup (pa_cons (pe_call G__law_number hr (by rfl) L.m__law_number L.F__law_number.kp L.b__law_number .nil pass0 (pa_cons (pv 0) pa_nil)) (pa_cons (pe_call G__law_number hr (by rfl) L.m__law_number L.F__law_number.kp L.b__law_number .nil pass0 (pa_cons (pv 0) pa_nil)) pa_nil))) (pg_tup (by rfl) (pgs_cons (pg_name (i := 1) sc__law_right.nd rfl (.inl rfl)) (pgs_cons (pg_name (i := 2) sc__law_right.nd rfl (.inr rfl)) pgs_nil))))
    (pss_cons (ps_set (i := 3) sc__law_right.nd rfl (.inl rfl) (pe_call G__law_digits hr (by rfl) L.m__law_digits L.F__law_digits.kp L.b__law_digits .nil pass0 (pa_cons (pv 1) pa_nil)))
    (pss_cons (ps_for PassesOwn.never rfl (pi_range1 (by rfl) B.range (pa_cons pe_int pa_nil)) (pg_name (i := 4) sc__law_right.nd rfl (.inl rfl)) (pss_cons (ps_par (by rfl) sc__law_right.nd (i := 5) (j := 6) rfl rfl (by decide) rfl rfl (pa_cons (pe_call G_fours_of hr (by rfl) L.m_fours_of L.F_fours_of.kp L.b_fours_of .nil pass0 (pa_cons (pv 1) pa_nil)) (pa_cons (pe_call G_rows_of hr (by rfl) L.m_rows_of L.F_rows_of.kp L.b_rows_of .nil pass0 (pa_cons (pv 2) (pa_cons (pv 1) pa_nil))) pa_nil)) (by rfl))
    (pss_cons (ps_if (PW.pt (pw_or (pt_not (pt_val (pe_call G__law_same hr (by rfl) L.m__law_same L.F__law_same.kp L.b__law_same .nil pass0 (pa_cons (pv 5) (pa_cons (pv 3) pa_nil))))) (pw_or (pt_cmpR op_gt (pe_callB (cr_max rfl) (by rfl) B.max boot_max (pa_cons (pv 5) pa_nil)) pe_int (nomark _)) (pw_or1 (pt_cmpR op_lt (pe_callB (cr_min rfl) (by rfl) B.min boot_min (pa_cons (pv 5) pa_nil)) (pe_un un_neg pe_int) (nomark _)))))) (pss_one (ps_ret pe_bl)) pss_nil)
    (pss_cons (ps_set (i := 7) sc__law_right.nd rfl (.inl rfl) pe_int)
    (pss_cons (ps_for PassesOwn.never rfl (pi_list (pv 5)) (pg_name (i := 8) sc__law_right.nd rfl (.inl rfl)) (pss_one (ps_set (i := 7) sc__law_right.nd rfl (.inl rfl) (pe_op op_add (pe_op op_mul pe_int (pv 7)) (pv 8)))))
    (pss_cons (ps_set (i := 9) sc__law_right.nd rfl (.inl rfl) (pe_revL (pe_lc (own := [("_law_at", 11)]) (by rfl) sc__law_right.nd (pi_range1 (by rfl) B.range (pa_cons (pe_callB call_len_seq (by rfl) B.len PySem.boot_len (pa_cons (pv 3) pa_nil)) pa_nil)) (blkOk_by (own := [("_law_at", 11)]) (N := ["_law_box_here", "_law_number_here", "_law_one", "_law_due", "_law_again", "_law_found", "_law_rows", "_law_total", "_law_digit", "_law_places", "_law_at_places", "_law_at", "_law_worth"]) (sc := defScope s__law_right) (by decide +kernel)) (fun _ _ _ _ _ => pg_name (i := 11) sc__law_right.nd rfl (Or.inl rfl)) (fun _ _ _ _ _ => pts_nil) (fun _ _ _ _ _ => (pe_op op_oneShl pe_int (pe_op op_mul pe_int (pv 11)))))))
    (pss_cons (ps_setLc (i := 10) (own := [("_law_digit", 8), ("_law_worth", 12)]) (g := gTup K 2 (gCons (gName 8) (gCons (gName 12) gNil))) (by rfl) sc__law_right.nd rfl rfl (sw_true rfl rfl rfl (by decide +kernel)) (pi_zip (by rfl) B.zip (pa_cons (pv 3) (pa_cons (pv 9) pa_nil))) (blkOk_by (own := [("_law_digit", 8), ("_law_worth", 12)]) (N := ["_law_box_here", "_law_number_here", "_law_one", "_law_due", "_law_again", "_law_found", "_law_rows", "_law_total", "_law_digit", "_law_places", "_law_at_places", "_law_at", "_law_worth"]) (sc := defScope s__law_right) (by decide +kernel)) (fun _ _ _ _ _ => pg_tup rfl (pgs_cons (pg_name (i := 8) sc__law_right.nd rfl (Or.inl rfl) (.inr rfl)) (pgs_cons (pg_name (i := 12) sc__law_right.nd rfl (Or.inl rfl) (.inr rfl)) pgs_nil))) (fun _ _ _ _ _ => pts_nil) (fun _ _ _ _ _ => (pe_op op_mulW (pe_op op_mul (pv 8) (pv 2)) (pv 12))))
    (pss_cons (ps_if (PW.pt (pw_or (pt_cmpR op_ne (pv 7) (pv 1) (nomark _)) (pw_or (pt_not (pt_val (pe_call G__law_same hr (by rfl) L.m__law_same L.F__law_same.kp L.b__law_same .nil pass0 (pa_cons (pv 6) (pa_cons (pv 10) pa_nil))))) (pw_or1 (pt_cmpR op_ne (pe_callB (cr_sum rfl) (by rfl) B.sum boot_sum (pa_cons (pv 6) pa_nil)) (pe_op op_mulW (pv 2) (pv 1)) (nomark _)))))) (pss_one (ps_ret pe_bl)) pss_nil)
    (pss_cons (ps_expr (pe_bm PySem.F.plainAttrs_list PySem.F.slot_list_append PySem.F.type_list_append mt_append (pv 5) (pa_cons pe_int pa_nil)))
    (pss_one (ps_expr (pe_bm0 PySem.F.plainAttrs_list PySem.F.slot_list_reverse PySem.F.type_list_reverse mt_reverse (pv 6)))))))))))))
    (pss_one (ps_ret pe_bl))))), ?_⟩
  refine ⟨_, rfl, b, _, rfl, hB, by omega, fun n H1 h0 h1 B1 k1 => ?_⟩
  refine ⟨_, rfl, b, _, rfl, B1, by omega, fun o H2 o0 o1 B2 k2 => ?_⟩
  refine ⟨(by show 2 ≤ sizeLine; decide), fun t nt => ?_⟩
  have st := same_upd (o := .tup [.int n, .int o]) nt
  refine ⟨t, _, rfl, .inl (.inl upd_same), rfl, _, _, rfl, _, _, rfl, rfl, ?_⟩
  have hk := kf_le h0 h1
  have hkl : (GM.fol n (kf n)).length ≤ 1000 := by rw [GM.fol_len]; omega
  have hrl : (GM.rol o n (kf n)).length ≤ 1000 := by rw [GM.rol_len]; omega
  refine ⟨_, rfl, n, rfl, h0, h1, fun d H5 nd s5 ed => ?_⟩
  have B5 := (B2.same st).same s5
  have k5 := (k1.trans k2).trans (Keep.ofSame (st.trans s5))
  refine ⟨2, rfl, by decide, by decide, for_range (n := 2) (fun i σ H6 => ∃ (y4 y5 y6 y7 y8 y9 y10 : Option V), σ = [some (.ref b), some (.int n), some (.int o), some (.ref d), y4, y5, y6, y7, y8, y9, y10, none, none] ∧ Same H5 H6) ⟨none, none, none, none, none, none, none, rfl, Same.refl _⟩ ?_ ?_⟩
  · rintro i σ H6 hi ⟨y4, y5, y6, y7, y8, y9, y10, rfl, s6⟩
    refine ⟨_, rfl, n, rfl, h0, h1, fun fo H7 nfo s7 efo => ?_⟩
    refine ⟨_, rfl, _, rfl, o, n, rfl, h0, h1, o0, o1, fun ro H8 nro s8 ero => ?_⟩
    refine ⟨_, _, rfl, ?_⟩
    have s58 := s6.trans (s7.trans s8)
    refine ⟨_, rfl, _, rfl, _, _, .list ((GM.fol n (kf n)).map PyData.int), 1, rfl, rfl, lv_ints _ hkl, .lst (SqL.of (s8 _ _ efo)) (dp_ints _), .lst (SqL.of (s58 _ _ ed)) (dp_ints _), fun H9 s9 => ?_⟩
    refine ⟨_, rfl, iteF ?_⟩
    have efo9 := s9 _ _ (s8 _ _ efo)
    have ero9 := s9 _ _ ero
    have ed9 := s9 _ _ (s58 _ _ ed)
    have hpos : 0 < (GM.fol n (kf n)).length := by rw [GM.fol_len]; unfold kf; omega
    refine ⟨_, rfl, fo, _, rfl, SqL.of efo9, hpos, fun m hm _ => ⟨_, _, rfl, rfl, _, rfl, ite2 (fun c => absurd (of_decide_eq_true c) (by have := GM.fol_mem hm; omega)) (fun _ => ?_)⟩⟩
    refine ⟨_, rfl, fo, _, rfl, SqL.of efo9, hpos, fun m2 hm2 _ => ⟨_, rfl, _, _, rfl, rfl, _, rfl, ite2 (fun c => absurd (of_decide_eq_true c) (by have := GM.fol_mem hm2; omega)) (fun _ => ?_)⟩⟩
    -- the total
    refine ⟨_, rfl, fo, rfl, ⟨_, SqL.of efo9⟩, for_list (K := K) (a := fo) (xs := (GM.fol n (kf n)).map V.int) (fun j σ H10 => ∃ (y8 : Option V), σ = [some (.ref b), some (.int n), some (.int o), some (.ref d), some (.int (0 + (i : Int))), some (.ref fo), some (.ref ro), some (.int (((GM.fol n (kf n)).take j).foldl (fun t d => 4 * t + d) 0)), y8, y9, y10, none, none] ∧ H10 = H9)
      ⟨_, rfl, rfl⟩ (fun j σ H10 _ ⟨_, _, e⟩ => by subst e; exact SqL.of efo9) ?_ ?_⟩
    · rintro j x σ H10 hx ⟨y8', rfl, rfl⟩
      obtain ⟨z, hz, rfl⟩ := int_at hx
      refine ⟨_, rfl, _, _, rfl, rfl, .inl ⟨by decide, by decide⟩, _, rfl, _, _, rfl, rfl, ?_⟩
      exact ⟨some (.int z), by rw [foldl_take hz]; rfl, rfl⟩
    rintro σ H10 ⟨y8', rfl, rfl⟩
    rw [List.take_of_length_le (by rw [List.length_map]; exact Nat.le_refl _), GM.fold4, Int.zero_mul, Int.zero_add, s4n h0]
    -- places
    refine ⟨_, rfl, d, _, rfl, .inl (SqL.of ed9), ?_⟩
    rw [List.length_map, GM.fol_len]
    refine ⟨_, rfl, by omega, by omega, fun D nD => ?_⟩
    rw [Int.toNat_natCast]
    refine lc_range (n := kf n) (fun j H11 => Same H10 H11 ∧ H11 D = some (.lst (((List.range j).map fun j => (2 : Int) ^ (2 * j)).map V.int))) ⟨same_upd nD, upd_same⟩ ?_ ?_
    · rintro j H11 hj ⟨s11, eD⟩
      refine ⟨rfl, yesT ?_⟩
      refine ⟨_, rfl, _, _, rfl, rfl, .inl ⟨by decide, by decide⟩, 2 * j, rfl, congrArg V.int (by omega), by omega, _, eD, ?_, fun x u e => ?_, ?_⟩
      · rw [List.length_map, List.length_map, List.length_range]
        exact small1000 (by omega)
      · rw [upd_ne (ne_of_none e nD)]
        exact s11 _ _ e
      · rw [upd_same, List.range_succ, List.map_append, List.map_append]
        rfl
    rintro H11 ⟨s11, eD⟩
    refine ⟨D, _, rfl, SqL.of eD, fun pl npl => ?_⟩
    rw [← List.map_reverse, GM.pwl_rev]
    have sp := same_upd (o := .lst ((GM.pwl (kf n)).map V.int)) npl
    have s12 := s11.trans sp
    have ed12 := s12 _ _ ed9
    -- at places
    refine ⟨_, rfl, _, rfl, d, pl, _, _, rfl, SqL.of ed12, SqL.of upd_same, fun D2 nD2 => ?_⟩
    refine lc_it (walk_zip (K := K) (a := d) (b := pl) (xs := (GM.fol n (kf n)).map V.int) (ys := (GM.pwl (kf n)).map V.int) (n := kf n) (by rw [List.length_map, List.length_map, GM.fol_len, GM.pwl_len]; omega)) (fun j H13 => Same (upd H11 pl (.lst ((GM.pwl (kf n)).map V.int))) H13 ∧ H13 D2 = some (.lst (((GM.rol o n (kf n)).take j).map V.int))) ⟨same_upd nD2, upd_same⟩ (fun j H13 _ ⟨s13, _⟩ => ⟨SqL.of (s13 _ _ ed12), SqL.of (s13 _ _ upd_same)⟩) ?_ ?_
    · rintro j x H13 H14 hj ⟨s13, eD2⟩ ⟨T, x1, x2, rfl, nT, rfl, e1, e2⟩
      obtain ⟨z1, f1, rfl⟩ := int_at e1
      obtain ⟨z2, f2, rfl⟩ := int_at e2
      rw [GM.fol_get n (kf n) j hj] at f1
      rw [GM.pwl_get (kf n) j hj] at f2
      cases f1
      cases f2
      have hfo := GM.fo_in n (kf n - 1 - j)
      have sT := same_upd (o := .tup [.int (GM.fo n (kf n - 1 - j)), .int (2 ^ (2 * (kf n - 1 - j)))]) nT
      have hp := GM.pow_pos' (2 * (kf n - 1 - j))
      have hp2 : (2 : Int) ^ (2 * (kf n - 1 - j)) < 2 ^ 210 := Int.lt_of_le_of_lt (GM.pow_le' (n := 209) (by omega)) (by decide)
      refine ⟨T, _, rfl, .inl (.inl upd_same), rfl, _, _, rfl, _, _, rfl, rfl, rfl, ?_⟩
      refine yesT ?_
      refine ⟨_, rfl, _, rfl, _, _, rfl, rfl, .inl ⟨by omega, by omega⟩, _, rfl, _, _, rfl, rfl, ?_, _, sT _ _ eD2, ?_, fun b u e => ?_, ?_⟩
      · exact wide_mul (a := 202) (b := 210) (wide_lt (a := 2) (b := 200) (by omega) (nabs_pow o0 o1)) (nabs_pow (Int.le_of_lt hp) hp2) (by decide) (by decide) (by decide)
      · rw [List.length_map, List.length_take]
        exact Nat.lt_of_le_of_lt (Nat.min_le_left _ _) (small1000 (by omega))
      · rw [upd_ne (ne_of_none e nD2)]
        exact sT _ _ (s13 _ _ e)
      · rw [upd_same, GM.take_rol hj, List.map_append]
        rfl
    rintro H13 ⟨s13, eD2⟩
    rw [List.take_of_length_le (by rw [GM.rol_len]; exact Nat.le_refl _)] at eD2
    have s14 := s12.trans s13
    refine ⟨_, rfl, _, rfl, rfl, _, rfl, iteNS (congrArg V.int (Int.zero_add n)) ?_⟩
    refine ⟨_, rfl, _, rfl, _, _, .list ((GM.rol o n (kf n)).map PyData.int), 1, rfl, rfl, lv_ints _ hrl, .lst (SqL.of (s14 _ _ ero9)) (dp_ints _), .lst (SqL.of eD2) (dp_ints _), fun H15 s15 => ?_⟩
    refine ⟨_, rfl, iteF ?_⟩
    have ero15 := s15 _ _ (s14 _ _ ero9)
    have efo15 := s15 _ _ (s14 _ _ efo9)
    refine ⟨_, rfl, ro, _, rfl, SqL.of ero15, _, rfl, _, rfl, _, _, rfl, rfl, wide_mul (a := 200) (b := 200) (nabs_pow o0 o1) (nabs_pow h0 h1) (by decide) (by decide) (by decide), rfl, _, rfl, iteNS (congrArg V.int (by rw [GM.rol_sum, s4n h0])) ?_⟩
    have noFo : ∀ x u', H5 x = some u' → x ≠ fo := fun x u' e => ne_of_none (s6 _ _ e) nfo
    have noRo : ∀ x u', H5 x = some u' → x ≠ ro := fun x u' e => ne_of_none (s7 _ _ (s6 _ _ e)) nro
    have nfr : ro ≠ fo := (ne_of_none efo nro).symm
    refine ⟨_, rfl, .inl ⟨rfl, _, SqL.of efo15⟩, fo, _, _, rfl, rfl, efo15, ?_, ?_⟩
    · rw [List.length_map]
      exact Nat.lt_of_le_of_lt hkl (by decide)
    have ero16 : (upd H15 fo (.lst ((GM.fol n (kf n)).map V.int ++ [.int 7]))) ro = some (.lst ((GM.rol o n (kf n)).map V.int)) := by
      rw [upd_ne nfr]
      exact ero15
    refine ⟨_, rfl, .inl ⟨rfl, _, SqL.of ero16⟩, ro, _, rfl, rfl, ero16, ?_⟩
    refine ⟨_, _, _, _, _, _, _, rfl, fun x u' e => ?_⟩
    rw [upd_ne (noRo x u' e), upd_ne (noFo x u' e)]
    exact s15 _ _ (s14 _ _ (s9 _ _ (s58 _ _ e)))
  rintro σ H6 ⟨y4, y5, y6, y7, y8, y9, y10, rfl, s6⟩
  exact q _ ((B5.same s6).mono (by omega)) (k5.trans (Keep.ofSame s6))
def spLaw (K : PySem.W.Frag) : Sp := fun vs H Q _ => ∃ (a : Addr) (ns : List Int), vs = [.ref a] ∧ SqL K H a (ns.map V.int) ∧ ns.length ≤ 63 ∧ ∀ H', Q (.bl true) H'
theorem ok_law {f : Addr} {fd : FuncData} (F : Fun K "law" "law" s_law f fd) (B : Bl mg) (L : LL K mg a1 a2 a3 a4 a5 a6 a7 a8 a9 a10 l1 l2 l3 l4 l5 l6 l7 l8 l9 l10) : FnOk P w K mg base CX0 13 f fd ["_law_script"] (spLaw K) := by
  have G__law_folded : FnOk P w K mg base CX0 12 a6 l6 ["_law_script", "_law_size"] (spFolded K) := ok_folded L.F__law_folded B
  have G__law_box : FnOk P w K mg base CX0 12 a4 l4 ["_law_script", "_law_k"] (spBox K) := ok_box L.F__law_box B
  have G__law_right : FnOk P w K mg base CX0 12 a10 l10 ["_law_box_here"] spRight := (ok__law_right B L).mono (by decide)
  refine F.ok sc_law (fun vs H Q E h => ?_) (fun cdv A outer s H vs Q E hr h => ?_)
  · obtain ⟨a, ns, rfl, _⟩ := h
    rfl
  obtain ⟨a, ns, rfl, hS, h63, q⟩ := h
  refine ⟨_, (pss_cons (ps_set (i := 1) sc_law.nd rfl (.inl rfl) (pe_call G__law_folded hr (by rfl) L.m__law_folded L.F__law_folded.kp L.b__law_folded .nil pass0 (pa_cons (pv 0) (pa_cons pe_int pa_nil))))
    (pss_cons (ps_for PassesOwn.never rfl (pi_range1 (by rfl) B.range (pa_cons (pe_callB (call_max2 rfl) (by rfl) B.max boot_max (pa_cons pe_int (pa_cons (pe_callB call_len_seq (by rfl) B.len PySem.boot_len (pa_cons (pv 1) pa_nil)) pa_nil))) pa_nil)) (pg_name (i := 2) sc_law.nd rfl (.inl rfl)) (pss_cons (ps_set (i := 3) sc_law.nd rfl (.inr rfl) (pe_call G__law_box hr (by rfl) L.m__law_box L.F__law_box.kp L.b__law_box .nil pass0 (pa_cons (pv 1) (pa_cons (pv 2) pa_nil))))
    (pss_one (ps_if (pt_not (pt_val (pe_callB (cr_all rfl) (by rfl) B.all boot_all (pa_cons (pe_lc (own := [("_law_turn", 4)]) (by rfl) sc_law.nd (pi_range1 (by rfl) B.range (pa_cons pe_int pa_nil)) (blkOk_by (own := [("_law_turn", 4)]) (N := ["_law_script", "_law_cells", "_law_k", "_law_box_here", "_law_turn"]) (sc := defScope s_law) (by decide +kernel)) (fun _ _ _ _ _ => pg_name (i := 4) sc_law.nd rfl (Or.inl rfl)) (fun _ _ _ _ _ => pts_nil) (fun _ _ _ _ _ => (pe_call G__law_right hr (by rfl) L.m__law_right L.F__law_right.kp L.b__law_right .nil pass0 (pa_cons (pv 3) pa_nil)))) pa_nil)))) (pss_one (ps_ret pe_bl)) pss_nil))))
    (pss_one (ps_ret pe_bl)))), ?_⟩
  refine ⟨_, rfl, a, ns, 4, rfl, hS, h63, by decide, by decide, fun p H1 zs np s1 ep lz => ?_⟩
  have lz2 : zs.length ≤ 4 := by omega
  refine ⟨_, rfl, p, _, rfl, .inl (SqL.of ep), _, _, rfl, ?_⟩
  obtain ⟨n, en, hn⟩ : ∃ n : Nat, (if (((zs.map V.int).length : Nat) : Int) > 2 then (((zs.map V.int).length : Nat) : Int) else 2) = (n : Int) ∧ n ≤ 4 := by
    rw [List.length_map]
    split
    · exact ⟨zs.length, rfl, lz2⟩
    · exact ⟨2, rfl, by decide⟩
  rw [en]
  refine ⟨_, rfl, by omega, by omega, ?_⟩
  rw [Int.toNat_natCast]
  refine for_range (n := n) (fun i σ H5 => ∃ (y2 y3 : Option V), σ = [some (.ref a), some (.ref p), y2, y3, none] ∧ Same H1 H5) ⟨none, none, rfl, Same.refl _⟩ ?_ ?_
  · rintro i σ H5 hi ⟨y2, y3, rfl, s5⟩
    refine ⟨_, rfl, _, rfl, p, zs, _, rfl, SqL.of (s5 _ _ ep), by omega, by omega, fun b H6 nb s6 B6 => ?_⟩
    refine ⟨6, rfl, by decide, by decide, fun D nD => ?_⟩
    have nDb : D ≠ b := (B6.ne nD).symm
    refine lc_range (n := 6) (fun j H7 => Keep b H6 H7 ∧ BoxAt (4000 * j) H7 b ∧ H7 D = some (.lst (List.replicate j (.bl true)))) ⟨Keep.new nD, (B6.same (same_upd nD)).mono (by omega), upd_same⟩ ?_ ?_
    · rintro j H7 hj ⟨k7, B7, eD⟩
      refine ⟨rfl, yesT ?_⟩
      refine ⟨_, rfl, b, _, rfl, B7, by omega, fun H8 B8 k8 => ?_⟩
      refine ⟨_, k8 _ _ eD nDb, ?_, fun x u e n => ?_, BoxAt.mono (B8.at (upd_ne nDb.symm)) (by omega), ?_⟩
      · rw [List.length_replicate]
        exact small1000 (by omega)
      · rw [upd_ne (ne_of_none e nD)]
        exact k8 _ _ (k7 _ _ e n) n
      · rw [upd_same, repl_snoc]
    · rintro H7 ⟨k7, B7, eD⟩
      refine ⟨D, List.replicate 6 true, rfl, .inl (.inl (by rw [List.map_replicate]; exact eD)), _, rfl, ?_⟩
      refine iteF ?_
      exact ⟨_, _, rfl, fun x u e => k7 _ _ (s6 _ _ (s5 _ _ e)) (ne_of_none (s5 _ _ e) nb)⟩
  · rintro σ H5 ⟨y2, y3, rfl, s5⟩
    exact q _
end
theorem all_mk {l : PySem.W.OpenLaw} {w : World} {K : PySem.W.Frag} {h : Heap} {mg : Str → Option Value} {fa f1 f2 f3 f4 f5 f6 f7 f8 f9 f10 f11  : Addr} (X : K.In h) (G : h.Ns mainGlobals mg) (hfa : mg "law" = some (.ref fa))
    {od1 an1 od2 an2 od3 an3 od4 an4 od5 an5 od6 an6 od7 an7 od8 an8 od9 an9 od10 an10 od11 an11 : Option Addr} {sl1 sl2 sl3 sl4 sl5 sl6 sl7 sl8 sl9 sl10 sl11 : Array (Option Value)} {oc1 kV1 dc1 pm1 cd1 ct1 oc2 kV2 dc2 pm2 cd2 ct2 oc3 kV3 dc3 pm3 cd3 ct3 oc4 kV4 dc4 pm4 cd4 ct4 oc5 kV5 dc5 pm5 cd5 ct5 oc6 kV6 dc6 pm6 cd6 ct6 oc7 kV7 dc7 pm7 cd7 ct7 oc8 kV8 dc8 pm8 cd8 ct8 oc9 kV9 dc9 pm9 cd9 ct9 oc10 kV10 dc10 pm10 cd10 ct10 oc11 kV11 dc11 pm11 cd11 ct11 : Value}
    (a1 : PySem.W.nsIn K mainGlobals "fours_of" = some (some (.ref f1))) (l1 : K.lookup f1 = some ⟨oc1, od1, .func (PySem.W.fnOf "fours_of" "fours_of" (defArgs s_fours_of) (defBody s_fours_of) (defScope s_fours_of) .none kV1 dc1 pm1 an1 cd1 ct1), sl1⟩) (c1 : PySem.W.codeIn K cd1 "fours_of" = true) (k1 : PySem.W.keepIn K (.ref f1) = true)
    (a2 : PySem.W.nsIn K mainGlobals "four_of" = some (some (.ref f2))) (l2 : K.lookup f2 = some ⟨oc2, od2, .func (PySem.W.fnOf "four_of" "four_of" (defArgs s_four_of) (defBody s_four_of) (defScope s_four_of) .none kV2 dc2 pm2 an2 cd2 ct2), sl2⟩) (c2 : PySem.W.codeIn K cd2 "four_of" = true) (k2 : PySem.W.keepIn K (.ref f2) = true)
    (a3 : PySem.W.nsIn K mainGlobals "rows_of" = some (some (.ref f3))) (l3 : K.lookup f3 = some ⟨oc3, od3, .func (PySem.W.fnOf "rows_of" "rows_of" (defArgs s_rows_of) (defBody s_rows_of) (defScope s_rows_of) .none kV3 dc3 pm3 an3 cd3 ct3), sl3⟩) (c3 : PySem.W.codeIn K cd3 "rows_of" = true) (k3 : PySem.W.keepIn K (.ref f3) = true)
    (a4 : PySem.W.nsIn K mainGlobals "_law_box" = some (some (.ref f4))) (l4 : K.lookup f4 = some ⟨oc4, od4, .func (PySem.W.fnOf "_law_box" "_law_box" (defArgs sBox) (defBody sBox) (defScope sBox) .none kV4 dc4 pm4 an4 cd4 ct4), sl4⟩) (c4 : PySem.W.codeIn K cd4 "_law_box" = true) (k4 : PySem.W.keepIn K (.ref f4) = true)
    (a5 : PySem.W.nsIn K mainGlobals "_law_take" = some (some (.ref f5))) (l5 : K.lookup f5 = some ⟨oc5, od5, .func (PySem.W.fnOf "_law_take" "_law_take" (defArgs sTake) (defBody sTake) (defScope sTake) .none kV5 dc5 pm5 an5 cd5 ct5), sl5⟩) (c5 : PySem.W.codeIn K cd5 "_law_take" = true) (k5 : PySem.W.keepIn K (.ref f5) = true)
    (a6 : PySem.W.nsIn K mainGlobals "_law_folded" = some (some (.ref f6))) (l6 : K.lookup f6 = some ⟨oc6, od6, .func (PySem.W.fnOf "_law_folded" "_law_folded" (defArgs sFolded) (defBody sFolded) (defScope sFolded) .none kV6 dc6 pm6 an6 cd6 ct6), sl6⟩) (c6 : PySem.W.codeIn K cd6 "_law_folded" = true) (k6 : PySem.W.keepIn K (.ref f6) = true)
    (a7 : PySem.W.nsIn K mainGlobals "_law_same" = some (some (.ref f7))) (l7 : K.lookup f7 = some ⟨oc7, od7, .func (PySem.W.fnOf "_law_same" "_law_same" (defArgs sSame) (defBody sSame) (defScope sSame) .none kV7 dc7 pm7 an7 cd7 ct7), sl7⟩) (c7 : PySem.W.codeIn K cd7 "_law_same" = true) (k7 : PySem.W.keepIn K (.ref f7) = true)
    (a8 : PySem.W.nsIn K mainGlobals "_law_number" = some (some (.ref f8))) (l8 : K.lookup f8 = some ⟨oc8, od8, .func (PySem.W.fnOf "_law_number" "_law_number" (defArgs s__law_number) (defBody s__law_number) (defScope s__law_number) .none kV8 dc8 pm8 an8 cd8 ct8), sl8⟩) (c8 : PySem.W.codeIn K cd8 "_law_number" = true) (k8 : PySem.W.keepIn K (.ref f8) = true)
    (a9 : PySem.W.nsIn K mainGlobals "_law_digits" = some (some (.ref f9))) (l9 : K.lookup f9 = some ⟨oc9, od9, .func (PySem.W.fnOf "_law_digits" "_law_digits" (defArgs s__law_digits) (defBody s__law_digits) (defScope s__law_digits) .none kV9 dc9 pm9 an9 cd9 ct9), sl9⟩) (c9 : PySem.W.codeIn K cd9 "_law_digits" = true) (k9 : PySem.W.keepIn K (.ref f9) = true)
    (a10 : PySem.W.nsIn K mainGlobals "_law_right" = some (some (.ref f10))) (l10 : K.lookup f10 = some ⟨oc10, od10, .func (PySem.W.fnOf "_law_right" "_law_right" (defArgs s__law_right) (defBody s__law_right) (defScope s__law_right) .none kV10 dc10 pm10 an10 cd10 ct10), sl10⟩) (c10 : PySem.W.codeIn K cd10 "_law_right" = true) (k10 : PySem.W.keepIn K (.ref f10) = true)
    (a11 : PySem.W.nsIn K mainGlobals "law" = some (some (.ref f11))) (l11 : K.lookup f11 = some ⟨oc11, od11, .func (PySem.W.fnOf "law" "law" (defArgs s_law) (defBody s_law) (defScope s_law) .none kV11 dc11 pm11 an11 cd11 ct11), sl11⟩) (c11 : PySem.W.codeIn K cd11 "law" = true) (k11 : PySem.W.keepIn K (.ref f11) = true)
    (z1 : PySem.W.nsIn K mainGlobals "len" = some none)
    (z2 : PySem.W.nsIn K mainGlobals "abs" = some none)
    (z3 : PySem.W.nsIn K mainGlobals "int" = some none)
    (z4 : PySem.W.nsIn K mainGlobals "divmod" = some none)
    (z5 : PySem.W.nsIn K mainGlobals "list" = some none)
    (z6 : PySem.W.nsIn K mainGlobals "enumerate" = some none)
    (z7 : PySem.W.nsIn K mainGlobals "isinstance" = some none)
    (z8 : PySem.W.nsIn K mainGlobals "tuple" = some none)
    (z9 : PySem.W.nsIn K mainGlobals "str" = some none)
    (z10 : PySem.W.nsIn K mainGlobals "bool" = some none)
    (z11 : PySem.W.nsIn K mainGlobals "zip" = some none)
    (z12 : PySem.W.nsIn K mainGlobals "all" = some none)
    (z13 : PySem.W.nsIn K mainGlobals "range" = some none)
    (z14 : PySem.W.nsIn K mainGlobals "max" = some none)
    (z15 : PySem.W.nsIn K mainGlobals "any" = some none)
    (z16 : PySem.W.nsIn K mainGlobals "min" = some none)
    (z17 : PySem.W.nsIn K mainGlobals "sum" = some none)
    : ∃ fd : FuncData, (∀ (s : Shared) (v : Value), BindsTo s fd ⟨[v], []⟩ [("_law_script", v)]) ∧ ∀ base : Heap, K.In base → base.Ns mainGlobals mg → FnOk l.prog w K mg base CX0 13 fa fd ["_law_script"] (spLaw K) := by
  have e := hfa.symm.trans (PySem.W.mg_of X G a11)
  cases e
  have F1 := fun_mk (st := s_fours_of) l1 c1 k1
  have b1 := F1.binds (ps := ["number"]) fun _ _ _ _ _ _ us hl => match us, hl with | [_], _ => rfl
  have m1 := PySem.W.mg_of X G a1
  have F2 := fun_mk (st := s_four_of) l2 c2 k2
  have b2 := F2.binds (ps := ["bits"]) fun _ _ _ _ _ _ us hl => match us, hl with | [_], _ => rfl
  have m2 := PySem.W.mg_of X G a2
  have F3 := fun_mk (st := s_rows_of) l3 c3 k3
  have b3 := F3.binds (ps := ["one", "number"]) fun _ _ _ _ _ _ us hl => match us, hl with | [_, _], _ => rfl
  have m3 := PySem.W.mg_of X G a3
  have F4 := fun_mk (st := sBox) l4 c4 k4
  have b4 := F4.binds (ps := ["_law_script", "_law_k"]) fun _ _ _ _ _ _ us hl => match us, hl with | [_, _], _ => rfl
  have m4 := PySem.W.mg_of X G a4
  have F5 := fun_mk (st := sTake) l5 c5 k5
  have b5 := F5.binds (ps := ["_law_box_here", "_law_size"]) fun _ _ _ _ _ _ us hl => match us, hl with | [_, _], _ => rfl
  have m5 := PySem.W.mg_of X G a5
  have F6 := fun_mk (st := sFolded) l6 c6 k6
  have b6 := F6.binds (ps := ["_law_script", "_law_size"]) fun _ _ _ _ _ _ us hl => match us, hl with | [_, _], _ => rfl
  have m6 := PySem.W.mg_of X G a6
  have F7 := fun_mk (st := sSame) l7 c7 k7
  have b7 := F7.binds (ps := ["_law_found", "_law_due"]) fun _ _ _ _ _ _ us hl => match us, hl with | [_, _], _ => rfl
  have m7 := PySem.W.mg_of X G a7
  have F8 := fun_mk (st := s__law_number) l8 c8 k8
  have b8 := F8.binds (ps := ["_law_box_here"]) fun _ _ _ _ _ _ us hl => match us, hl with | [_], _ => rfl
  have m8 := PySem.W.mg_of X G a8
  have F9 := fun_mk (st := s__law_digits) l9 c9 k9
  have b9 := F9.binds (ps := ["_law_number_here"]) fun _ _ _ _ _ _ us hl => match us, hl with | [_], _ => rfl
  have m9 := PySem.W.mg_of X G a9
  have F10 := fun_mk (st := s__law_right) l10 c10 k10
  have b10 := F10.binds (ps := ["_law_box_here"]) fun _ _ _ _ _ _ us hl => match us, hl with | [_], _ => rfl
  have m10 := PySem.W.mg_of X G a10
  have F11 := fun_mk (st := s_law) l11 c11 k11
  have B : Bl mg := ⟨PySem.W.mg_none_of X G z1, PySem.W.mg_none_of X G z2, PySem.W.mg_none_of X G z3, PySem.W.mg_none_of X G z4, PySem.W.mg_none_of X G z5, PySem.W.mg_none_of X G z6, PySem.W.mg_none_of X G z7, PySem.W.mg_none_of X G z8, PySem.W.mg_none_of X G z9, PySem.W.mg_none_of X G z10, PySem.W.mg_none_of X G z11, PySem.W.mg_none_of X G z12, PySem.W.mg_none_of X G z13, PySem.W.mg_none_of X G z14, PySem.W.mg_none_of X G z15, PySem.W.mg_none_of X G z16, PySem.W.mg_none_of X G z17⟩
  refine ⟨PySem.W.fnOf "law" "law" (defArgs s_law) (defBody s_law) (defScope s_law) .none kV11 dc11 pm11 an11 cd11 ct11, fun s v => .of_eq rfl, fun base _ _ => ?_⟩
  have L : LL K mg f1 f2 f3 f4 f5 f6 f7 f8 f9 f10 _ _ _ _ _ _ _ _ _ _ := ⟨F1, b1, m1, F2, b2, m2, F3, b3, m3, F4, b4, m4, F5, b5, m5, F6, b6, m6, F7, b7, m7, F8, b8, m8, F9, b9, m9, F10, b10, m10⟩
  exact ok_law F11 B L
end GZ
open PySem PySem.W PyProof.Rows
set_option maxRecDepth 100000 in
set_option maxHeartbeats 0 in
theorem PySem.Challenge.cw_guessedzeros_k31_digits_of_base_four_holds : PySem.Challenge.rw_guessedzeros_k31_digits_of_base_four.Holds := by
  w_on; o_law; k_head; (case hw => w_witness2)
  k_fill
  refine L2.walk_of (l := PySem.Challenge.rw_guessedzeros_k31_digits_of_base_four) (n := 63) (k := 13) (x := "_law_script") (CX := fun _ => L2.CX0) (sp := fun w => GZ.spLaw _) rfl (by decide) rfl ⟨rfl, by decide, by decide⟩ (fun w h Y => PySem.W.kIn_of Y) ?F (fun _ _ a ns hl _ hS => ⟨a, ns, rfl, hS, hl, fun _ => rfl⟩) (fun _ _ _ _ _ h => h)
  case F =>
    intro w mg fa h KX G hmg
    refine' GZ.all_mk KX G hmg ?a1 ?l1 ?c1 ?k1 ?a2 ?l2 ?c2 ?k2 ?a3 ?l3 ?c3 ?k3 ?a4 ?l4 ?c4 ?k4 ?a5 ?l5 ?c5 ?k5 ?a6 ?l6 ?c6 ?k6 ?a7 ?l7 ?c7 ?k7 ?a8 ?l8 ?c8 ?k8 ?a9 ?l9 ?c9 ?k9 ?a10 ?l10 ?c10 ?k10 ?a11 ?l11 ?c11 ?k11 ?z1 ?z2 ?z3 ?z4 ?z5 ?z6 ?z7 ?z8 ?z9 ?z10 ?z11 ?z12 ?z13 ?z14 ?z15 ?z16 ?z17
    (case a1 => k_is)
    (case l1 => k_is)
    (case c1 => k_is)
    (case k1 => k_is)
    (case a2 => k_is)
    (case l2 => k_is)
    (case c2 => k_is)
    (case k2 => k_is)
    (case a3 => k_is)
    (case l3 => k_is)
    (case c3 => k_is)
    (case k3 => k_is)
    (case a4 => k_is)
    (case l4 => k_is)
    (case c4 => k_is)
    (case k4 => k_is)
    (case a5 => k_is)
    (case l5 => k_is)
    (case c5 => k_is)
    (case k5 => k_is)
    (case a6 => k_is)
    (case l6 => k_is)
    (case c6 => k_is)
    (case k6 => k_is)
    (case a7 => k_is)
    (case l7 => k_is)
    (case c7 => k_is)
    (case k7 => k_is)
    (case a8 => k_is)
    (case l8 => k_is)
    (case c8 => k_is)
    (case k8 => k_is)
    (case a9 => k_is)
    (case l9 => k_is)
    (case c9 => k_is)
    (case k9 => k_is)
    (case a10 => k_is)
    (case l10 => k_is)
    (case c10 => k_is)
    (case k10 => k_is)
    (case a11 => k_is)
    (case l11 => k_is)
    (case c11 => k_is)
    (case k11 => k_is)
    (case z1 => k_is)
    (case z2 => k_is)
    (case z3 => k_is)
    (case z4 => k_is)
    (case z5 => k_is)
    (case z6 => k_is)
    (case z7 => k_is)
    (case z8 => k_is)
    (case z9 => k_is)
    (case z10 => k_is)
    (case z11 => k_is)
    (case z12 => k_is)
    (case z13 => k_is)
    (case z14 => k_is)
    (case z15 => k_is)
    (case z16 => k_is)
    (case z17 => k_is)

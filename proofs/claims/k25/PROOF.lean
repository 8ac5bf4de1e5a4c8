import PyProof.Rows.All
import Wide.All
import OpenK.AllK
import Wide.FinOn
import HandS.ForMost
import HandS.Walk
import HandS.Zip
import HandS.WideBits
import HandS.IsInst
import OpenK.KEqL
import HandS.More
import HandS.Flow
import HandS.Text
import HandS.Style
import HandS.NoneIn
import HandS.Wide
import HandS.Codes
import HandS.Iter
import KE.GoesZip
import KE.GoesMore
import KE.GoesEnum
import PySem.Challenge.RW_guessedzeros_k25_cases_and_their_spread
set_option Elab.async false
set_option linter.all false
set_option maxRecDepth 100000
set_option maxHeartbeats 40000000
namespace GZ
open PySem PySem.Spec PyProof.Rows L2
/-! ### the text by places -/
def topS (i : Nat) : Stmt := PySem.Challenge.pw_guessedzeros_k25_cases_and_their_spread.main.body.getD i (.Pass ⟨0, 0, 0, 0⟩)
abbrev s_worth_of : Stmt := topS 1
theorem sc_worth_of : FnScope ["digits", "worth", "digit"] ["digits"] (defScope s_worth_of) := ⟨rfl, rfl, rfl, by decide +kernel, rfl, by decide +kernel, by decide +kernel⟩
abbrev s_fits : Stmt := topS 4
theorem sc_fits : FnScope ["case", "digits", "sign", "digit"] ["case", "digits"] (defScope s_fits) := ⟨rfl, rfl, rfl, by decide +kernel, rfl, by decide +kernel, by decide +kernel⟩
abbrev s_spread : Stmt := topS 5
theorem sc_spread : FnScope ["case", "least", "greatest", "sign"] ["case"] (defScope s_spread) := ⟨rfl, rfl, rfl, by decide +kernel, rfl, by decide +kernel, by decide +kernel⟩
abbrev sBox : Stmt := topS 7
abbrev sTake : Stmt := topS 8
abbrev sFolded : Stmt := topS 9
abbrev sSame : Stmt := topS 10
abbrev s__law_worth : Stmt := topS 11
theorem sc__law_worth : FnScope ["_law_digits", "_law_place", "_law_digit"] ["_law_digits"] (defScope s__law_worth) := ⟨rfl, rfl, rfl, by decide +kernel, rfl, by decide +kernel, by decide +kernel⟩
abbrev s__law_case_fits : Stmt := topS 12
theorem sc__law_case_fits : FnScope ["_law_case", "_law_digits", "_law_sign", "_law_digit"] ["_law_case", "_law_digits"] (defScope s__law_case_fits) := ⟨rfl, rfl, rfl, by decide +kernel, rfl, by decide +kernel, by decide +kernel⟩
abbrev s__law_fitting : Stmt := topS 13
theorem sc__law_fitting : FnScope ["_law_box_here", "_law_case", "_law_found", "_law_at", "_law_sign"] ["_law_box_here", "_law_case"] (defScope s__law_fitting) := ⟨rfl, rfl, rfl, by decide +kernel, rfl, by decide +kernel, by decide +kernel⟩
abbrev s__law_right : Stmt := topS 14
theorem sc__law_right : FnScope ["_law_box_here", "_law_few", "_law_case", "_law_least", "_law_greatest", "_law_turn", "_law_digits", "_law_handed", "_law_sign"] ["_law_box_here"] (defScope s__law_right) := ⟨rfl, rfl, rfl, by decide +kernel, rfl, by decide +kernel, by decide +kernel⟩
abbrev s_law : Stmt := topS 15
theorem sc_law : FnScope ["_law_script", "_law_cells", "_law_k", "_law_box_here", "_law_turn"] ["_law_script"] (defScope s_law) := ⟨rfl, rfl, rfl, by decide +kernel, rfl, by decide +kernel, by decide +kernel⟩
/-! ### built-in names that the text leaves alone -/
structure Bl (mg : Str → Option Value) : Prop where
  len : mg "len" = none
  abs : mg "abs" = none
  int : mg "int" = none
  divmod : mg "divmod" = none
  list : mg "list" = none
  enumerate : mg "enumerate" = none
  isinstance : mg "isinstance" = none
  tuple : mg "tuple" = none
  str : mg "str" = none
  bool : mg "bool" = none
  zip : mg "zip" = none
  all : mg "all" = none
  range : mg "range" = none
  max : mg "max" = none
  any : mg "any" = none
  min : mg "min" = none
  sum : mg "sum" = none
/-! ### rules with the written part told (for the blocks of comprehensions) -/
section
variable {X : Cx} {K : PySem.W.Frag}
theorem call_len_seqK (h : X.K = K := by rfl) : CallR X (.builtin "len") (fun xs H Q => ∃ p ys, xs = [.ref p] ∧ (SqL K H p ys ∨ SqT K H p ys) ∧ Q (.int ys.length) H) := by subst h; exact call_len_seq
theorem call_list_ofK (h : X.K = K := by rfl) : CallR X (.type "list") (fun xs H Q => ∃ p ys, xs = [.ref p] ∧ (SqL K H p ys ∨ SqT K H p ys) ∧ ∀ l, H l = none → Q (.ref l) (upd H l (.lst ys))) := by subst h; exact call_list_of
theorem call_tuple_ofK (h : X.K = K := by rfl) : CallR X (.type "tuple") (fun xs H Q => ∃ p ys, xs = [.ref p] ∧ ((SqL K H p ys ∧ ∀ l, H l = none → Q (.ref l) (upd H l (.tup ys))) ∨ (SqT K H p ys ∧ Q (.ref p) H))) := by subst h; exact call_tuple_of
theorem ix_listK (h : X.K = K := by rfl) : IxR X (rIxL K) := by subst h; exact ix_list
theorem ix_tupK (h : X.K = K := by rfl) : IxR X (rIxT K) := by subst h; exact ix_tup
theorem ix_seqK (h : X.K = K := by rfl) : IxR X (rIx K) := by subst h; exact ix_seq
theorem op_in_seqK (h : X.K = K := by rfl) : OpR X (compareOp .In) (rIn K false) := by subst h; exact op_in_seq
theorem op_notIn_seqK (h : X.K = K := by rfl) : OpR X (compareOp .NotIn) (rIn K true) := by subst h; exact op_notIn_seq
theorem sl_listK (h : X.K = K := by rfl) : SlR X (rSlL K) := by subst h; exact sl_list
theorem cr_sumK (hc : X.calm = true) (h : X.K = K := by rfl) : CallR X (.builtin "sum") (rSum K) := by subst h; exact cr_sum hc
theorem cr_allK (hc : X.calm = true) (h : X.K = K := by rfl) : CallR X (.builtin "all") (rAll K) := by subst h; exact cr_all hc
theorem cr_anyK (hc : X.calm = true) (h : X.K = K := by rfl) : CallR X (.builtin "any") (rAny K) := by subst h; exact cr_any hc
theorem call_isiK' (h : X.K = K := by rfl) : CallR X (.builtin "isinstance") (rIsi K) := by subst h; exact call_isi
theorem pi_listK {tg l : Expr} {tl : TE} (hl : PE X l tl) (h : X.K = K := by rfl) : PI X tg l (iList K tl) := by subst h; exact pi_list hl
theorem pi_tupK {tg l : Expr} {tl : TE} (hl : PE X l tl) (h : X.K = K := by rfl) : PI X tg l (iTup K tl) := by subst h; exact pi_tup hl
theorem pe_fldK {e : Expr} {ta : TE} {f : Str} {pos : Pos} (he : PE X e ta) (hb : attributeBase e f X.env (eval e X.env) = eval e X.env) (h : X.K = K := by rfl) : PE X (.Attribute e f pos) (tFld K ta f) := by subst h; exact pe_fld he hb
end
/-! ### heaps -/
theorem same_upd {H : Hp} {p : Addr} {o : HO} (h : H p = none) : Same H (upd H p o) := fun b x e => by
  rw [upd_ne (ne_of_none e h)]
  exact e
/-- all but what stands at b is as it was -/
def Keep (b : Addr) (H H' : Hp) : Prop := ∀ p o, H p = some o → p ≠ b → H' p = some o
theorem Keep.refl (b : Addr) (H : Hp) : Keep b H H := fun _ _ h _ => h
theorem Keep.trans {b : Addr} {H H1 H2 : Hp} (x : Keep b H H1) (y : Keep b H1 H2) : Keep b H H2 := fun p o h n => y p o (x p o h n) n
theorem Keep.ofSame {b : Addr} {H H1 : Hp} (x : Same H H1) : Keep b H H1 := fun p o h _ => x p o h
theorem Keep.upd {b : Addr} {H : Hp} {o : HO} : Keep b H (upd H b o) := fun p x h n => by
  rw [upd_ne n]
  exact h
theorem Keep.new {b p : Addr} {H : Hp} {o : HO} (h : H p = none) : Keep b H (L2.upd H p o) := .ofSame (same_upd h)
theorem Keep.seq {K : PySem.W.Frag} {b a : Addr} {H H' : Hp} {xs : List V} (e : Keep b H H') (n : a ≠ b) (h : SqL K H a xs) : SqL K H' a xs := by
  rcases h with (h | ⟨o, h⟩) | h
  · exact .inl (.inl (e _ _ h n))
  · exact .inl (.inr ⟨o, e _ _ h n⟩)
  · exact .inr h
theorem Keep.seqT {K : PySem.W.Frag} {b a : Addr} {H H' : Hp} {xs : List V} (e : Keep b H H') (n : a ≠ b) (h : SqT K H a xs) : SqT K H' a xs := by
  rcases h with (h | ⟨o, h⟩) | h
  · exact .inl (.inl (e _ _ h n))
  · exact .inl (.inr ⟨o, e _ _ h n⟩)
  · exact .inr h
theorem Same.seqT {K : PySem.W.Frag} {a : Addr} {H H' : Hp} {xs : List V} (e : Same H H') (h : SqT K H a xs) : SqT K H' a xs := by
  rcases h with (h | ⟨o, h⟩) | h
  · exact .inl (.inl (e _ _ h))
  · exact .inl (.inr ⟨o, e _ _ h⟩)
  · exact .inr h
/-- a drawing box: three ints, the last at most c -/
def BoxAt (c : Int) (H : Hp) (b : Addr) : Prop := ∃ x0 x1 x2 : Int, H b = some (.lst [.int x0, .int x1, .int x2]) ∧ 0 ≤ x0 ∧ 0 ≤ x1 ∧ x1 < 2147483647 ∧ 0 ≤ x2 ∧ x2 ≤ c
theorem BoxAt.mono {c d : Int} {H : Hp} {b : Addr} (h : BoxAt c H b) (l : c ≤ d) : BoxAt d H b := by
  obtain ⟨x0, x1, x2, e, a1, a2, a3, a4, a5⟩ := h
  exact ⟨x0, x1, x2, e, a1, a2, a3, a4, by omega⟩
theorem BoxAt.same {c : Int} {H H' : Hp} {b : Addr} (h : BoxAt c H b) (s : Same H H') : BoxAt c H' b := by
  obtain ⟨x0, x1, x2, e, r⟩ := h
  exact ⟨x0, x1, x2, s _ _ e, r⟩
theorem BoxAt.at {c : Int} {H H' : Hp} {b : Addr} (h : BoxAt c H b) (s : H' b = H b) : BoxAt c H' b := by
  obtain ⟨x0, x1, x2, e, r⟩ := h
  exact ⟨x0, x1, x2, by rw [s]; exact e, r⟩
theorem BoxAt.ne {c : Int} {H : Hp} {b p : Addr} (h : BoxAt c H b) (n : H p = none) : b ≠ p := by
  obtain ⟨x0, x1, x2, e, r⟩ := h
  exact ne_of_none e n
theorem e7 : (10 : Int) ^ ((7 : Int).toNat) = 10000000 := by decide
theorem e18 : (10 : Int) ^ ((18 : Int).toNat) = 1000000000000000000 := by decide
theorem divp_small {i j : Int} (h0 : 0 < j) (h1 : j < 2 ^ 250) : CDivP i j := by
  refine ⟨h0, ?_⟩
  show (decide ((if j == 0 then 0 else j.natAbs.log2 / 30 + 1) > 300) && _) = false
  rw [if_neg (show ¬ (j == 0) = true by simpa using (show j ≠ 0 by omega))]
  have hl : j.natAbs.log2 < 250 := PySem.Flt.log2_lt_of (by decide) (by omega)
  rw [decide_eq_false (show ¬ (j.natAbs.log2 / 30 + 1 > 300) by omega), Bool.false_and]
section
variable {P : Program} {w : World} {K : PySem.W.Frag} {mg : Str → Option Value} {base : Heap}
/-! ### _law_take -/
theorem scTake : FnScope ["_law_box_here", "_law_size", "_law_found", "_law_step", "_law_once", "_law_twice"] ["_law_box_here", "_law_size"] (defScope sTake) := ⟨rfl, rfl, rfl, by decide +kernel, rfl, by decide +kernel, by decide +kernel⟩
def spTake (k : Nat) : Sp := fun vs H Q _ => ∃ (b : Addr) (n c : Int), vs = [.ref b, .int n] ∧ BoxAt c H b ∧ 1 ≤ n ∧ n ≤ 10000000 ^ k ∧ n < 2 ^ 250 ∧ c + 2 ^ k ≤ 1000000000 ∧ 0 < k ∧
  ∀ (r : Int) (H' : Hp), 0 ≤ r → r < n → BoxAt (c + 2 ^ (k - 1)) H' b → Keep b H H' → Q (.int r) H'
theorem take_none {f : Addr} {fd : FuncData} : FnOk P w K mg base CX0 0 f fd ["_law_box_here", "_law_size"] (spTake 0) := by
  have no : ∀ vs H Q E, ¬ spTake 0 vs H Q E := fun vs H Q E h => by
    obtain ⟨b, n, c, _, _, _, _, _, _, h0, _⟩ := h
    omega
  exact ⟨fun vs H Q E h => absurd h (no vs H Q E), fun A outer s H args us vs Q E _ _ _ _ h => absurd h (no vs H Q E)⟩
theorem ok_take1 {f : Addr} {fd : FuncData} {k : Nat} (F : Fun K "_law_take" "_law_take" sTake f fd) (G : FnOk P w K mg base CX0 k f fd ["_law_box_here", "_law_size"] (spTake k)) (bf : Binds K fd ["_law_box_here", "_law_size"] []) (mf : mg "_law_take" = some (.ref f)) (B : Bl mg) :
    FnOk P w K mg base CX0 (k + 1) f fd ["_law_box_here", "_law_size"] (spTake (k + 1)) := by
  refine F.ok scTake (fun vs H Q E h => ?_) (fun cdv A outer s H vs Q E hr h => ?_)
  · obtain ⟨b, n, c, rfl, _⟩ := h
    rfl
  obtain ⟨b, n, c, rfl, hB, hn1, hnk, hn60, hc, _, q⟩ := h
  obtain ⟨x0, x1, x2, hb, h0, h1, h1', h2, h2'⟩ := hB
  have hp : (0 : Int) < 2 ^ k := Int.pow_pos (by decide)
  have hk2 : (2 : Int) ^ (k + 1) = 2 ^ k * 2 := Int.pow_succ 2 k
  refine ⟨_, pss_cons (ps_if (pt_cmpR op_gt (pe_ix ix_list (pv 0) pe_int (fun _ _ => rfl)) pe_int (nomark _))
      (pss_cons (ps_asg (pe_callB call_divmodW (by rfl) B.divmod boot_divmod (pa_cons (pe_ix ix_list (pv 0) pe_int (fun _ _ => rfl)) (pa_cons (pv 1) pa_nil)))
          (pg_tup (by rfl) (pgs_cons (pg_sub (pv 0) pe_int set_list) (pgs_cons (pg_name (i := 2) scTake.nd rfl (.inl rfl)) pgs_nil))))
        (pss_one (ps_ret (pv 2)))) pss_nil)
    (pss_cons (ps_if (pt_cmpR op_gt (pv 1) (pe_op op_pow pe_int pe_int) (nomark _))
      (pss_one (ps_ret (pe_op op_mod (pe_op op_add (pe_call G hr (by rfl) mf F.kp bf .nil pass0 (pa_cons (pv 0) (pa_cons (pe_op op_pow pe_int pe_int) pa_nil)))
          (pe_op op_mul (pe_op op_pow pe_int pe_int) (pe_call G hr (by rfl) mf F.kp bf .nil pass0 (pa_cons (pv 0) (pa_cons (pe_op op_add (pe_op op_fdiv (pe_op op_sub (pv 1) pe_int) (pe_op op_pow pe_int pe_int)) pe_int) pa_nil))))) (pv 1)))) pss_nil)
    (pss_cons (ps_asg (pe_op op_add (pe_ix ix_list (pv 0) pe_int (fun _ _ => rfl)) pe_int) (pg_sub (pv 0) pe_int set_list))
    (pss_cons (ps_set (i := 3) scTake.nd rfl (.inl rfl) (pe_op op_add pe_int (pe_op op_mul (pe_ix ix_list (pv 0) pe_int (fun _ _ => rfl)) (pe_ix ix_list (pv 0) pe_int (fun _ _ => rfl)))))
    (pss_cons (ps_set (i := 4) scTake.nd rfl (.inl rfl) (pe_op op_mod (pe_op op_mul (pe_op op_add (pe_ix ix_list (pv 0) pe_int (fun _ _ => rfl)) (pe_op op_mul pe_int (pe_ix ix_list (pv 0) pe_int (fun _ _ => rfl)))) (pv 3)) pe_int))
    (pss_cons (ps_set (i := 5) scTake.nd rfl (.inl rfl) (pe_op op_mod (pe_op op_add (pe_op op_mul (pv 4) (pe_op op_add (pe_op op_mod (pv 4) pe_int) pe_int)) (pe_ix ix_list (pv 0) pe_int (fun _ _ => rfl))) pe_int))
    (pss_one (ps_ret (pe_op op_mod (pe_op op_fdiv (pe_op op_mod (pe_op op_mul (pv 5) (pe_op op_add (pe_op op_mod (pv 5) pe_int) pe_int)) pe_int) pe_int) (pv 1))))))))), ?_⟩
  refine ⟨_, rfl, b, _, _, _, rfl, rfl, SqL.of hb, rfl, _, _, rfl, rfl, _, rfl, ite2 (fun cc => ?_) (fun cc => ?_)⟩
  · -- the great number's own digits
    refine ⟨_, rfl, b, _, _, _, rfl, rfl, SqL.of hb, rfl, _, rfl, _, _, rfl, divp_small (by omega) (by omega), fun p np => ?_⟩
    have nbp : b ≠ p := ne_of_none hb np
    refine ⟨p, _, rfl, .inl (.inl upd_same), rfl, _, _, rfl, _, rfl, b, _, _, 0, rfl, rfl, (by rw [upd_ne nbp]; exact hb), rfl, _, _, rfl, rfl, _, rfl, ?_⟩
    refine q _ _ (Int.emod_nonneg _ (by omega)) (Int.emod_lt_of_pos _ (by omega)) ⟨x0 / n, x1, x2, upd_same, Int.ediv_nonneg h0 (by omega), h1, h1', h2, by show x2 ≤ c + 2 ^ k; omega⟩ ?_
    exact Keep.trans (Keep.new np) Keep.upd
  · refine ⟨_, rfl, _, _, rfl, rfl, ⟨by decide, by decide, by decide⟩, _, _, rfl, rfl, _, rfl, ite2 (fun c2 => ?_) (fun c2 => ?_)⟩
    · -- two lesser draws
      have c3 : (10 : Int) ^ ((7 : Int).toNat) < n := of_decide_eq_true c2
      rw [e7] at c3
      have hk : 0 < k := by
        rcases Nat.eq_zero_or_pos k with z | z
        · subst z
          rw [show (10000000 : Int) ^ (0 + 1) = 10000000 by decide] at hnk
          omega
        · exact z
      obtain ⟨j, rfl⟩ : ∃ j, k = j + 1 := ⟨k - 1, by omega⟩
      have hj2 : (2 : Int) ^ (j + 1) = 2 ^ j * 2 := Int.pow_succ 2 j
      have hjp : (0 : Int) < 2 ^ j := Int.pow_pos (by decide)
      have h10 : (10000000 : Int) ≤ 10000000 ^ (j + 1) := by
        rw [Int.pow_succ]
        have : (0 : Int) < 10000000 ^ j := Int.pow_pos (by decide)
        omega
      have hdiv : (n - 1) / 10000000 + 1 ≤ 10000000 ^ (j + 1) := by
        rw [Int.pow_succ] at hnk
        have : n - 1 < 10000000 ^ (j + 1) * 10000000 := by omega
        have := Int.ediv_lt_of_lt_mul (by decide) this
        omega
      refine ⟨_, rfl, _, _, rfl, rfl, ⟨by decide, by decide, by decide⟩, b, _, c, rfl, ⟨x0, x1, x2, hb, h0, h1, h1', h2, h2'⟩, (by rw [e7]; decide), (by rw [e7]; exact h10), (by rw [e7]; decide), by omega, by omega, fun r1 H1 a1 a2 B1 k1 => ?_⟩
      refine ⟨_, _, rfl, rfl, ⟨by decide, by decide, by decide⟩, _, rfl, _, rfl, _, _, rfl, rfl, _, _, rfl, rfl, ⟨by decide, by decide, by decide⟩, _, _, rfl, rfl, (by rw [e7]; exact ⟨by decide, by decide⟩), _, _, rfl, rfl, ?_⟩
      rw [e7]
      refine ⟨b, _, c + 2 ^ j, rfl, B1, by omega, hdiv, by omega, by omega, by omega, fun r2 H2 a3 a4 B2 k2 => ?_⟩
      refine ⟨_, _, rfl, rfl, .inl ⟨by decide, by decide⟩, _, _, rfl, rfl, _, rfl, _, _, rfl, rfl, (by show (0 : Int) < n; omega), ?_⟩
      refine q _ _ (Int.emod_nonneg _ (by omega)) (Int.emod_lt_of_pos _ (by omega)) (B2.mono ?_) (k1.trans k2)
      show c + 2 ^ j + 2 ^ j ≤ c + 2 ^ (j + 1)
      omega
    · -- a turn of the wheel
      refine ⟨_, rfl, b, _, _, _, rfl, rfl, SqL.of hb, rfl, _, _, rfl, rfl, _, rfl, b, _, _, 2, rfl, rfl, hb, rfl, ?_⟩
      have hb2 : (upd H b (.lst [.int x0, .int x1, .int (x2 + 1)])) b = some (.lst [.int x0, .int x1, .int (x2 + 1)]) := upd_same
      refine ⟨_, rfl, b, _, _, _, rfl, rfl, SqL.of hb2, rfl, _, rfl, b, _, _, _, rfl, rfl, SqL.of hb2, rfl, _, _, rfl, rfl, .inl ⟨by omega, by omega⟩, _, _, rfl, rfl, ?_⟩
      refine ⟨_, rfl, b, _, _, _, rfl, rfl, SqL.of hb2, rfl, _, rfl, b, _, _, _, rfl, rfl, SqL.of hb2, rfl, _, _, rfl, rfl, .inl ⟨by omega, by omega⟩, _, _, rfl, rfl, _, rfl, _, _, rfl, rfl, .inl ⟨by omega, by omega⟩, _, _, rfl, rfl, (by show (0 : Int) < 2147483587; decide), ?_⟩
      generalize (x1 + 39373 * (x2 + 1)) * (69621 + (x2 + 1) * (x2 + 1)) = y
      have y1 := Int.emod_nonneg y (show (2147483587 : Int) ≠ 0 by decide)
      have y2 := Int.emod_lt_of_pos y (show (0 : Int) < 2147483587 by decide)
      refine ⟨_, rfl, _, rfl, _, _, rfl, rfl, (by show (0 : Int) < 30011; decide), _, _, rfl, rfl, _, _, rfl, rfl, .inl ⟨by omega, by omega⟩, _, rfl, b, _, _, _, rfl, rfl, SqL.of hb2, rfl, _, _, rfl, rfl, _, _, rfl, rfl, (by show (0 : Int) < 2147483563; decide), ?_⟩
      generalize (y % 2147483587 * (y % 2147483587 % 30011 + 5) + (x2 + 1)) = z
      have z1 := Int.emod_nonneg z (show (2147483563 : Int) ≠ 0 by decide)
      have z2 := Int.emod_lt_of_pos z (show (0 : Int) < 2147483563 by decide)
      refine ⟨_, rfl, _, rfl, _, _, rfl, rfl, (by show (0 : Int) < 1013; decide), _, _, rfl, rfl, _, _, rfl, rfl, .inl ⟨by omega, by omega⟩, _, _, rfl, rfl, (by show (0 : Int) < 998244353; decide), _, _, rfl, rfl, ⟨by decide, by decide⟩, _, rfl, _, _, rfl, rfl, (by show (0 : Int) < n; omega), ?_⟩
      refine q _ _ (Int.emod_nonneg _ (by omega)) (Int.emod_lt_of_pos _ (by omega)) ⟨x0, x1, x2 + 1, hb2, h0, h1, h1', by omega, by show x2 + 1 ≤ c + 2 ^ k; omega⟩ Keep.upd
theorem ok_take {f : Addr} {fd : FuncData} (F : Fun K "_law_take" "_law_take" sTake f fd) (bf : Binds K fd ["_law_box_here", "_law_size"] []) (mf : mg "_law_take" = some (.ref f)) (B : Bl mg) : ∀ k : Nat, FnOk P w K mg base CX0 k f fd ["_law_box_here", "_law_size"] (spTake k)
  | 0 => take_none
  | k + 1 => ok_take1 F (ok_take F bf mf B k) bf mf B
/-! ### _law_box -/
theorem scBox : FnScope ["_law_script", "_law_k", "_law_cell"] ["_law_script", "_law_k"] (defScope sBox) := ⟨rfl, rfl, rfl, by decide +kernel, rfl, by decide +kernel, by decide +kernel⟩
def spBox (K : PySem.W.Frag) : Sp := fun vs H Q _ => ∃ (a : Addr) (zs : List Int) (k : Int), vs = [.ref a, .int k] ∧ SqL K H a (zs.map V.int) ∧ 0 ≤ k ∧ k ≤ 1000 ∧
  ∀ (p : Addr) (H' : Hp), H p = none → Same H H' → BoxAt 0 H' p → Q (.ref p) H'
theorem b01 (b : Bool) : (-(2 ^ 64) < (if b = true then (1 : Int) else 0)) ∧ (if b = true then (1 : Int) else 0) < 2 ^ 64 := by cases b <;> decide
theorem b01n (b : Bool) : 0 ≤ (if b = true then (1 : Int) else 0) := by cases b <;> decide
theorem abs_nn (i : Int) : 0 ≤ (if i < 0 then -i else i) := by
  split <;> omega
theorem at_int {zs : List Int} {k : Int} (h0 : 0 ≤ k) (h : k < (zs.length : Int)) : ∃ v : Int, atI (zs.map V.int) k = some (.int v) ∧ zs[k.toNat]? = some v := by
  have hk : k.toNat < zs.length := by omega
  have ek : k = ((k.toNat : Nat) : Int) := by omega
  have q : atI (zs.map V.int) ((k.toNat : Nat) : Int) = some (.int zs[k.toNat]) := atI_nat (by rw [List.getElem?_map, List.getElem?_eq_getElem hk] <;> rfl)
  rw [← ek] at q
  exact ⟨zs[k.toNat], q, List.getElem?_eq_getElem hk⟩
theorem ok_box {f : Addr} {fd : FuncData} {k : Nat} (F : Fun K "_law_box" "_law_box" sBox f fd) (B : Bl mg) : FnOk P w K mg base CX0 (k + 1) f fd ["_law_script", "_law_k"] (spBox K) := by
  refine F.ok scBox (fun vs H Q E h => ?_) (fun cdv A outer s H vs Q E hr h => ?_)
  · obtain ⟨a, zs, k, rfl, _⟩ := h
    rfl
  obtain ⟨a, zs, k, rfl, hS, h0, h1, q⟩ := h
  refine ⟨_, pss_cons (ps_set (i := 2) scBox.nd rfl (.inl rfl) (pe_ifExp (pt_cmpR op_lt (pv 1) (pe_callB call_len_seq (by rfl) B.len PySem.boot_len (pa_cons (pv 0) pa_nil)) (nomark _)) (pe_ix ix_list (pv 0) (pv 1) (fun _ _ => rfl)) pe_int))
    (pss_one (ps_ret (pe_lst (pa_cons (pe_op op_mul (pe_callB call_abs (by rfl) B.abs boot_abs (pa_cons (pv 2) pa_nil)) (pe_callTy call_int1 (by rfl) B.int PyProof.Rows.boot_int (pa_cons (pe_cmpR op_ge (pe_callB call_abs (by rfl) B.abs boot_abs (pa_cons (pv 2) pa_nil)) (pe_op op_pow pe_int pe_int) (nomark _)) pa_nil)))
      (pa_cons (pe_op op_mod (pe_op op_mul (pe_op op_add (pe_op op_add (pe_op op_mod (pv 2) pe_int) (pe_op op_mul pe_int (pv 1))) pe_int) pe_int) pe_int) (pa_cons pe_int pa_nil)))))), ?_⟩
  refine ⟨_, rfl, _, rfl, a, _, rfl, .inl hS, _, _, rfl, rfl, _, rfl, ite2 (fun cc => ?_) (fun cc => ?_)⟩
  · have c1 : k < (((zs.map V.int).length : Nat) : Int) := of_decide_eq_true cc
    rw [List.length_map] at c1
    obtain ⟨v, hv, _⟩ := at_int h0 c1
    refine ⟨_, rfl, _, rfl, a, _, _, _, rfl, rfl, hS, hv, ?_⟩
    refine ⟨_, rfl, _, rfl, _, rfl, _, rfl, _, _, rfl, rfl, ⟨by decide, by decide, by decide⟩, _, _, rfl, rfl, .inr ⟨_, rfl, ?_⟩⟩
    refine ⟨_, _, rfl, rfl, .inr (b01 _), _, rfl, _, _, rfl, rfl, (by show (0 : Int) < 2147483629; decide), _, rfl, _, _, rfl, rfl, .inl ⟨by decide, by decide⟩, _, _, rfl, rfl, _, _, rfl, rfl, _, _, rfl, rfl, .inr ⟨by decide, by decide⟩, _, _, rfl, rfl, (by show (0 : Int) < 2147483647; decide), (by show 3 ≤ sizeLine; decide), fun p np => ?_⟩
    refine q p _ np (same_upd np) ⟨_, _, _, upd_same, Int.mul_nonneg (abs_nn v) (b01n _), Int.emod_nonneg _ (by decide), Int.emod_lt_of_pos _ (by decide), by decide, by decide⟩
  · refine ⟨_, rfl, _, rfl, _, rfl, _, rfl, _, _, rfl, rfl, ⟨by decide, by decide, by decide⟩, _, _, rfl, rfl, .inr ⟨_, rfl, ?_⟩⟩
    refine ⟨_, _, rfl, rfl, .inr (b01 _), _, rfl, _, _, rfl, rfl, (by show (0 : Int) < 2147483629; decide), _, rfl, _, _, rfl, rfl, .inl ⟨by decide, by decide⟩, _, _, rfl, rfl, _, _, rfl, rfl, _, _, rfl, rfl, .inr ⟨by decide, by decide⟩, _, _, rfl, rfl, (by show (0 : Int) < 2147483647; decide), (by show 3 ≤ sizeLine; decide), fun p np => ?_⟩
    refine q p _ np (same_upd np) ⟨_, _, _, upd_same, Int.mul_nonneg (abs_nn 0) (b01n _), Int.emod_nonneg _ (by decide), Int.emod_lt_of_pos _ (by decide), by decide, by decide⟩
/-! ### _law_folded -/
theorem scFolded : FnScope ["_law_script", "_law_size", "_law_cells", "_law_k", "_law_cell"] ["_law_script", "_law_size"] (defScope sFolded) := ⟨rfl, rfl, rfl, by decide +kernel, rfl, by decide +kernel, by decide +kernel⟩
def spFolded (K : PySem.W.Frag) : Sp := fun vs H Q _ => ∃ (a : Addr) (ns : List Int) (m : Nat), vs = [.ref a, .int (m : Int)] ∧ SqL K H a (ns.map V.int) ∧ ns.length ≤ 63 ∧ 1 ≤ m ∧ m ≤ 63 ∧
  ∀ (p : Addr) (H' : Hp) (zs : List Int), H p = none → Same H H' → H' p = some (.lst (zs.map V.int)) → zs.length = min ns.length m → Q (.ref p) H'
theorem cut_lo (ns : List Int) (m : Nat) : cutV (ns.map V.int) none (some (m : Int)) = (ns.take m).map V.int := by
  unfold cutV
  rw [HT.sIx_none, HT.sIx_nat, List.drop_zero, Nat.sub_zero, List.length_map, ← List.map_take]
  congr 1
  rw [List.take_eq_take_iff]
  omega
theorem cut_mid (ns : List Int) (m j : Nat) : ∃ ws : List Int, cutV (ns.map V.int) (some (m : Int)) (some (j : Int)) = ws.map V.int ∧ ws.length ≤ ns.length - m := by
  unfold cutV
  rw [HT.sIx_nat, HT.sIx_nat, List.length_map, ← List.map_drop, ← List.map_take]
  refine ⟨_, rfl, ?_⟩
  rw [List.length_take, List.length_drop]
  omega
theorem int_at {ws : List Int} {i : Nat} {x : V} (h : (ws.map V.int)[i]? = some x) : ∃ z, ws[i]? = some z ∧ x = .int z := by
  rw [List.getElem?_map] at h
  cases e : ws[i]? with
  | none =>
    rw [e] at h
    cases h
  | some z =>
    rw [e] at h
    exact ⟨z, rfl, (Option.some.inj h).symm⟩
theorem map_set (zs : List Int) (j : Nat) (v : Int) : (zs.map V.int).set j (.int v) = (zs.set j v).map V.int := List.map_set.symm
theorem ixN_nat {n j : Nat} (h : j < n) : ixN n (j : Int) = some j := by
  unfold ixN
  rw [if_pos (Int.natCast_nonneg j), if_pos (by omega), Int.toNat_natCast]
theorem ok_folded {f : Addr} {fd : FuncData} {k : Nat} (F : Fun K "_law_folded" "_law_folded" sFolded f fd) (B : Bl mg) : FnOk P w K mg base CX0 (k + 1) f fd ["_law_script", "_law_size"] (spFolded K) := by
  refine F.ok scFolded (fun vs H Q E h => ?_) (fun cdv A outer s H vs Q E hr h => ?_)
  · obtain ⟨a, ns, m, rfl, _⟩ := h
    rfl
  obtain ⟨a, ns, m, rfl, hS, h63, hm1, hm2, q⟩ := h
  refine ⟨_, pss_cons (ps_set (i := 2) scFolded.nd rfl (.inl rfl) (pe_callTy call_list_of (by rfl) B.list PyProof.Rows.boot_list (pa_cons (pe_slice sl_list (pv 0) po_none (po_some (pv 1))) pa_nil)))
    (pss_cons (ps_for PassesOwn.never rfl (pi_enum (by rfl) B.enumerate (pa_cons (pe_slice sl_list (pv 0) (po_some (pv 1)) (po_some pe_int)) pa_nil))
        (pg_tup rfl (pgs_cons (pg_name (i := 3) scFolded.nd rfl (.inl rfl)) (pgs_cons (pg_name (i := 4) scFolded.nd rfl (.inl rfl)) pgs_nil)))
      (pss_one (ps_asg (pe_op op_add (pe_ix ix_list (pv 2) (pe_op op_mod (pv 3) (pv 1)) (fun _ _ => rfl)) (pe_op op_mul (pv 4) (pe_op op_add (pv 3) pe_int))) (pg_sub (pv 2) (pe_op op_mod (pv 3) (pv 1)) set_list))))
    (pss_one (ps_ret (pv 2)))), ?_⟩
  refine ⟨_, rfl, _, rfl, _, rfl, a, _, rfl, hS, fun c0 nc0 => ?_⟩
  rw [cut_lo]
  have s0 : Same H (upd H c0 (.lst ((ns.take m).map V.int))) := same_upd nc0
  refine ⟨c0, _, rfl, .inl (.inl (.inl upd_same)), fun p np => ?_⟩
  have npH : H p = none := s0.free np
  have ne0 : c0 ≠ p := fun e => by
    subst e
    rw [upd_same] at np
    cases np
  have s1 := s0.trans (same_upd (o := .lst ((ns.take m).map V.int)) np)
  refine ⟨_, rfl, _, rfl, _, rfl, _, rfl, a, _, rfl, s1.seq hS, fun c nc => ?_⟩
  obtain ⟨ws, ew, lw⟩ := cut_mid ns m 63
  rw [show ((63 : Nat) : Int) = (63 : Int) from rfl] at ew
  rw [ew]
  have s2 := s1.trans (same_upd (o := .lst (ws.map V.int)) nc)
  have nec : c ≠ p := fun e => by
    subst e
    rw [upd_same] at nc
    cases nc
  refine ⟨c, _, rfl, .inl (.inl upd_same), ?_⟩
  refine for_it (walk_enum (K := K) (a := c) (xs := ws.map V.int)) (fun i σ H3 => ∃ (y3 y4 : Option V) (zs : List Int), σ = [some (.ref a), some (.int (m : Int)), some (.ref p), y3, y4] ∧ Same H H3 ∧ H3 c = some (.lst (ws.map V.int)) ∧ H3 p = some (.lst (zs.map V.int)) ∧ zs.length = min ns.length m)
    ⟨none, none, ns.take m, rfl, s2, upd_same, ?_, ?_⟩ (fun i σ H3 _ ⟨_, _, _, _, _, e, _⟩ => .inl (.inl e)) ?_ ?_
  · rw [upd_ne nec.symm]
    exact upd_same
  · rw [List.length_take, Nat.min_comm]
  · rintro i v σ H3 H4 hi ⟨y3, y4, zs, rfl, s3, ec, ep, el⟩ ⟨T, x, y, rfl, nT, rfl, e1, e2⟩
    cases e1
    obtain ⟨z, _, rfl⟩ := int_at e2
    rw [List.length_map] at hi
    have npT : p ≠ T := ne_of_none ep nT
    have ncT : c ≠ T := ne_of_none ec nT
    have sT : Same H3 (upd H3 T (.tup [.int (i : Nat), .int z])) := same_upd nT
    refine ⟨T, _, rfl, .inl (.inl upd_same), rfl, _, _, rfl, _, _, rfl, rfl, ?_⟩
    have lm : (i : Int) % (m : Int) = ((i % m : Nat) : Int) := rfl
    have hl : i % m < zs.length := by
      have := Nat.mod_lt i (show 0 < m by omega)
      omega
    have ev : (zs.map V.int)[i % m]? = some (.int zs[i % m]) := by
      rw [List.getElem?_map, List.getElem?_eq_getElem hl]
      rfl
    refine ⟨_, rfl, _, rfl, _, rfl, _, _, rfl, rfl, (by show (0 : Int) < (m : Int); omega), p, _, _, _, rfl, rfl, SqL.of (sT _ _ ep), (by rw [lm]; exact atI_nat ev), _, rfl, _, rfl, _, _, rfl, rfl, _, _, rfl, rfl, .inr ⟨by omega, by omega⟩, _, _, rfl, rfl, ?_⟩
    refine ⟨_, rfl, _, rfl, _, rfl, _, _, rfl, rfl, (by show (0 : Int) < (m : Int); omega), p, _, _, i % m, rfl, rfl, sT _ _ ep, (by rw [lm, List.length_map]; exact ixN_nat hl), ?_⟩
    refine ⟨_, _, zs.set (i % m) (zs[i % m] + z * ((i : Int) + 2)), rfl, fun b o e => ?_, ?_, ?_, ?_⟩
    · rw [upd_ne (ne_of_none e npH)]
      exact sT _ _ (s3 _ _ e)
    · rw [upd_ne nec]
      exact sT _ _ ec
    · rw [upd_same, map_set]
    · rw [List.length_set]
      exact el
  · rintro σ H3 ⟨y3, y4, zs, rfl, s3, ec, ep, el⟩
    exact ⟨_, rfl, q p H3 zs npH s3 ep el⟩
/-! ### _law_same: of two things of one kind and worth -/
theorem scSame : FnScope ["_law_found", "_law_due", "_law_one", "_law_other"] ["_law_found", "_law_due"] (defScope sSame) := ⟨rfl, rfl, rfl, by decide +kernel, rfl, by decide +kernel, by decide +kernel⟩
def Lv : Nat → PyData → Prop
  | _, .none => True
  | _, .bool _ => True
  | _, .int _ => True
  | _, .str _ => True
  | n + 1, .list ds => ds.length ≤ 1000000 ∧ ∀ d ∈ ds, Lv n d
  | n + 1, .tuple ds => ds.length ≤ 1000000 ∧ ∀ d ∈ ds, Lv n d
  | _, _ => False
mutual
theorem Dp.same {H H' : Hp} (s : Same H H') : ∀ (d : PyData) (v : V), Dp K H v d → Dp K H' v d
  | .none, _, h => by
    cases h
    exact .non
  | .bool b, _, h => by
    cases h
    exact .bl b
  | .int i, _, h => by
    cases h
    exact .int i
  | .str x, _, h => by
    cases h
    exact .str x
  | .list ds, _, h => by
    cases h with
    | lst hs ha => exact .lst (s.seq hs) (Dp.sameAll s ds _ ha)
  | .tuple ds, _, h => by
    cases h with
    | tup hs ha => exact .tup (Same.seqT s hs) (Dp.sameAll s ds _ ha)
  | .dict _, _, h => by cases h
theorem Dp.sameAll {H H' : Hp} (s : Same H H') : ∀ (ds : List PyData) (vs : List V), DpAll K H vs ds → DpAll K H' vs ds
  | [], _, h => by
    cases h
    exact .nil
  | d :: ds, _, h => by
    cases h with
    | cons h1 h2 => exact .cons (Dp.same s d _ h1) (Dp.sameAll s ds _ h2)
end
theorem DpAll.len {H : Hp} : ∀ {ds : List PyData} {vs : List V}, DpAll K H vs ds → vs.length = ds.length
  | [], _, h => by
    cases h
    rfl
  | d :: ds, _, h => by
    cases h with
    | cons h1 h2 => rw [List.length_cons, List.length_cons, DpAll.len h2]
theorem DpAll.get {H : Hp} : ∀ {ds : List PyData} {vs : List V} {i : Nat} {x : V}, DpAll K H vs ds → vs[i]? = some x → ∃ d, ds[i]? = some d ∧ Dp K H x d
  | [], _, i, x, h, e => by
    cases h
    cases e
  | d :: ds, _, 0, x, h, e => by
    cases h with
    | cons h1 h2 =>
      cases e
      exact ⟨d, rfl, h1⟩
  | d :: ds, _, i + 1, x, h, e => by
    cases h with
    | @cons _ vs _ _ h1 h2 => exact DpAll.get (ds := ds) (vs := vs) h2 (show vs[i]? = some x from e)
theorem walk_zipT {a b : Addr} {xs ys : List V} {n : Nat} (hn : n = min xs.length ys.length) : Walk (RZ.ItzT K a b) n (fun H => SqT K H a xs ∧ SqT K H b ys) (YPair (fun i => xs[i]?) (fun i => ys[i]?)) := by
  subst hn
  refine ⟨fun i _ hi q => ?_, fun _ q => ⟨xs, ys, q.1, q.2, by omega⟩, fun i H v H' _ q y => ?_⟩
  · have h1 : i < xs.length := by omega
    have h2 : i < ys.length := by omega
    exact ⟨xs, ys, xs[i], ys[i], q.1, q.2, by simp [h1], by simp [h2]⟩
  · obtain ⟨T, x, z, h1, h2, h3, h4, h5⟩ := y
    exact ⟨T, x, z, h1, h2, h3, h4 xs q.1, h5 ys q.2⟩
theorem ty_lst {H : Hp} {a : Addr} {xs : List V} (h : SqL K H a xs) : TyX K H (.ref a) (.type "list") := by
  rcases h with (h | ⟨o, h⟩) | ⟨o, its, n, h1, h2, _⟩
  · exact .base (.lst h)
  · exact .base (.frz h)
  · exact .kList h1 h2
theorem ty_tup {H : Hp} {a : Addr} {xs : List V} (h : SqT K H a xs) : TyX K H (.ref a) (.type "tuple") := by
  rcases h with (h | ⟨o, h⟩) | ⟨o, its, n, h1, h2, _⟩
  · exact .base (.tup h)
  · exact .fTuple h
  · exact .kTuple h1 h2
def spSame (K : PySem.W.Frag) (k : Nat) : Sp := fun vs H Q _ => ∃ (x y : V) (d : PyData) (j : Nat), vs = [x, y] ∧ k = j + 1 ∧ Lv j d ∧ Dp K H x d ∧ Dp K H y d ∧ ∀ H', Same H H' → Q (.bl true) H'
theorem same_none {f : Addr} {fd : FuncData} : FnOk P w K mg base CX0 0 f fd ["_law_found", "_law_due"] (spSame K 0) := by
  have no : ∀ vs H Q E, ¬ spSame K 0 vs H Q E := fun vs H Q E h => by
    obtain ⟨x, y, d, j, _, h0, _⟩ := h
    omega
  exact ⟨fun vs H Q E h => absurd h (no vs H Q E), fun A outer s H args us vs Q E _ _ _ _ h => absurd h (no vs H Q E)⟩
theorem yesT {σ : L2.St} {H : Hp} {R S : Hp → Prop} (h : R H) : tYes σ H fun b H3 => if b = true then R H3 else S H3 := h
theorem repl_snoc {α : Type} (i : Nat) (x : α) : List.replicate i x ++ [x] = List.replicate (i + 1) x := List.replicate_succ'.symm
theorem all_repl (n : Nat) : (List.replicate n true).all id = true := by
  rw [List.all_eq_true]
  intro x hx
  rw [List.eq_of_mem_replicate hx]
  rfl
theorem kitLT {t : String} {r1 r2 : Bool} (h1 : kitB t "list" = some r1) (h2 : kitB t "tuple" = some r2) : PySem.W.kitAny K (.type t) [.type "list", .type "tuple"] = some (r1 || r2) := by
  refine kitAny_cons (kit_ty h1) (fun e => ?_) (fun e => by rw [e]; rfl)
  rw [e, Bool.false_or]
  refine kitAny_cons (kit_ty h2) (fun e => ?_) (fun e => e)
  rw [e]
  rfl
theorem ok_same1 {f : Addr} {fd : FuncData} {k : Nat} (F : Fun K "_law_same" "_law_same" sSame f fd) (G : FnOk P w K mg base CX0 k f fd ["_law_found", "_law_due"] (spSame K k)) (bf : Binds K fd ["_law_found", "_law_due"] []) (mf : mg "_law_same" = some (.ref f)) (B : Bl mg) :
    FnOk P w K mg base CX0 (k + 1) f fd ["_law_found", "_law_due"] (spSame K (k + 1)) := by
  refine F.ok scSame (fun vs H Q E h => ?_) (fun cdv A outer s H vs Q E hr h => ?_)
  · obtain ⟨x, y, d, j, rfl, _⟩ := h
    rfl
  obtain ⟨x, y, d, j, rfl, ej, lv, dx, dy, q⟩ := h
  obtain rfl : k = j := by omega
  refine ⟨_, pss_cons (ps_if (pt_val (pe_callB call_isiT (by rfl) B.isinstance boot_isinstance (pa_cons (pv 1) (pa_cons (pe_tup (pa_cons (pe_bltn (v := .ty "list") (by rfl) B.list PyProof.Rows.boot_list rfl) (pa_cons (pe_bltn (v := .ty "tuple") (by rfl) B.tuple PyProof.Rows.boot_tuple rfl) pa_nil))) pa_nil))))
      (pss_cons (ps_if (PW.pt (pw_or (pt_cmpR op_ne (pe_callB call_isi (by rfl) B.isinstance boot_isinstance (pa_cons (pv 0) (pa_cons (pe_bltn (v := .ty "list") (by rfl) B.list PyProof.Rows.boot_list rfl) pa_nil))) (pe_callB call_isi (by rfl) B.isinstance boot_isinstance (pa_cons (pv 1) (pa_cons (pe_bltn (v := .ty "list") (by rfl) B.list PyProof.Rows.boot_list rfl) pa_nil))) (nomark _))
          (pw_or1 (pt_cmpR op_ne (pe_callB call_isi (by rfl) B.isinstance boot_isinstance (pa_cons (pv 0) (pa_cons (pe_bltn (v := .ty "tuple") (by rfl) B.tuple PyProof.Rows.boot_tuple rfl) pa_nil))) (pe_callB call_isi (by rfl) B.isinstance boot_isinstance (pa_cons (pv 1) (pa_cons (pe_bltn (v := .ty "tuple") (by rfl) B.tuple PyProof.Rows.boot_tuple rfl) pa_nil))) (nomark _)))))
          (pss_one (ps_ret pe_bl)) pss_nil)
        (pss_one (ps_ret (pe_and (pe_cmpR op_eq (pe_callB call_len_seq (by rfl) B.len PySem.boot_len (pa_cons (pv 0) pa_nil)) (pe_callB call_len_seq (by rfl) B.len PySem.boot_len (pa_cons (pv 1) pa_nil)) (nomark _))
          (pe_one (pe_callB (cr_all rfl) (by rfl) B.all boot_all (pa_cons (pe_lc (own := [("_law_one", 2), ("_law_other", 3)]) (g := gTup K 2 (gCons (gName 2) (gCons (gName 3) gNil))) (by rfl) scSame.nd (RZ.pi_zipA (by rfl) B.zip (pa_cons (pv 0) (pa_cons (pv 1) pa_nil)))
            (blkOk_by (own := [("_law_one", 2), ("_law_other", 3)]) (N := ["_law_found", "_law_due", "_law_one", "_law_other"]) (sc := defScope sSame) (by decide +kernel))
            (fun _ _ _ _ _ => pg_tup rfl (pgs_cons (pg_name (i := 2) scSame.nd rfl (Or.inl rfl) (.inr rfl)) (pgs_cons (pg_name (i := 3) scSame.nd rfl (Or.inl rfl) (.inr rfl)) pgs_nil))) (fun _ _ _ _ _ => pts_nil)
            (fun _ _ _ _ _ => pe_call G hr (by rfl) mf F.kp bf .nil pass0 (pa_cons (pv 2) (pa_cons (pv 3) pa_nil)))) pa_nil))))))) pss_nil)
    (pss_cons (ps_if (PW.pt (pw_or (pt_cmpR op_isN (pv 1) pe_non (nomark _)) (pw_or1 (pt_val (pe_callB call_isi (by rfl) B.isinstance boot_isinstance (pa_cons (pv 1) (pa_cons (pe_bltn (v := .ty "str") (by rfl) B.str PyProof.Rows.boot_str rfl) pa_nil)))))))
      (pss_one (ps_ret (pe_and (pe_cmpR op_eq (pv 0) (pv 1) (nomark _)) (pe_one (pe_cmpR op_eq (pe_callB call_isi (by rfl) B.isinstance boot_isinstance (pa_cons (pv 0) (pa_cons (pe_bltn (v := .ty "str") (by rfl) B.str PyProof.Rows.boot_str rfl) pa_nil))) (pe_callB call_isi (by rfl) B.isinstance boot_isinstance (pa_cons (pv 1) (pa_cons (pe_bltn (v := .ty "str") (by rfl) B.str PyProof.Rows.boot_str rfl) pa_nil))) (nomark _)))))) pss_nil)
    (pss_one (ps_ret (pe_and (pe_callB call_isi (by rfl) B.isinstance boot_isinstance (pa_cons (pv 0) (pa_cons (pe_bltn (v := .ty "int") (by rfl) B.int PyProof.Rows.boot_int rfl) pa_nil))) (pe_and (pe_cmpR op_eq (pe_callB call_isi (by rfl) B.isinstance boot_isinstance (pa_cons (pv 0) (pa_cons (pe_bltn (v := .ty "bool") (by rfl) B.bool PyProof.Rows.boot_bool rfl) pa_nil))) (pe_callB call_isi (by rfl) B.isinstance boot_isinstance (pa_cons (pv 1) (pa_cons (pe_bltn (v := .ty "bool") (by rfl) B.bool PyProof.Rows.boot_bool rfl) pa_nil))) (nomark _))
      (pe_one (pe_cmpR op_eq (pv 0) (pv 1) (nomark _)))))))), ?_⟩
  have pr : Paired ClsV [.ty "list", .ty "tuple"] [.type "list", .type "tuple"] := .cons (.ty _) (.cons (.ty _) .nil)
  refine ⟨_, rfl, (by show 2 ≤ sizeLine; decide), fun tp ntp => ?_⟩
  have s0 : Same H (upd H tp (.tup [.ty "list", .ty "tuple"])) := same_upd ntp
  cases d with
  | none =>
    cases dx
    cases dy
    refine ⟨_, tp, _, _, _, _, rfl, upd_same, pr, .base .non, kitLT (t := "NoneType") (r1 := false) (r2 := false) (by decide +kernel) (by decide +kernel), _, rfl, iteF ?_⟩
    refine ⟨_, rfl, rfl, _, rfl, iteT (iteT ?_)⟩
    refine ⟨_, rfl, _, rfl, rfl, _, rfl, iteT ?_⟩
    refine ⟨_, rfl, _, _, _, _, _, rfl, .ty _, .base .non, kit_ty (by decide +kernel : kitB "NoneType" "str" = some false), _, rfl, _, _, _, _, _, rfl, .ty _, .base .non, kit_ty (by decide +kernel : kitB "NoneType" "str" = some false), rfl, q _ s0⟩
  | bool b =>
    cases dx
    cases dy
    refine ⟨_, tp, _, _, _, _, rfl, upd_same, pr, .base (.bl _), kitLT (t := "bool") (r1 := false) (r2 := false) (by decide +kernel) (by decide +kernel), _, rfl, iteF ?_⟩
    refine ⟨_, rfl, rfl, _, rfl, iteF ?_⟩
    refine ⟨_, rfl, _, _, _, _, _, rfl, .ty _, .base (.bl _), kit_ty (by decide +kernel : kitB "bool" "str" = some false), _, rfl, iteF ?_⟩
    refine ⟨_, rfl, _, _, _, _, _, rfl, .ty _, .base (.bl _), kit_ty (by decide +kernel : kitB "bool" "int" = some true), _, rfl, iteT ?_⟩
    refine ⟨_, rfl, _, _, _, _, _, rfl, .ty _, .base (.bl _), kit_ty (by decide +kernel : kitB "bool" "bool" = some true), _, rfl, _, _, _, _, _, rfl, .ty _, .base (.bl _), kit_ty (by decide +kernel : kitB "bool" "bool" = some true), rfl, _, rfl, iteT ?_⟩
    refine ⟨_, rfl, _, rfl, rfl, ?_⟩
    rw [decide_eq_true rfl]
    exact q _ s0
  | int i =>
    cases dx
    cases dy
    refine ⟨_, tp, _, _, _, _, rfl, upd_same, pr, .base (.int _), kitLT (t := "int") (r1 := false) (r2 := false) (by decide +kernel) (by decide +kernel), _, rfl, iteF ?_⟩
    refine ⟨_, rfl, rfl, _, rfl, iteF ?_⟩
    refine ⟨_, rfl, _, _, _, _, _, rfl, .ty _, .base (.int _), kit_ty (by decide +kernel : kitB "int" "str" = some false), _, rfl, iteF ?_⟩
    refine ⟨_, rfl, _, _, _, _, _, rfl, .ty _, .base (.int _), kit_ty (by decide +kernel : kitB "int" "int" = some true), _, rfl, iteT ?_⟩
    refine ⟨_, rfl, _, _, _, _, _, rfl, .ty _, .base (.int _), kit_ty (by decide +kernel : kitB "int" "bool" = some false), _, rfl, _, _, _, _, _, rfl, .ty _, .base (.int _), kit_ty (by decide +kernel : kitB "int" "bool" = some false), rfl, _, rfl, iteT ?_⟩
    refine ⟨_, rfl, _, rfl, rfl, ?_⟩
    rw [decide_eq_true rfl]
    exact q _ s0
  | str z =>
    cases dx
    cases dy
    refine ⟨_, tp, _, _, _, _, rfl, upd_same, pr, .base (.str _), kitLT (t := "str") (r1 := false) (r2 := false) (by decide +kernel) (by decide +kernel), _, rfl, iteF ?_⟩
    refine ⟨_, rfl, rfl, _, rfl, iteF ?_⟩
    refine ⟨_, rfl, _, _, _, _, _, rfl, .ty _, .base (.str _), kit_ty (by decide +kernel : kitB "str" "str" = some true), _, rfl, iteT ?_⟩
    refine ⟨_, rfl, _, rfl, rfl, ?_⟩
    rw [decide_eq_true rfl]
    refine ⟨_, rfl, iteT ?_⟩
    exact ⟨_, rfl, _, _, _, _, _, rfl, .ty _, .base (.str _), kit_ty (by decide +kernel : kitB "str" "str" = some true), _, rfl, _, _, _, _, _, rfl, .ty _, .base (.str _), kit_ty (by decide +kernel : kitB "str" "str" = some true), rfl, q _ s0⟩
  | list ds =>
    cases dx with
    | @lst a xs _ hx ax =>
    cases dy with
    | @lst b ys _ hy ay =>
    obtain ⟨i, rfl⟩ : ∃ i, k = i + 1 := by
      cases k with
      | zero => exact absurd lv id
      | succ i => exact ⟨i, rfl⟩
    have lx := DpAll.len ax
    have ly := DpAll.len ay
    have hx1 := s0.seq hx
    have hy1 := s0.seq hy
    refine ⟨_, tp, _, _, _, _, rfl, upd_same, pr, ty_lst hy1, kitLT (t := "list") (r1 := true) (r2 := false) (by decide +kernel) (by decide +kernel), _, rfl, iteT ?_⟩
    refine ⟨_, rfl, _, _, _, _, _, rfl, .ty _, ty_lst hx1, kit_ty (by decide +kernel : kitB "list" "list" = some true), _, rfl, _, _, _, _, _, rfl, .ty _, ty_lst hy1, kit_ty (by decide +kernel : kitB "list" "list" = some true), rfl, _, rfl, iteF ?_⟩
    refine ⟨_, rfl, _, _, _, _, _, rfl, .ty _, ty_lst hx1, kit_ty (by decide +kernel : kitB "list" "tuple" = some false), _, rfl, _, _, _, _, _, rfl, .ty _, ty_lst hy1, kit_ty (by decide +kernel : kitB "list" "tuple" = some false), rfl, _, rfl, iteF ?_⟩
    refine ⟨_, rfl, a, _, rfl, .inl hx1, _, rfl, b, _, rfl, .inl hy1, rfl, ?_⟩
    rw [decide_eq_true (by rw [lx, ly])]
    refine ⟨_, rfl, iteT ?_⟩
    refine ⟨_, rfl, _, rfl, a, b, xs, ys, rfl, .inl ⟨hx1, hy1, fun D nD => ?_⟩⟩
    have sD := s0.trans (same_upd (o := .lst []) nD)
    refine lc_it (walk_zip (K := K) (a := a) (b := b) (xs := xs) (ys := ys) rfl) (fun i H3 => Same H H3 ∧ H3 D = some (.lst (List.replicate i (.bl true)))) ⟨sD, upd_same⟩ (fun i H3 _ ⟨s3, _⟩ => ⟨s3.seq hx, s3.seq hy⟩) ?_ ?_
    · rintro i v H3 H4 hi ⟨s3, eD⟩ ⟨T, x, y, rfl, nT, rfl, e1, e2⟩
      obtain ⟨d1, g1, p1⟩ := DpAll.get ax e1
      obtain ⟨d2, g2, p2⟩ := DpAll.get ay e2
      obtain rfl : d1 = d2 := Option.some.inj (g1.symm.trans g2)
      have s4 := s3.trans (same_upd (o := .tup [x, y]) nT)
      refine ⟨T, _, rfl, .inl (.inl upd_same), rfl, _, _, rfl, _, _, rfl, rfl, rfl, ?_⟩
      refine yesT ?_
      refine ⟨_, rfl, _, rfl, x, y, d1, _, rfl, rfl, lv.2 d1 (List.mem_of_getElem? g1), Dp.same s4 _ _ p1, Dp.same s4 _ _ p2, fun H5 s5 => ?_⟩
      refine ⟨_, s5 _ _ (by rw [upd_ne (ne_of_none eD nT)]; exact eD), ?_, fun p o e => ?_, ?_⟩
      · rw [List.length_replicate]
        have := lv.1
        refine Nat.lt_of_lt_of_le (show i < 1000000 by omega) (by decide)
      · rw [upd_ne (ne_of_none e (s0.free nD))]
        exact s5 _ _ (s4 _ _ e)
      · rw [upd_same, repl_snoc]
    · rintro H3 ⟨s3, eD⟩
      refine ⟨D, List.replicate (min xs.length ys.length) true, rfl, .inl (.inl (by rw [List.map_replicate]; exact eD)), ?_⟩
      rw [all_repl]
      exact q _ s3
  | tuple ds =>
    cases dx with
    | @tup a xs _ hx ax =>
    cases dy with
    | @tup b ys _ hy ay =>
    obtain ⟨i, rfl⟩ : ∃ i, k = i + 1 := by
      cases k with
      | zero => exact absurd lv id
      | succ i => exact ⟨i, rfl⟩
    have lx := DpAll.len ax
    have ly := DpAll.len ay
    have hx1 := Same.seqT s0 hx
    have hy1 := Same.seqT s0 hy
    refine ⟨_, tp, _, _, _, _, rfl, upd_same, pr, ty_tup hy1, kitLT (t := "tuple") (r1 := false) (r2 := true) (by decide +kernel) (by decide +kernel), _, rfl, iteT ?_⟩
    refine ⟨_, rfl, _, _, _, _, _, rfl, .ty _, ty_tup hx1, kit_ty (by decide +kernel : kitB "tuple" "list" = some false), _, rfl, _, _, _, _, _, rfl, .ty _, ty_tup hy1, kit_ty (by decide +kernel : kitB "tuple" "list" = some false), rfl, _, rfl, iteF ?_⟩
    refine ⟨_, rfl, _, _, _, _, _, rfl, .ty _, ty_tup hx1, kit_ty (by decide +kernel : kitB "tuple" "tuple" = some true), _, rfl, _, _, _, _, _, rfl, .ty _, ty_tup hy1, kit_ty (by decide +kernel : kitB "tuple" "tuple" = some true), rfl, _, rfl, iteF ?_⟩
    refine ⟨_, rfl, a, _, rfl, .inr hx1, _, rfl, b, _, rfl, .inr hy1, rfl, ?_⟩
    rw [decide_eq_true (by rw [lx, ly])]
    refine ⟨_, rfl, iteT ?_⟩
    refine ⟨_, rfl, _, rfl, a, b, xs, ys, rfl, .inr ⟨hx1, hy1, fun D nD => ?_⟩⟩
    have sD := s0.trans (same_upd (o := .lst []) nD)
    refine lc_it (walk_zipT (K := K) (a := a) (b := b) (xs := xs) (ys := ys) rfl) (fun i H3 => Same H H3 ∧ H3 D = some (.lst (List.replicate i (.bl true)))) ⟨sD, upd_same⟩ (fun i H3 _ ⟨s3, _⟩ => ⟨Same.seqT s3 hx, Same.seqT s3 hy⟩) ?_ ?_
    · rintro i v H3 H4 hi ⟨s3, eD⟩ ⟨T, x, y, rfl, nT, rfl, e1, e2⟩
      obtain ⟨d1, g1, p1⟩ := DpAll.get ax e1
      obtain ⟨d2, g2, p2⟩ := DpAll.get ay e2
      obtain rfl : d1 = d2 := Option.some.inj (g1.symm.trans g2)
      have s4 := s3.trans (same_upd (o := .tup [x, y]) nT)
      refine ⟨T, _, rfl, .inl (.inl upd_same), rfl, _, _, rfl, _, _, rfl, rfl, rfl, ?_⟩
      refine yesT ?_
      refine ⟨_, rfl, _, rfl, x, y, d1, _, rfl, rfl, lv.2 d1 (List.mem_of_getElem? g1), Dp.same s4 _ _ p1, Dp.same s4 _ _ p2, fun H5 s5 => ?_⟩
      refine ⟨_, s5 _ _ (by rw [upd_ne (ne_of_none eD nT)]; exact eD), ?_, fun p o e => ?_, ?_⟩
      · rw [List.length_replicate]
        have := lv.1
        refine Nat.lt_of_lt_of_le (show i < 1000000 by omega) (by decide)
      · rw [upd_ne (ne_of_none e (s0.free nD))]
        exact s5 _ _ (s4 _ _ e)
      · rw [upd_same, repl_snoc]
    · rintro H3 ⟨s3, eD⟩
      refine ⟨D, List.replicate (min xs.length ys.length) true, rfl, .inl (.inl (by rw [List.map_replicate]; exact eD)), ?_⟩
      rw [all_repl]
      exact q _ s3
  | dict _ => cases dx
theorem ok_same {f : Addr} {fd : FuncData} (F : Fun K "_law_same" "_law_same" sSame f fd) (bf : Binds K fd ["_law_found", "_law_due"] []) (mf : mg "_law_same" = some (.ref f)) (B : Bl mg) : ∀ k : Nat, FnOk P w K mg base CX0 k f fd ["_law_found", "_law_due"] (spSame K k)
  | 0 => same_none
  | k + 1 => ok_same1 F (ok_same F bf mf B k) bf mf B
end
end GZ
namespace GM
/-! ### digits, their worth, marks, the first mark -/
def wv : List Int → Int
  | [] => 0
  | d :: r => d * 2 ^ r.length + wv r
def isM (p d nx : Int) : Bool := decide (d ≠ 0) && decide (nx ≠ (if p = 0 then -d else d))
def fmS : Int → List Int → Nat
  | _, [] => 0
  | p, d :: r => if isM p d (r.headD 0) then 0 else fmS d r + 1
def Dig (ds : List Int) : Prop := ∀ d ∈ ds, d = 0 ∨ d = 1 ∨ d = -1
theorem pow_pos' (n : Nat) : (0 : Int) < 2 ^ n := Int.pow_pos (by decide)
theorem pow_s (n : Nat) : (2 : Int) ^ (n + 1) = 2 ^ n * 2 := Int.pow_succ 2 n
theorem wv_lt : ∀ ds : List Int, Dig ds → -(2 ^ ds.length) < wv ds ∧ wv ds < 2 ^ ds.length
  | [], _ => by decide
  | d :: r, h => by
    have ih := wv_lt r fun x hx => h x (List.mem_cons_of_mem _ hx)
    have hd := h d List.mem_cons_self
    have hp := pow_s r.length
    show -(2 ^ (r.length + 1)) < d * 2 ^ r.length + wv r ∧ d * 2 ^ r.length + wv r < 2 ^ (r.length + 1)
    rcases hd with z | z | z <;> subst z <;> omega
theorem fmS_le : ∀ (p : Int) (ds : List Int), fmS p ds ≤ ds.length
  | _, [] => Nat.le_refl _
  | p, d :: r => by
    have := fmS_le d r
    unfold fmS
    split <;> simp only [List.length_cons] <;> omega
theorem run_lemma : ∀ (ds : List Int) (s p c : Int), Dig ds → (s = 1 ∨ s = -1) → ((p = 0 ∧ c = s) ∨ (p ≠ 0 ∧ c = -s)) →
    fmS p (c :: ds) ≤ ds.length ∧ (2 : Int) ^ (ds.length - fmS p (c :: ds)) < 2 * (s * (s * 2 ^ ds.length + wv ds)) ∧ s * (s * 2 ^ ds.length + wv ds) < 2 ^ (ds.length - fmS p (c :: ds) + 1)
  | [], s, p, c, _, hs, hc => by
    have e : fmS p [c] = 0 := by
      unfold fmS isM
      rcases hc with ⟨h1, h2⟩ | ⟨h1, h2⟩
      · subst h1 h2
        rcases hs with z | z <;> subst z <;> decide
      · have n1 : ¬ p = 0 := h1
        rw [if_neg n1]
        subst h2
        rcases hs with z | z <;> subst z <;> decide
    rw [e]
    rcases hs with z | z <;> subst z <;> decide
  | d :: r, s, p, c, hd, hs, hc => by
    have hr : Dig r := fun x hx => hd x (List.mem_cons_of_mem _ hx)
    have hd0 := hd d List.mem_cons_self
    have hcv : c ≠ 0 ∧ (if p = 0 then -c else c) = -s := by
      rcases hc with ⟨h1, h2⟩ | ⟨h1, h2⟩
      · rw [if_pos h1]
        omega
      · rw [if_neg h1]
        omega
    have em : fmS p (c :: d :: r) = if d = -s then fmS c (d :: r) + 1 else 0 := by
      show (if isM p c d = true then 0 else fmS c (d :: r) + 1) = _
      unfold isM
      rw [hcv.2]
      by_cases e : d = -s
      · rw [if_pos e, decide_eq_false (show ¬ d ≠ -s from fun z => z e), Bool.and_false, if_neg Bool.false_ne_true]
      · rw [if_neg e, decide_eq_true (show d ≠ -s from e), decide_eq_true hcv.1]
        rfl
    have hlen : (d :: r).length = r.length + 1 := rfl
    have hw : wv (d :: r) = d * 2 ^ r.length + wv r := rfl
    have hp := pow_s r.length
    by_cases e : d = -s
    · rw [em, if_pos e]
      obtain ⟨i1, i2, i3⟩ := run_lemma r s c d hr hs (.inr ⟨hcv.1, e⟩)
      have ev : s * (s * 2 ^ (d :: r).length + wv (d :: r)) = s * (s * 2 ^ r.length + wv r) := by
        rw [hlen, hw, e, hp]
        rcases hs with z | z <;> subst z <;> omega
      rw [ev, hlen]
      refine ⟨by omega, ?_, ?_⟩
      · rw [show r.length + 1 - (fmS c (d :: r) + 1) = r.length - fmS c (d :: r) by omega]
        exact i2
      · rw [show r.length + 1 - (fmS c (d :: r) + 1) = r.length - fmS c (d :: r) by omega]
        exact i3
    · rw [em, if_neg e, hlen, hw, Nat.sub_zero]
      have hb := wv_lt r hr
      have hpp := pow_pos' r.length
      have hp2 := pow_s (r.length + 1)
      refine ⟨Nat.zero_le _, ?_, ?_⟩
      · rcases hs with z | z <;> subst z <;> rcases hd0 with y | y | y <;> subst y <;> omega
      · rcases hs with z | z <;> subst z <;> rcases hd0 with y | y | y <;> subst y <;> omega
/-- the guess: all digits 0, or the worth's size between two powers -/
theorem guess_lemma : ∀ ds : List Int, Dig ds → (fmS 0 ds = ds.length ∧ wv ds = 0) ∨
    (fmS 0 ds < ds.length ∧ (2 : Int) ^ (ds.length - 1 - fmS 0 ds) < 2 * (wv ds).natAbs ∧ ((wv ds).natAbs : Int) < 2 ^ (ds.length - fmS 0 ds))
  | [], _ => .inl ⟨rfl, rfl⟩
  | d :: r, h => by
    have hr : Dig r := fun x hx => h x (List.mem_cons_of_mem _ hx)
    have hd0 := h d List.mem_cons_self
    have hlen : (d :: r).length = r.length + 1 := rfl
    by_cases e : d = 0
    · have ef : fmS 0 (d :: r) = fmS 0 r + 1 := by
        subst e
        rfl
      have ew : wv (d :: r) = wv r := by
        subst e
        show 0 * 2 ^ r.length + wv r = wv r
        omega
      rw [ef, ew, hlen]
      rcases guess_lemma r hr with ⟨i1, i2⟩ | ⟨i1, i2, i3⟩
      · exact .inl ⟨by omega, i2⟩
      · refine .inr ⟨by omega, ?_, ?_⟩
        · rw [show r.length + 1 - 1 - (fmS 0 r + 1) = r.length - 1 - fmS 0 r by omega]
          exact i2
        · rw [show r.length + 1 - (fmS 0 r + 1) = r.length - fmS 0 r by omega]
          exact i3
    · have hs : d = 1 ∨ d = -1 := by omega
      obtain ⟨i1, i2, i3⟩ := run_lemma r d 0 d hr hs (.inl ⟨rfl, rfl⟩)
      have hb := wv_lt r hr
      have hpp := pow_pos' r.length
      have ea : d * (d * 2 ^ r.length + wv r) = ((wv (d :: r)).natAbs : Int) := by
        show d * (d * 2 ^ r.length + wv r) = ((d * 2 ^ r.length + wv r).natAbs : Int)
        rcases hs with z | z <;> subst z <;> omega
      rw [ea] at i2 i3
      refine .inr ⟨by omega, ?_, ?_⟩
      · rw [hlen, show r.length + 1 - 1 - fmS 0 (d :: r) = r.length - fmS 0 (d :: r) by omega]
        exact i2
      · rw [hlen, show r.length + 1 - fmS 0 (d :: r) = r.length - fmS 0 (d :: r) + 1 by omega]
        exact i3
/-! ### bits -/
def bit (a : Int) (n : Nat) : Int := a / 2 ^ n % 2
def dgr (a b : Int) : Nat → List Int
  | 0 => []
  | n + 1 => (bit a n - bit b n) :: dgr a b n
theorem dgr_len (a b : Int) : ∀ n, (dgr a b n).length = n
  | 0 => rfl
  | n + 1 => by
    show (dgr a b n).length + 1 = n + 1
    rw [dgr_len a b n]
theorem dgr_get (a b : Int) : ∀ (n i : Nat), i < n → (dgr a b n)[i]? = some (bit a (n - 1 - i) - bit b (n - 1 - i))
  | 0, i, h => absurd h (Nat.not_lt_zero i)
  | n + 1, 0, _ => rfl
  | n + 1, i + 1, h => by
    show (dgr a b n)[i]? = _
    rw [dgr_get a b n i (by omega), show n + 1 - 1 - (i + 1) = n - 1 - i by omega]
theorem bit_01 (a : Int) (n : Nat) : bit a n = 0 ∨ bit a n = 1 := by
  unfold bit
  omega
theorem dgr_dig (a b : Int) : ∀ n, Dig (dgr a b n)
  | 0 => fun _ h => nomatch h
  | n + 1 => fun d hd => by
    rcases List.mem_cons.mp hd with e | e
    · have h1 := bit_01 a n
      have h2 := bit_01 b n
      omega
    · exact dgr_dig a b n d e
theorem mod_step (a : Int) (n : Nat) : bit a n * 2 ^ n + a % 2 ^ n = a % 2 ^ (n + 1) := by
  unfold bit
  have hp := pow_pos' n
  have e1 := Int.emod_add_mul_ediv a (2 ^ n)
  have e2 := Int.emod_add_mul_ediv (a / 2 ^ n) 2
  have h1 := Int.emod_nonneg a (show (2 : Int) ^ n ≠ 0 by omega)
  have h2 := Int.emod_lt_of_pos a hp
  have h3 := Int.emod_nonneg (a / 2 ^ n) (show (2 : Int) ≠ 0 by decide)
  have h4 := Int.emod_lt_of_pos (a / 2 ^ n) (show (0 : Int) < 2 by decide)
  have e3 : 2 ^ n * (a / 2 ^ n) = a / 2 ^ n % 2 * 2 ^ n + a / 2 ^ n / 2 * (2 ^ n * 2) := by
    conv => lhs; rw [← e2]
    rw [Int.mul_add, Int.mul_comm (2 ^ n) (a / 2 ^ n % 2), ← Int.mul_assoc, Int.mul_comm (2 ^ n * 2) _]
  have key : (a / 2 ^ n % 2 * 2 ^ n + a % 2 ^ n) + a / 2 ^ n / 2 * 2 ^ (n + 1) = a := by
    rw [pow_s]
    omega
  have hb : 0 ≤ a / 2 ^ n % 2 * 2 ^ n + a % 2 ^ n ∧ a / 2 ^ n % 2 * 2 ^ n + a % 2 ^ n < 2 ^ (n + 1) := by
    rw [pow_s]
    have : a / 2 ^ n % 2 = 0 ∨ a / 2 ^ n % 2 = 1 := by omega
    rcases this with z | z <;> rw [z] <;> omega
  have em := Int.add_mul_emod_self_right (a / 2 ^ n % 2 * 2 ^ n + a % 2 ^ n) (a / 2 ^ n / 2) (2 ^ (n + 1))
  rw [key, Int.emod_eq_of_lt hb.1 hb.2] at em
  exact em.symm
theorem wv_dgr (a b : Int) : ∀ n, wv (dgr a b n) = a % 2 ^ n - b % 2 ^ n
  | 0 => by
    show (0 : Int) = a % 1 - b % 1
    omega
  | n + 1 => by
    show (bit a n - bit b n) * 2 ^ (dgr a b n).length + wv (dgr a b n) = _
    rw [dgr_len, wv_dgr a b n, ← mod_step a n, ← mod_step b n, Int.sub_mul]
    omega
theorem wv_dgr_lt {a b : Int} {n : Nat} (ha : 0 ≤ a) (ha2 : a < 2 ^ n) (hb : 0 ≤ b) (hb2 : b < 2 ^ n) : wv (dgr a b n) = a - b := by
  rw [wv_dgr, Int.emod_eq_of_lt ha ha2, Int.emod_eq_of_lt hb hb2]
theorem bit_high {a : Int} {n : Nat} (ha : 0 ≤ a) (ha2 : a < 2 ^ n) : bit a n = 0 := by
  unfold bit
  rw [Int.ediv_eq_zero_of_lt ha ha2]
  rfl
theorem pow_le' {m n : Nat} (h : m ≤ n) : (2 : Int) ^ m ≤ 2 ^ n := by
  induction n with
  | zero =>
    have : m = 0 := by omega
    rw [this]
    exact Int.le_refl _
  | succ n ih =>
    by_cases e : m = n + 1
    · rw [e]
      exact Int.le_refl _
    · have := ih (by omega)
      have := pow_s n
      have := pow_pos' n
      omega
theorem fm_ahead {a b : Int} {n : Nat} (ha : 0 ≤ a) (ha2 : a < 2 ^ n) (hb : 0 ≤ b) (hb2 : b < 2 ^ n) : ∀ k : Nat, fmS 0 (dgr a b (n + k)) = fmS 0 (dgr a b n) + k
  | 0 => rfl
  | k + 1 => by
    have h1 : (2 : Int) ^ n ≤ 2 ^ (n + k) := pow_le' (by omega)
    have e1 := bit_high (a := a) (n := n + k) ha (by omega)
    have e2 := bit_high (a := b) (n := n + k) hb (by omega)
    show fmS 0 ((bit a (n + k) - bit b (n + k)) :: dgr a b (n + k)) = _
    rw [e1, e2]
    show fmS 0 (dgr a b (n + k)) + 1 = _
    rw [fm_ahead ha ha2 hb hb2 k]
    omega
/-! ### how many bits -/
theorem bits_pow {x : Nat} {e : Nat} (h : x < 2 ^ e) : PySem.Builtin.Int.intBits (x : Int) ≤ e := PyProof.Rows.intBits_le (by rw [Int.natAbs_natCast]; exact h)
theorem bits_le_pow {x : Nat} {e : Nat} (h : 2 ^ e ≤ x) : e + 1 ≤ PySem.Builtin.Int.intBits (x : Int) := by
  have hx : x ≠ 0 := by
    have := Nat.two_pow_pos e
    omega
  unfold PySem.Builtin.Int.intBits
  rw [if_neg (by simpa using hx), Int.natAbs_natCast]
  have := (Nat.le_log2 hx).mpr h
  omega
theorem bits_zero : PySem.Builtin.Int.intBits 0 = 0 := rfl
/-- (b): a guess is how many zeros there are, or one less -/
theorem guess_zeros {ds : List Int} (h : Dig ds) : ∃ m : Nat, m ≤ 1 ∧ fmS 0 ds + m + PySem.Builtin.Int.intBits ((wv ds).natAbs : Int) = ds.length ∧ (fmS 0 ds = ds.length ↔ wv ds = 0) := by
  rcases guess_lemma ds h with ⟨h1, h2⟩ | ⟨h1, h2, h3⟩
  · refine ⟨0, by omega, ?_, fun _ => h2, fun _ => h1⟩
    rw [h1, h2]
    show ds.length + 0 + 0 = ds.length
    rfl
  · have n0 : wv ds ≠ 0 := fun z => by
      rw [z] at h2
      have := pow_pos' (ds.length - 1 - fmS 0 ds)
      simp at h2
      omega
    have hb : PySem.Builtin.Int.intBits ((wv ds).natAbs : Int) ≤ ds.length - fmS 0 ds := bits_pow (by
      have e : ((2 ^ (ds.length - fmS 0 ds) : Nat) : Int) = (2 : Int) ^ (ds.length - fmS 0 ds) := PySem.W.kbt_cast _
      omega)
    have hl : ds.length - fmS 0 ds - 1 ≤ PySem.Builtin.Int.intBits ((wv ds).natAbs : Int) := by
      by_cases z : ds.length - 1 - fmS 0 ds = 0
      · omega
      · obtain ⟨e, he⟩ : ∃ e, ds.length - 1 - fmS 0 ds = e + 1 := ⟨ds.length - 1 - fmS 0 ds - 1, by omega⟩
        rw [he, pow_s] at h2
        have e2 : ((2 ^ e : Nat) : Int) = (2 : Int) ^ e := PySem.W.kbt_cast _
        have := bits_le_pow (x := (wv ds).natAbs) (e := e) (by omega)
        omega
    refine ⟨ds.length - fmS 0 ds - PySem.Builtin.Int.intBits ((wv ds).natAbs : Int), by omega, by omega, fun z => by omega, fun z => absurd z n0⟩
end GM
namespace GM
/-! ### the law's own zeros; numbers without a second one -/
theorem zeros_exit {S f n : Nat} (h1 : S * 2 ^ f < 2 ^ n) (hf : f ≤ n) (h2 : f = n ∨ 2 ^ n ≤ S * 2 ^ (f + 1)) : f + PySem.Builtin.Int.intBits (S : Int) = n := by
  have hS : S < 2 ^ (n - f) := by
    have e : 2 ^ n = 2 ^ (n - f) * 2 ^ f := by rw [← Nat.pow_add]; congr 1; omega
    rw [e] at h1
    exact Nat.lt_of_mul_lt_mul_right h1
  have hb := bits_pow hS
  rcases h2 with z | z
  · subst z
    rw [Nat.sub_self] at hb
    omega
  · by_cases e : f = n
    · subst e
      rw [Nat.sub_self] at hS
      have : S = 0 := by simpa using hS
      rw [this, Nat.zero_mul] at z
      have := Nat.two_pow_pos f
      omega
    · have e2 : 2 ^ n = 2 ^ (n - f - 1) * 2 ^ (f + 1) := by rw [← Nat.pow_add]; congr 1; omega
      rw [e2] at z
      have := Nat.le_of_mul_le_mul_right z (Nat.two_pow_pos _)
      have := bits_le_pow this
      omega
def blr (a : Int) : Nat → List Int
  | 0 => []
  | n + 1 => bit a n :: blr a n
theorem blr_len (a : Int) : ∀ n, (blr a n).length = n
  | 0 => rfl
  | n + 1 => by
    show (blr a n).length + 1 = n + 1
    rw [blr_len a n]
theorem blr_get (a : Int) : ∀ (n i : Nat), i < n → (blr a n)[i]? = some (bit a (n - 1 - i))
  | 0, i, h => absurd h (Nat.not_lt_zero i)
  | n + 1, 0, _ => rfl
  | n + 1, i + 1, h => by
    show (blr a n)[i]? = _
    rw [blr_get a n i (by omega), show n + 1 - 1 - (i + 1) = n - 1 - i by omega]
theorem bit_nought (n : Nat) : bit 0 n = 0 := by
  unfold bit
  rw [Int.zero_ediv]
  rfl
theorem dgr_nought (a : Int) : ∀ n, ∀ d ∈ dgr a 0 n, d = 0 ∨ d = 1
  | 0 => fun _ h => nomatch h
  | n + 1 => fun d hd => by
    rcases List.mem_cons.mp hd with e | e
    · have h1 := bit_01 a n
      have h2 := bit_nought n
      omega
    · exact dgr_nought a n d e
theorem plain_guess : ∀ ds : List Int, (∀ d ∈ ds, d = 0 ∨ d = 1) → 0 ≤ wv ds ∧ fmS 0 ds + PySem.Builtin.Int.intBits (wv ds) = ds.length
  | [], _ => ⟨by decide, rfl⟩
  | d :: r, h => by
    have hr := plain_guess r fun x hx => h x (List.mem_cons_of_mem _ hx)
    have hd := h d List.mem_cons_self
    have hD : Dig (d :: r) := fun x hx => by
      have := h x hx
      omega
    rcases hd with z | z
    · subst z
      have ew : wv (0 :: r) = wv r := by
        show 0 * 2 ^ r.length + wv r = wv r
        omega
      rw [ew]
      refine ⟨hr.1, ?_⟩
      show fmS 0 r + 1 + _ = r.length + 1
      omega
    · subst z
      have hb := wv_lt _ hD
      have hp := pow_pos' r.length
      have ew : wv (1 :: r) = 2 ^ r.length + wv r := by
        show 1 * 2 ^ r.length + wv r = _
        omega
      have em : fmS 0 (1 :: r) = 0 := by
        show (if isM 0 1 (r.headD 0) = true then 0 else fmS 1 r + 1) = 0
        have hh : r.headD 0 = 0 ∨ r.headD 0 = 1 := by
          cases r with
          | nil => exact .inl rfl
          | cons x t => exact h x (List.mem_cons_of_mem _ List.mem_cons_self)
        rcases hh with z | z <;> rw [z] <;> rfl
      rw [em]
      refine ⟨by omega, ?_⟩
      obtain ⟨x, hx⟩ := Int.eq_ofNat_of_zero_le (show 0 ≤ wv (1 :: r) by omega)
      have c1 : ((2 ^ r.length : Nat) : Int) = (2 : Int) ^ r.length := PySem.W.kbt_cast _
      have c2 : ((2 ^ (r.length + 1) : Nat) : Int) = (2 : Int) ^ (r.length + 1) := PySem.W.kbt_cast _
      have hl : (1 :: r).length = r.length + 1 := rfl
      rw [hl] at hb ⊢
      rw [hx]
      have l1 := bits_pow (x := x) (e := r.length + 1) (by omega)
      have l2 := bits_le_pow (x := x) (e := r.length) (by omega)
      omega
/-- a number less 0: the guess is how many zeros there are -/
theorem guess_nought {a : Int} {n : Nat} (ha : 0 ≤ a) (ha2 : a < 2 ^ n) : fmS 0 (dgr a 0 n) + PySem.Builtin.Int.intBits a = n := by
  have h := plain_guess (dgr a 0 n) (dgr_nought a n)
  have hp := pow_pos' n
  have e : wv (dgr a 0 n) = a := by
    rw [wv_dgr_lt ha ha2 (by decide) hp]
    omega
  rw [e, dgr_len] at h
  exact h.2
end GM
namespace GM
/-! ### worths, one digit after the other and by places -/
theorem fold_wv : ∀ (ds : List Int) (w : Int), ds.foldl (fun w d => 2 * w + d) w = w * 2 ^ ds.length + wv ds
  | [], w => by
    show w = w * 2 ^ 0 + 0
    rw [Int.pow_zero]
    omega
  | d :: r, w => by
    show r.foldl (fun w d => 2 * w + d) (2 * w + d) = w * 2 ^ (r.length + 1) + (d * 2 ^ r.length + wv r)
    rw [fold_wv r, pow_s, Int.add_mul, Int.mul_comm 2 w, Int.mul_assoc, Int.mul_comm 2 (2 ^ r.length)]
    omega
def places : List Int → List Int
  | [] => []
  | d :: r => d * 2 ^ r.length :: places r
theorem places_sum : ∀ ds : List Int, (places ds).sum = wv ds
  | [] => rfl
  | d :: r => by
    show (d * 2 ^ r.length :: places r).sum = d * 2 ^ r.length + wv r
    rw [List.sum_cons, places_sum r]
theorem places_len : ∀ ds : List Int, (places ds).length = ds.length
  | [] => rfl
  | d :: r => by
    show (places r).length + 1 = r.length + 1
    rw [places_len r]
theorem places_get : ∀ (ds : List Int) (i : Nat) (d : Int), ds[i]? = some d → (places ds)[i]? = some (d * 2 ^ (ds.length - 1 - i))
  | [], i, d, h => by cases h
  | x :: r, 0, d, h => by
    cases h
    rfl
  | x :: r, i + 1, d, h => by
    show (places r)[i]? = _
    rw [places_get r i d h, show (x :: r).length - 1 - (i + 1) = r.length - 1 - i by rw [List.length_cons]; omega]
end GM
namespace GZ
open PySem PySem.Spec PyProof.Rows L2
theorem gset_if2 {i : Nat} {v : V} {σ : L2.St} {H : Hp} {c : TT} {t u r : TS} {D : Ends} (h : tIfS c t u { D with nx := r D } (σ.set i (some v)) H) : gName i v σ H ({ D with nx := tSeq (tIfS c t u) r D } : Ends).nx := h
theorem gset_if {σ : L2.St} {H : Hp} {c : TT} {t u r : TS} {D : Ends} (h : tIfS c t u { D with nx := r D } σ H) : tSeq (tIfS c t u) r D σ H := h
theorem ifS_cut {c : TT} {t u : TS} {D : Ends} {σ : L2.St} {H : Hp} (R : L2.St → Hp → Prop) (h : ∀ D' : Ends, (∀ σ' H', R σ' H' → D'.nx σ' H') → tIfS c t u D' σ H) (q : ∀ σ' H', R σ' H' → D.nx σ' H') : tIfS c t u D σ H := h D q
theorem ifS_ev {c : TT} {t u : TS} {D : Ends} {σ : L2.St} {H : Hp} (R : Bool → Hp → Prop) (h : ∀ Q : Bool → Hp → Prop, (∀ z H', R z H' → Q z H') → c σ H Q) (q1 : ∀ H', R true H' → t D σ H') (q2 : ∀ H', R false H' → u D σ H') : tIfS c t u D σ H := h _ fun z H' r => by
  cases z with
  | true => exact q1 H' r
  | false => exact q2 H' r
theorem if_ev {t : TT} {ta tb : TE} {σ : L2.St} {H : Hp} {Q : VK} (R : V → Hp → Prop) (h : ∀ Q : VK, (∀ z H', R z H' → Q z H') → tIf t ta tb σ H Q) (q : ∀ z H', R z H' → Q z H') : tIf t ta tb σ H Q := h Q q
theorem and_ev {ta tb : TE} {σ : L2.St} {H : Hp} {Q : VK} (R : V → Hp → Prop) (h : ∀ Q : VK, (∀ z H', R z H' → Q z H') → tAndV ta tb σ H Q) (q : ∀ z H', R z H' → Q z H') : tAndV ta tb σ H Q := h Q q
theorem or_ev {ta tb : TE} {σ : L2.St} {H : Hp} {Q : VK} (R : V → Hp → Prop) (h : ∀ Q : VK, (∀ z H', R z H' → Q z H') → tOrV ta tb σ H Q) (q : ∀ z H', R z H' → Q z H') : tOrV ta tb σ H Q := h Q q
theorem ifset_ev {c : TT} {e : TE} {k : Nat} {D : Ends} {σ : L2.St} {H : Hp} {old : V} (hσ : σ.set k (some old) = σ) (R : V → Hp → Prop) (h : ∀ Q : VK, (∀ z H', R z H' → Q z H') → c σ H (fun b H1 => if b = true then e σ H1 Q else Q old H1)) (q : ∀ z H', R z H' → D.nx (σ.set k (some z)) H') : tIfS c (tAsg e (gName k)) tNext D σ H := by
  have t := h (fun z H' => D.nx (σ.set k (some z)) H') q
  rw [hσ] at t
  exact t
theorem two_cut {t : TE} {g : TG} {c : TT} {a b r : TS} {D : Ends} {σ : L2.St} {H : Hp} (R : L2.St → Hp → Prop) (h : ∀ D' : Ends, (∀ σ' H', R σ' H' → D'.nx σ' H') → tSeq (tAsg t g) (tIfS c a b) D' σ H) (q : ∀ σ' H', R σ' H' → r D σ' H') : tSeq (tAsg t g) (tSeq (tIfS c a b) r) D σ H := h { D with nx := r D } q
theorem org80 {ta tb : TE} {σ : L2.St} {H : Hp} {Q : VK} {c d : Bool} (ha : ∀ Q : VK, Q (.bl c) H → ta σ H Q) (hb : ∀ Q : VK, Q (.bl d) H → tb σ H Q) (h : Q (.bl (c || d)) H) : tOrV ta tb σ H Q := by
  refine ha _ ⟨c, rfl, ?_⟩
  cases c
  · exact hb _ h
  · exact h
theorem gnext_if18 {σ : L2.St} {H : Hp} {c : TT} {t u : TS} {r : TS} {D : Ends} (h : tIfS c t u { D with nx := r D } σ H) : tNext ({ D with nx := tSeq (tIfS c t u) r D } : Ends) σ H := h
theorem ret_if18 {c : TT} {ta tb : TE} {D : Ends} {σ : L2.St} {H : Hp} (R : Bool → Hp → Prop) (h : ∀ Q : Bool → Hp → Prop, (∀ z H', R z H' → Q z H') → c σ H Q) (q1 : ∀ H', R true H' → ta σ H' D.rt) (q2 : ∀ H', R false H' → tb σ H' D.rt) : tRet (tIf c ta tb) D σ H := h _ fun z H' r => by
  cases z with
  | true => exact q1 H' r
  | false => exact q2 H' r
theorem gset_if3 {i : Nat} {v : V} {σ : L2.St} {H : Hp} {c : TT} {t u r : TS} {D : Ends} (h : tIfS c t u { D with nx := r D } (σ.set i (some v)) H) : gName i v σ H (tSeq (tIfS c t u) r D) := h
/-! ### zip of a text and a list or a tuple: new pairs of a sign and an item -/
def Itzl (t : Bool) (K : PySem.W.Frag) (x : Str) (a : Addr) : It :=
  ⟨fun i H => ∃ (ys : List V) (y : V), (bif t then SqT K H a ys else SqL K H a ys) ∧ i < x.cps.size ∧ ys[i]? = some y,
   fun i H v H' => ∃ T c y, v = .ref T ∧ H T = none ∧ H' = upd H T (.tup [.str ⟨#[c]⟩, y]) ∧ x.cps[i]? = some c ∧ ∀ ys, (bif t then SqT K H a ys else SqL K H a ys) → ys[i]? = some y,
   fun i H => ∃ ys : List V, (bif t then SqT K H a ys else SqL K H a ys) ∧ i = min x.cps.size ys.length⟩
def SqIt (t : Bool) (h : Heap) (i2 a : Addr) (i : Nat) : Prop := bif t then h.IsTupleIter i2 a i else h.IsListIter i2 a i
def SqIs (t : Bool) (h : Heap) (a : Addr) (its : Array Value) : Prop := bif t then h.IsTuple a its else h.IsList a its
theorem SqIt.ex {t : Bool} {h : Heap} {i2 a : Addr} {i : Nat} (s : SqIt t h i2 a i) : ∃ o, h.get? i2 = some o ∧ ∀ f, o.data ≠ .cell f := by
  cases t <;> obtain ⟨o, e, _, d⟩ := s <;> exact ⟨o, e, fun f q => by rw [d] at q; cases q⟩
def StZl (t : Bool) (x : Str) (tx : Tok) (a z TI TO i1 i2 : Addr) (i : Nat) (h : Heap) : Prop :=
  IsZip h z TI TO .none ∧ IsTupOf2 h TI (.ref i1) (.ref i2) ∧ (∃ u v, IsTupOf2 h TO u v) ∧ h.IsStrIter i1 (strIterType x) x tx i ∧ SqIt t h i2 a i
theorem draws_sq {prog : Program} {w : World} {A : Around} (t : Bool) (hh : A.handled = none) (it l : Addr) (hne : l ≠ it) (items : Array Value) :
    Draws prog w A it [it, l] items.size (fun i v => items[i]? = some v) (fun i h => SqIt t h it l i ∧ SqIs t h l items) := by
  cases t
  · exact Draws.list hh it l hne items
  · exact Draws.tuple hh it l hne items
theorem sq_val {X : Cx} {t : Bool} {pins : List (Addr × Obj)} {σ : L2.St} {H : Hp} {s : Shared} {a : Addr} {ys : List V} (I : Inv X pins σ H s) (h : bif t then SqT X.K H a ys else SqL X.K H a ys) : ∃ its : List Value, Vals ys its ∧ SqIs t s.heap a its.toArray := by
  cases t
  · obtain ⟨its, rv, p, _⟩ := I.list h
    exact ⟨its, rv, p.isList⟩
  · obtain ⟨its, rv, p, _⟩ := I.tuple h
    exact ⟨its, rv, p⟩
theorem sq_inj {X : Cx} {t : Bool} {pins : List (Addr × Obj)} {σ : L2.St} {H : Hp} {s : Shared} {a : Addr} {ys zs : List V} (I : Inv X pins σ H s) (h : bif t then SqT X.K H a ys else SqL X.K H a ys) (h2 : bif t then SqT X.K H a zs else SqL X.K H a zs) : ys = zs := by
  cases t
  · exact I.list_inj h h2
  · exact I.tuple_inj h h2
theorem turn_zl {P : Program} {w : World} {K : PySem.W.Frag} {elts : List Expr} {kk : Nat} {tpos : Pos} {t : Bool} {x : Str} {tx : Tok} {a z TI TO i1 i2 : Addr} (S : ZipSep2 z TI TO i1 i2 [i1] [i2, a]) (na : a ≠ i2) :
    Turn P w K (.Tuple elts kk tpos) (Itzl t K x a) [z, TI, TO, i1, i2] z (StZl t x tx a z TI TO i1 i2) where
  mem := List.mem_cons_self
  obj := by
    rintro i h ⟨a1, a2, ⟨u, v, a3⟩, ⟨o1, e1, _, d1⟩, s2⟩ c hm
    simp only [List.mem_cons, List.not_mem_nil, or_false] at hm
    rcases hm with e | e | e | e | e <;> subst e
    · exact ⟨_, a1, (fun _ q => nomatch q)⟩
    · exact ⟨_, a2, (fun _ q => nomatch q)⟩
    · exact ⟨_, a3, (fun _ q => nomatch q)⟩
    · exact ⟨o1, e1, (fun _ q => by rw [d1] at q; cases q)⟩
    · obtain ⟨o2, e2, n2⟩ := s2.ex
      exact ⟨o2, e2, n2⟩
  keep := by
    rintro i h h' ⟨a1, a2, ⟨u, v, a3⟩, s1, s2⟩ k
    obtain ⟨o1, e1, r1⟩ := s1
    refine ⟨k z (by simp) _ a1, k TI (by simp) _ a2, ⟨u, v, k TO (by simp) _ a3⟩, ⟨o1, k i1 (by simp) _ e1, r1⟩, ?_⟩
    cases t <;> exact s2.at fun o q => k i2 (by simp) o q
  item := by
    intro X hP hw hK hc i pins s σ H E I hf st hg
    subst hP hw hK
    obtain ⟨ys, y, hq, hi, hy⟩ := hg
    obtain ⟨its, rv, p⟩ := sq_val I hq
    obtain ⟨u, hu, ru⟩ := rv.get hy
    have W := WalksT.zipD2 (prog := X.prog) (w := X.w) (A := X.A) S (Draws.text (A := X.A.in1) (I.ok.hd hc) i1 x tx) (draws_sq (A := X.A.in1) t (I.ok.hd hc) i2 a na its.toArray)
    have hin : ∀ b ∈ [z, TO, i1, i2], b ∈ [z, TI, TO, i1, i2] := fun b hb => by
      simp only [List.mem_cons, List.not_mem_nil, or_false] at hb ⊢
      rcases hb with q | q | q | q <;> simp [q]
    obtain ⟨a1, a2, a3, s1, s2⟩ := id st
    have lt : i < its.length := by
      rw [← rv.length]
      obtain ⟨w, _⟩ := List.getElem?_eq_some_iff.mp hy
      exact w
    refine W.item i s _ E (by simp only [List.size_toArray]; omega) ⟨a1, a2, a3, s1, s2, p⟩ fun T vals h1 tk pt hT isT mid k1 => ?_
    obtain ⟨u1, u2, ⟨c, t1, hc1, rfl⟩, h2, rfl⟩ := pt
    rw [List.getElem?_toArray, hu] at h2
    cases h2
    refine ⟨.ref T, rfl, W.go elts kk tpos i T { s with heap := h1, toks := tk } _ E mid fun h2 st2 k2 => ?_⟩
    have nT : T ∉ [z, TO, i1, i2] := W.apart i T h1 mid
    have isT2 : h2.IsTuple T #[.str ⟨#[c]⟩ t1, u] := isT.at fun o e => k2 T o nT e
    have new : ObjOk X.prog X.w (upd H T (.tup [.str ⟨#[c]⟩, y])) h2 T (.tup [.str ⟨#[c]⟩, y]) :=
      ⟨by show 2 ≤ sizeLine; decide, [.str ⟨#[c]⟩ t1, u], .cons ⟨t1, rfl⟩ (.cons ru .nil), isT2⟩
    have I2 : Inv X pins σ (upd H T (.tup [.str ⟨#[c]⟩, y])) { s with heap := h2, toks := tk } :=
      I.turnedNew (t' := tk) (ch := [z, TI, TO, i1, i2]) (fun b o nb e => k2 b o (fun q => nb (hin b q)) (k1 b o (fun q => nb (hin b q)) e)) hf hT new
    obtain ⟨b1, b2, b3, b4, b5, _⟩ := st2
    refine ⟨.ref T, _, I2, rfl, ⟨T, c, y, rfl, I.hok.fresh hT, rfl, hc1, fun zs hz => ?_⟩, ⟨b1, b2, b3, b4, b5⟩, fun b hb => ?_⟩
    · rw [sq_inj I hz hq]
      exact hy
    have nb : b ≠ T := by
      obtain ⟨a1, a2, ⟨u, v, a3⟩, ⟨o1, e1, _⟩, s2⟩ := st
      obtain ⟨o2, e2, _⟩ := s2.ex
      have lt : b < s.heap.objs.size := by
        simp only [List.mem_cons, List.not_mem_nil, or_false] at hb
        rcases hb with q | q | q | q | q <;> subst q
        · exact Heap.lt_size a1
        · exact Heap.lt_size a2
        · exact Heap.lt_size a3
        · exact Heap.lt_size e1
        · exact Heap.lt_size e2
      exact Nat.ne_of_lt (Nat.lt_of_lt_of_le lt hT)
    rw [upd_ne nb]
    exact (hf b hb).1
  done := by
    intro X hP hw hK hc i pins s σ H E I hf st hg
    subst hP hw hK
    obtain ⟨ys, hq, hi⟩ := hg
    obtain ⟨its, rv, p⟩ := sq_val I hq
    have W := WalksT.zipD2 (prog := X.prog) (w := X.w) (A := X.A) S (Draws.text (A := X.A.in1) (I.ok.hd hc) i1 x tx) (draws_sq (A := X.A.in1) t (I.ok.hd hc) i2 a na its.toArray)
    have hn : i = min x.cps.size its.toArray.size := by
      have e1 := rv.length
      have e2 : its.toArray.size = its.length := List.size_toArray
      omega
    subst hn
    obtain ⟨a1, a2, a3, s1, s2⟩ := id st
    refine W.done s _ E ⟨a1, a2, a3, s1, s2, p⟩ fun h1 tk k1 => ⟨rfl, I.turnedL (t' := tk) (ch := [z, TI, TO, i1, i2]) (fun b o nb e => k1 b o (fun q => nb ?_) e) hf⟩
    simp only [List.mem_cons, List.not_mem_nil, or_false] at q ⊢
    rcases q with q | q | q | q <;> simp [q]
  self := fun A i s Q E st h => wpAny_pyIter_zip st.1 h
def iZl (K : PySem.W.Frag) (ta : TA) : TI := fun σ H R => ta σ H fun vs H1 => ∃ (t : Bool) (x : Str) (a : Addr) (ys : List V), vs = [.str x, .ref a] ∧ (bif t then SqT K H1 a ys else SqL K H1 a ys) ∧ R (Itzl t K x a) H1
theorem begins_sq (t : Bool) (l : Addr) (items : Array Value) : Begins (.ref l) { cls := .type (bif t then "tuple_iterator" else "list_iterator"), data := .fields #[.ref l, .int 0 0] } fun h => SqIs t h l items := by
  cases t
  · exact begins_list l items
  · exact begins_tuple l items
theorem pi_zl {X : Cx} {e e2 : Expr} {ta : TA} {p pos tpos : Pos} {elts : List Expr} {kk : Nat} (hg : Gl X "zip") (hm : X.mg "zip" = none) (ha : PA X [e, e2] ta)
    (hs : starEach [e, e2] X.env = (false, eval e X.env) :: starEach [e2] X.env := by rfl) (hp : (backTo pos (starEach [e2] X.env)).any (·.1) = false := by rfl) :
    PI X (.Tuple elts kk tpos) (.Call (.Name "zip" p) [e, e2] [] pos) (iZl X.K ta) := by
  constructor
  intro pins s σ H R I h
  refine Call_ (ld_blt I hg hm PyProof.Rows.boot_zip (PyProof.Rows.callWith_type1 (thn (ha.run pos pins s σ H _ I h) fun us s1 hh => ?_) hs hp))
  obtain ⟨vs, H1, I1, r1, t, x, a, ys, rfl, hq, q⟩ := hh
  match us, r1 with
  | [v1, v2], .cons ⟨tx, hx⟩ (.cons hy .nil) =>
    subst hx
    cases hy
    obtain ⟨its, rv, pl⟩ := sq_val I1 hq
    have la : a < s1.heap.objs.size := by
      cases t <;> obtain ⟨o, e, _⟩ := pl <;> exact Heap.lt_size e
    refine zip_begins2 (begins_text x tx) (begins_sq t a its.toArray) trivial pl fun h' a1 a2 a3 g1 g2 _ k => wpAny_pyIter_zip a1 ?_
    have I2 : Inv X pins σ H1 { s1 with heap := h' } := I1.kept (t' := s1.toks) k
    have S : ZipSep2 (s1.heap.objs.size + 4) (s1.heap.objs.size + 2) (s1.heap.objs.size + 3) s1.heap.objs.size (s1.heap.objs.size + 1) [s1.heap.objs.size] [s1.heap.objs.size + 1, a] := zip_sep2 (fp1 := []) (fp2 := [a]) (fun _ q => nomatch q) (fun b q => by rw [List.mem_singleton.mp q]; exact la)
    have fr : ∀ b ∈ [s1.heap.objs.size + 4, s1.heap.objs.size + 2, s1.heap.objs.size + 3, s1.heap.objs.size, s1.heap.objs.size + 1], FpOk X pins H1 b := fun b hb => by
      have le : s1.heap.objs.size ≤ b := by
        simp only [List.mem_cons, List.not_mem_nil, or_false] at hb
        rcases hb with z | z | z | z | z <;> rw [z]
        · exact Nat.le_add_right _ _
        · exact Nat.le_add_right _ _
        · exact Nat.le_add_right _ _
        · exact Nat.le_refl _
        · exact Nat.le_add_right _ _
      exact I1.fpOk le (I1.hok.fresh le)
    refine ⟨s1.heap.objs.size + 4, [s1.heap.objs.size + 4, s1.heap.objs.size + 2, s1.heap.objs.size + 3, s1.heap.objs.size, s1.heap.objs.size + 1], _, _, H1, rfl, I2, turn_zl S (Nat.ne_of_lt (Nat.lt_succ_of_lt la)), ⟨a1, a2, ⟨_, _, a3⟩, ⟨_, g1, rfl, rfl⟩, ?_⟩, fr, q⟩
    cases t <;> exact ⟨_, g2, rfl, rfl⟩
theorem walk_zl {K : PySem.W.Frag} {t : Bool} {x : Str} {a : Addr} {ys : List V} {n : Nat} (hx : x.cps.size = n) (hy : ys.length = n) : Walk (Itzl t K x a) n (fun H => bif t then SqT K H a ys else SqL K H a ys) (YPair (fun i => (x.cps[i]?).map fun c => .str ⟨#[c]⟩) (fun i => ys[i]?)) := by
  refine ⟨fun i _ hi q => ⟨ys, ys[i]'(by omega), q, by omega, List.getElem?_eq_getElem (by omega)⟩, fun _ q => ⟨ys, q, by omega⟩, fun i H v H' hi q z => ?_⟩
  obtain ⟨T, c, y, h1, h2, h3, h4, h5⟩ := z
  exact ⟨T, _, _, h1, h2, h3, by simp only [h4]; rfl, h5 ys q⟩
section
variable {X : Cx}
theorem ix_kd {d : Addr} {es : Array DictEntry} {n : Nat} (D : KDict X.K X.w d es n) : IxR X (fun x y H Q => ∃ (z : Str) (u0 : Value) (v0 : V), x = .ref d ∧ y = .str z ∧ PySem.W.nsIn X.K d z = some (some u0) ∧ RelV v0 u0 ∧ Q v0 H) := by
  intro value slice pins s σ H x y v u Q I rx ry h hs
  obtain ⟨z, u0, v0, rfl, rfl, e, r, q⟩ := h
  cases rx
  obtain ⟨t, rfl⟩ := ry
  exact tail_any (kd_type D I) PySem.F.slot_dict_getitem.lookup (wpAny_getItem_of (PySem.strKind_is X.prog X.w z t) (PySem.W.mapOf_K (prog := X.prog) I.kIn D.at_ D.lit) (PySem.W.find_K D.at_ e) ⟨v0, H, I.tok _, r, q⟩) hs
end
theorem ix_kdK {X : Cx} {K : PySem.W.Frag} {w : World} {d : Addr} {es : Array DictEntry} {n : Nat} (D : KDict K w d es n) (h : X.K = K := by rfl) (hw : X.w = w := by rfl) : IxR X (fun x y H Q => ∃ (z : Str) (u0 : Value) (v0 : V), x = .ref d ∧ y = .str z ∧ PySem.W.nsIn K d z = some (some u0) ∧ RelV v0 u0 ∧ Q v0 H) := by
  subst h hw
  exact ix_kd D
theorem op_isB {X : Cx} : OpR X (compareOp .Is) (fun x y H Q => ∃ a b, x = .bl a ∧ y = .bl b ∧ Q (.bl (decide (a = b))) H) := by
  intro pins s σ H x y v u Q I rx ry h
  obtain ⟨a, b, rfl, rfl, q⟩ := h
  cases rx
  cases ry
  show wpAny _ _ ((isSame (Value.bool a) (Value.bool b)) >>= fun z => pure (Value.bool z)) _ _ s
  refine wpAny_bind (wpAny_isSame_plain (by rfl) (wpAny_pure (fin_bl I q ?_)))
  cases a <;> cases b <;> rfl
theorem units1 {k : Nat} {A : Around} (r : Room k A) : A.units + 1 < cLine := by
  have := r.un
  omega
theorem gset_asg98 {i : Nat} {v : V} {σ : L2.St} {H : Hp} {t : TE} {g : TG} {r : TS} {D : Ends} (h : t (σ.set i (some v)) H (fun x H1 => g x (σ.set i (some v)) H1 ({ D with nx := r D } : Ends).nx)) : gName i v σ H ({ D with nx := tSeq (tAsg t g) r D } : Ends).nx := h
section
variable {P : Program} {w : World} {K : PySem.W.Frag} {mg : Str → Option Value} {base : Heap}
theorem cutG {Cd A : Int → Int → Hp → Prop} {B : Prop} (h1 : ∀ n p H, Cd n p H → A n p H) (h2 : (∀ n p H, Cd n p H → A n p H) → B) : B := h2 h1
theorem cutA {Cd A : Addr → Hp → Prop} {B : Prop} (h1 : ∀ a H, Cd a H → A a H) (h2 : (∀ a H, Cd a H → A a H) → B) : B := h2 h1
theorem cutH {H : Hp} {A : Hp → Prop} {B : Prop} (h1 : ∀ H', Same H H' → A H') (h2 : (∀ H', Same H H' → A H') → B) : B := h2 h1
theorem cutP {A B : Prop} (h1 : A) (h2 : A → B) : B := h2 h1
theorem gB {i : Nat} {v u : Bool} {σ : L2.St} {H : Hp} {D : L2.St → Hp → Prop} (e : v = u) (h : gName i (V.bl u) σ H D) : gName i (V.bl v) σ H D := e ▸ h
theorem gI {i : Nat} {v u : Int} {σ : L2.St} {H : Hp} {D : L2.St → Hp → Prop} (e : v = u) (h : gName i (V.int u) σ H D) : gName i (V.int v) σ H D := e ▸ h
theorem dvi (a b : Int) : decide (V.int a = V.int b) = decide (a = b) := by
  by_cases c : a = b
  · rw [decide_eq_true c, decide_eq_true (congrArg V.int c)]
  · rw [decide_eq_false c, decide_eq_false (fun z => c (V.int.inj z))]
theorem dvs (a b : Str) : decide (V.str a = V.str b) = decide (a = b) := by
  by_cases c : a = b
  · rw [decide_eq_true c, decide_eq_true (congrArg V.str c)]
  · rw [decide_eq_false c, decide_eq_false (fun z => c (V.str.inj z))]
theorem bx1 {c : Int} {H : Hp} {b : Addr} (h : BoxAt (c + 2 ^ (1 - 1)) H b) : BoxAt (c + 1) H b := h
theorem Keep.none {b p : Addr} {H H' : Hp} (k : Keep b H H') (n : p ≠ b) (h : H' p = none) : H p = none := by
  cases q : H p with
  | none => rfl
  | some o =>
    rw [k p o q n] at h
    cases h
theorem dp_ints {H : Hp} : ∀ ds : List Int, DpAll K H (ds.map V.int) (ds.map PyData.int)
  | [] => .nil
  | d :: ds => .cons (.int d) (dp_ints ds)
theorem lv_ints {n : Nat} (ds : List Int) (h : ds.length ≤ 1000) : Lv (n + 1) (.list (ds.map PyData.int)) := by
  refine ⟨by rw [List.length_map]; omega, fun d hd => ?_⟩
  obtain ⟨x, _, rfl⟩ := List.mem_map.mp hd
  cases n <;> trivial
theorem eqv_ints (ds : List Int) : PyData.eqv (.list (ds.map PyData.int)) (.list (ds.map PyData.int)) = true := PySem.SeqAt.eqv_refl _ (PySem.SeqAt.canLay_of_shaped (PySem.W.shaped_ints ds))
structure LL (K : PySem.W.Frag) (mg : Str → Option Value) (a1 a2 a3 a4 a5 a6 a7 a8 a9 a10 a11 : Addr) (l1 l2 l3 l4 l5 l6 l7 l8 l9 l10 l11 : FuncData) (w : World) (dF : Addr) (esF : Array DictEntry) (nF : Nat) (tA tB tC tD : Addr) : Prop where
  F_worth_of : Fun K "worth_of" "worth_of" s_worth_of a1 l1
  m_worth_of : mg "worth_of" = some (.ref a1)
  b_worth_of : Binds K l1 ["digits"] []
  F_fits : Fun K "fits" "fits" s_fits a2 l2
  m_fits : mg "fits" = some (.ref a2)
  b_fits : Binds K l2 ["case", "digits"] []
  F_spread : Fun K "spread" "spread" s_spread a3 l3
  m_spread : mg "spread" = some (.ref a3)
  b_spread : Binds K l3 ["case"] []
  F__law_box : Fun K "_law_box" "_law_box" sBox a4 l4
  m__law_box : mg "_law_box" = some (.ref a4)
  b__law_box : Binds K l4 ["_law_script", "_law_k"] []
  F__law_take : Fun K "_law_take" "_law_take" sTake a5 l5
  m__law_take : mg "_law_take" = some (.ref a5)
  b__law_take : Binds K l5 ["_law_box_here", "_law_size"] []
  F__law_folded : Fun K "_law_folded" "_law_folded" sFolded a6 l6
  m__law_folded : mg "_law_folded" = some (.ref a6)
  b__law_folded : Binds K l6 ["_law_script", "_law_size"] []
  F__law_same : Fun K "_law_same" "_law_same" sSame a7 l7
  m__law_same : mg "_law_same" = some (.ref a7)
  b__law_same : Binds K l7 ["_law_found", "_law_due"] []
  F__law_worth : Fun K "_law_worth" "_law_worth" s__law_worth a8 l8
  m__law_worth : mg "_law_worth" = some (.ref a8)
  b__law_worth : Binds K l8 ["_law_digits"] []
  F__law_case_fits : Fun K "_law_case_fits" "_law_case_fits" s__law_case_fits a9 l9
  m__law_case_fits : mg "_law_case_fits" = some (.ref a9)
  b__law_case_fits : Binds K l9 ["_law_case", "_law_digits"] []
  F__law_fitting : Fun K "_law_fitting" "_law_fitting" s__law_fitting a10 l10
  m__law_fitting : mg "_law_fitting" = some (.ref a10)
  b__law_fitting : Binds K l10 ["_law_box_here", "_law_case"] []
  F__law_right : Fun K "_law_right" "_law_right" s__law_right a11 l11
  m__law_right : mg "_law_right" = some (.ref a11)
  b__law_right : Binds K l11 ["_law_box_here"] []
  m_FIT : mg "FITTING" = some (.ref dF)
  FIT_D : KDict K w dF esF nF
  f_A : PySem.W.nsIn K dF "-" = some (some (.ref tA))
  f_B : PySem.W.nsIn K dF "0" = some (some (.ref tB))
  f_C : PySem.W.nsIn K dF "+" = some (some (.ref tC))
  f_D : PySem.W.nsIn K dF "." = some (some (.ref tD))
  s_A : ∀ H : Hp, SqT K H tA (([-1] : List Int).map V.int)
  s_B : ∀ H : Hp, SqT K H tB (([0] : List Int).map V.int)
  s_C : ∀ H : Hp, SqT K H tC (([1] : List Int).map V.int)
  s_D : ∀ H : Hp, SqT K H tD (([-1, 0, 1] : List Int).map V.int)
variable {a1 a2 a3 a4 a5 a6 a7 a8 a9 a10 a11 : Addr} {l1 l2 l3 l4 l5 l6 l7 l8 l9 l10 l11 : FuncData} {dF tA tB tC tD : Addr} {esF : Array DictEntry} {nF : Nat}
theorem walk_S {x : List Nat} : Walk (Its (SX.S x)) x.length (fun _ => True) (fun i H v H' => H' = H ∧ ∃ c, x[i]? = some c ∧ v = .str (SX.S [c])) := by
  have w := walk_str (z := SX.S x)
  rw [show (SX.S x).cps.size = x.length from List.size_toArray] at w
  refine ⟨w.goes, w.stops, fun i H v H' hi g z => ?_⟩
  obtain ⟨e, c, h1, h2⟩ := w.yields i H v H' hi g z
  refine ⟨e, c, ?_, h2⟩
  rw [← h1]
  show _ = x.toArray[i]?
  rw [List.getElem?_toArray]
theorem S1_inj {a b : Nat} (h : SX.S [a] = SX.S [b]) : a = b := by
  have e := SX.S_inj h
  cases e
  rfl
theorem dS1 (a b : Nat) : decide (V.str (SX.S [a]) = V.str (SX.S [b])) = decide (a = b) := by
  by_cases c : a = b
  · subst c
    rw [decide_eq_true rfl, decide_eq_true rfl]
  · rw [decide_eq_false c, decide_eq_false (fun z => c (S1_inj (V.str.inj z)))]
theorem joinL_1 : ∀ l : List Nat, TL.joinL [] (l.map fun c => [c]) = l
  | [] => rfl
  | [_] => rfl
  | a :: b :: l => by
    show [a] ++ ([] ++ TL.joinL [] ((b :: l).map fun c => [c])) = _
    rw [joinL_1 (b :: l)]
    rfl
theorem join_1 (l : List Nat) : Txt.join "" (l.map fun c => SX.S [c]) = SX.S l := by
  have e := SX.join_S [] (l.map fun c => [c])
  rw [List.map_map, joinL_1] at e
  exact e
theorem join_z (l : List Nat) (h : l.length ≤ 1000) : ((l.map fun c => SX.S [c]).map (·.length)).sum + (l.map fun c => SX.S [c]).length * ("" : Str).length ≤ 16777216 := by
  have : ((l.map fun c => SX.S [c]).map (·.length)).sum = l.length := by
    induction l with
    | nil => rfl
    | cons a l ih =>
      have h2 : l.length ≤ 1000 := by
        rw [List.length_cons] at h
        omega
      rw [List.map_cons, List.map_cons, List.sum_cons, ih h2, List.length_cons]
      show 1 + l.length = l.length + 1
      omega
  rw [this, List.length_map, show ("" : Str).length = 0 from rfl]
  omega
def s1s (l : List Nat) : List V := (l.map fun c => SX.S [c]).map V.str
theorem s1s_snoc (l : List Nat) (c : Nat) : s1s l ++ [.str (SX.S [c])] = s1s (l ++ [c]) := by
  unfold s1s
  rw [List.map_append, List.map_append]
  rfl
theorem s1s_len (l : List Nat) : (s1s l).length = l.length := by
  unfold s1s
  rw [List.length_map, List.length_map]
end
section
variable {P : Program} {w : World} {K : PySem.W.Frag} {mg : Str → Option Value} {base : Heap}
variable {a1 a2 a3 a4 a5 a6 a7 a8 a9 a10 a11 : Addr} {l1 l2 l3 l4 l5 l6 l7 l8 l9 l10 l11 : FuncData} {dF tA tB tC tD : Addr} {esF : Array DictEntry} {nF : Nat}
/-! ### cases of digits -/
def C4 : List Nat := [45, 48, 43, 46]
def CsL (l : List Nat) : Prop := ∀ c ∈ l, c ∈ C4
def FTl (c : Nat) : List Int := if c = 45 then [-1] else if c = 48 then [0] else if c = 43 then [1] else [-1, 0, 1]
def lo (c : Nat) : Int := if c = 43 then 1 else if c = 48 then 0 else -1
def hi (c : Nat) : Int := if c = 45 then -1 else if c = 48 then 0 else 1
def fit1 (c : Nat) (d : Int) : Bool := decide (c = 46 ∨ d = lo c)
def D3 : List Int := [-1, 0, 1]
def DgL (l : List Int) : Prop := ∀ d ∈ l, d ∈ D3
def fitb (cs : List Nat) (ds : List Int) : Bool := (List.zipWith fit1 cs ds).all id
theorem c45 : Str.ofString "-" = SX.S [45] := by decide +kernel
theorem c48 : Str.ofString "0" = SX.S [48] := by decide +kernel
theorem c43 : Str.ofString "+" = SX.S [43] := by decide +kernel
theorem c46 : Str.ofString "." = SX.S [46] := by decide +kernel
theorem fit_at (B : Bl mg) (L : LL K mg a1 a2 a3 a4 a5 a6 a7 a8 a9 a10 a11 l1 l2 l3 l4 l5 l6 l7 l8 l9 l10 l11 w dF esF nF tA tB tC tD) {c : Nat} (h : c ∈ C4) : ∃ t : Addr, PySem.W.nsIn K dF (SX.S [c]) = some (some (.ref t)) ∧ ∀ H : Hp, SqT K H t ((FTl c).map V.int) := by
  simp only [C4, List.mem_cons, List.not_mem_nil, or_false] at h
  rcases h with z | z | z | z <;> subst z
  · exact ⟨tA, c45 ▸ L.f_A, L.s_A⟩
  · exact ⟨tB, c48 ▸ L.f_B, L.s_B⟩
  · exact ⟨tC, c43 ▸ L.f_C, L.s_C⟩
  · exact ⟨tD, c46 ▸ L.f_D, L.s_D⟩
theorem in_ints (d : Int) (l : List Int) : inV (.int d) (l.map V.int) = decide (d ∈ l) := by
  apply Bool.eq_iff_iff.mpr
  rw [decide_eq_true_iff]
  induction l with
  | nil => exact ⟨fun z => Bool.noConfusion z, fun z => nomatch z⟩
  | cons y ys ih =>
    show ((y == d) || inV (.int d) (ys.map V.int)) = true ↔ _
    rw [Bool.or_eq_true, beq_iff_eq, ih, List.mem_cons]
    exact ⟨fun z => z.imp Eq.symm id, fun z => z.imp Eq.symm id⟩
theorem flat_ints25 : ∀ l : List Int, (l.map V.int).all flatV = true
  | [] => rfl
  | _ :: l => flat_ints25 l
theorem fit_in : ∀ c ∈ C4, ∀ d ∈ D3, decide (d ∈ FTl c) = fit1 c d := by decide +kernel
theorem ft_lo : ∀ c ∈ C4, atI ((FTl c).map V.int) 0 = some (.int (lo c)) ∧ atI ((FTl c).map V.int) (-1) = some (.int (hi c)) := by decide +kernel
theorem at_int' {xs : List Int} {i : Nat} {x : V} (h : (xs.map V.int)[i]? = some x) : ∃ v, xs[i]? = some v ∧ x = .int v := by
  rw [List.getElem?_map] at h
  cases e : xs[i]? with
  | none => rw [e] at h; cases h
  | some z => rw [e] at h; exact ⟨z, rfl, (Option.some.inj h).symm⟩
theorem zw_take {α β γ : Type} (f : α → β → γ) {x : List α} {y : List β} {i : Nat} {a : α} {b : β} (ha : x[i]? = some a) (hb : y[i]? = some b) : (List.zipWith f x y).take (i + 1) = (List.zipWith f x y).take i ++ [f a b] := by
  rw [List.take_add_one, List.getElem?_zipWith, ha, hb]
  rfl
theorem zw_len {α β γ : Type} (f : α → β → γ) {x : List α} {y : List β} {n : Nat} (hx : x.length = n) (hy : y.length = n) : (List.zipWith f x y).length = n := by
  rw [List.length_zipWith, hx, hy, Nat.min_self]
theorem snoc_take {α β : Type} (xs : List α) (f : α → β) {i : Nat} {a : α} (h : xs[i]? = some a) : (xs.take (i + 1)).map f = (xs.take i).map f ++ [f a] := by
  rw [List.take_add_one, h, List.map_append]
  rfl
theorem walk_zlS {t : Bool} {x : List Nat} {a : Addr} {ys : List V} {n : Nat} (hx : x.length = n) (hy : ys.length = n) : Walk (Itzl t K (SX.S x) a) n (fun H => bif t then SqT K H a ys else SqL K H a ys) (YPair (fun i => (x[i]?).map fun c => .str (SX.S [c])) (fun i => ys[i]?)) := by
  have w := walk_zl (K := K) (t := t) (x := SX.S x) (a := a) (ys := ys) (n := n) (by show x.toArray.size = n; rw [List.size_toArray, hx]) hy
  refine ⟨w.goes, w.stops, fun i H v H' hi g z => ?_⟩
  obtain ⟨T, u, v', e1, e2, e3, e4, e5⟩ := w.yields i H v H' hi g z
  refine ⟨T, u, v', e1, e2, e3, ?_, e5⟩
  rw [← e4]
  show _ = (x.toArray[i]?).map _
  rw [List.getElem?_toArray]
/-- a list or a tuple of these digits -/
def SqB (K : PySem.W.Frag) (t : Bool) (H : Hp) (a : Addr) (ds : List Int) : Prop := bif t then SqT K H a (ds.map V.int) else SqL K H a (ds.map V.int)
theorem SqB.same {t : Bool} {H H' : Hp} {a : Addr} {ds : List Int} (h : SqB K t H a ds) (s : Same H H') : SqB K t H' a ds := by
  cases t
  · exact s.seq h
  · exact Same.seqT s h
theorem SqB.or {t : Bool} {H : Hp} {a : Addr} {ds : List Int} (h : SqB K t H a ds) : SqL K H a (ds.map V.int) ∨ SqT K H a (ds.map V.int) := by
  cases t
  · exact .inl h
  · exact .inr h
def spFits (K : PySem.W.Frag) : Sp := fun vs H Q _ => ∃ (cs : List Nat) (a : Addr) (t : Bool) (ds : List Int), vs = [.str (SX.S cs), .ref a] ∧ SqB K t H a ds ∧ cs.length = ds.length ∧ ds.length ≤ 900 ∧ CsL cs ∧ DgL ds ∧ ∀ H', Same H H' → Q (.bl (fitb cs ds)) H'
theorem ok_fits (B : Bl mg) (L : LL K mg a1 a2 a3 a4 a5 a6 a7 a8 a9 a10 a11 l1 l2 l3 l4 l5 l6 l7 l8 l9 l10 l11 w dF esF nF tA tB tC tD) : FnOk P w K mg base CX0 1 a2 l2 ["case", "digits"] (spFits K) := by
  refine L.F_fits.ok sc_fits (fun vs H Q E h => ?_) (fun cdv A outer s H vs Q E hr h => ?_)
  · obtain ⟨cs, a, t, ds, rfl, _⟩ := h
    rfl
  obtain ⟨cs, a, t, ds, rfl, hS, hl, hz, hc, hd, q⟩ := h
  refine ⟨_, (pss_cons (ps_if (pt_cmpR op_ne (pe_callB call_len_str (by rfl) B.len PySem.boot_len (pa_cons (pv 0) pa_nil)) (pe_callB call_len_seq (by rfl) B.len PySem.boot_len (pa_cons (pv 1) pa_nil)) (nomark _)) (pss_one (ps_ret pe_bl)) pss_nil)
    (pss_one (ps_ret (pe_callB (cr_all rfl) (by rfl) B.all boot_all (pa_cons (pe_lc (own := [("sign", 2), ("digit", 3)]) (g := gTup K 2 (gCons (gName 2) (gCons (gName 3) gNil))) (by rfl) sc_fits.nd (pi_zl (by rfl) B.zip (pa_cons (pv 0) (pa_cons (pv 1) pa_nil))) (blkOk_by (own := [("sign", 2), ("digit", 3)]) (N := ["case", "digits", "sign", "digit"]) (sc := defScope s_fits) (by decide +kernel)) (fun _ _ _ _ _ => pg_tup rfl (pgs_cons (pg_name (i := 2) sc_fits.nd rfl (Or.inl rfl) (.inr rfl)) (pgs_cons (pg_name (i := 3) sc_fits.nd rfl (Or.inl rfl) (.inr rfl)) pgs_nil))) (fun _ _ _ _ _ => pts_nil) (fun _ _ _ _ _ => (pe_cmpR (op_in_seqK (K := K)) (pv 3) (pe_ix (ix_kdK (K := K) L.FIT_D) (pe_glob (v := .ref dF) rfl L.m_FIT rfl) (pv 2) (fun _ _ => rfl)) (by rfl)))) pa_nil))))), ?_⟩
  have zx : (SX.S cs).length ≤ sizeLine := by
    rw [SX.S_len]
    exact Nat.le_of_lt (small1000 (by omega))
  refine ⟨_, rfl, _, rfl, zx, _, rfl, a, _, rfl, hS.or, rfl, _, rfl, iteNS (congrArg V.int ?_) ?_⟩
  · rw [SX.S_len, hl, List.length_map]
  refine ⟨_, rfl, _, rfl, t, SX.S cs, a, _, rfl, hS, fun D nD => ?_⟩
  refine lc_it (walk_zlS (x := cs) (ys := ds.map V.int) (n := ds.length) hl (List.length_map _)) (fun i H3 => Same H H3 ∧ H3 D = some (.lst (((List.zipWith fit1 cs ds).take i).map V.bl))) ⟨same_upd nD, upd_same⟩ (fun i H3 _ ⟨s3, _⟩ => hS.same s3) ?_ ?_
  · rintro i v H3 H4 hi ⟨s3, eD⟩ ⟨T, u1, u2, rfl, nT, rfl, e1, e2⟩
    obtain ⟨c1, f1, rfl⟩ := Option.map_eq_some_iff.mp e1
    obtain ⟨d1, f2, rfl⟩ := at_int' e2
    have sT := same_upd (o := .tup [.str (SX.S [c1]), .int d1]) nT
    have h4 := hc c1 (List.mem_of_getElem? f1)
    have h3 := hd d1 (List.mem_of_getElem? f2)
    obtain ⟨tt, n1, n2⟩ := fit_at B L h4
    refine ⟨T, _, rfl, .inl (.inl upd_same), rfl, _, _, rfl, _, _, rfl, rfl, rfl, ?_⟩
    refine yesT ?_
    refine ⟨_, rfl, _, rfl, SX.S [c1], .ref tt, .ref tt, rfl, rfl, n1, rfl, tt, _, rfl, .inr (n2 _), rfl, flat_ints25 _, ?_⟩
    rw [in_ints, fit_in c1 h4 d1 h3]
    refine ⟨_, sT _ _ eD, ?_, fun b u e => ?_, ?_⟩
    · rw [List.length_map, List.length_take]
      exact Nat.lt_of_le_of_lt (Nat.min_le_left _ _) (small1000 (by omega))
    · rw [upd_ne (ne_of_none e nD)]
      exact sT _ _ (s3 _ _ e)
    · rw [upd_same, zw_take fit1 f1 f2, List.map_append]
      rfl
  rintro H3 ⟨s3, eD⟩
  rw [List.take_of_length_le (by rw [zw_len fit1 hl rfl]; exact Nat.le_refl _)] at eD
  refine ⟨D, _, rfl, .inl (.inl eD), ?_⟩
  exact q _ s3
/-! ### worth_of, spread -/
theorem fold_take {ds : List Int} {i : Nat} {d : Int} (h : ds[i]? = some d) : (ds.take (i + 1)).foldl (fun w d => 2 * w + d) 0 = 2 * (ds.take i).foldl (fun w d => 2 * w + d) (0 : Int) + d := by
  rw [List.take_add_one, h, List.foldl_append]
  rfl
theorem fold_all (ds : List Int) {n : Nat} (h : ds.length ≤ n) : (ds.take n).foldl (fun w d => 2 * w + d) 0 = GM.wv ds := by
  rw [List.take_of_length_le h, GM.fold_wv]
  omega
def spWof (K : PySem.W.Frag) : Sp := fun vs H Q _ => ∃ (a : Addr) (ds : List Int), vs = [.ref a] ∧ SqL K H a (ds.map V.int) ∧ Q (.int (GM.wv ds)) H
theorem ok_worth_of (B : Bl mg) (L : LL K mg a1 a2 a3 a4 a5 a6 a7 a8 a9 a10 a11 l1 l2 l3 l4 l5 l6 l7 l8 l9 l10 l11 w dF esF nF tA tB tC tD) : FnOk P w K mg base CX0 1 a1 l1 ["digits"] (spWof K) := by
  refine L.F_worth_of.ok sc_worth_of (fun vs H Q E h => ?_) (fun cdv A outer s H vs Q E hr h => ?_)
  · obtain ⟨a, ds, rfl, _⟩ := h
    rfl
  obtain ⟨a, ds, rfl, hS, q⟩ := h
  refine ⟨_, (pss_cons (ps_set (i := 1) sc_worth_of.nd rfl (.inl rfl) pe_int)
    (pss_cons (ps_for PassesOwn.never rfl (pi_list (pv 0)) (pg_name (i := 2) sc_worth_of.nd rfl (.inl rfl)) (pss_one (ps_set (i := 1) sc_worth_of.nd rfl (.inl rfl) (pe_op op_add (pe_op op_mul pe_int (pv 1)) (pv 2)))))
    (pss_one (ps_ret (pv 1))))), ?_⟩
  refine ⟨_, rfl, a, rfl, ⟨_, hS⟩, for_list (K := K) (a := a) (xs := ds.map V.int) (fun i σ H3 => ∃ y2 : Option V, σ = [some (.ref a), some (.int ((ds.take i).foldl (fun w d => 2 * w + d) 0)), y2] ∧ H3 = H) ⟨none, rfl, rfl⟩ (fun i σ H3 _ ⟨_, _, e⟩ => by rw [e]; exact hS) ?_ ?_⟩
  · rintro i x σ H3 hx ⟨y2, rfl, rfl⟩
    obtain ⟨z, ez, rfl⟩ := at_int' hx
    refine ⟨_, rfl, _, _, rfl, rfl, .inl ⟨by decide, by decide⟩, _, rfl, _, _, rfl, rfl, some (.int z), ?_, rfl⟩
    rw [fold_take ez]
    rfl
  · rintro σ H3 ⟨y2, rfl, rfl⟩
    rw [fold_all ds (by rw [List.length_map]; exact Nat.le_refl _)]
    exact ⟨_, rfl, q⟩
def spSpread : Sp := fun vs H Q _ => ∃ (cs : List Nat), vs = [.str (SX.S cs)] ∧ cs.length ≤ 900 ∧ CsL cs ∧ ∀ (p : Addr) (H' : Hp), Same H H' → H' p = some (.tup [.int (GM.wv (cs.map lo)), .int (GM.wv (cs.map hi))]) → Q (.ref p) H'
theorem ok_spread (B : Bl mg) (L : LL K mg a1 a2 a3 a4 a5 a6 a7 a8 a9 a10 a11 l1 l2 l3 l4 l5 l6 l7 l8 l9 l10 l11 w dF esF nF tA tB tC tD) : FnOk P w K mg base CX0 2 a3 l3 ["case"] spSpread := by
  have G_worth_of : FnOk P w K mg base CX0 1 a1 l1 ["digits"] (spWof K) := (ok_worth_of B L).mono (by decide)
  refine L.F_spread.ok sc_spread (fun vs H Q E h => ?_) (fun cdv A outer s H vs Q E hr h => ?_)
  · obtain ⟨cs, rfl, _⟩ := h
    rfl
  obtain ⟨cs, rfl, hz, hc, q⟩ := h
  refine ⟨_, (pss_cons (ps_set (i := 1) sc_spread.nd rfl (.inl rfl) (pe_call G_worth_of hr (by rfl) L.m_worth_of L.F_worth_of.kp L.b_worth_of .nil pass0 (pa_cons (pe_lc (own := [("sign", 3)]) (by rfl) sc_spread.nd (pi_str (pv 0)) (blkOk_by (own := [("sign", 3)]) (N := ["case", "least", "greatest", "sign"]) (sc := defScope s_spread) (by decide +kernel)) (fun _ _ _ _ _ => pg_name (i := 3) sc_spread.nd rfl (Or.inl rfl)) (fun _ _ _ _ _ => pts_nil) (fun _ _ _ _ _ => (pe_ix (ix_tupK (K := K)) (pe_ix (ix_kdK (K := K) L.FIT_D) (pe_glob (v := .ref dF) rfl L.m_FIT rfl) (pv 3) (fun _ _ => rfl)) pe_int (fun _ _ => rfl)))) pa_nil)))
    (pss_cons (ps_set (i := 2) sc_spread.nd rfl (.inl rfl) (pe_call G_worth_of hr (by rfl) L.m_worth_of L.F_worth_of.kp L.b_worth_of .nil pass0 (pa_cons (pe_lc (own := [("sign", 3)]) (by rfl) sc_spread.nd (pi_str (pv 0)) (blkOk_by (own := [("sign", 3)]) (N := ["case", "least", "greatest", "sign"]) (sc := defScope s_spread) (by decide +kernel)) (fun _ _ _ _ _ => pg_name (i := 3) sc_spread.nd rfl (Or.inl rfl)) (fun _ _ _ _ _ => pts_nil) (fun _ _ _ _ _ => (pe_ix (ix_tupK (K := K)) (pe_ix (ix_kdK (K := K) L.FIT_D) (pe_glob (v := .ref dF) rfl L.m_FIT rfl) (pv 3) (fun _ _ => rfl)) (pe_un un_neg pe_int) (fun _ _ => rfl)))) pa_nil)))
    (pss_one (ps_ret (pe_tup (pa_cons (pv 1) (pa_cons (pv 2) pa_nil))))))), ?_⟩
  refine ⟨_, rfl, SX.S cs, rfl, fun D nD => ?_⟩
  refine lc_it (walk_S (x := cs)) (fun i H3 => Same H H3 ∧ H3 D = some (.lst (((cs.map lo).take i).map V.int))) ⟨same_upd nD, upd_same⟩ (fun _ _ _ _ => trivial) ?_ ?_
  · rintro i v H3 H4 hi ⟨s3, eD⟩ ⟨rfl, c, ec, rfl⟩
    have h4 := hc c (List.mem_of_getElem? ec)
    obtain ⟨tt, n1, n2⟩ := fit_at B L h4
    refine ⟨rfl, yesT ?_⟩
    refine ⟨_, rfl, SX.S [c], .ref tt, .ref tt, rfl, rfl, n1, rfl, tt, _, _, _, rfl, rfl, n2 _, (ft_lo c h4).1, ?_⟩
    refine ⟨_, eD, ?_, fun b u e => ?_, ?_⟩
    · rw [List.length_map, List.length_take]
      exact Nat.lt_of_le_of_lt (Nat.min_le_left _ _) (small1000 (by omega))
    · rw [upd_ne (ne_of_none e nD)]
      exact s3 _ _ e
    · rw [upd_same, snoc_take (cs.map lo) V.int (a := lo c) (by rw [List.getElem?_map, ec]; rfl)]
  rintro H3 ⟨s3, eD⟩
  rw [List.take_of_length_le (by rw [List.length_map]; exact Nat.le_refl _)] at eD
  refine ⟨D, _, rfl, SqL.of eD, ?_⟩
  refine ⟨_, rfl, SX.S cs, rfl, fun D2 nD2 => ?_⟩
  refine lc_it (walk_S (x := cs)) (fun i H4 => Same H3 H4 ∧ H4 D2 = some (.lst (((cs.map hi).take i).map V.int))) ⟨same_upd nD2, upd_same⟩ (fun _ _ _ _ => trivial) ?_ ?_
  · rintro i v H4 H5 hi' ⟨s4, eD2⟩ ⟨rfl, c, ec, rfl⟩
    have h4 := hc c (List.mem_of_getElem? ec)
    obtain ⟨tt, n1, n2⟩ := fit_at B L h4
    refine ⟨rfl, yesT ?_⟩
    refine ⟨_, rfl, SX.S [c], .ref tt, .ref tt, rfl, rfl, n1, rfl, _, rfl, tt, _, _, _, rfl, rfl, n2 _, (ft_lo c h4).2, ?_⟩
    refine ⟨_, eD2, ?_, fun b u e => ?_, ?_⟩
    · rw [List.length_map, List.length_take]
      exact Nat.lt_of_le_of_lt (Nat.min_le_left _ _) (small1000 (by omega))
    · rw [upd_ne (ne_of_none e nD2)]
      exact s4 _ _ e
    · rw [upd_same, snoc_take (cs.map hi) V.int (a := hi c) (by rw [List.getElem?_map, ec]; rfl)]
  rintro H4 ⟨s4, eD2⟩
  rw [List.take_of_length_le (by rw [List.length_map]; exact Nat.le_refl _)] at eD2
  refine ⟨D2, _, rfl, SqL.of eD2, ?_⟩
  refine ⟨_, rfl, _, rfl, (by show 2 ≤ sizeLine; decide), fun p np => ?_⟩
  exact q p _ (s3.trans (s4.trans (same_upd np))) upd_same
end
section
variable {P : Program} {w : World} {K : PySem.W.Frag} {mg : Str → Option Value} {base : Heap}
variable {a1 a2 a3 a4 a5 a6 a7 a8 a9 a10 a11 : Addr} {l1 l2 l3 l4 l5 l6 l7 l8 l9 l10 l11 : FuncData} {dF tA tB tC tD : Addr} {esF : Array DictEntry} {nF : Nat}
/-! ### the law's own worth, fit and draws -/
theorem dg_small {ds : List Int} (h : DgL ds) : ∀ d ∈ ds, d.natAbs < 2 := fun d hd => by
  have := h d hd
  simp only [D3, List.mem_cons, List.not_mem_nil, or_false] at this
  omega
def spWorth (K : PySem.W.Frag) : Sp := fun vs H Q _ => ∃ (a : Addr) (ds : List Int), vs = [.ref a] ∧ SqL K H a (ds.map V.int) ∧ ds.length ≤ 900 ∧ DgL ds ∧ ∀ H', Same H H' → Q (.int (GM.wv ds)) H'
theorem ok__law_worth (B : Bl mg) (L : LL K mg a1 a2 a3 a4 a5 a6 a7 a8 a9 a10 a11 l1 l2 l3 l4 l5 l6 l7 l8 l9 l10 l11 w dF esF nF tA tB tC tD) : FnOk P w K mg base CX0 2 a8 l8 ["_law_digits"] (spWorth K) := by
  refine L.F__law_worth.ok sc__law_worth (fun vs H Q E h => ?_) (fun cdv A outer s H vs Q E hr h => ?_)
  · obtain ⟨a, ds, rfl, _⟩ := h
    rfl
  obtain ⟨a, ds, rfl, hS, hl, hd', q⟩ := h
  have hd := dg_small hd'
  refine ⟨_, (pss_one (ps_ret (pe_callB (cr_sum rfl) (by rfl) B.sum boot_sum (pa_cons (pe_lc (own := [("_law_place", 1), ("_law_digit", 2)]) (g := gTup K 2 (gCons (gName 1) (gCons (gName 2) gNil))) (by rfl) sc__law_worth.nd (pi_enum (by rfl) B.enumerate (pa_cons (pv 0) pa_nil)) (blkOk_by (own := [("_law_place", 1), ("_law_digit", 2)]) (N := ["_law_digits", "_law_place", "_law_digit"]) (sc := defScope s__law_worth) (by decide +kernel)) (fun _ _ _ _ _ => pg_tup rfl (pgs_cons (pg_name (i := 1) sc__law_worth.nd rfl (Or.inl rfl) (.inr rfl)) (pgs_cons (pg_name (i := 2) sc__law_worth.nd rfl (Or.inl rfl) (.inr rfl)) pgs_nil))) (fun _ _ _ _ _ => pts_nil) (fun _ _ _ _ _ => (pe_op op_shlN (pv 2) (pe_op op_sub (pe_op op_sub (pe_callB (call_len_seqK (K := K)) (by rfl) B.len PySem.boot_len (pa_cons (pv 0) pa_nil)) pe_int) (pv 1))))) pa_nil)))), ?_⟩
  refine ⟨_, rfl, a, _, rfl, hS, fun D nD => ?_⟩
  have sD : Same H (upd H D (.lst [])) := same_upd nD
  refine lc_it (walk_enum (K := K) (a := a) (xs := ds.map V.int)) (fun i H3 => Same H H3 ∧ H3 D = some (.lst (((GM.places ds).take i).map V.int))) ⟨sD, upd_same⟩ (fun i H3 _ ⟨s3, _⟩ => s3.seq hS) ?_ ?_
  · rintro i v H3 H4 hi ⟨s3, eD⟩ ⟨T, x, y, rfl, nT, rfl, e1, e2⟩
    cases e1
    obtain ⟨z, ez, rfl⟩ := at_int' e2
    rw [List.length_map] at hi
    have sT : Same H3 (upd H3 T (.tup [.int (i : Nat), .int z])) := same_upd nT
    have hA := (s3.trans sT).seq hS
    refine ⟨T, _, rfl, .inl (.inl upd_same), rfl, _, _, rfl, _, _, rfl, rfl, rfl, ?_⟩
    refine yesT ?_
    refine ⟨_, rfl, _, rfl, a, _, rfl, .inl hA, _, _, rfl, rfl, _, rfl, _, _, rfl, rfl, _, ds.length - 1 - i, rfl, ?_, shl_ok (n := 1) (hd z (List.mem_of_getElem? ez)) (by omega), ?_⟩
    · rw [List.length_map]
      exact congrArg V.int (by omega)
    refine ⟨_, sT _ _ eD, ?_, fun b o e => ?_, ?_⟩
    · rw [List.length_map, List.length_take]
      exact Nat.lt_of_le_of_lt (Nat.min_le_left _ _) (small1000 (by omega))
    · rw [upd_ne (ne_of_none e nD)]
      exact sT _ _ (s3 _ _ e)
    · rw [upd_same, List.take_add_one, GM.places_get ds i z ez, List.map_append]
      rfl
  · rintro H3 ⟨s3, eD⟩
    rw [List.length_map, List.take_of_length_le (by rw [GM.places_len]; exact Nat.le_refl _)] at eD
    refine ⟨D, _, rfl, SqL.of eD, ?_⟩
    rw [GM.places_sum]
    exact q _ s3
def KV25 : List (Key × V) := [(.inr (Str.ofString "+"), .int 1), (.inr (Str.ofString "0"), .int 0), (.inr (Str.ofString "-"), .int (-1))]
theorem dget25 : ∀ c ∈ C4, valV (mergeK [] KV25) (.inr (SX.S [c])) = if c = 46 then none else some (.int (lo c)) := by decide +kernel
theorem same_dsp {H : Hp} {D : Addr} {k1 k2 : List (Key × V)} (nD : H D = none) : Same H (upd (upd H D (.dK k1)) D (.dK k2)) := fun y u e => by
  rw [upd_ne (ne_of_none e nD), upd_ne (ne_of_none e nD)]
  exact e
theorem dDot (c : Nat) : decide (V.str (SX.S [c]) = V.str (Str.ofString ".")) = decide (c = 46) := by
  rw [c46]
  exact dS1 c 46
def spCf (K : PySem.W.Frag) : Sp := fun vs H Q _ => ∃ (cs : List Nat) (a : Addr) (ds : List Int), vs = [.str (SX.S cs), .ref a] ∧ SqL K H a (ds.map V.int) ∧ cs.length = ds.length ∧ ds.length ≤ 900 ∧ CsL cs ∧ ∀ H', Same H H' → Q (.bl (fitb cs ds)) H'
theorem ok__law_case_fits (B : Bl mg) (L : LL K mg a1 a2 a3 a4 a5 a6 a7 a8 a9 a10 a11 l1 l2 l3 l4 l5 l6 l7 l8 l9 l10 l11 w dF esF nF tA tB tC tD) : FnOk P w K mg base CX0 2 a9 l9 ["_law_case", "_law_digits"] (spCf K) := by
  refine L.F__law_case_fits.ok sc__law_case_fits (fun vs H Q E h => ?_) (fun cdv A outer s H vs Q E hr h => ?_)
  · obtain ⟨cs, a, ds, rfl, _⟩ := h
    rfl
  obtain ⟨cs, a, ds, rfl, hS, hl, hz, hc, q⟩ := h
  refine ⟨_, (pss_one (ps_ret (pe_callB (cr_all rfl) (by rfl) B.all boot_all (pa_cons (pe_lc (own := [("_law_sign", 2), ("_law_digit", 3)]) (g := gTup K 2 (gCons (gName 2) (gCons (gName 3) gNil))) (by rfl) sc__law_case_fits.nd (pi_zl (by rfl) B.zip (pa_cons (pv 0) (pa_cons (pv 1) pa_nil))) (blkOk_by (own := [("_law_sign", 2), ("_law_digit", 3)]) (N := ["_law_case", "_law_digits", "_law_sign", "_law_digit"]) (sc := defScope s__law_case_fits) (by decide +kernel)) (fun _ _ _ _ _ => pg_tup rfl (pgs_cons (pg_name (i := 2) sc__law_case_fits.nd rfl (Or.inl rfl) (.inr rfl)) (pgs_cons (pg_name (i := 3) sc__law_case_fits.nd rfl (Or.inl rfl) (.inr rfl)) pgs_nil))) (fun _ _ _ _ _ => pts_nil) (fun _ _ _ _ _ => (pe_or (pe_cmpR op_eq (pv 2) pe_str (nomark _)) (pe_one (pe_cmpR op_eq (pv 3) (pe_dget (units1 hr) (pe_disp (pps_cons pe_str pe_int (pps_cons pe_str pe_int (pps_cons pe_str (pe_un un_neg pe_int) pps_nil))) rfl rfl (by decide) (by decide)) (pv 2) (fun _ _ => rfl)) (nomark _)))))) pa_nil)))), ?_⟩
  refine ⟨_, rfl, _, rfl, false, SX.S cs, a, _, rfl, hS, fun D nD => ?_⟩
  refine lc_it (walk_zlS (x := cs) (ys := ds.map V.int) (n := ds.length) hl (List.length_map _)) (fun i H3 => Same H H3 ∧ H3 D = some (.lst (((List.zipWith fit1 cs ds).take i).map V.bl))) ⟨same_upd nD, upd_same⟩ (fun i H3 _ ⟨s3, _⟩ => s3.seq hS) ?_ ?_
  · rintro i v H3 H4 hi ⟨s3, eD⟩ ⟨T, u1, u2, rfl, nT, rfl, e1, e2⟩
    obtain ⟨c1, f1, rfl⟩ := Option.map_eq_some_iff.mp e1
    obtain ⟨d1, f2, rfl⟩ := at_int' e2
    have sT := same_upd (o := .tup [.str (SX.S [c1]), .int d1]) nT
    have h4 := hc c1 (List.mem_of_getElem? f1)
    refine ⟨T, _, rfl, .inl (.inl upd_same), rfl, _, _, rfl, _, _, rfl, rfl, rfl, ?_⟩
    refine yesT ?_
    refine or_ev (fun v H' => v = .bl (fit1 c1 d1) ∧ Same (upd H3 T (.tup [.str (SX.S [c1]), .int d1])) H') (fun Q' q' => ?_) (fun v H5 hv => ?_)
    · refine ⟨_, rfl, rfl, _, rfl, ?_⟩
      rw [dDot]
      by_cases c6 : c1 = 46
      · rw [decide_eq_true c6]
        refine q' _ _ ⟨?_, Same.refl _⟩
        unfold fit1
        rw [decide_eq_true (.inl c6)]
      · rw [decide_eq_false c6]
        refine ⟨_, rfl, fun W nW => ?_⟩
        refine ⟨_, rfl, upd_same, KV25, rfl, by decide, ?_⟩
        refine ⟨_, rfl, W, .int (lo c1), rfl, .inl ⟨_, .inr (SX.S [c1]), .inl upd_same, rfl, ?_⟩, rfl, q' _ _ ⟨?_, same_dsp nW⟩⟩
        · rw [dget25 c1 h4, if_neg c6]
        · rw [dvi]
          unfold fit1
          by_cases e : d1 = lo c1
          · rw [decide_eq_true e, decide_eq_true (.inr e)]
          · rw [decide_eq_false e, decide_eq_false (fun z => z.elim c6 e)]
    obtain ⟨rfl, s5⟩ := hv
    have s35 := sT.trans s5
    refine ⟨_, s35 _ _ eD, ?_, fun b u e => ?_, ?_⟩
    · rw [List.length_map, List.length_take]
      exact Nat.lt_of_le_of_lt (Nat.min_le_left _ _) (small1000 (by omega))
    · rw [upd_ne (ne_of_none e nD)]
      exact s35 _ _ (s3 _ _ e)
    · rw [upd_same, zw_take fit1 f1 f2, List.map_append]
      rfl
  rintro H3 ⟨s3, eD⟩
  rw [List.take_of_length_le (by rw [zw_len fit1 hl rfl]; exact Nat.le_refl _)] at eD
  refine ⟨D, _, rfl, .inl (.inl eD), ?_⟩
  exact q _ s3
def spFitting (K : PySem.W.Frag) : Sp := fun vs H Q _ => ∃ (b : Addr) (cs : List Nat) (c : Int), vs = [.ref b, .str (SX.S cs)] ∧ BoxAt c H b ∧ c ≤ 900000000 ∧ cs.length ≤ 900 ∧ 0 < cs.length ∧ CsL cs ∧
  ∀ (p : Addr) (ds : List Int) (H' : Hp), H p = none → p ≠ b → ds.length = cs.length → DgL ds → H' p = some (.lst (ds.map V.int)) → BoxAt (c + cs.length + 3) H' b → Keep b H H' → Q (.ref p) H'
theorem dg_snoc {l : List Int} {d : Int} (h : DgL l) (hd : d ∈ D3) : DgL (l ++ [d]) := fun x hx => by
  rcases List.mem_append.mp hx with z | z
  · exact h x z
  · rw [List.mem_singleton.mp z]
    exact hd
theorem dg_set {l : List Int} {n : Nat} {d : Int} (h : DgL l) (hd : d ∈ D3) : DgL (l.set n d) := fun c hc => by
  rcases List.mem_or_eq_of_mem_set hc with z | z
  · exact h c z
  · rw [z]
    exact hd
theorem d3_of {d : Int} (h0 : -1 ≤ d) (h1 : d ≤ 1) : d ∈ D3 := by
  have : d = -1 ∨ d = 0 ∨ d = 1 := by omega
  rcases this with z | z | z <;> subst z <;> decide
theorem lo_d3 (c : Nat) : lo c ∈ D3 := by
  unfold lo
  split
  · decide
  split <;> decide
theorem hi_d3 (c : Nat) : hi c ∈ D3 := by
  unfold hi
  split
  · decide
  split <;> decide
theorem ok__law_fitting (B : Bl mg) (L : LL K mg a1 a2 a3 a4 a5 a6 a7 a8 a9 a10 a11 l1 l2 l3 l4 l5 l6 l7 l8 l9 l10 l11 w dF esF nF tA tB tC tD) : FnOk P w K mg base CX0 10 a10 l10 ["_law_box_here", "_law_case"] (spFitting K) := by
  have G__law_take : FnOk P w K mg base CX0 9 a5 l5 ["_law_box_here", "_law_size"] (spTake 1) := (ok_take L.F__law_take L.b__law_take L.m__law_take B 1).mono (by decide)
  refine L.F__law_fitting.ok sc__law_fitting (fun vs H Q E h => ?_) (fun cdv A outer s H vs Q E hr h => ?_)
  · obtain ⟨b, cs, c, rfl, _⟩ := h
    rfl
  obtain ⟨b, cs, c, rfl, hB, hc, hz, h0, hcs, q⟩ := h
  refine ⟨_, (pss_cons (ps_setLc (i := 2) (own := [("_law_sign", 4)]) (by rfl) sc__law_fitting.nd rfl rfl (sw_true rfl rfl rfl (by decide +kernel)) (pi_str (pv 1)) (blkOk_by (own := [("_law_sign", 4)]) (N := ["_law_box_here", "_law_case", "_law_found", "_law_at", "_law_sign"]) (sc := defScope s__law_fitting) (by decide +kernel)) (fun _ _ _ _ _ => pg_name (i := 4) sc__law_fitting.nd rfl (Or.inl rfl)) (fun _ _ _ _ _ => pts_nil) (fun _ _ _ _ _ => (pe_dget2 (units1 hr) (pe_disp (pps_cons pe_str pe_int (pps_cons pe_str pe_int (pps_cons pe_str (pe_un un_neg pe_int) pps_nil))) rfl rfl (by decide) (by decide)) (pv 4) (pe_op op_sub (pe_call G__law_take hr (by rfl) L.m__law_take L.F__law_take.kp L.b__law_take .nil pass0 (pa_cons (pv 0) (pa_cons pe_int pa_nil))) pe_int) ⟨rfl, rfl, rfl, rfl⟩)))
    (pss_cons (ps_if (pt_cmpR op_eq (pe_call G__law_take hr (by rfl) L.m__law_take L.F__law_take.kp L.b__law_take .nil pass0 (pa_cons (pv 0) (pa_cons pe_int pa_nil))) pe_int (nomark _)) (pss_cons (ps_set (i := 3) sc__law_fitting.nd rfl (.inl rfl) (pe_call G__law_take hr (by rfl) L.m__law_take L.F__law_take.kp L.b__law_take .nil pass0 (pa_cons (pv 0) (pa_cons (pe_callB call_len_seq (by rfl) B.len PySem.boot_len (pa_cons (pv 2) pa_nil)) pa_nil))))
    (pss_one (ps_asg (pe_op op_sub (pe_op op_mod (pe_op op_add (pe_op op_add (pe_op op_add (pe_ix ix_list (pv 2) (pv 3) (fun _ _ => rfl)) pe_int) (pe_call G__law_take hr (by rfl) L.m__law_take L.F__law_take.kp L.b__law_take .nil pass0 (pa_cons (pv 0) (pa_cons pe_int pa_nil)))) pe_int) pe_int) pe_int) (pg_sub (pv 2) (pv 3) set_list)))) pss_nil)
    (pss_one (ps_ret (pv 2))))), ?_⟩
  refine ⟨_, rfl, SX.S cs, rfl, fun D nD => ?_⟩
  have nDb : D ≠ b := (hB.ne nD).symm
  refine lc_it (walk_S (x := cs)) (fun j H7 => Keep b H H7 ∧ BoxAt (c + j) H7 b ∧ ∃ l : List Int, l.length = j ∧ DgL l ∧ H7 D = some (.lst (l.map V.int))) ⟨Keep.new nD, (hB.same (same_upd nD)).mono (by omega), [], rfl, (fun _ z => nomatch z), upd_same⟩ (fun _ _ _ _ => trivial) ?_ ?_
  · rintro j v H7 H7' hj ⟨k7, B7, l, ll, sl, eD⟩ ⟨rfl, a, ha, rfl⟩
    have sa := hcs a (List.mem_of_getElem? ha)
    refine ⟨rfl, yesT ?_⟩
    intro W nW
    have nWb : W ≠ b := (B7.ne nW).symm
    refine ⟨_, rfl, upd_same, KV25, rfl, by decide, ?_⟩
    have sW := same_dsp (k1 := []) (k2 := mergeK [] KV25) nW
    refine ⟨W, rfl, .inl ⟨_, .inl upd_same⟩, _, rfl, ?_⟩
    refine ⟨_, rfl, b, _, _, rfl, B7.same sW, (by decide), (by decide), (by decide), (by omega), (by decide), fun r H8 u0 u1 B8 k8 => ?_⟩
    replace B8 := bx1 B8
    have eW := k8 _ _ upd_same nWb
    have eD8 := k8 _ _ (sW _ _ eD) nDb
    obtain ⟨d, hd, ed⟩ : ∃ d ∈ D3, (valV (mergeK [] KV25) (.inr (SX.S [a]))).getD (.int (r - 1)) = .int d := by
      rw [dget25 a sa]
      by_cases c6 : a = 46
      · rw [if_pos c6]
        exact ⟨r - 1, d3_of (by omega) (by omega), rfl⟩
      · rw [if_neg c6]
        exact ⟨lo a, lo_d3 a, rfl⟩
    refine ⟨_, _, rfl, rfl, _, .inl ⟨_, .inr (SX.S [a]), .inl eW, rfl, rfl⟩, ?_⟩
    refine ⟨_, eD8, ?_, fun x u e n => ?_, BoxAt.mono (B8.at (upd_ne nDb.symm)) (by omega), l ++ [d], by rw [List.length_append, ll]; rfl, dg_snoc sl hd, ?_⟩
    · rw [List.length_map]
      exact small1000 (by omega)
    · rw [upd_ne (ne_of_none e nD)]
      exact k8 _ _ (sW _ _ (k7 _ _ e n)) n
    · rw [upd_same, ed, List.map_append]
      rfl
  rintro H7 ⟨k7, B7, l, ll, sl, eD⟩
  refine ⟨_, rfl, b, _, _, rfl, B7, (by decide), (by decide), (by decide), (by omega), (by decide), fun r H8 u0 u1 B8 k8 => ?_⟩
  replace B8 := bx1 B8
  have eD8 := k8 _ _ eD nDb
  refine ⟨rfl, _, rfl, ite2 (fun cc => ?_) (fun cc => ?_)⟩
  · refine ⟨_, rfl, _, rfl, D, _, rfl, .inl (SqL.of eD8), ?_⟩
    rw [List.length_map, ll]
    refine ⟨b, _, _, rfl, B8, (by omega), (by omega), (by omega), (by omega), (by decide), fun r2 H9 v0 v1 B9 k9 => ?_⟩
    replace B9 := bx1 B9
    have eD9 := k9 _ _ eD8 nDb
    obtain ⟨n, en⟩ : ∃ n : Nat, r2 = (n : Int) := ⟨r2.toNat, by omega⟩
    subst en
    have hn : n < l.length := by omega
    obtain ⟨a, ea⟩ : ∃ a, l[n]? = some a := ⟨l[n], List.getElem?_eq_getElem hn⟩
    have ha := sl a (List.mem_of_getElem? ea)
    have hat : atI (l.map V.int) (n : Int) = some (.int a) := atI_nat (by rw [List.getElem?_map, ea]; rfl)
    refine ⟨_, rfl, _, rfl, D, _, _, _, rfl, rfl, SqL.of eD9, hat, _, _, rfl, rfl, ?_⟩
    refine ⟨_, rfl, b, _, _, rfl, B9, (by decide), (by decide), (by decide), (by omega), (by decide), fun r3 H10 w0 w1 B10 k10 => ?_⟩
    replace B10 := bx1 B10
    have eD10 := k10 _ _ eD9 nDb
    refine ⟨_, _, rfl, rfl, _, _, rfl, rfl, _, _, rfl, rfl, (by show (0 : Int) < 3; decide), _, _, rfl, rfl, ?_⟩
    refine ⟨_, rfl, _, rfl, D, _, _, n, rfl, rfl, eD10, ?_, ?_⟩
    · rw [List.length_map]
      exact ixN_nat hn
    have hm0 := Int.emod_nonneg (a + 1 + r3 + 1) (b := 3) (by decide)
    have hm1 := Int.emod_lt_of_pos (a + 1 + r3 + 1) (b := 3) (by decide)
    have eU : (upd H10 D (.lst ((l.map V.int).set n (.int ((a + 1 + r3 + 1) % 3 - 1))))) D = some (.lst ((l.set n ((a + 1 + r3 + 1) % 3 - 1)).map V.int)) := by
      rw [upd_same, List.map_set]
    refine ⟨_, rfl, q D _ _ nD nDb (by rw [List.length_set]; exact ll) (dg_set sl (d3_of (by omega) (by omega))) eU (BoxAt.mono (B10.at (upd_ne nDb.symm)) (by omega)) fun y u e ny => ?_⟩
    rw [upd_ne (ne_of_none e nD)]
    exact k10 _ _ (k9 _ _ (k8 _ _ (k7 _ _ e ny) ny) ny) ny
  · exact ⟨_, rfl, q D l _ nD nDb ll sl eD8 (B8.mono (by omega)) (k7.trans k8)⟩
end
section
variable {P : Program} {w : World} {K : PySem.W.Frag} {mg : Str → Option Value} {base : Heap}
variable {a1 a2 a3 a4 a5 a6 a7 a8 a9 a10 a11 : Addr} {l1 l2 l3 l4 l5 l6 l7 l8 l9 l10 l11 : FuncData} {dF tA tB tC tD : Addr} {esF : Array DictEntry} {nF : Nat}
theorem at6 {r : Int} (h0 : 0 ≤ r) (h1 : r < 6) : ∃ c, atI (Str.ofString "+0-...").cps.toList r = some c ∧ c ∈ C4 := by
  have : r = 0 ∨ r = 1 ∨ r = 2 ∨ r = 3 ∨ r = 4 ∨ r = 5 := by omega
  rcases this with z | z | z | z | z | z <;> subst z
  · exact ⟨43, by decide +kernel, by decide⟩
  · exact ⟨48, by decide +kernel, by decide⟩
  · exact ⟨45, by decide +kernel, by decide⟩
  · exact ⟨46, by decide +kernel, by decide⟩
  · exact ⟨46, by decide +kernel, by decide⟩
  · exact ⟨46, by decide +kernel, by decide⟩
theorem ln6 : (Str.ofString "+0-...").length ≤ sizeLine := by decide +kernel
theorem get_lo : ∀ c ∈ C4, (valV (mergeK [] KV25) (.inr (SX.S [c]))).getD (.int (-1)) = .int (lo c) := by decide +kernel
theorem get_hi : ∀ c ∈ C4, (valV (mergeK [] KV25) (.inr (SX.S [c]))).getD (.int 1) = .int (hi c) := by decide +kernel
theorem cs_snoc {l : List Nat} {c : Nat} (h : CsL l) (hc : c ∈ C4) : CsL (l ++ [c]) := fun d hd => by
  rcases List.mem_append.mp hd with z | z
  · exact h d z
  · rw [List.mem_singleton.mp z]
    exact hc
theorem lohi : ∀ c ∈ C4, ∀ d ∈ D3, fit1 c d = true → lo c ≤ d ∧ d ≤ hi c := by decide +kernel
theorem fit_lo : ∀ c ∈ C4, fit1 c (lo c) = true ∧ fit1 c (hi c) = true := by decide +kernel
theorem fit_bounds : ∀ (cs : List Nat) (ds : List Int), cs.length = ds.length → CsL cs → DgL ds → fitb cs ds = true → GM.wv (cs.map lo) ≤ GM.wv ds ∧ GM.wv ds ≤ GM.wv (cs.map hi)
  | [], [], _, _, _, _ => ⟨Int.le_refl _, Int.le_refl _⟩
  | c :: cs, d :: ds, hl, hc, hd, hf => by
    have hf2 : (fit1 c d && fitb cs ds) = true := hf
    rw [Bool.and_eq_true] at hf2
    obtain ⟨i1, i2⟩ := fit_bounds cs ds (Nat.succ.inj hl) (fun x hx => hc x (List.mem_cons_of_mem _ hx)) (fun x hx => hd x (List.mem_cons_of_mem _ hx)) hf2.2
    obtain ⟨b1, b2⟩ := lohi c (hc c List.mem_cons_self) d (hd d List.mem_cons_self) hf2.1
    show lo c * 2 ^ (cs.map lo).length + GM.wv (cs.map lo) ≤ d * 2 ^ ds.length + GM.wv ds ∧ d * 2 ^ ds.length + GM.wv ds ≤ hi c * 2 ^ (cs.map hi).length + GM.wv (cs.map hi)
    rw [List.length_map, List.length_map, Nat.succ.inj hl]
    have p := GM.pow_pos' ds.length
    have m1 := Int.mul_le_mul_of_nonneg_right b1 (Int.le_of_lt p)
    have m2 := Int.mul_le_mul_of_nonneg_right b2 (Int.le_of_lt p)
    omega
theorem fit_los : ∀ (cs : List Nat), CsL cs → fitb cs (cs.map lo) = true ∧ fitb cs (cs.map hi) = true
  | [], _ => ⟨rfl, rfl⟩
  | c :: cs, hc => by
    obtain ⟨i1, i2⟩ := fit_los cs (fun x hx => hc x (List.mem_cons_of_mem _ hx))
    obtain ⟨b1, b2⟩ := fit_lo c (hc c List.mem_cons_self)
    refine ⟨?_, ?_⟩
    · show (fit1 c (lo c) && fitb cs (cs.map lo)) = true
      rw [b1, i1]
      rfl
    · show (fit1 c (hi c) && fitb cs (cs.map hi)) = true
      rw [b2, i2]
      rfl
theorem dg_lo (cs : List Nat) : DgL (cs.map lo) ∧ DgL (cs.map hi) := by
  refine ⟨fun d hd => ?_, fun d hd => ?_⟩
  · obtain ⟨c, _, rfl⟩ := List.mem_map.mp hd
    exact lo_d3 c
  · obtain ⟨c, _, rfl⟩ := List.mem_map.mp hd
    exact hi_d3 c
theorem lv_two25 (a b : Int) : Lv 1 (.tuple [.int a, .int b]) := by
  refine ⟨by show 2 ≤ 1000000; decide, fun d hd => ?_⟩
  rcases List.mem_cons.mp hd with z | hd
  · subst z
    trivial
  rcases List.mem_cons.mp hd with z | hd
  · subst z
    trivial
  · cases hd
def spRight : Sp := fun vs H Q _ => ∃ (b : Addr) (c : Int), vs = [.ref b] ∧ BoxAt c H b ∧ c ≤ 700000000 ∧
  ∀ (H' : Hp), BoxAt (c + 400) H' b → Keep b H H' → Q (.bl true) H'
theorem ok__law_right (B : Bl mg) (L : LL K mg a1 a2 a3 a4 a5 a6 a7 a8 a9 a10 a11 l1 l2 l3 l4 l5 l6 l7 l8 l9 l10 l11 w dF esF nF tA tB tC tD) : FnOk P w K mg base CX0 12 a11 l11 ["_law_box_here"] spRight := by
  have G__law_take : FnOk P w K mg base CX0 11 a5 l5 ["_law_box_here", "_law_size"] (spTake 1) := (ok_take L.F__law_take L.b__law_take L.m__law_take B 1).mono (by decide)
  have G__law_worth : FnOk P w K mg base CX0 11 a8 l8 ["_law_digits"] (spWorth K) := (ok__law_worth B L).mono (by decide)
  have G__law_case_fits : FnOk P w K mg base CX0 11 a9 l9 ["_law_case", "_law_digits"] (spCf K) := (ok__law_case_fits B L).mono (by decide)
  have G__law_fitting : FnOk P w K mg base CX0 11 a10 l10 ["_law_box_here", "_law_case"] (spFitting K) := (ok__law_fitting B L).mono (by decide)
  have G_fits : FnOk P w K mg base CX0 11 a2 l2 ["case", "digits"] (spFits K) := (ok_fits B L).mono (by decide)
  have G_spread : FnOk P w K mg base CX0 11 a3 l3 ["case"] spSpread := (ok_spread B L).mono (by decide)
  have G__law_same : FnOk P w K mg base CX0 11 a7 l7 ["_law_found", "_law_due"] (spSame K 2) := (ok_same L.F__law_same L.b__law_same L.m__law_same B 2).mono (by decide)
  refine L.F__law_right.ok sc__law_right (fun vs H Q E h => ?_) (fun cdv A outer s H vs Q E hr h => ?_)
  · obtain ⟨b, c, rfl, _⟩ := h
    rfl
  obtain ⟨b, c, rfl, hB, hc, q⟩ := h
  refine ⟨_, (pss_cons (ps_set (i := 1) sc__law_right.nd rfl (.inr rfl) (pe_call G__law_take hr (by rfl) L.m__law_take L.F__law_take.kp L.b__law_take .nil pass0 (pa_cons (pv 0) (pa_cons pe_int pa_nil))))
    (pss_cons (ps_set (i := 2) sc__law_right.nd rfl (.inl rfl) (pe_bm PySem.F.plainAttrs_str PySem.F.slot_str_join PySem.F.type_str_join mt_join pe_str (pa_cons (pe_lc (own := [("_law_turn", 5)]) (by rfl) sc__law_right.nd (pi_range1 (by rfl) B.range (pa_cons (pe_op op_add pe_int (pe_call G__law_take hr (by rfl) L.m__law_take L.F__law_take.kp L.b__law_take .nil pass0 (pa_cons (pv 0) (pa_cons pe_int pa_nil)))) pa_nil)) (blkOk_by (own := [("_law_turn", 5)]) (N := ["_law_box_here", "_law_few", "_law_case", "_law_least", "_law_greatest", "_law_turn", "_law_digits", "_law_handed", "_law_sign"]) (sc := defScope s__law_right) (by decide +kernel)) (fun _ _ _ _ _ => pg_name (i := 5) sc__law_right.nd rfl (Or.inl rfl)) (fun _ _ _ _ _ => pts_nil) (fun _ _ _ _ _ => (pe_ix ix_str pe_str (pe_call G__law_take hr (by rfl) L.m__law_take L.F__law_take.kp L.b__law_take .nil pass0 (pa_cons (pv 0) (pa_cons (pe_ix (ix_listK (K := K)) (pe_lst (pa_cons pe_int (pa_cons pe_int (pa_cons pe_int pa_nil)))) (pv 1) (fun _ _ => rfl)) pa_nil))) (fun _ _ => rfl)))) pa_nil)))
    (pss_cons (ps_setLc (i := 3) (own := [("_law_sign", 8)]) (by rfl) sc__law_right.nd rfl rfl (sw_true rfl rfl rfl (by decide +kernel)) (pi_str (pv 2)) (blkOk_by (own := [("_law_sign", 8)]) (N := ["_law_box_here", "_law_few", "_law_case", "_law_least", "_law_greatest", "_law_turn", "_law_digits", "_law_handed", "_law_sign"]) (sc := defScope s__law_right) (by decide +kernel)) (fun _ _ _ _ _ => pg_name (i := 8) sc__law_right.nd rfl (Or.inl rfl)) (fun _ _ _ _ _ => pts_nil) (fun _ _ _ _ _ => (pe_dget2 (units1 hr) (pe_disp (pps_cons pe_str pe_int (pps_cons pe_str pe_int (pps_cons pe_str (pe_un un_neg pe_int) pps_nil))) rfl rfl (by decide) (by decide)) (pv 8) (pe_un un_neg pe_int) ⟨rfl, rfl, rfl, rfl⟩)))
    (pss_cons (ps_setLc (i := 4) (own := [("_law_sign", 8)]) (by rfl) sc__law_right.nd rfl rfl (sw_true rfl rfl rfl (by decide +kernel)) (pi_str (pv 2)) (blkOk_by (own := [("_law_sign", 8)]) (N := ["_law_box_here", "_law_few", "_law_case", "_law_least", "_law_greatest", "_law_turn", "_law_digits", "_law_handed", "_law_sign"]) (sc := defScope s__law_right) (by decide +kernel)) (fun _ _ _ _ _ => pg_name (i := 8) sc__law_right.nd rfl (Or.inl rfl)) (fun _ _ _ _ _ => pts_nil) (fun _ _ _ _ _ => (pe_dget2 (units1 hr) (pe_disp (pps_cons pe_str pe_int (pps_cons pe_str pe_int (pps_cons pe_str (pe_un un_neg pe_int) pps_nil))) rfl rfl (by decide) (by decide)) (pv 8) pe_int ⟨rfl, rfl, rfl, rfl⟩)))
    (pss_cons (ps_if (pt_not (pt_val (pe_call G__law_same hr (by rfl) L.m__law_same L.F__law_same.kp L.b__law_same .nil pass0 (pa_cons (pe_call G_spread hr (by rfl) L.m_spread L.F_spread.kp L.b_spread .nil pass0 (pa_cons (pv 2) pa_nil)) (pa_cons (pe_tup (pa_cons (pe_call G__law_worth hr (by rfl) L.m__law_worth L.F__law_worth.kp L.b__law_worth .nil pass0 (pa_cons (pv 3) pa_nil)) (pa_cons (pe_call G__law_worth hr (by rfl) L.m__law_worth L.F__law_worth.kp L.b__law_worth .nil pass0 (pa_cons (pv 4) pa_nil)) pa_nil))) pa_nil))))) (pss_one (ps_ret pe_bl)) pss_nil)
    (pss_cons (ps_for PassesOwn.never rfl (pi_range1 (by rfl) B.range (pa_cons pe_int pa_nil)) (pg_name (i := 5) sc__law_right.nd rfl (.inl rfl)) (pss_cons (ps_set (i := 6) sc__law_right.nd rfl (.inl rfl) (pe_ix ix_list (pe_lst (pa_cons (pe_call G__law_fitting hr (by rfl) L.m__law_fitting L.F__law_fitting.kp L.b__law_fitting .nil pass0 (pa_cons (pv 0) (pa_cons (pv 2) pa_nil))) (pa_cons (pv 3) (pa_cons (pv 4) pa_nil)))) (pe_op op_mul (pe_op op_mod (pv 5) pe_int) (pe_callTy call_int1 (by rfl) B.int PyProof.Rows.boot_int (pa_cons (pe_cmpR op_gt (pv 5) pe_int (nomark _)) pa_nil))) (fun _ _ => rfl)))
    (pss_cons (ps_set (i := 7) sc__law_right.nd rfl (.inl rfl) (pe_ix ix_list (pe_lst (pa_cons (pe_callTy call_list_of (by rfl) B.list PyProof.Rows.boot_list (pa_cons (pv 6) pa_nil)) (pa_cons (pe_callTy call_tuple_of (by rfl) B.tuple PyProof.Rows.boot_tuple (pa_cons (pv 6) pa_nil)) pa_nil))) (pe_call G__law_take hr (by rfl) L.m__law_take L.F__law_take.kp L.b__law_take .nil pass0 (pa_cons (pv 0) (pa_cons pe_int pa_nil))) (fun _ _ => rfl)))
    (pss_cons (ps_if (PW.pt (pw_or (pt_not (pt_val (pe_call G__law_same hr (by rfl) L.m__law_same L.F__law_same.kp L.b__law_same .nil pass0 (pa_cons (pe_call G_fits hr (by rfl) L.m_fits L.F_fits.kp L.b_fits .nil pass0 (pa_cons (pv 2) (pa_cons (pv 7) pa_nil))) (pa_cons (pe_call G__law_case_fits hr (by rfl) L.m__law_case_fits L.F__law_case_fits.kp L.b__law_case_fits .nil pass0 (pa_cons (pv 2) (pa_cons (pv 6) pa_nil))) pa_nil))))) (pw_or1 (pt_cmpR (op_neD hr.units) (pe_callTy call_list_of (by rfl) B.list PyProof.Rows.boot_list (pa_cons (pv 7) pa_nil)) (pv 6) (nomark _))))) (pss_one (ps_ret pe_bl)) pss_nil)
    (pss_one (ps_if (PW.pt (pw_and (pt_val (pe_call G_fits hr (by rfl) L.m_fits L.F_fits.kp L.b_fits .nil pass0 (pa_cons (pv 2) (pa_cons (pv 7) pa_nil)))) (pw_and1 (pt_not (pt_chain op_le op_le (pe_ix ix_tup (pe_call G_spread hr (by rfl) L.m_spread L.F_spread.kp L.b_spread .nil pass0 (pa_cons (pv 2) pa_nil)) pe_int (fun _ _ => rfl)) (pe_call G__law_worth hr (by rfl) L.m__law_worth L.F__law_worth.kp L.b__law_worth .nil pass0 (pa_cons (pv 6) pa_nil)) (pe_ix ix_tup (pe_call G_spread hr (by rfl) L.m_spread L.F_spread.kp L.b_spread .nil pass0 (pa_cons (pv 2) pa_nil)) pe_int (fun _ _ => rfl))))))) (pss_one (ps_ret pe_bl)) pss_nil))))))
    (pss_one (ps_ret (pe_and (pe_cmpR op_isB (pe_call G_fits hr (by rfl) L.m_fits L.F_fits.kp L.b_fits .nil pass0 (pa_cons (pv 2) (pa_cons (pv 3) pa_nil))) pe_bl (nomark _)) (pe_one (pe_cmpR op_isB (pe_call G_fits hr (by rfl) L.m_fits L.F_fits.kp L.b_fits .nil pass0 (pa_cons (pv 2) (pa_cons (pv 4) pa_nil))) pe_bl (nomark _)))))))))))), ?_⟩
  refine ⟨_, rfl, b, _, _, rfl, hB, (by decide), (by decide), (by decide), (by omega), (by decide), fun r1 H1 u0 u1 B1 k1 => ?_⟩
  replace B1 := bx1 B1
  refine ⟨rfl, _, rfl, b, _, _, rfl, B1, (by decide), (by decide), (by decide), (by omega), (by decide), fun r2 H2 v0 v1 B2 k2 => ?_⟩
  replace B2 := bx1 B2
  obtain ⟨m, em⟩ : ∃ m : Nat, 1 + r2 = (m : Int) := ⟨(1 + r2).toNat, by omega⟩
  have m0 : 0 < m := by omega
  have m1 : m ≤ 8 := by omega
  refine ⟨_, _, rfl, rfl, ?_⟩
  refine ⟨(m : Int), congrArg (fun z => [V.int z]) em, by omega, by omega, fun D nD => ?_⟩
  have nDb : D ≠ b := (B2.ne nD).symm
  rw [Int.toNat_natCast]
  simp only [L2.start, List.map_cons, List.map_nil, List.length_cons, List.length_nil, List.replicate_succ, List.replicate_zero, List.cons_append, List.nil_append, List.set_cons_succ, List.set_cons_zero, Nat.reduceAdd, Nat.reduceSub, Nat.zero_add]
  refine lc_range (n := m) (fun j H7 => Keep b H2 H7 ∧ BoxAt (c + 1 + 1 + j) H7 b ∧ ∃ l : List Nat, l.length = j ∧ CsL l ∧ H7 D = some (.lst (s1s l))) ⟨Keep.new nD, (B2.same (same_upd nD)).mono (by omega), [], rfl, (fun _ z => nomatch z), upd_same⟩ ?_ ?_
  · rintro j H7 hj ⟨k7, B7, l, ll, sl, eD⟩
    refine ⟨rfl, yesT ?_⟩
    refine ⟨_, rfl, (by show 3 ≤ sizeLine; decide), fun U nU => ?_⟩
    have sU := same_upd (o := .lst [.int 3, .int 6, .int 4]) nU
    obtain ⟨n, en, n1, n2⟩ : ∃ n : Int, atI ([.int 3, .int 6, .int 4] : List V) r1 = some (.int n) ∧ 3 ≤ n ∧ n ≤ 6 := by
      have : r1 = 0 ∨ r1 = 1 ∨ r1 = 2 := by omega
      rcases this with z | z | z <;> subst z
      · exact ⟨3, rfl, by decide, by decide⟩
      · exact ⟨6, rfl, by decide, by decide⟩
      · exact ⟨4, rfl, by decide, by decide⟩
    refine ⟨_, rfl, U, _, _, _, rfl, rfl, SqL.of upd_same, en, b, _, _, rfl, B7.same sU, (by omega), (by omega), (by omega), (by omega), (by decide), fun r H8 w0 w1 B8 k8 => ?_⟩
    replace B8 := bx1 B8
    obtain ⟨d, ed, hd⟩ := at6 w0 (by omega)
    refine ⟨_, _, d, rfl, rfl, ln6, ed, ?_⟩
    refine ⟨_, k8 _ _ (sU _ _ eD) nDb, ?_, fun x u e n => ?_, BoxAt.mono (B8.at (upd_ne nDb.symm)) (by omega), l ++ [d], by rw [List.length_append, ll]; rfl, cs_snoc sl hd, ?_⟩
    · rw [s1s_len]
      exact small1000 (by omega)
    · rw [upd_ne (ne_of_none e nD)]
      exact k8 _ _ (sU _ _ (k7 _ _ e n)) n
    · rw [upd_same]
      exact congrArg (fun z => some (HO.lst z)) (s1s_snoc l d)
  rintro H7 ⟨k7, B7, cs, ll, hcs, eD⟩
  refine ⟨_, D, _, rfl, rfl, .inl (SqL.of eD), join_z cs (by omega), ?_⟩
  rw [join_1]
  have kA : Keep b H H7 := k1.trans (k2.trans k7)
  clear k7 k2 k1 B1 B2 hB
  obtain ⟨dlo, dhi⟩ := dg_lo cs
  refine ⟨_, rfl, SX.S cs, rfl, fun M1 nM1 => ?_⟩
  refine lc_it (walk_S (x := cs)) (fun i Hq => Same H7 Hq ∧ Hq M1 = some (.lst (((cs.map lo).take i).map V.int))) ⟨same_upd nM1, upd_same⟩ (fun _ _ _ _ => trivial) ?_ ?_
  · rintro i v H8 H8' hi' ⟨s8, e8⟩ ⟨rfl, a, ec, rfl⟩
    have h4 := hcs a (List.mem_of_getElem? ec)
    refine ⟨rfl, yesT ?_⟩
    intro W nW
    refine ⟨_, rfl, upd_same, KV25, rfl, by decide, ?_⟩
    have sW := same_dsp (k1 := []) (k2 := mergeK [] KV25) nW
    refine ⟨W, rfl, .inl ⟨_, .inl upd_same⟩, _, rfl, _, rfl, _, .inl ⟨_, .inr (SX.S [a]), .inl upd_same, rfl, rfl⟩, ?_⟩
    refine ⟨_, sW _ _ e8, ?_, fun b u e => ?_, ?_⟩
    · rw [List.length_map, List.length_take]
      exact Nat.lt_of_le_of_lt (Nat.min_le_left _ _) (small1000 (by omega))
    · rw [upd_ne (ne_of_none e nM1)]
      exact sW _ _ (s8 _ _ e)
    · rw [upd_same, get_lo a h4, snoc_take (cs.map lo) V.int (a := lo a) (by rw [List.getElem?_map, ec]; rfl)]
  rintro H8 ⟨s8, eL1⟩
  rw [List.take_of_length_le (by rw [List.length_map]; exact Nat.le_refl _)] at eL1
  refine ⟨_, rfl, SX.S cs, rfl, fun M2 nM2 => ?_⟩
  refine lc_it (walk_S (x := cs)) (fun i Hq => Same H8 Hq ∧ Hq M2 = some (.lst (((cs.map hi).take i).map V.int))) ⟨same_upd nM2, upd_same⟩ (fun _ _ _ _ => trivial) ?_ ?_
  · rintro i v H8 H8' hi' ⟨s8, e8⟩ ⟨rfl, a, ec, rfl⟩
    have h4 := hcs a (List.mem_of_getElem? ec)
    refine ⟨rfl, yesT ?_⟩
    intro W nW
    refine ⟨_, rfl, upd_same, KV25, rfl, by decide, ?_⟩
    have sW := same_dsp (k1 := []) (k2 := mergeK [] KV25) nW
    refine ⟨W, rfl, .inl ⟨_, .inl upd_same⟩, _, rfl, _, .inl ⟨_, .inr (SX.S [a]), .inl upd_same, rfl, rfl⟩, ?_⟩
    refine ⟨_, sW _ _ e8, ?_, fun b u e => ?_, ?_⟩
    · rw [List.length_map, List.length_take]
      exact Nat.lt_of_le_of_lt (Nat.min_le_left _ _) (small1000 (by omega))
    · rw [upd_ne (ne_of_none e nM2)]
      exact sW _ _ (s8 _ _ e)
    · rw [upd_same, get_hi a h4, snoc_take (cs.map hi) V.int (a := hi a) (by rw [List.getElem?_map, ec]; rfl)]
  rintro H9 ⟨s9, eL2⟩
  rw [List.take_of_length_le (by rw [List.length_map]; exact Nat.le_refl _)] at eL2
  have eL1' := s9 _ _ eL1
  refine gset_if2 ?_
  simp only [L2.start, List.map_cons, List.map_nil, List.length_cons, List.length_nil, List.replicate_succ, List.replicate_zero, List.cons_append, List.nil_append, List.set_cons_succ, List.set_cons_zero, Nat.reduceAdd, Nat.reduceSub, Nat.zero_add]
  refine ⟨_, rfl, cs, rfl, by omega, hcs, fun p H10 s10 ep => ?_⟩
  have eL1b := s10 _ _ eL1'
  have eL2b := s10 _ _ eL2
  refine ⟨_, rfl, M1, _, rfl, SqL.of eL1b, by rw [List.length_map]; omega, dlo, fun H11 s11 => ?_⟩
  refine ⟨_, rfl, M2, _, rfl, SqL.of (s11 _ _ eL2b), by rw [List.length_map]; omega, dhi, fun H12 s12 => ?_⟩
  refine ⟨(by show 2 ≤ sizeLine; decide), fun p2 np2 => ?_⟩
  have sp2 := same_upd (o := .tup [.int (GM.wv (cs.map lo)), .int (GM.wv (cs.map hi))]) np2
  refine ⟨_, _, .tuple [.int (GM.wv (cs.map lo)), .int (GM.wv (cs.map hi))], 1, rfl, rfl, lv_two25 _ _, .tup (.inl (.inl (sp2 _ _ (s12 _ _ (s11 _ _ ep))))) (.cons (.int _) (.cons (.int _) .nil)), .tup (.inl (.inl upd_same)) (.cons (.int _) (.cons (.int _) .nil)), fun H13 s13 => ?_⟩
  refine ⟨_, rfl, iteF ?_⟩
  have sC : Same H9 H13 := s10.trans (s11.trans (s12.trans (sp2.trans s13)))
  have B13 := B7.same (s8.trans (s9.trans sC))
  have k13 : Keep b H H13 := kA.trans (Keep.ofSame (s8.trans (s9.trans sC)))
  have e1 := sC _ _ eL1'
  have e2 := sC _ _ eL2
  have nL1b : M1 ≠ b := (B7.ne nM1).symm
  have nL2b : M2 ≠ b := ((B7.same s8).ne nM2).symm
  clear s13 sp2 np2 s12 s11 ep s10 eL1b eL2b
  refine ⟨6, rfl, by decide, by decide, ?_⟩
  refine for_range (n := 6) (fun i σ Hq => ∃ y5 y6 y7 : Option V, σ = [some (.ref b), some (.int r1), some (.str (SX.S cs)), some (.ref M1), some (.ref M2), y5, y6, y7, none] ∧ BoxAt (c + 1 + 1 + m + i * (m + 5)) Hq b ∧ Keep b H13 Hq) ⟨none, none, none, rfl, B13.mono (by omega), Keep.refl _ _⟩ ?_ ?_
  · rintro i σ Hq hi' ⟨y5, y6, y7, rfl, Bq, kq⟩
    have him : (i : Int) * (m + 5) ≤ 5 * (8 + 5) := Int.mul_le_mul (by omega) (by omega) (by omega) (by omega)
    refine ⟨_, rfl, _, rfl, b, cs, _, rfl, Bq, by omega, by omega, by omega, hcs, fun F ds0 H14 nF nFb lds dg0 eF B14 k14 => ?_⟩
    have f1 := k14 _ _ (kq _ _ e1 nL1b) nL1b
    have f2 := k14 _ _ (kq _ _ e2 nL2b) nL2b
    refine ⟨_, rfl, _, rfl, (by show 3 ≤ sizeLine; decide), fun U nU => ?_⟩
    have sU := same_upd (o := .lst [.ref F, .ref M1, .ref M2]) nU
    obtain ⟨G, ds, eG, eds, lds2, dgs, nGb⟩ : ∃ (G : Addr) (ds : List Int), atI ([.ref F, .ref M1, .ref M2] : List V) ((0 + (i : Int)) % 3 * (if decide ((0 + (i : Int)) > 3) = true then 1 else 0)) = some (.ref G) ∧ H14 G = some (.lst (ds.map V.int)) ∧ ds.length = m ∧ DgL ds ∧ G ≠ b := by
      have : i = 0 ∨ i = 1 ∨ i = 2 ∨ i = 3 ∨ i = 4 ∨ i = 5 := by omega
      rcases this with z | z | z | z | z | z <;> subst z
      · exact ⟨F, ds0, rfl, eF, by omega, dg0, nFb⟩
      · exact ⟨F, ds0, rfl, eF, by omega, dg0, nFb⟩
      · exact ⟨F, ds0, rfl, eF, by omega, dg0, nFb⟩
      · exact ⟨F, ds0, rfl, eF, by omega, dg0, nFb⟩
      · exact ⟨M1, cs.map lo, rfl, f1, by rw [List.length_map]; exact ll, dlo, nL1b⟩
      · exact ⟨M2, cs.map hi, rfl, f2, by rw [List.length_map]; exact ll, dhi, nL2b⟩
    refine ⟨_, rfl, _, _, rfl, rfl, (by show (0 : Int) < 3; decide), _, rfl, _, _, rfl, rfl, .inr ⟨_, rfl, _, _, rfl, rfl, ?_, U, _, _, _, rfl, rfl, SqL.of upd_same, eG, ?_⟩⟩
    · exact .inl ⟨by omega, by omega⟩
    refine gset_asg98 ?_
    simp only [L2.start, List.map_cons, List.map_nil, List.length_cons, List.length_nil, List.replicate_succ, List.replicate_zero, List.cons_append, List.nil_append, List.set_cons_succ, List.set_cons_zero, Nat.reduceAdd, Nat.reduceSub, Nat.zero_add]
    have eds1 := sU _ _ eds
    refine ⟨_, rfl, G, _, rfl, .inl (SqL.of eds1), fun h1 nh1 => ?_⟩
    have sh1 := same_upd (o := .lst (ds.map V.int)) nh1
    have eds2 := sh1 _ _ eds1
    refine ⟨_, rfl, G, _, rfl, .inl ⟨SqL.of eds2, fun h2 nh2 => ?_⟩⟩
    have sh2 := same_upd (o := .tup (ds.map V.int)) nh2
    have eh1 := sh2 _ _ (upd_same (H := upd H14 U (.lst [.ref F, .ref M1, .ref M2])) (a := h1) (o := .lst (ds.map V.int)))
    refine ⟨(by show 2 ≤ sizeLine; decide), fun U2 nU2 => ?_⟩
    have sU2 := same_upd (o := .lst [.ref h1, .ref h2]) nU2
    have sAll := sU.trans (sh1.trans (sh2.trans sU2))
    have nU2b : U2 ≠ b := ((B14.same (sU.trans (sh1.trans sh2))).ne nU2).symm
    have nh1b : h1 ≠ b := ((B14.same sU).ne nh1).symm
    have nh2b : h2 ≠ b := ((B14.same (sU.trans sh1)).ne nh2).symm
    have eh1' := sU2 _ _ eh1
    have eh2' := sU2 _ _ (upd_same (H := upd (upd H14 U (.lst [.ref F, .ref M1, .ref M2])) h1 (.lst (ds.map V.int))) (a := h2) (o := .tup (ds.map V.int)))
    refine ⟨_, rfl, b, _, _, rfl, B14.same sAll, (by decide), (by decide), (by decide), (by omega), (by decide), fun r3 H15 x0 x1 B15 k15 => ?_⟩
    replace B15 := bx1 B15
    have eU2 := k15 _ _ upd_same nU2b
    have eG15 := k15 _ _ (sAll _ _ eds) nGb
    have k1415 : Keep b H14 H15 := (Keep.ofSame sAll).trans k15
    obtain ⟨hd, t, ehd, eS⟩ : ∃ (hd : Addr) (t : Bool), atI ([.ref h1, .ref h2] : List V) r3 = some (.ref hd) ∧ SqB K t H15 hd ds := by
      have : r3 = 0 ∨ r3 = 1 := by omega
      rcases this with z | z <;> subst z
      · exact ⟨h1, false, rfl, SqL.of (k15 _ _ eh1' nh1b)⟩
      · exact ⟨h2, true, rfl, .inl (.inl (k15 _ _ eh2' nh2b))⟩
    refine ⟨U2, _, _, _, rfl, rfl, SqL.of eU2, ehd, ?_⟩
    clear eU2 eh1' eh2' eh1 sU2 nU2 sh1 sh2 nh1 nh2 sAll sU nU eG eds1 eds2 nU2b nh1b nh2b ehd
    refine gset_if3 ?_
    refine ifS_ev (fun r H' => r = false ∧ Same H15 H') (fun Q' q' => ?_) (fun H' z => absurd z.1 (by decide)) (fun H' z => ?_)
    · refine ⟨_, rfl, _, rfl, cs, hd, t, ds, rfl, eS, by omega, by omega, hcs, dgs, fun H16 s16 => ?_⟩
      refine ⟨_, rfl, _, rfl, cs, G, ds, rfl, SqL.of (s16 _ _ eG15), by omega, by omega, hcs, fun H17 s17 => ?_⟩
      refine ⟨_, _, .bool (fitb cs ds), 1, rfl, rfl, trivial, .bl _, .bl _, fun H18 s18 => ?_⟩
      have s1518 := s16.trans (s17.trans s18)
      refine ⟨_, rfl, ?_⟩
      refine iteF ?_
      refine ⟨_, rfl, hd, _, rfl, (eS.same s1518).or, fun h3 nh3 => ?_⟩
      have sh3 := same_upd (o := .lst (ds.map V.int)) nh3
      refine ⟨_, rfl, .list (ds.map PyData.int), .list (ds.map PyData.int), .lst (SqL.of upd_same) (dp_ints ds), .lst (SqL.of (sh3 _ _ (s1518 _ _ eG15))) (dp_ints ds), PySem.W.shaped_ints ds, PySem.W.shaped_ints ds, _, rfl, q' _ _ ⟨?_, s1518.trans sh3⟩⟩
      rw [eqv_ints]
      rfl
    obtain ⟨_, s19⟩ := z
    have eS19 := eS.same s19
    have eG19 := s19 _ _ eG15
    dsimp only [tNext]
    refine ifS_ev (fun r H' => r = false ∧ Same H15 H') (fun Q' q' => ?_) (fun H' z => absurd z.1 (by decide)) (fun H' z => ?_)
    · refine ⟨_, rfl, _, rfl, cs, hd, t, ds, rfl, eS19, by omega, by omega, hcs, dgs, fun H20 s20 => ⟨_, rfl, ?_⟩⟩
      by_cases cf : fitb cs ds = true
      · rw [cf]
        obtain ⟨bl, bh⟩ := fit_bounds cs ds (by omega) hcs dgs cf
        refine ⟨_, rfl, cs, rfl, by omega, hcs, fun p3 H21 s21 e3 => ?_⟩
        refine ⟨p3, _, _, _, rfl, rfl, .inl (.inl e3), rfl, ?_⟩
        refine ⟨_, rfl, G, ds, rfl, SqL.of (s21 _ _ (s20 _ _ eG19)), by omega, dgs, fun H22 s22 => ?_⟩
        refine ⟨_, _, rfl, rfl, _, rfl, ?_⟩
        rw [decide_eq_true bl]
        refine ⟨_, rfl, cs, rfl, by omega, hcs, fun p4 H23 s23 e4 => ?_⟩
        refine ⟨p4, _, _, _, rfl, rfl, .inl (.inl e4), rfl, ?_⟩
        refine ⟨_, _, rfl, rfl, _, rfl, ?_⟩
        rw [decide_eq_true bh]
        exact q' _ _ ⟨rfl, s19.trans (s20.trans (s21.trans (s22.trans s23)))⟩
      · rw [Bool.eq_false_iff.mpr cf]
        exact q' _ _ ⟨rfl, s19.trans s20⟩
    obtain ⟨_, s24⟩ := z
    refine ⟨_, _, _, rfl, ?_, (kq.trans k14).trans (k1415.trans (Keep.ofSame s24))⟩
    refine BoxAt.mono (B15.same s24) ?_
    have : ((i + 1 : Nat) : Int) * (m + 5) = i * (m + 5) + (m + 5) := by
      rw [Int.natCast_add, Int.add_mul]
      omega
    rw [this, ll]
    omega
  · rintro σ Hq ⟨y5, y6, y7, rfl, Bq, kq⟩
    have g1 := kq _ _ e1 nL1b
    have g2 := kq _ _ e2 nL2b
    obtain ⟨fl1, fl2⟩ := fit_los cs hcs
    refine ⟨_, rfl, _, rfl, cs, M1, false, cs.map lo, rfl, SqL.of g1, by rw [List.length_map], by rw [List.length_map]; omega, hcs, dlo, fun H20 s20 => ?_⟩
    rw [fl1]
    refine ⟨_, _, rfl, rfl, _, rfl, ?_⟩
    refine ⟨_, rfl, _, rfl, cs, M2, false, cs.map hi, rfl, SqL.of (s20 _ _ g2), by rw [List.length_map], by rw [List.length_map]; omega, hcs, dhi, fun H21 s21 => ?_⟩
    rw [fl2]
    refine ⟨_, _, rfl, rfl, ?_⟩
    have hm6 : ((6 : Nat) : Int) * (m + 5) ≤ 6 * (8 + 5) := Int.mul_le_mul (by omega) (by omega) (by omega) (by omega)
    exact q _ (BoxAt.mono (Bq.same (s20.trans s21)) (by omega)) (k13.trans (kq.trans (Keep.ofSame (s20.trans s21))))
def spLaw (K : PySem.W.Frag) : Sp := fun vs H Q _ => ∃ (a : Addr) (ns : List Int), vs = [.ref a] ∧ SqL K H a (ns.map V.int) ∧ ns.length ≤ 63 ∧ ∀ H', Q (.bl true) H'
theorem ok_law {f : Addr} {fd : FuncData} (F : Fun K "law" "law" s_law f fd) (B : Bl mg) (L : LL K mg a1 a2 a3 a4 a5 a6 a7 a8 a9 a10 a11 l1 l2 l3 l4 l5 l6 l7 l8 l9 l10 l11 w dF esF nF tA tB tC tD) : FnOk P w K mg base CX0 13 f fd ["_law_script"] (spLaw K) := by
  have G__law_folded : FnOk P w K mg base CX0 12 a6 l6 ["_law_script", "_law_size"] (spFolded K) := ok_folded L.F__law_folded B
  have G__law_box : FnOk P w K mg base CX0 12 a4 l4 ["_law_script", "_law_k"] (spBox K) := ok_box L.F__law_box B
  have G__law_right : FnOk P w K mg base CX0 12 a11 l11 ["_law_box_here"] spRight := (ok__law_right B L).mono (by decide)
  refine F.ok sc_law (fun vs H Q E h => ?_) (fun cdv A outer s H vs Q E hr h => ?_)
  · obtain ⟨a, ns, rfl, _⟩ := h
    rfl
  obtain ⟨a, ns, rfl, hS, h63, q⟩ := h
  refine ⟨_, (pss_cons (ps_set (i := 1) sc_law.nd rfl (.inl rfl) (pe_call G__law_folded hr (by rfl) L.m__law_folded L.F__law_folded.kp L.b__law_folded .nil pass0 (pa_cons (pv 0) (pa_cons pe_int pa_nil))))
    (pss_cons (ps_for PassesOwn.never rfl (pi_range1 (by rfl) B.range (pa_cons (pe_callB (call_max2 rfl) (by rfl) B.max boot_max (pa_cons pe_int (pa_cons (pe_callB call_len_seq (by rfl) B.len PySem.boot_len (pa_cons (pv 1) pa_nil)) pa_nil))) pa_nil)) (pg_name (i := 2) sc_law.nd rfl (.inl rfl)) (pss_cons (ps_set (i := 3) sc_law.nd rfl (.inr rfl) (pe_call G__law_box hr (by rfl) L.m__law_box L.F__law_box.kp L.b__law_box .nil pass0 (pa_cons (pv 1) (pa_cons (pv 2) pa_nil))))
    (pss_one (ps_if (pt_not (pt_val (pe_callB (cr_all rfl) (by rfl) B.all boot_all (pa_cons (pe_lc (own := [("_law_turn", 4)]) (by rfl) sc_law.nd (pi_range1 (by rfl) B.range (pa_cons pe_int pa_nil)) (blkOk_by (own := [("_law_turn", 4)]) (N := ["_law_script", "_law_cells", "_law_k", "_law_box_here", "_law_turn"]) (sc := defScope s_law) (by decide +kernel)) (fun _ _ _ _ _ => pg_name (i := 4) sc_law.nd rfl (Or.inl rfl)) (fun _ _ _ _ _ => pts_nil) (fun _ _ _ _ _ => (pe_call G__law_right hr (by rfl) L.m__law_right L.F__law_right.kp L.b__law_right .nil pass0 (pa_cons (pv 3) pa_nil)))) pa_nil)))) (pss_one (ps_ret pe_bl)) pss_nil))))
    (pss_one (ps_ret pe_bl)))), ?_⟩
  refine ⟨_, rfl, a, ns, 4, rfl, hS, h63, by decide, by decide, fun p H1 zs np s1 ep lz => ?_⟩
  have lz2 : zs.length ≤ 4 := by omega
  refine ⟨_, rfl, p, _, rfl, .inl (SqL.of ep), _, _, rfl, ?_⟩
  obtain ⟨n, en, hn⟩ : ∃ n : Nat, (if (((zs.map V.int).length : Nat) : Int) > 1 then (((zs.map V.int).length : Nat) : Int) else 1) = (n : Int) ∧ n ≤ 4 := by
    rw [List.length_map]
    split
    · exact ⟨zs.length, rfl, lz2⟩
    · exact ⟨1, rfl, by decide⟩
  rw [en]
  refine ⟨_, rfl, by omega, by omega, ?_⟩
  rw [Int.toNat_natCast]
  refine for_range (n := n) (fun i σ H5 => ∃ (y2 y3 : Option V), σ = [some (.ref a), some (.ref p), y2, y3, none] ∧ Same H1 H5) ⟨none, none, rfl, Same.refl _⟩ ?_ ?_
  · rintro i σ H5 hi ⟨y2, y3, rfl, s5⟩
    refine ⟨_, rfl, _, rfl, p, zs, _, rfl, SqL.of (s5 _ _ ep), by omega, by omega, fun b H6 nb s6 B6 => ?_⟩
    refine ⟨12, rfl, by decide, by decide, fun D nD => ?_⟩
    have nDb : D ≠ b := (B6.ne nD).symm
    refine lc_range (n := 12) (fun j H7 => Keep b H6 H7 ∧ BoxAt (400 * j) H7 b ∧ H7 D = some (.lst (List.replicate j (.bl true)))) ⟨Keep.new nD, (B6.same (same_upd nD)).mono (by omega), upd_same⟩ ?_ ?_
    · rintro j H7 hj ⟨k7, B7, eD⟩
      refine ⟨rfl, yesT ?_⟩
      refine ⟨_, rfl, b, _, rfl, B7, by omega, fun H8 B8 k8 => ?_⟩
      refine ⟨_, k8 _ _ eD nDb, ?_, fun x u e n => ?_, BoxAt.mono (B8.at (upd_ne nDb.symm)) (by omega), ?_⟩
      · rw [List.length_replicate]
        exact small1000 (by omega)
      · rw [upd_ne (ne_of_none e nD)]
        exact k8 _ _ (k7 _ _ e n) n
      · rw [upd_same, repl_snoc]
    · rintro H7 ⟨k7, B7, eD⟩
      refine ⟨D, List.replicate 12 true, rfl, .inl (.inl (by rw [List.map_replicate]; exact eD)), _, rfl, ?_⟩
      refine iteF ?_
      exact ⟨_, _, rfl, fun x u e => k7 _ _ (s6 _ _ (s5 _ _ e)) (ne_of_none (s5 _ _ e) nb)⟩
  · rintro σ H5 ⟨y2, y3, rfl, s5⟩
    exact q _
end
theorem all_mk {l : PySem.W.OpenLaw} {w : World} {K : PySem.W.Frag} {h : Heap} {mg : Str → Option Value} {fa f1 f2 f3 f4 f5 f6 f7 f8 f9 f10 f11 f12  : Addr} (X : K.In h) (G : h.Ns mainGlobals mg) (hfa : mg "law" = some (.ref fa))
    {od1 an1 od2 an2 od3 an3 od4 an4 od5 an5 od6 an6 od7 an7 od8 an8 od9 an9 od10 an10 od11 an11 od12 an12 : Option Addr} {sl1 sl2 sl3 sl4 sl5 sl6 sl7 sl8 sl9 sl10 sl11 sl12 : Array (Option Value)} {oc1 kV1 dc1 pm1 cd1 ct1 oc2 kV2 dc2 pm2 cd2 ct2 oc3 kV3 dc3 pm3 cd3 ct3 oc4 kV4 dc4 pm4 cd4 ct4 oc5 kV5 dc5 pm5 cd5 ct5 oc6 kV6 dc6 pm6 cd6 ct6 oc7 kV7 dc7 pm7 cd7 ct7 oc8 kV8 dc8 pm8 cd8 ct8 oc9 kV9 dc9 pm9 cd9 ct9 oc10 kV10 dc10 pm10 cd10 ct10 oc11 kV11 dc11 pm11 cd11 ct11 oc12 kV12 dc12 pm12 cd12 ct12 : Value}
    {dF tA tB tC tD : Addr} {esF : Array DictEntry} {nF : Nat} {odA odB odC odD : Option Addr} {slA slB slC slD : Array (Option Value)} {nA nB nC nD : Nat} {uA uB uC uD uE uF : Tok}
    (a1 : PySem.W.nsIn K mainGlobals "worth_of" = some (some (.ref f1))) (l1 : K.lookup f1 = some ⟨oc1, od1, .func (PySem.W.fnOf "worth_of" "worth_of" (defArgs s_worth_of) (defBody s_worth_of) (defScope s_worth_of) .none kV1 dc1 pm1 an1 cd1 ct1), sl1⟩) (c1 : PySem.W.codeIn K cd1 "worth_of" = true) (k1 : PySem.W.keepIn K (.ref f1) = true)
    (a2 : PySem.W.nsIn K mainGlobals "fits" = some (some (.ref f2))) (l2 : K.lookup f2 = some ⟨oc2, od2, .func (PySem.W.fnOf "fits" "fits" (defArgs s_fits) (defBody s_fits) (defScope s_fits) .none kV2 dc2 pm2 an2 cd2 ct2), sl2⟩) (c2 : PySem.W.codeIn K cd2 "fits" = true) (k2 : PySem.W.keepIn K (.ref f2) = true)
    (a3 : PySem.W.nsIn K mainGlobals "spread" = some (some (.ref f3))) (l3 : K.lookup f3 = some ⟨oc3, od3, .func (PySem.W.fnOf "spread" "spread" (defArgs s_spread) (defBody s_spread) (defScope s_spread) .none kV3 dc3 pm3 an3 cd3 ct3), sl3⟩) (c3 : PySem.W.codeIn K cd3 "spread" = true) (k3 : PySem.W.keepIn K (.ref f3) = true)
    (a4 : PySem.W.nsIn K mainGlobals "_law_box" = some (some (.ref f4))) (l4 : K.lookup f4 = some ⟨oc4, od4, .func (PySem.W.fnOf "_law_box" "_law_box" (defArgs sBox) (defBody sBox) (defScope sBox) .none kV4 dc4 pm4 an4 cd4 ct4), sl4⟩) (c4 : PySem.W.codeIn K cd4 "_law_box" = true) (k4 : PySem.W.keepIn K (.ref f4) = true)
    (a5 : PySem.W.nsIn K mainGlobals "_law_take" = some (some (.ref f5))) (l5 : K.lookup f5 = some ⟨oc5, od5, .func (PySem.W.fnOf "_law_take" "_law_take" (defArgs sTake) (defBody sTake) (defScope sTake) .none kV5 dc5 pm5 an5 cd5 ct5), sl5⟩) (c5 : PySem.W.codeIn K cd5 "_law_take" = true) (k5 : PySem.W.keepIn K (.ref f5) = true)
    (a6 : PySem.W.nsIn K mainGlobals "_law_folded" = some (some (.ref f6))) (l6 : K.lookup f6 = some ⟨oc6, od6, .func (PySem.W.fnOf "_law_folded" "_law_folded" (defArgs sFolded) (defBody sFolded) (defScope sFolded) .none kV6 dc6 pm6 an6 cd6 ct6), sl6⟩) (c6 : PySem.W.codeIn K cd6 "_law_folded" = true) (k6 : PySem.W.keepIn K (.ref f6) = true)
    (a7 : PySem.W.nsIn K mainGlobals "_law_same" = some (some (.ref f7))) (l7 : K.lookup f7 = some ⟨oc7, od7, .func (PySem.W.fnOf "_law_same" "_law_same" (defArgs sSame) (defBody sSame) (defScope sSame) .none kV7 dc7 pm7 an7 cd7 ct7), sl7⟩) (c7 : PySem.W.codeIn K cd7 "_law_same" = true) (k7 : PySem.W.keepIn K (.ref f7) = true)
    (a8 : PySem.W.nsIn K mainGlobals "_law_worth" = some (some (.ref f8))) (l8 : K.lookup f8 = some ⟨oc8, od8, .func (PySem.W.fnOf "_law_worth" "_law_worth" (defArgs s__law_worth) (defBody s__law_worth) (defScope s__law_worth) .none kV8 dc8 pm8 an8 cd8 ct8), sl8⟩) (c8 : PySem.W.codeIn K cd8 "_law_worth" = true) (k8 : PySem.W.keepIn K (.ref f8) = true)
    (a9 : PySem.W.nsIn K mainGlobals "_law_case_fits" = some (some (.ref f9))) (l9 : K.lookup f9 = some ⟨oc9, od9, .func (PySem.W.fnOf "_law_case_fits" "_law_case_fits" (defArgs s__law_case_fits) (defBody s__law_case_fits) (defScope s__law_case_fits) .none kV9 dc9 pm9 an9 cd9 ct9), sl9⟩) (c9 : PySem.W.codeIn K cd9 "_law_case_fits" = true) (k9 : PySem.W.keepIn K (.ref f9) = true)
    (a10 : PySem.W.nsIn K mainGlobals "_law_fitting" = some (some (.ref f10))) (l10 : K.lookup f10 = some ⟨oc10, od10, .func (PySem.W.fnOf "_law_fitting" "_law_fitting" (defArgs s__law_fitting) (defBody s__law_fitting) (defScope s__law_fitting) .none kV10 dc10 pm10 an10 cd10 ct10), sl10⟩) (c10 : PySem.W.codeIn K cd10 "_law_fitting" = true) (k10 : PySem.W.keepIn K (.ref f10) = true)
    (a11 : PySem.W.nsIn K mainGlobals "_law_right" = some (some (.ref f11))) (l11 : K.lookup f11 = some ⟨oc11, od11, .func (PySem.W.fnOf "_law_right" "_law_right" (defArgs s__law_right) (defBody s__law_right) (defScope s__law_right) .none kV11 dc11 pm11 an11 cd11 ct11), sl11⟩) (c11 : PySem.W.codeIn K cd11 "_law_right" = true) (k11 : PySem.W.keepIn K (.ref f11) = true)
    (a12 : PySem.W.nsIn K mainGlobals "law" = some (some (.ref f12))) (l12 : K.lookup f12 = some ⟨oc12, od12, .func (PySem.W.fnOf "law" "law" (defArgs s_law) (defBody s_law) (defScope s_law) .none kV12 dc12 pm12 an12 cd12 ct12), sl12⟩) (c12 : PySem.W.codeIn K cd12 "law" = true) (k12 : PySem.W.keepIn K (.ref f12) = true)
    (z1 : PySem.W.nsIn K mainGlobals "len" = some none)
    (z2 : PySem.W.nsIn K mainGlobals "abs" = some none)
    (z3 : PySem.W.nsIn K mainGlobals "int" = some none)
    (z4 : PySem.W.nsIn K mainGlobals "divmod" = some none)
    (z5 : PySem.W.nsIn K mainGlobals "list" = some none)
    (z6 : PySem.W.nsIn K mainGlobals "enumerate" = some none)
    (z7 : PySem.W.nsIn K mainGlobals "isinstance" = some none)
    (z8 : PySem.W.nsIn K mainGlobals "tuple" = some none)
    (z9 : PySem.W.nsIn K mainGlobals "str" = some none)
    (z10 : PySem.W.nsIn K mainGlobals "bool" = some none)
    (z11 : PySem.W.nsIn K mainGlobals "zip" = some none)
    (z12 : PySem.W.nsIn K mainGlobals "all" = some none)
    (z13 : PySem.W.nsIn K mainGlobals "range" = some none)
    (z14 : PySem.W.nsIn K mainGlobals "max" = some none)
    (z15 : PySem.W.nsIn K mainGlobals "any" = some none)
    (z16 : PySem.W.nsIn K mainGlobals "min" = some none)
    (z17 : PySem.W.nsIn K mainGlobals "sum" = some none)
    (aO : PySem.W.nsIn K mainGlobals "FITTING" = some (some (.ref dF)))
    (lO : K.lookup dF = some ⟨.type "dict", none, .dict esF nF, #[]⟩)
    (tO : PySem.W.KeysLit w.params esF.toList)
    (wO : (dF == sysModules) = false)
    (oA : PySem.W.nsIn K dF "-" = some (some (.ref tA)))
    (oB : PySem.W.nsIn K dF "0" = some (some (.ref tB)))
    (oC : PySem.W.nsIn K dF "+" = some (some (.ref tC)))
    (oD : PySem.W.nsIn K dF "." = some (some (.ref tD)))
    (kA : K.lookup tA = some ⟨.type "tuple", odA, .seq #[.int (-1) uA] nA, slA⟩)
    (kB : K.lookup tB = some ⟨.type "tuple", odB, .seq #[.int 0 uB] nB, slB⟩)
    (kC : K.lookup tC = some ⟨.type "tuple", odC, .seq #[.int 1 uC] nC, slC⟩)
    (kD : K.lookup tD = some ⟨.type "tuple", odD, .seq #[.int (-1) uD, .int 0 uE, .int 1 uF] nD, slD⟩)
    : ∃ fd : FuncData, (∀ (s : Shared) (v : Value), BindsTo s fd ⟨[v], []⟩ [("_law_script", v)]) ∧ ∀ base : Heap, K.In base → base.Ns mainGlobals mg → FnOk l.prog w K mg base CX0 13 fa fd ["_law_script"] (spLaw K) := by
  have e := hfa.symm.trans (PySem.W.mg_of X G a12)
  cases e
  have F1 := fun_mk (st := s_worth_of) l1 c1 k1
  have b1 := F1.binds (ps := ["digits"]) fun _ _ _ _ _ _ us hl => match us, hl with | [_], _ => rfl
  have m1 := PySem.W.mg_of X G a1
  have F2 := fun_mk (st := s_fits) l2 c2 k2
  have b2 := F2.binds (ps := ["case", "digits"]) fun _ _ _ _ _ _ us hl => match us, hl with | [_, _], _ => rfl
  have m2 := PySem.W.mg_of X G a2
  have F3 := fun_mk (st := s_spread) l3 c3 k3
  have b3 := F3.binds (ps := ["case"]) fun _ _ _ _ _ _ us hl => match us, hl with | [_], _ => rfl
  have m3 := PySem.W.mg_of X G a3
  have F4 := fun_mk (st := sBox) l4 c4 k4
  have b4 := F4.binds (ps := ["_law_script", "_law_k"]) fun _ _ _ _ _ _ us hl => match us, hl with | [_, _], _ => rfl
  have m4 := PySem.W.mg_of X G a4
  have F5 := fun_mk (st := sTake) l5 c5 k5
  have b5 := F5.binds (ps := ["_law_box_here", "_law_size"]) fun _ _ _ _ _ _ us hl => match us, hl with | [_, _], _ => rfl
  have m5 := PySem.W.mg_of X G a5
  have F6 := fun_mk (st := sFolded) l6 c6 k6
  have b6 := F6.binds (ps := ["_law_script", "_law_size"]) fun _ _ _ _ _ _ us hl => match us, hl with | [_, _], _ => rfl
  have m6 := PySem.W.mg_of X G a6
  have F7 := fun_mk (st := sSame) l7 c7 k7
  have b7 := F7.binds (ps := ["_law_found", "_law_due"]) fun _ _ _ _ _ _ us hl => match us, hl with | [_, _], _ => rfl
  have m7 := PySem.W.mg_of X G a7
  have F8 := fun_mk (st := s__law_worth) l8 c8 k8
  have b8 := F8.binds (ps := ["_law_digits"]) fun _ _ _ _ _ _ us hl => match us, hl with | [_], _ => rfl
  have m8 := PySem.W.mg_of X G a8
  have F9 := fun_mk (st := s__law_case_fits) l9 c9 k9
  have b9 := F9.binds (ps := ["_law_case", "_law_digits"]) fun _ _ _ _ _ _ us hl => match us, hl with | [_, _], _ => rfl
  have m9 := PySem.W.mg_of X G a9
  have F10 := fun_mk (st := s__law_fitting) l10 c10 k10
  have b10 := F10.binds (ps := ["_law_box_here", "_law_case"]) fun _ _ _ _ _ _ us hl => match us, hl with | [_, _], _ => rfl
  have m10 := PySem.W.mg_of X G a10
  have F11 := fun_mk (st := s__law_right) l11 c11 k11
  have b11 := F11.binds (ps := ["_law_box_here"]) fun _ _ _ _ _ _ us hl => match us, hl with | [_], _ => rfl
  have m11 := PySem.W.mg_of X G a11
  have F12 := fun_mk (st := s_law) l12 c12 k12
  have B : Bl mg := ⟨PySem.W.mg_none_of X G z1, PySem.W.mg_none_of X G z2, PySem.W.mg_none_of X G z3, PySem.W.mg_none_of X G z4, PySem.W.mg_none_of X G z5, PySem.W.mg_none_of X G z6, PySem.W.mg_none_of X G z7, PySem.W.mg_none_of X G z8, PySem.W.mg_none_of X G z9, PySem.W.mg_none_of X G z10, PySem.W.mg_none_of X G z11, PySem.W.mg_none_of X G z12, PySem.W.mg_none_of X G z13, PySem.W.mg_none_of X G z14, PySem.W.mg_none_of X G z15, PySem.W.mg_none_of X G z16, PySem.W.mg_none_of X G z17⟩
  refine ⟨PySem.W.fnOf "law" "law" (defArgs s_law) (defBody s_law) (defScope s_law) .none kV12 dc12 pm12 an12 cd12 ct12, fun s v => .of_eq rfl, fun base _ _ => ?_⟩
  have L : LL K mg f1 f2 f3 f4 f5 f6 f7 f8 f9 f10 f11 _ _ _ _ _ _ _ _ _ _ _  w dF esF nF tA tB tC tD := ⟨F1, m1, b1, F2, m2, b2, F3, m3, b3, F4, m4, b4, F5, m5, b5, F6, m6, b6, F7, m7, b7, F8, m8, b8, F9, m9, b9, F10, m10, b10, F11, m11, b11, PySem.W.mg_of X G aO, ⟨lO, tO, wO⟩, oA, oB, oC, oD, (fun H => .inr ⟨_, _, _, kA, rfl, rfl, (by show 1 ≤ sizeLine; decide), .cons ⟨_, rfl⟩ .nil⟩), (fun H => .inr ⟨_, _, _, kB, rfl, rfl, (by show 1 ≤ sizeLine; decide), .cons ⟨_, rfl⟩ .nil⟩), (fun H => .inr ⟨_, _, _, kC, rfl, rfl, (by show 1 ≤ sizeLine; decide), .cons ⟨_, rfl⟩ .nil⟩), (fun H => .inr ⟨_, _, _, kD, rfl, rfl, (by show 3 ≤ sizeLine; decide), .cons ⟨_, rfl⟩ (.cons ⟨_, rfl⟩ (.cons ⟨_, rfl⟩ .nil))⟩)⟩
  exact ok_law F12 B L
end GZ
open PySem PySem.W PyProof.Rows
set_option maxRecDepth 100000 in
set_option maxHeartbeats 0 in
theorem PySem.Challenge.cw_guessedzeros_k25_cases_and_their_spread_holds : PySem.Challenge.rw_guessedzeros_k25_cases_and_their_spread.Holds := by
  w_on; o_law; k_head; (case hw => w_witness2)
  k_fill
  refine L2.walk_of (l := PySem.Challenge.rw_guessedzeros_k25_cases_and_their_spread) (n := 63) (k := 13) (x := "_law_script") (CX := fun _ => L2.CX0) (sp := fun w => GZ.spLaw _) rfl (by decide) rfl ⟨rfl, by decide, by decide⟩ (fun w h Y => PySem.W.kIn_of Y) ?F (fun _ _ a ns hl _ hS => ⟨a, ns, rfl, hS, hl, fun _ => rfl⟩) (fun _ _ _ _ _ h => h)
  case F =>
    intro w mg fa h KX G hmg
    refine' GZ.all_mk KX G hmg ?a1 ?l1 ?c1 ?k1 ?a2 ?l2 ?c2 ?k2 ?a3 ?l3 ?c3 ?k3 ?a4 ?l4 ?c4 ?k4 ?a5 ?l5 ?c5 ?k5 ?a6 ?l6 ?c6 ?k6 ?a7 ?l7 ?c7 ?k7 ?a8 ?l8 ?c8 ?k8 ?a9 ?l9 ?c9 ?k9 ?a10 ?l10 ?c10 ?k10 ?a11 ?l11 ?c11 ?k11 ?a12 ?l12 ?c12 ?k12 ?z1 ?z2 ?z3 ?z4 ?z5 ?z6 ?z7 ?z8 ?z9 ?z10 ?z11 ?z12 ?z13 ?z14 ?z15 ?z16 ?z17 ?aO ?lO ?tO ?wO ?oA ?oB ?oC ?oD ?kA ?kB ?kC ?kD
    (case a1 => k_is)
    (case l1 => k_is)
    (case c1 => k_is)
    (case k1 => k_is)
    (case a2 => k_is)
    (case l2 => k_is)
    (case c2 => k_is)
    (case k2 => k_is)
    (case a3 => k_is)
    (case l3 => k_is)
    (case c3 => k_is)
    (case k3 => k_is)
    (case a4 => k_is)
    (case l4 => k_is)
    (case c4 => k_is)
    (case k4 => k_is)
    (case a5 => k_is)
    (case l5 => k_is)
    (case c5 => k_is)
    (case k5 => k_is)
    (case a6 => k_is)
    (case l6 => k_is)
    (case c6 => k_is)
    (case k6 => k_is)
    (case a7 => k_is)
    (case l7 => k_is)
    (case c7 => k_is)
    (case k7 => k_is)
    (case a8 => k_is)
    (case l8 => k_is)
    (case c8 => k_is)
    (case k8 => k_is)
    (case a9 => k_is)
    (case l9 => k_is)
    (case c9 => k_is)
    (case k9 => k_is)
    (case a10 => k_is)
    (case l10 => k_is)
    (case c10 => k_is)
    (case k10 => k_is)
    (case a11 => k_is)
    (case l11 => k_is)
    (case c11 => k_is)
    (case k11 => k_is)
    (case a12 => k_is)
    (case l12 => k_is)
    (case c12 => k_is)
    (case k12 => k_is)
    (case z1 => k_is)
    (case z2 => k_is)
    (case z3 => k_is)
    (case z4 => k_is)
    (case z5 => k_is)
    (case z6 => k_is)
    (case z7 => k_is)
    (case z8 => k_is)
    (case z9 => k_is)
    (case z10 => k_is)
    (case z11 => k_is)
    (case z12 => k_is)
    (case z13 => k_is)
    (case z14 => k_is)
    (case z15 => k_is)
    (case z16 => k_is)
    (case z17 => k_is)
    (case aO => k_is)
    (case lO => k_is)
    (case tO => exact ⟨⟨_, _, rfl, rfl⟩, ⟨_, _, rfl, rfl⟩, ⟨_, _, rfl, rfl⟩, ⟨_, _, rfl, rfl⟩, trivial⟩)
    (case wO => rfl)
    (case oA => k_is)
    (case oB => k_is)
    (case oC => k_is)
    (case oD => k_is)
    (case kA => k_is)
    (case kB => k_is)
    (case kC => k_is)
    (case kD => k_is)

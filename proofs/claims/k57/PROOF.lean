import PyProof.Rows.All
import Wide.All
import OpenK.AllK
import Wide.FinOn
import HandS.ForMost
import HandS.Walk
import HandS.Zip
import HandS.WideBits
import HandS.IsInst
import OpenK.KEqL
import HandS.More
import HandS.Flow
import HandS.Text
import HandS.Style
import HandS.NoneIn
import HandS.Wide
import HandS.Codes
import HandS.Iter
import KE.GoesZip
import KE.GoesMore
import KE.GoesEnum
import PySem.Challenge.RW_guessedzeros_k57_cubes_and_what_is_commo
set_option Elab.async false
set_option linter.all false
set_option maxRecDepth 100000
set_option maxHeartbeats 40000000
namespace GZ
open PySem PySem.Spec PyProof.Rows L2
/-! ### the text by places -/
def topS (i : Nat) : Stmt := PySem.Challenge.pw_guessedzeros_k57_cubes_and_what_is_commo.main.body.getD i (.Pass ⟨0, 0, 0, 0⟩)
abbrev s_lies_in : Stmt := topS 1
theorem sc_lies_in : FnScope ["bits", "cube"] ["bits", "cube"] (defScope s_lies_in) := ⟨rfl, rfl, rfl, by decide +kernel, rfl, by decide +kernel, by decide +kernel⟩
abbrev s_common : Stmt := topS 2
theorem sc_common : FnScope ["one", "other", "signs", "sign", "other_sign"] ["one", "other"] (defScope s_common) := ⟨rfl, rfl, rfl, by decide +kernel, rfl, by decide +kernel, by decide +kernel⟩
abbrev s_common_sign : Stmt := topS 3
theorem sc_common_sign : FnScope ["sign", "other_sign"] ["sign", "other_sign"] (defScope s_common_sign) := ⟨rfl, rfl, rfl, by decide +kernel, rfl, by decide +kernel, by decide +kernel⟩
abbrev sBox : Stmt := topS 5
abbrev sTake : Stmt := topS 6
abbrev sFolded : Stmt := topS 7
abbrev sSame : Stmt := topS 8
abbrev s__law_cube : Stmt := topS 9
theorem sc__law_cube : FnScope ["_law_box_here", "_law_many", "_law_turn"] ["_law_box_here", "_law_many"] (defScope s__law_cube) := ⟨rfl, rfl, rfl, by decide +kernel, rfl, by decide +kernel, by decide +kernel⟩
abbrev s__law_bent_cube : Stmt := topS 10
theorem sc__law_bent_cube : FnScope ["_law_box_here", "_law_cube_here", "_law_found", "_law_sign"] ["_law_box_here", "_law_cube_here"] (defScope s__law_bent_cube) := ⟨rfl, rfl, rfl, by decide +kernel, rfl, by decide +kernel, by decide +kernel⟩
abbrev s__law_text : Stmt := topS 11
theorem sc__law_text : FnScope ["_law_box_here", "_law_cube_here", "_law_found", "_law_at", "_law_sign"] ["_law_box_here", "_law_cube_here"] (defScope s__law_text) := ⟨rfl, rfl, rfl, by decide +kernel, rfl, by decide +kernel, by decide +kernel⟩
abbrev s__law_lies : Stmt := topS 12
theorem sc__law_lies : FnScope ["_law_bits", "_law_cube_here", "_law_bit", "_law_sign"] ["_law_bits", "_law_cube_here"] (defScope s__law_lies) := ⟨rfl, rfl, rfl, by decide +kernel, rfl, by decide +kernel, by decide +kernel⟩
abbrev s__law_met : Stmt := topS 13
theorem sc__law_met : FnScope ["_law_one", "_law_other", "_law_found", "_law_mine", "_law_its", "_law_both"] ["_law_one", "_law_other"] (defScope s__law_met) := ⟨rfl, rfl, rfl, by decide +kernel, rfl, by decide +kernel, by decide +kernel⟩
abbrev s__law_right : Stmt := topS 14
theorem sc__law_right : FnScope ["_law_box_here", "_law_many", "_law_one", "_law_other", "_law_due", "_law_cube_here", "_law_bits", "_law_found"] ["_law_box_here"] (defScope s__law_right) := ⟨rfl, rfl, rfl, by decide +kernel, rfl, by decide +kernel, by decide +kernel⟩
abbrev s_law : Stmt := topS 15
theorem sc_law : FnScope ["_law_script", "_law_cells", "_law_k", "_law_box_here", "_law_turn"] ["_law_script"] (defScope s_law) := ⟨rfl, rfl, rfl, by decide +kernel, rfl, by decide +kernel, by decide +kernel⟩
/-! ### built-in names that the text leaves alone -/
structure Bl (mg : Str → Option Value) : Prop where
  len : mg "len" = none
  abs : mg "abs" = none
  int : mg "int" = none
  divmod : mg "divmod" = none
  list : mg "list" = none
  enumerate : mg "enumerate" = none
  isinstance : mg "isinstance" = none
  tuple : mg "tuple" = none
  str : mg "str" = none
  bool : mg "bool" = none
  zip : mg "zip" = none
  all : mg "all" = none
  range : mg "range" = none
  max : mg "max" = none
  any : mg "any" = none
  min : mg "min" = none
  sum : mg "sum" = none
/-! ### rules with the written part told (for the blocks of comprehensions) -/
section
variable {X : Cx} {K : PySem.W.Frag}
theorem call_len_seqK (h : X.K = K := by rfl) : CallR X (.builtin "len") (fun xs H Q => ∃ p ys, xs = [.ref p] ∧ (SqL K H p ys ∨ SqT K H p ys) ∧ Q (.int ys.length) H) := by subst h; exact call_len_seq
theorem call_list_ofK (h : X.K = K := by rfl) : CallR X (.type "list") (fun xs H Q => ∃ p ys, xs = [.ref p] ∧ (SqL K H p ys ∨ SqT K H p ys) ∧ ∀ l, H l = none → Q (.ref l) (upd H l (.lst ys))) := by subst h; exact call_list_of
theorem call_tuple_ofK (h : X.K = K := by rfl) : CallR X (.type "tuple") (fun xs H Q => ∃ p ys, xs = [.ref p] ∧ ((SqL K H p ys ∧ ∀ l, H l = none → Q (.ref l) (upd H l (.tup ys))) ∨ (SqT K H p ys ∧ Q (.ref p) H))) := by subst h; exact call_tuple_of
theorem ix_listK (h : X.K = K := by rfl) : IxR X (rIxL K) := by subst h; exact ix_list
theorem ix_tupK (h : X.K = K := by rfl) : IxR X (rIxT K) := by subst h; exact ix_tup
theorem ix_seqK (h : X.K = K := by rfl) : IxR X (rIx K) := by subst h; exact ix_seq
theorem op_in_seqK (h : X.K = K := by rfl) : OpR X (compareOp .In) (rIn K false) := by subst h; exact op_in_seq
theorem op_notIn_seqK (h : X.K = K := by rfl) : OpR X (compareOp .NotIn) (rIn K true) := by subst h; exact op_notIn_seq
theorem sl_listK (h : X.K = K := by rfl) : SlR X (rSlL K) := by subst h; exact sl_list
theorem cr_sumK (hc : X.calm = true) (h : X.K = K := by rfl) : CallR X (.builtin "sum") (rSum K) := by subst h; exact cr_sum hc
theorem cr_allK (hc : X.calm = true) (h : X.K = K := by rfl) : CallR X (.builtin "all") (rAll K) := by subst h; exact cr_all hc
theorem cr_anyK (hc : X.calm = true) (h : X.K = K := by rfl) : CallR X (.builtin "any") (rAny K) := by subst h; exact cr_any hc
theorem call_isiK' (h : X.K = K := by rfl) : CallR X (.builtin "isinstance") (rIsi K) := by subst h; exact call_isi
theorem pi_listK {tg l : Expr} {tl : TE} (hl : PE X l tl) (h : X.K = K := by rfl) : PI X tg l (iList K tl) := by subst h; exact pi_list hl
theorem pi_tupK {tg l : Expr} {tl : TE} (hl : PE X l tl) (h : X.K = K := by rfl) : PI X tg l (iTup K tl) := by subst h; exact pi_tup hl
theorem pe_fldK {e : Expr} {ta : TE} {f : Str} {pos : Pos} (he : PE X e ta) (hb : attributeBase e f X.env (eval e X.env) = eval e X.env) (h : X.K = K := by rfl) : PE X (.Attribute e f pos) (tFld K ta f) := by subst h; exact pe_fld he hb
end
/-! ### heaps -/
theorem same_upd {H : Hp} {p : Addr} {o : HO} (h : H p = none) : Same H (upd H p o) := fun b x e => by
  rw [upd_ne (ne_of_none e h)]
  exact e
/-- all but what stands at b is as it was -/
def Keep (b : Addr) (H H' : Hp) : Prop := ∀ p o, H p = some o → p ≠ b → H' p = some o
theorem Keep.refl (b : Addr) (H : Hp) : Keep b H H := fun _ _ h _ => h
theorem Keep.trans {b : Addr} {H H1 H2 : Hp} (x : Keep b H H1) (y : Keep b H1 H2) : Keep b H H2 := fun p o h n => y p o (x p o h n) n
theorem Keep.ofSame {b : Addr} {H H1 : Hp} (x : Same H H1) : Keep b H H1 := fun p o h _ => x p o h
theorem Keep.upd {b : Addr} {H : Hp} {o : HO} : Keep b H (upd H b o) := fun p x h n => by
  rw [upd_ne n]
  exact h
theorem Keep.new {b p : Addr} {H : Hp} {o : HO} (h : H p = none) : Keep b H (L2.upd H p o) := .ofSame (same_upd h)
theorem Keep.seq {K : PySem.W.Frag} {b a : Addr} {H H' : Hp} {xs : List V} (e : Keep b H H') (n : a ≠ b) (h : SqL K H a xs) : SqL K H' a xs := by
  rcases h with (h | ⟨o, h⟩) | h
  · exact .inl (.inl (e _ _ h n))
  · exact .inl (.inr ⟨o, e _ _ h n⟩)
  · exact .inr h
theorem Keep.seqT {K : PySem.W.Frag} {b a : Addr} {H H' : Hp} {xs : List V} (e : Keep b H H') (n : a ≠ b) (h : SqT K H a xs) : SqT K H' a xs := by
  rcases h with (h | ⟨o, h⟩) | h
  · exact .inl (.inl (e _ _ h n))
  · exact .inl (.inr ⟨o, e _ _ h n⟩)
  · exact .inr h
theorem Same.seqT {K : PySem.W.Frag} {a : Addr} {H H' : Hp} {xs : List V} (e : Same H H') (h : SqT K H a xs) : SqT K H' a xs := by
  rcases h with (h | ⟨o, h⟩) | h
  · exact .inl (.inl (e _ _ h))
  · exact .inl (.inr ⟨o, e _ _ h⟩)
  · exact .inr h
/-- a drawing box: three ints, the last at most c -/
def BoxAt (c : Int) (H : Hp) (b : Addr) : Prop := ∃ x0 x1 x2 : Int, H b = some (.lst [.int x0, .int x1, .int x2]) ∧ 0 ≤ x0 ∧ 0 ≤ x1 ∧ x1 < 2147483647 ∧ 0 ≤ x2 ∧ x2 ≤ c
theorem BoxAt.mono {c d : Int} {H : Hp} {b : Addr} (h : BoxAt c H b) (l : c ≤ d) : BoxAt d H b := by
  obtain ⟨x0, x1, x2, e, a1, a2, a3, a4, a5⟩ := h
  exact ⟨x0, x1, x2, e, a1, a2, a3, a4, by omega⟩
theorem BoxAt.same {c : Int} {H H' : Hp} {b : Addr} (h : BoxAt c H b) (s : Same H H') : BoxAt c H' b := by
  obtain ⟨x0, x1, x2, e, r⟩ := h
  exact ⟨x0, x1, x2, s _ _ e, r⟩
theorem BoxAt.at {c : Int} {H H' : Hp} {b : Addr} (h : BoxAt c H b) (s : H' b = H b) : BoxAt c H' b := by
  obtain ⟨x0, x1, x2, e, r⟩ := h
  exact ⟨x0, x1, x2, by rw [s]; exact e, r⟩
theorem BoxAt.ne {c : Int} {H : Hp} {b p : Addr} (h : BoxAt c H b) (n : H p = none) : b ≠ p := by
  obtain ⟨x0, x1, x2, e, r⟩ := h
  exact ne_of_none e n
theorem e7 : (10 : Int) ^ ((7 : Int).toNat) = 10000000 := by decide
theorem e18 : (10 : Int) ^ ((18 : Int).toNat) = 1000000000000000000 := by decide
theorem divp_small {i j : Int} (h0 : 0 < j) (h1 : j < 2 ^ 250) : CDivP i j := by
  refine ⟨h0, ?_⟩
  show (decide ((if j == 0 then 0 else j.natAbs.log2 / 30 + 1) > 300) && _) = false
  rw [if_neg (show ¬ (j == 0) = true by simpa using (show j ≠ 0 by omega))]
  have hl : j.natAbs.log2 < 250 := PySem.Flt.log2_lt_of (by decide) (by omega)
  rw [decide_eq_false (show ¬ (j.natAbs.log2 / 30 + 1 > 300) by omega), Bool.false_and]
section
variable {P : Program} {w : World} {K : PySem.W.Frag} {mg : Str → Option Value} {base : Heap}
/-! ### _law_take -/
theorem scTake : FnScope ["_law_box_here", "_law_size", "_law_found", "_law_step", "_law_once", "_law_twice"] ["_law_box_here", "_law_size"] (defScope sTake) := ⟨rfl, rfl, rfl, by decide +kernel, rfl, by decide +kernel, by decide +kernel⟩
def spTake (k : Nat) : Sp := fun vs H Q _ => ∃ (b : Addr) (n c : Int), vs = [.ref b, .int n] ∧ BoxAt c H b ∧ 1 ≤ n ∧ n ≤ 10000000 ^ k ∧ n < 2 ^ 250 ∧ c + 2 ^ k ≤ 1000000000 ∧ 0 < k ∧
  ∀ (r : Int) (H' : Hp), 0 ≤ r → r < n → BoxAt (c + 2 ^ (k - 1)) H' b → Keep b H H' → Q (.int r) H'
theorem take_none {f : Addr} {fd : FuncData} : FnOk P w K mg base CX0 0 f fd ["_law_box_here", "_law_size"] (spTake 0) := by
  have no : ∀ vs H Q E, ¬ spTake 0 vs H Q E := fun vs H Q E h => by
    obtain ⟨b, n, c, _, _, _, _, _, _, h0, _⟩ := h
    omega
  exact ⟨fun vs H Q E h => absurd h (no vs H Q E), fun A outer s H args us vs Q E _ _ _ _ h => absurd h (no vs H Q E)⟩
theorem ok_take1 {f : Addr} {fd : FuncData} {k : Nat} (F : Fun K "_law_take" "_law_take" sTake f fd) (G : FnOk P w K mg base CX0 k f fd ["_law_box_here", "_law_size"] (spTake k)) (bf : Binds K fd ["_law_box_here", "_law_size"] []) (mf : mg "_law_take" = some (.ref f)) (B : Bl mg) :
    FnOk P w K mg base CX0 (k + 1) f fd ["_law_box_here", "_law_size"] (spTake (k + 1)) := by
  refine F.ok scTake (fun vs H Q E h => ?_) (fun cdv A outer s H vs Q E hr h => ?_)
  · obtain ⟨b, n, c, rfl, _⟩ := h
    rfl
  obtain ⟨b, n, c, rfl, hB, hn1, hnk, hn60, hc, _, q⟩ := h
  obtain ⟨x0, x1, x2, hb, h0, h1, h1', h2, h2'⟩ := hB
  have hp : (0 : Int) < 2 ^ k := Int.pow_pos (by decide)
  have hk2 : (2 : Int) ^ (k + 1) = 2 ^ k * 2 := Int.pow_succ 2 k
  refine ⟨_, pss_cons (ps_if (pt_cmpR op_gt (pe_ix ix_list (pv 0) pe_int (fun _ _ => rfl)) pe_int (nomark _))
      (pss_cons (ps_asg (pe_callB call_divmodW (by rfl) B.divmod boot_divmod (pa_cons (pe_ix ix_list (pv 0) pe_int (fun _ _ => rfl)) (pa_cons (pv 1) pa_nil)))
          (pg_tup (by rfl) (pgs_cons (pg_sub (pv 0) pe_int set_list) (pgs_cons (pg_name (i := 2) scTake.nd rfl (.inl rfl)) pgs_nil))))
        (pss_one (ps_ret (pv 2)))) pss_nil)
    (pss_cons (ps_if (pt_cmpR op_gt (pv 1) (pe_op op_pow pe_int pe_int) (nomark _))
      (pss_one (ps_ret (pe_op op_mod (pe_op op_add (pe_call G hr (by rfl) mf F.kp bf .nil pass0 (pa_cons (pv 0) (pa_cons (pe_op op_pow pe_int pe_int) pa_nil)))
          (pe_op op_mul (pe_op op_pow pe_int pe_int) (pe_call G hr (by rfl) mf F.kp bf .nil pass0 (pa_cons (pv 0) (pa_cons (pe_op op_add (pe_op op_fdiv (pe_op op_sub (pv 1) pe_int) (pe_op op_pow pe_int pe_int)) pe_int) pa_nil))))) (pv 1)))) pss_nil)
    (pss_cons (ps_asg (pe_op op_add (pe_ix ix_list (pv 0) pe_int (fun _ _ => rfl)) pe_int) (pg_sub (pv 0) pe_int set_list))
    (pss_cons (ps_set (i := 3) scTake.nd rfl (.inl rfl) (pe_op op_add pe_int (pe_op op_mul (pe_ix ix_list (pv 0) pe_int (fun _ _ => rfl)) (pe_ix ix_list (pv 0) pe_int (fun _ _ => rfl)))))
    (pss_cons (ps_set (i := 4) scTake.nd rfl (.inl rfl) (pe_op op_mod (pe_op op_mul (pe_op op_add (pe_ix ix_list (pv 0) pe_int (fun _ _ => rfl)) (pe_op op_mul pe_int (pe_ix ix_list (pv 0) pe_int (fun _ _ => rfl)))) (pv 3)) pe_int))
    (pss_cons (ps_set (i := 5) scTake.nd rfl (.inl rfl) (pe_op op_mod (pe_op op_add (pe_op op_mul (pv 4) (pe_op op_add (pe_op op_mod (pv 4) pe_int) pe_int)) (pe_ix ix_list (pv 0) pe_int (fun _ _ => rfl))) pe_int))
    (pss_one (ps_ret (pe_op op_mod (pe_op op_fdiv (pe_op op_mod (pe_op op_mul (pv 5) (pe_op op_add (pe_op op_mod (pv 5) pe_int) pe_int)) pe_int) pe_int) (pv 1))))))))), ?_⟩
  refine ⟨_, rfl, b, _, _, _, rfl, rfl, SqL.of hb, rfl, _, _, rfl, rfl, _, rfl, ite2 (fun cc => ?_) (fun cc => ?_)⟩
  · -- the great number's own digits
    refine ⟨_, rfl, b, _, _, _, rfl, rfl, SqL.of hb, rfl, _, rfl, _, _, rfl, divp_small (by omega) (by omega), fun p np => ?_⟩
    have nbp : b ≠ p := ne_of_none hb np
    refine ⟨p, _, rfl, .inl (.inl upd_same), rfl, _, _, rfl, _, rfl, b, _, _, 0, rfl, rfl, (by rw [upd_ne nbp]; exact hb), rfl, _, _, rfl, rfl, _, rfl, ?_⟩
    refine q _ _ (Int.emod_nonneg _ (by omega)) (Int.emod_lt_of_pos _ (by omega)) ⟨x0 / n, x1, x2, upd_same, Int.ediv_nonneg h0 (by omega), h1, h1', h2, by show x2 ≤ c + 2 ^ k; omega⟩ ?_
    exact Keep.trans (Keep.new np) Keep.upd
  · refine ⟨_, rfl, _, _, rfl, rfl, ⟨by decide, by decide, by decide⟩, _, _, rfl, rfl, _, rfl, ite2 (fun c2 => ?_) (fun c2 => ?_)⟩
    · -- two lesser draws
      have c3 : (10 : Int) ^ ((7 : Int).toNat) < n := of_decide_eq_true c2
      rw [e7] at c3
      have hk : 0 < k := by
        rcases Nat.eq_zero_or_pos k with z | z
        · subst z
          rw [show (10000000 : Int) ^ (0 + 1) = 10000000 by decide] at hnk
          omega
        · exact z
      obtain ⟨j, rfl⟩ : ∃ j, k = j + 1 := ⟨k - 1, by omega⟩
      have hj2 : (2 : Int) ^ (j + 1) = 2 ^ j * 2 := Int.pow_succ 2 j
      have hjp : (0 : Int) < 2 ^ j := Int.pow_pos (by decide)
      have h10 : (10000000 : Int) ≤ 10000000 ^ (j + 1) := by
        rw [Int.pow_succ]
        have : (0 : Int) < 10000000 ^ j := Int.pow_pos (by decide)
        omega
      have hdiv : (n - 1) / 10000000 + 1 ≤ 10000000 ^ (j + 1) := by
        rw [Int.pow_succ] at hnk
        have : n - 1 < 10000000 ^ (j + 1) * 10000000 := by omega
        have := Int.ediv_lt_of_lt_mul (by decide) this
        omega
      refine ⟨_, rfl, _, _, rfl, rfl, ⟨by decide, by decide, by decide⟩, b, _, c, rfl, ⟨x0, x1, x2, hb, h0, h1, h1', h2, h2'⟩, (by rw [e7]; decide), (by rw [e7]; exact h10), (by rw [e7]; decide), by omega, by omega, fun r1 H1 a1 a2 B1 k1 => ?_⟩
      refine ⟨_, _, rfl, rfl, ⟨by decide, by decide, by decide⟩, _, rfl, _, rfl, _, _, rfl, rfl, _, _, rfl, rfl, ⟨by decide, by decide, by decide⟩, _, _, rfl, rfl, (by rw [e7]; exact ⟨by decide, by decide⟩), _, _, rfl, rfl, ?_⟩
      rw [e7]
      refine ⟨b, _, c + 2 ^ j, rfl, B1, by omega, hdiv, by omega, by omega, by omega, fun r2 H2 a3 a4 B2 k2 => ?_⟩
      refine ⟨_, _, rfl, rfl, .inl ⟨by decide, by decide⟩, _, _, rfl, rfl, _, rfl, _, _, rfl, rfl, (by show (0 : Int) < n; omega), ?_⟩
      refine q _ _ (Int.emod_nonneg _ (by omega)) (Int.emod_lt_of_pos _ (by omega)) (B2.mono ?_) (k1.trans k2)
      show c + 2 ^ j + 2 ^ j ≤ c + 2 ^ (j + 1)
      omega
    · -- a turn of the wheel
      refine ⟨_, rfl, b, _, _, _, rfl, rfl, SqL.of hb, rfl, _, _, rfl, rfl, _, rfl, b, _, _, 2, rfl, rfl, hb, rfl, ?_⟩
      have hb2 : (upd H b (.lst [.int x0, .int x1, .int (x2 + 1)])) b = some (.lst [.int x0, .int x1, .int (x2 + 1)]) := upd_same
      refine ⟨_, rfl, b, _, _, _, rfl, rfl, SqL.of hb2, rfl, _, rfl, b, _, _, _, rfl, rfl, SqL.of hb2, rfl, _, _, rfl, rfl, .inl ⟨by omega, by omega⟩, _, _, rfl, rfl, ?_⟩
      refine ⟨_, rfl, b, _, _, _, rfl, rfl, SqL.of hb2, rfl, _, rfl, b, _, _, _, rfl, rfl, SqL.of hb2, rfl, _, _, rfl, rfl, .inl ⟨by omega, by omega⟩, _, _, rfl, rfl, _, rfl, _, _, rfl, rfl, .inl ⟨by omega, by omega⟩, _, _, rfl, rfl, (by show (0 : Int) < 2147483587; decide), ?_⟩
      generalize (x1 + 39373 * (x2 + 1)) * (69621 + (x2 + 1) * (x2 + 1)) = y
      have y1 := Int.emod_nonneg y (show (2147483587 : Int) ≠ 0 by decide)
      have y2 := Int.emod_lt_of_pos y (show (0 : Int) < 2147483587 by decide)
      refine ⟨_, rfl, _, rfl, _, _, rfl, rfl, (by show (0 : Int) < 30011; decide), _, _, rfl, rfl, _, _, rfl, rfl, .inl ⟨by omega, by omega⟩, _, rfl, b, _, _, _, rfl, rfl, SqL.of hb2, rfl, _, _, rfl, rfl, _, _, rfl, rfl, (by show (0 : Int) < 2147483563; decide), ?_⟩
      generalize (y % 2147483587 * (y % 2147483587 % 30011 + 5) + (x2 + 1)) = z
      have z1 := Int.emod_nonneg z (show (2147483563 : Int) ≠ 0 by decide)
      have z2 := Int.emod_lt_of_pos z (show (0 : Int) < 2147483563 by decide)
      refine ⟨_, rfl, _, rfl, _, _, rfl, rfl, (by show (0 : Int) < 1013; decide), _, _, rfl, rfl, _, _, rfl, rfl, .inl ⟨by omega, by omega⟩, _, _, rfl, rfl, (by show (0 : Int) < 998244353; decide), _, _, rfl, rfl, ⟨by decide, by decide⟩, _, rfl, _, _, rfl, rfl, (by show (0 : Int) < n; omega), ?_⟩
      refine q _ _ (Int.emod_nonneg _ (by omega)) (Int.emod_lt_of_pos _ (by omega)) ⟨x0, x1, x2 + 1, hb2, h0, h1, h1', by omega, by show x2 + 1 ≤ c + 2 ^ k; omega⟩ Keep.upd
theorem ok_take {f : Addr} {fd : FuncData} (F : Fun K "_law_take" "_law_take" sTake f fd) (bf : Binds K fd ["_law_box_here", "_law_size"] []) (mf : mg "_law_take" = some (.ref f)) (B : Bl mg) : ∀ k : Nat, FnOk P w K mg base CX0 k f fd ["_law_box_here", "_law_size"] (spTake k)
  | 0 => take_none
  | k + 1 => ok_take1 F (ok_take F bf mf B k) bf mf B
/-! ### _law_box -/
theorem scBox : FnScope ["_law_script", "_law_k", "_law_cell"] ["_law_script", "_law_k"] (defScope sBox) := ⟨rfl, rfl, rfl, by decide +kernel, rfl, by decide +kernel, by decide +kernel⟩
def spBox (K : PySem.W.Frag) : Sp := fun vs H Q _ => ∃ (a : Addr) (zs : List Int) (k : Int), vs = [.ref a, .int k] ∧ SqL K H a (zs.map V.int) ∧ 0 ≤ k ∧ k ≤ 1000 ∧
  ∀ (p : Addr) (H' : Hp), H p = none → Same H H' → BoxAt 0 H' p → Q (.ref p) H'
theorem b01 (b : Bool) : (-(2 ^ 64) < (if b = true then (1 : Int) else 0)) ∧ (if b = true then (1 : Int) else 0) < 2 ^ 64 := by cases b <;> decide
theorem b01n (b : Bool) : 0 ≤ (if b = true then (1 : Int) else 0) := by cases b <;> decide
theorem abs_nn (i : Int) : 0 ≤ (if i < 0 then -i else i) := by
  split <;> omega
theorem at_int {zs : List Int} {k : Int} (h0 : 0 ≤ k) (h : k < (zs.length : Int)) : ∃ v : Int, atI (zs.map V.int) k = some (.int v) ∧ zs[k.toNat]? = some v := by
  have hk : k.toNat < zs.length := by omega
  have ek : k = ((k.toNat : Nat) : Int) := by omega
  have q : atI (zs.map V.int) ((k.toNat : Nat) : Int) = some (.int zs[k.toNat]) := atI_nat (by rw [List.getElem?_map, List.getElem?_eq_getElem hk] <;> rfl)
  rw [← ek] at q
  exact ⟨zs[k.toNat], q, List.getElem?_eq_getElem hk⟩
theorem ok_box {f : Addr} {fd : FuncData} {k : Nat} (F : Fun K "_law_box" "_law_box" sBox f fd) (B : Bl mg) : FnOk P w K mg base CX0 (k + 1) f fd ["_law_script", "_law_k"] (spBox K) := by
  refine F.ok scBox (fun vs H Q E h => ?_) (fun cdv A outer s H vs Q E hr h => ?_)
  · obtain ⟨a, zs, k, rfl, _⟩ := h
    rfl
  obtain ⟨a, zs, k, rfl, hS, h0, h1, q⟩ := h
  refine ⟨_, pss_cons (ps_set (i := 2) scBox.nd rfl (.inl rfl) (pe_ifExp (pt_cmpR op_lt (pv 1) (pe_callB call_len_seq (by rfl) B.len PySem.boot_len (pa_cons (pv 0) pa_nil)) (nomark _)) (pe_ix ix_list (pv 0) (pv 1) (fun _ _ => rfl)) pe_int))
    (pss_one (ps_ret (pe_lst (pa_cons (pe_op op_mul (pe_callB call_abs (by rfl) B.abs boot_abs (pa_cons (pv 2) pa_nil)) (pe_callTy call_int1 (by rfl) B.int PyProof.Rows.boot_int (pa_cons (pe_cmpR op_ge (pe_callB call_abs (by rfl) B.abs boot_abs (pa_cons (pv 2) pa_nil)) (pe_op op_pow pe_int pe_int) (nomark _)) pa_nil)))
      (pa_cons (pe_op op_mod (pe_op op_mul (pe_op op_add (pe_op op_add (pe_op op_mod (pv 2) pe_int) (pe_op op_mul pe_int (pv 1))) pe_int) pe_int) pe_int) (pa_cons pe_int pa_nil)))))), ?_⟩
  refine ⟨_, rfl, _, rfl, a, _, rfl, .inl hS, _, _, rfl, rfl, _, rfl, ite2 (fun cc => ?_) (fun cc => ?_)⟩
  · have c1 : k < (((zs.map V.int).length : Nat) : Int) := of_decide_eq_true cc
    rw [List.length_map] at c1
    obtain ⟨v, hv, _⟩ := at_int h0 c1
    refine ⟨_, rfl, _, rfl, a, _, _, _, rfl, rfl, hS, hv, ?_⟩
    refine ⟨_, rfl, _, rfl, _, rfl, _, rfl, _, _, rfl, rfl, ⟨by decide, by decide, by decide⟩, _, _, rfl, rfl, .inr ⟨_, rfl, ?_⟩⟩
    refine ⟨_, _, rfl, rfl, .inr (b01 _), _, rfl, _, _, rfl, rfl, (by show (0 : Int) < 2147483629; decide), _, rfl, _, _, rfl, rfl, .inl ⟨by decide, by decide⟩, _, _, rfl, rfl, _, _, rfl, rfl, _, _, rfl, rfl, .inr ⟨by decide, by decide⟩, _, _, rfl, rfl, (by show (0 : Int) < 2147483647; decide), (by show 3 ≤ sizeLine; decide), fun p np => ?_⟩
    refine q p _ np (same_upd np) ⟨_, _, _, upd_same, Int.mul_nonneg (abs_nn v) (b01n _), Int.emod_nonneg _ (by decide), Int.emod_lt_of_pos _ (by decide), by decide, by decide⟩
  · refine ⟨_, rfl, _, rfl, _, rfl, _, rfl, _, _, rfl, rfl, ⟨by decide, by decide, by decide⟩, _, _, rfl, rfl, .inr ⟨_, rfl, ?_⟩⟩
    refine ⟨_, _, rfl, rfl, .inr (b01 _), _, rfl, _, _, rfl, rfl, (by show (0 : Int) < 2147483629; decide), _, rfl, _, _, rfl, rfl, .inl ⟨by decide, by decide⟩, _, _, rfl, rfl, _, _, rfl, rfl, _, _, rfl, rfl, .inr ⟨by decide, by decide⟩, _, _, rfl, rfl, (by show (0 : Int) < 2147483647; decide), (by show 3 ≤ sizeLine; decide), fun p np => ?_⟩
    refine q p _ np (same_upd np) ⟨_, _, _, upd_same, Int.mul_nonneg (abs_nn 0) (b01n _), Int.emod_nonneg _ (by decide), Int.emod_lt_of_pos _ (by decide), by decide, by decide⟩
/-! ### _law_folded -/
theorem scFolded : FnScope ["_law_script", "_law_size", "_law_cells", "_law_k", "_law_cell"] ["_law_script", "_law_size"] (defScope sFolded) := ⟨rfl, rfl, rfl, by decide +kernel, rfl, by decide +kernel, by decide +kernel⟩
def spFolded (K : PySem.W.Frag) : Sp := fun vs H Q _ => ∃ (a : Addr) (ns : List Int) (m : Nat), vs = [.ref a, .int (m : Int)] ∧ SqL K H a (ns.map V.int) ∧ ns.length ≤ 63 ∧ 1 ≤ m ∧ m ≤ 63 ∧
  ∀ (p : Addr) (H' : Hp) (zs : List Int), H p = none → Same H H' → H' p = some (.lst (zs.map V.int)) → zs.length = min ns.length m → Q (.ref p) H'
theorem cut_lo (ns : List Int) (m : Nat) : cutV (ns.map V.int) none (some (m : Int)) = (ns.take m).map V.int := by
  unfold cutV
  rw [HT.sIx_none, HT.sIx_nat, List.drop_zero, Nat.sub_zero, List.length_map, ← List.map_take]
  congr 1
  rw [List.take_eq_take_iff]
  omega
theorem cut_mid (ns : List Int) (m j : Nat) : ∃ ws : List Int, cutV (ns.map V.int) (some (m : Int)) (some (j : Int)) = ws.map V.int ∧ ws.length ≤ ns.length - m := by
  unfold cutV
  rw [HT.sIx_nat, HT.sIx_nat, List.length_map, ← List.map_drop, ← List.map_take]
  refine ⟨_, rfl, ?_⟩
  rw [List.length_take, List.length_drop]
  omega
theorem int_at {ws : List Int} {i : Nat} {x : V} (h : (ws.map V.int)[i]? = some x) : ∃ z, ws[i]? = some z ∧ x = .int z := by
  rw [List.getElem?_map] at h
  cases e : ws[i]? with
  | none =>
    rw [e] at h
    cases h
  | some z =>
    rw [e] at h
    exact ⟨z, rfl, (Option.some.inj h).symm⟩
theorem map_set (zs : List Int) (j : Nat) (v : Int) : (zs.map V.int).set j (.int v) = (zs.set j v).map V.int := List.map_set.symm
theorem ixN_nat {n j : Nat} (h : j < n) : ixN n (j : Int) = some j := by
  unfold ixN
  rw [if_pos (Int.natCast_nonneg j), if_pos (by omega), Int.toNat_natCast]
theorem ok_folded {f : Addr} {fd : FuncData} {k : Nat} (F : Fun K "_law_folded" "_law_folded" sFolded f fd) (B : Bl mg) : FnOk P w K mg base CX0 (k + 1) f fd ["_law_script", "_law_size"] (spFolded K) := by
  refine F.ok scFolded (fun vs H Q E h => ?_) (fun cdv A outer s H vs Q E hr h => ?_)
  · obtain ⟨a, ns, m, rfl, _⟩ := h
    rfl
  obtain ⟨a, ns, m, rfl, hS, h63, hm1, hm2, q⟩ := h
  refine ⟨_, pss_cons (ps_set (i := 2) scFolded.nd rfl (.inl rfl) (pe_callTy call_list_of (by rfl) B.list PyProof.Rows.boot_list (pa_cons (pe_slice sl_list (pv 0) po_none (po_some (pv 1))) pa_nil)))
    (pss_cons (ps_for PassesOwn.never rfl (pi_enum (by rfl) B.enumerate (pa_cons (pe_slice sl_list (pv 0) (po_some (pv 1)) (po_some pe_int)) pa_nil))
        (pg_tup rfl (pgs_cons (pg_name (i := 3) scFolded.nd rfl (.inl rfl)) (pgs_cons (pg_name (i := 4) scFolded.nd rfl (.inl rfl)) pgs_nil)))
      (pss_one (ps_asg (pe_op op_add (pe_ix ix_list (pv 2) (pe_op op_mod (pv 3) (pv 1)) (fun _ _ => rfl)) (pe_op op_mul (pv 4) (pe_op op_add (pv 3) pe_int))) (pg_sub (pv 2) (pe_op op_mod (pv 3) (pv 1)) set_list))))
    (pss_one (ps_ret (pv 2)))), ?_⟩
  refine ⟨_, rfl, _, rfl, _, rfl, a, _, rfl, hS, fun c0 nc0 => ?_⟩
  rw [cut_lo]
  have s0 : Same H (upd H c0 (.lst ((ns.take m).map V.int))) := same_upd nc0
  refine ⟨c0, _, rfl, .inl (.inl (.inl upd_same)), fun p np => ?_⟩
  have npH : H p = none := s0.free np
  have ne0 : c0 ≠ p := fun e => by
    subst e
    rw [upd_same] at np
    cases np
  have s1 := s0.trans (same_upd (o := .lst ((ns.take m).map V.int)) np)
  refine ⟨_, rfl, _, rfl, _, rfl, _, rfl, a, _, rfl, s1.seq hS, fun c nc => ?_⟩
  obtain ⟨ws, ew, lw⟩ := cut_mid ns m 63
  rw [show ((63 : Nat) : Int) = (63 : Int) from rfl] at ew
  rw [ew]
  have s2 := s1.trans (same_upd (o := .lst (ws.map V.int)) nc)
  have nec : c ≠ p := fun e => by
    subst e
    rw [upd_same] at nc
    cases nc
  refine ⟨c, _, rfl, .inl (.inl upd_same), ?_⟩
  refine for_it (walk_enum (K := K) (a := c) (xs := ws.map V.int)) (fun i σ H3 => ∃ (y3 y4 : Option V) (zs : List Int), σ = [some (.ref a), some (.int (m : Int)), some (.ref p), y3, y4] ∧ Same H H3 ∧ H3 c = some (.lst (ws.map V.int)) ∧ H3 p = some (.lst (zs.map V.int)) ∧ zs.length = min ns.length m)
    ⟨none, none, ns.take m, rfl, s2, upd_same, ?_, ?_⟩ (fun i σ H3 _ ⟨_, _, _, _, _, e, _⟩ => .inl (.inl e)) ?_ ?_
  · rw [upd_ne nec.symm]
    exact upd_same
  · rw [List.length_take, Nat.min_comm]
  · rintro i v σ H3 H4 hi ⟨y3, y4, zs, rfl, s3, ec, ep, el⟩ ⟨T, x, y, rfl, nT, rfl, e1, e2⟩
    cases e1
    obtain ⟨z, _, rfl⟩ := int_at e2
    rw [List.length_map] at hi
    have npT : p ≠ T := ne_of_none ep nT
    have ncT : c ≠ T := ne_of_none ec nT
    have sT : Same H3 (upd H3 T (.tup [.int (i : Nat), .int z])) := same_upd nT
    refine ⟨T, _, rfl, .inl (.inl upd_same), rfl, _, _, rfl, _, _, rfl, rfl, ?_⟩
    have lm : (i : Int) % (m : Int) = ((i % m : Nat) : Int) := rfl
    have hl : i % m < zs.length := by
      have := Nat.mod_lt i (show 0 < m by omega)
      omega
    have ev : (zs.map V.int)[i % m]? = some (.int zs[i % m]) := by
      rw [List.getElem?_map, List.getElem?_eq_getElem hl]
      rfl
    refine ⟨_, rfl, _, rfl, _, rfl, _, _, rfl, rfl, (by show (0 : Int) < (m : Int); omega), p, _, _, _, rfl, rfl, SqL.of (sT _ _ ep), (by rw [lm]; exact atI_nat ev), _, rfl, _, rfl, _, _, rfl, rfl, _, _, rfl, rfl, .inr ⟨by omega, by omega⟩, _, _, rfl, rfl, ?_⟩
    refine ⟨_, rfl, _, rfl, _, rfl, _, _, rfl, rfl, (by show (0 : Int) < (m : Int); omega), p, _, _, i % m, rfl, rfl, sT _ _ ep, (by rw [lm, List.length_map]; exact ixN_nat hl), ?_⟩
    refine ⟨_, _, zs.set (i % m) (zs[i % m] + z * ((i : Int) + 2)), rfl, fun b o e => ?_, ?_, ?_, ?_⟩
    · rw [upd_ne (ne_of_none e npH)]
      exact sT _ _ (s3 _ _ e)
    · rw [upd_ne nec]
      exact sT _ _ ec
    · rw [upd_same, map_set]
    · rw [List.length_set]
      exact el
  · rintro σ H3 ⟨y3, y4, zs, rfl, s3, ec, ep, el⟩
    exact ⟨_, rfl, q p H3 zs npH s3 ep el⟩
/-! ### _law_same: of two things of one kind and worth -/
theorem scSame : FnScope ["_law_found", "_law_due", "_law_one", "_law_other"] ["_law_found", "_law_due"] (defScope sSame) := ⟨rfl, rfl, rfl, by decide +kernel, rfl, by decide +kernel, by decide +kernel⟩
def Lv : Nat → PyData → Prop
  | _, .none => True
  | _, .bool _ => True
  | _, .int _ => True
  | _, .str _ => True
  | n + 1, .list ds => ds.length ≤ 1000000 ∧ ∀ d ∈ ds, Lv n d
  | n + 1, .tuple ds => ds.length ≤ 1000000 ∧ ∀ d ∈ ds, Lv n d
  | _, _ => False
mutual
theorem Dp.same {H H' : Hp} (s : Same H H') : ∀ (d : PyData) (v : V), Dp K H v d → Dp K H' v d
  | .none, _, h => by
    cases h
    exact .non
  | .bool b, _, h => by
    cases h
    exact .bl b
  | .int i, _, h => by
    cases h
    exact .int i
  | .str x, _, h => by
    cases h
    exact .str x
  | .list ds, _, h => by
    cases h with
    | lst hs ha => exact .lst (s.seq hs) (Dp.sameAll s ds _ ha)
  | .tuple ds, _, h => by
    cases h with
    | tup hs ha => exact .tup (Same.seqT s hs) (Dp.sameAll s ds _ ha)
  | .dict _, _, h => by cases h
theorem Dp.sameAll {H H' : Hp} (s : Same H H') : ∀ (ds : List PyData) (vs : List V), DpAll K H vs ds → DpAll K H' vs ds
  | [], _, h => by
    cases h
    exact .nil
  | d :: ds, _, h => by
    cases h with
    | cons h1 h2 => exact .cons (Dp.same s d _ h1) (Dp.sameAll s ds _ h2)
end
theorem DpAll.len {H : Hp} : ∀ {ds : List PyData} {vs : List V}, DpAll K H vs ds → vs.length = ds.length
  | [], _, h => by
    cases h
    rfl
  | d :: ds, _, h => by
    cases h with
    | cons h1 h2 => rw [List.length_cons, List.length_cons, DpAll.len h2]
theorem DpAll.get {H : Hp} : ∀ {ds : List PyData} {vs : List V} {i : Nat} {x : V}, DpAll K H vs ds → vs[i]? = some x → ∃ d, ds[i]? = some d ∧ Dp K H x d
  | [], _, i, x, h, e => by
    cases h
    cases e
  | d :: ds, _, 0, x, h, e => by
    cases h with
    | cons h1 h2 =>
      cases e
      exact ⟨d, rfl, h1⟩
  | d :: ds, _, i + 1, x, h, e => by
    cases h with
    | @cons _ vs _ _ h1 h2 => exact DpAll.get (ds := ds) (vs := vs) h2 (show vs[i]? = some x from e)
theorem walk_zipT {a b : Addr} {xs ys : List V} {n : Nat} (hn : n = min xs.length ys.length) : Walk (RZ.ItzT K a b) n (fun H => SqT K H a xs ∧ SqT K H b ys) (YPair (fun i => xs[i]?) (fun i => ys[i]?)) := by
  subst hn
  refine ⟨fun i _ hi q => ?_, fun _ q => ⟨xs, ys, q.1, q.2, by omega⟩, fun i H v H' _ q y => ?_⟩
  · have h1 : i < xs.length := by omega
    have h2 : i < ys.length := by omega
    exact ⟨xs, ys, xs[i], ys[i], q.1, q.2, by simp [h1], by simp [h2]⟩
  · obtain ⟨T, x, z, h1, h2, h3, h4, h5⟩ := y
    exact ⟨T, x, z, h1, h2, h3, h4 xs q.1, h5 ys q.2⟩
theorem ty_lst {H : Hp} {a : Addr} {xs : List V} (h : SqL K H a xs) : TyX K H (.ref a) (.type "list") := by
  rcases h with (h | ⟨o, h⟩) | ⟨o, its, n, h1, h2, _⟩
  · exact .base (.lst h)
  · exact .base (.frz h)
  · exact .kList h1 h2
theorem ty_tup {H : Hp} {a : Addr} {xs : List V} (h : SqT K H a xs) : TyX K H (.ref a) (.type "tuple") := by
  rcases h with (h | ⟨o, h⟩) | ⟨o, its, n, h1, h2, _⟩
  · exact .base (.tup h)
  · exact .fTuple h
  · exact .kTuple h1 h2
def spSame (K : PySem.W.Frag) (k : Nat) : Sp := fun vs H Q _ => ∃ (x y : V) (d : PyData) (j : Nat), vs = [x, y] ∧ k = j + 1 ∧ Lv j d ∧ Dp K H x d ∧ Dp K H y d ∧ ∀ H', Same H H' → Q (.bl true) H'
theorem same_none {f : Addr} {fd : FuncData} : FnOk P w K mg base CX0 0 f fd ["_law_found", "_law_due"] (spSame K 0) := by
  have no : ∀ vs H Q E, ¬ spSame K 0 vs H Q E := fun vs H Q E h => by
    obtain ⟨x, y, d, j, _, h0, _⟩ := h
    omega
  exact ⟨fun vs H Q E h => absurd h (no vs H Q E), fun A outer s H args us vs Q E _ _ _ _ h => absurd h (no vs H Q E)⟩
theorem yesT {σ : L2.St} {H : Hp} {R S : Hp → Prop} (h : R H) : tYes σ H fun b H3 => if b = true then R H3 else S H3 := h
theorem repl_snoc {α : Type} (i : Nat) (x : α) : List.replicate i x ++ [x] = List.replicate (i + 1) x := List.replicate_succ'.symm
theorem all_repl (n : Nat) : (List.replicate n true).all id = true := by
  rw [List.all_eq_true]
  intro x hx
  rw [List.eq_of_mem_replicate hx]
  rfl
theorem kitLT {t : String} {r1 r2 : Bool} (h1 : kitB t "list" = some r1) (h2 : kitB t "tuple" = some r2) : PySem.W.kitAny K (.type t) [.type "list", .type "tuple"] = some (r1 || r2) := by
  refine kitAny_cons (kit_ty h1) (fun e => ?_) (fun e => by rw [e]; rfl)
  rw [e, Bool.false_or]
  refine kitAny_cons (kit_ty h2) (fun e => ?_) (fun e => e)
  rw [e]
  rfl
theorem ok_same1 {f : Addr} {fd : FuncData} {k : Nat} (F : Fun K "_law_same" "_law_same" sSame f fd) (G : FnOk P w K mg base CX0 k f fd ["_law_found", "_law_due"] (spSame K k)) (bf : Binds K fd ["_law_found", "_law_due"] []) (mf : mg "_law_same" = some (.ref f)) (B : Bl mg) :
    FnOk P w K mg base CX0 (k + 1) f fd ["_law_found", "_law_due"] (spSame K (k + 1)) := by
  refine F.ok scSame (fun vs H Q E h => ?_) (fun cdv A outer s H vs Q E hr h => ?_)
  · obtain ⟨x, y, d, j, rfl, _⟩ := h
    rfl
  obtain ⟨x, y, d, j, rfl, ej, lv, dx, dy, q⟩ := h
  obtain rfl : k = j := by omega
  refine ⟨_, pss_cons (ps_if (pt_val (pe_callB call_isiT (by rfl) B.isinstance boot_isinstance (pa_cons (pv 1) (pa_cons (pe_tup (pa_cons (pe_bltn (v := .ty "list") (by rfl) B.list PyProof.Rows.boot_list rfl) (pa_cons (pe_bltn (v := .ty "tuple") (by rfl) B.tuple PyProof.Rows.boot_tuple rfl) pa_nil))) pa_nil))))
      (pss_cons (ps_if (PW.pt (pw_or (pt_cmpR op_ne (pe_callB call_isi (by rfl) B.isinstance boot_isinstance (pa_cons (pv 0) (pa_cons (pe_bltn (v := .ty "list") (by rfl) B.list PyProof.Rows.boot_list rfl) pa_nil))) (pe_callB call_isi (by rfl) B.isinstance boot_isinstance (pa_cons (pv 1) (pa_cons (pe_bltn (v := .ty "list") (by rfl) B.list PyProof.Rows.boot_list rfl) pa_nil))) (nomark _))
          (pw_or1 (pt_cmpR op_ne (pe_callB call_isi (by rfl) B.isinstance boot_isinstance (pa_cons (pv 0) (pa_cons (pe_bltn (v := .ty "tuple") (by rfl) B.tuple PyProof.Rows.boot_tuple rfl) pa_nil))) (pe_callB call_isi (by rfl) B.isinstance boot_isinstance (pa_cons (pv 1) (pa_cons (pe_bltn (v := .ty "tuple") (by rfl) B.tuple PyProof.Rows.boot_tuple rfl) pa_nil))) (nomark _)))))
          (pss_one (ps_ret pe_bl)) pss_nil)
        (pss_one (ps_ret (pe_and (pe_cmpR op_eq (pe_callB call_len_seq (by rfl) B.len PySem.boot_len (pa_cons (pv 0) pa_nil)) (pe_callB call_len_seq (by rfl) B.len PySem.boot_len (pa_cons (pv 1) pa_nil)) (nomark _))
          (pe_one (pe_callB (cr_all rfl) (by rfl) B.all boot_all (pa_cons (pe_lc (own := [("_law_one", 2), ("_law_other", 3)]) (g := gTup K 2 (gCons (gName 2) (gCons (gName 3) gNil))) (by rfl) scSame.nd (RZ.pi_zipA (by rfl) B.zip (pa_cons (pv 0) (pa_cons (pv 1) pa_nil)))
            (blkOk_by (own := [("_law_one", 2), ("_law_other", 3)]) (N := ["_law_found", "_law_due", "_law_one", "_law_other"]) (sc := defScope sSame) (by decide +kernel))
            (fun _ _ _ _ _ => pg_tup rfl (pgs_cons (pg_name (i := 2) scSame.nd rfl (Or.inl rfl) (.inr rfl)) (pgs_cons (pg_name (i := 3) scSame.nd rfl (Or.inl rfl) (.inr rfl)) pgs_nil))) (fun _ _ _ _ _ => pts_nil)
            (fun _ _ _ _ _ => pe_call G hr (by rfl) mf F.kp bf .nil pass0 (pa_cons (pv 2) (pa_cons (pv 3) pa_nil)))) pa_nil))))))) pss_nil)
    (pss_cons (ps_if (PW.pt (pw_or (pt_cmpR op_isN (pv 1) pe_non (nomark _)) (pw_or1 (pt_val (pe_callB call_isi (by rfl) B.isinstance boot_isinstance (pa_cons (pv 1) (pa_cons (pe_bltn (v := .ty "str") (by rfl) B.str PyProof.Rows.boot_str rfl) pa_nil)))))))
      (pss_one (ps_ret (pe_and (pe_cmpR op_eq (pv 0) (pv 1) (nomark _)) (pe_one (pe_cmpR op_eq (pe_callB call_isi (by rfl) B.isinstance boot_isinstance (pa_cons (pv 0) (pa_cons (pe_bltn (v := .ty "str") (by rfl) B.str PyProof.Rows.boot_str rfl) pa_nil))) (pe_callB call_isi (by rfl) B.isinstance boot_isinstance (pa_cons (pv 1) (pa_cons (pe_bltn (v := .ty "str") (by rfl) B.str PyProof.Rows.boot_str rfl) pa_nil))) (nomark _)))))) pss_nil)
    (pss_one (ps_ret (pe_and (pe_callB call_isi (by rfl) B.isinstance boot_isinstance (pa_cons (pv 0) (pa_cons (pe_bltn (v := .ty "int") (by rfl) B.int PyProof.Rows.boot_int rfl) pa_nil))) (pe_and (pe_cmpR op_eq (pe_callB call_isi (by rfl) B.isinstance boot_isinstance (pa_cons (pv 0) (pa_cons (pe_bltn (v := .ty "bool") (by rfl) B.bool PyProof.Rows.boot_bool rfl) pa_nil))) (pe_callB call_isi (by rfl) B.isinstance boot_isinstance (pa_cons (pv 1) (pa_cons (pe_bltn (v := .ty "bool") (by rfl) B.bool PyProof.Rows.boot_bool rfl) pa_nil))) (nomark _))
      (pe_one (pe_cmpR op_eq (pv 0) (pv 1) (nomark _)))))))), ?_⟩
  have pr : Paired ClsV [.ty "list", .ty "tuple"] [.type "list", .type "tuple"] := .cons (.ty _) (.cons (.ty _) .nil)
  refine ⟨_, rfl, (by show 2 ≤ sizeLine; decide), fun tp ntp => ?_⟩
  have s0 : Same H (upd H tp (.tup [.ty "list", .ty "tuple"])) := same_upd ntp
  cases d with
  | none =>
    cases dx
    cases dy
    refine ⟨_, tp, _, _, _, _, rfl, upd_same, pr, .base .non, kitLT (t := "NoneType") (r1 := false) (r2 := false) (by decide +kernel) (by decide +kernel), _, rfl, iteF ?_⟩
    refine ⟨_, rfl, rfl, _, rfl, iteT (iteT ?_)⟩
    refine ⟨_, rfl, _, rfl, rfl, _, rfl, iteT ?_⟩
    refine ⟨_, rfl, _, _, _, _, _, rfl, .ty _, .base .non, kit_ty (by decide +kernel : kitB "NoneType" "str" = some false), _, rfl, _, _, _, _, _, rfl, .ty _, .base .non, kit_ty (by decide +kernel : kitB "NoneType" "str" = some false), rfl, q _ s0⟩
  | bool b =>
    cases dx
    cases dy
    refine ⟨_, tp, _, _, _, _, rfl, upd_same, pr, .base (.bl _), kitLT (t := "bool") (r1 := false) (r2 := false) (by decide +kernel) (by decide +kernel), _, rfl, iteF ?_⟩
    refine ⟨_, rfl, rfl, _, rfl, iteF ?_⟩
    refine ⟨_, rfl, _, _, _, _, _, rfl, .ty _, .base (.bl _), kit_ty (by decide +kernel : kitB "bool" "str" = some false), _, rfl, iteF ?_⟩
    refine ⟨_, rfl, _, _, _, _, _, rfl, .ty _, .base (.bl _), kit_ty (by decide +kernel : kitB "bool" "int" = some true), _, rfl, iteT ?_⟩
    refine ⟨_, rfl, _, _, _, _, _, rfl, .ty _, .base (.bl _), kit_ty (by decide +kernel : kitB "bool" "bool" = some true), _, rfl, _, _, _, _, _, rfl, .ty _, .base (.bl _), kit_ty (by decide +kernel : kitB "bool" "bool" = some true), rfl, _, rfl, iteT ?_⟩
    refine ⟨_, rfl, _, rfl, rfl, ?_⟩
    rw [decide_eq_true rfl]
    exact q _ s0
  | int i =>
    cases dx
    cases dy
    refine ⟨_, tp, _, _, _, _, rfl, upd_same, pr, .base (.int _), kitLT (t := "int") (r1 := false) (r2 := false) (by decide +kernel) (by decide +kernel), _, rfl, iteF ?_⟩
    refine ⟨_, rfl, rfl, _, rfl, iteF ?_⟩
    refine ⟨_, rfl, _, _, _, _, _, rfl, .ty _, .base (.int _), kit_ty (by decide +kernel : kitB "int" "str" = some false), _, rfl, iteF ?_⟩
    refine ⟨_, rfl, _, _, _, _, _, rfl, .ty _, .base (.int _), kit_ty (by decide +kernel : kitB "int" "int" = some true), _, rfl, iteT ?_⟩
    refine ⟨_, rfl, _, _, _, _, _, rfl, .ty _, .base (.int _), kit_ty (by decide +kernel : kitB "int" "bool" = some false), _, rfl, _, _, _, _, _, rfl, .ty _, .base (.int _), kit_ty (by decide +kernel : kitB "int" "bool" = some false), rfl, _, rfl, iteT ?_⟩
    refine ⟨_, rfl, _, rfl, rfl, ?_⟩
    rw [decide_eq_true rfl]
    exact q _ s0
  | str z =>
    cases dx
    cases dy
    refine ⟨_, tp, _, _, _, _, rfl, upd_same, pr, .base (.str _), kitLT (t := "str") (r1 := false) (r2 := false) (by decide +kernel) (by decide +kernel), _, rfl, iteF ?_⟩
    refine ⟨_, rfl, rfl, _, rfl, iteF ?_⟩
    refine ⟨_, rfl, _, _, _, _, _, rfl, .ty _, .base (.str _), kit_ty (by decide +kernel : kitB "str" "str" = some true), _, rfl, iteT ?_⟩
    refine ⟨_, rfl, _, rfl, rfl, ?_⟩
    rw [decide_eq_true rfl]
    refine ⟨_, rfl, iteT ?_⟩
    exact ⟨_, rfl, _, _, _, _, _, rfl, .ty _, .base (.str _), kit_ty (by decide +kernel : kitB "str" "str" = some true), _, rfl, _, _, _, _, _, rfl, .ty _, .base (.str _), kit_ty (by decide +kernel : kitB "str" "str" = some true), rfl, q _ s0⟩
  | list ds =>
    cases dx with
    | @lst a xs _ hx ax =>
    cases dy with
    | @lst b ys _ hy ay =>
    obtain ⟨i, rfl⟩ : ∃ i, k = i + 1 := by
      cases k with
      | zero => exact absurd lv id
      | succ i => exact ⟨i, rfl⟩
    have lx := DpAll.len ax
    have ly := DpAll.len ay
    have hx1 := s0.seq hx
    have hy1 := s0.seq hy
    refine ⟨_, tp, _, _, _, _, rfl, upd_same, pr, ty_lst hy1, kitLT (t := "list") (r1 := true) (r2 := false) (by decide +kernel) (by decide +kernel), _, rfl, iteT ?_⟩
    refine ⟨_, rfl, _, _, _, _, _, rfl, .ty _, ty_lst hx1, kit_ty (by decide +kernel : kitB "list" "list" = some true), _, rfl, _, _, _, _, _, rfl, .ty _, ty_lst hy1, kit_ty (by decide +kernel : kitB "list" "list" = some true), rfl, _, rfl, iteF ?_⟩
    refine ⟨_, rfl, _, _, _, _, _, rfl, .ty _, ty_lst hx1, kit_ty (by decide +kernel : kitB "list" "tuple" = some false), _, rfl, _, _, _, _, _, rfl, .ty _, ty_lst hy1, kit_ty (by decide +kernel : kitB "list" "tuple" = some false), rfl, _, rfl, iteF ?_⟩
    refine ⟨_, rfl, a, _, rfl, .inl hx1, _, rfl, b, _, rfl, .inl hy1, rfl, ?_⟩
    rw [decide_eq_true (by rw [lx, ly])]
    refine ⟨_, rfl, iteT ?_⟩
    refine ⟨_, rfl, _, rfl, a, b, xs, ys, rfl, .inl ⟨hx1, hy1, fun D nD => ?_⟩⟩
    have sD := s0.trans (same_upd (o := .lst []) nD)
    refine lc_it (walk_zip (K := K) (a := a) (b := b) (xs := xs) (ys := ys) rfl) (fun i H3 => Same H H3 ∧ H3 D = some (.lst (List.replicate i (.bl true)))) ⟨sD, upd_same⟩ (fun i H3 _ ⟨s3, _⟩ => ⟨s3.seq hx, s3.seq hy⟩) ?_ ?_
    · rintro i v H3 H4 hi ⟨s3, eD⟩ ⟨T, x, y, rfl, nT, rfl, e1, e2⟩
      obtain ⟨d1, g1, p1⟩ := DpAll.get ax e1
      obtain ⟨d2, g2, p2⟩ := DpAll.get ay e2
      obtain rfl : d1 = d2 := Option.some.inj (g1.symm.trans g2)
      have s4 := s3.trans (same_upd (o := .tup [x, y]) nT)
      refine ⟨T, _, rfl, .inl (.inl upd_same), rfl, _, _, rfl, _, _, rfl, rfl, rfl, ?_⟩
      refine yesT ?_
      refine ⟨_, rfl, _, rfl, x, y, d1, _, rfl, rfl, lv.2 d1 (List.mem_of_getElem? g1), Dp.same s4 _ _ p1, Dp.same s4 _ _ p2, fun H5 s5 => ?_⟩
      refine ⟨_, s5 _ _ (by rw [upd_ne (ne_of_none eD nT)]; exact eD), ?_, fun p o e => ?_, ?_⟩
      · rw [List.length_replicate]
        have := lv.1
        refine Nat.lt_of_lt_of_le (show i < 1000000 by omega) (by decide)
      · rw [upd_ne (ne_of_none e (s0.free nD))]
        exact s5 _ _ (s4 _ _ e)
      · rw [upd_same, repl_snoc]
    · rintro H3 ⟨s3, eD⟩
      refine ⟨D, List.replicate (min xs.length ys.length) true, rfl, .inl (.inl (by rw [List.map_replicate]; exact eD)), ?_⟩
      rw [all_repl]
      exact q _ s3
  | tuple ds =>
    cases dx with
    | @tup a xs _ hx ax =>
    cases dy with
    | @tup b ys _ hy ay =>
    obtain ⟨i, rfl⟩ : ∃ i, k = i + 1 := by
      cases k with
      | zero => exact absurd lv id
      | succ i => exact ⟨i, rfl⟩
    have lx := DpAll.len ax
    have ly := DpAll.len ay
    have hx1 := Same.seqT s0 hx
    have hy1 := Same.seqT s0 hy
    refine ⟨_, tp, _, _, _, _, rfl, upd_same, pr, ty_tup hy1, kitLT (t := "tuple") (r1 := false) (r2 := true) (by decide +kernel) (by decide +kernel), _, rfl, iteT ?_⟩
    refine ⟨_, rfl, _, _, _, _, _, rfl, .ty _, ty_tup hx1, kit_ty (by decide +kernel : kitB "tuple" "list" = some false), _, rfl, _, _, _, _, _, rfl, .ty _, ty_tup hy1, kit_ty (by decide +kernel : kitB "tuple" "list" = some false), rfl, _, rfl, iteF ?_⟩
    refine ⟨_, rfl, _, _, _, _, _, rfl, .ty _, ty_tup hx1, kit_ty (by decide +kernel : kitB "tuple" "tuple" = some true), _, rfl, _, _, _, _, _, rfl, .ty _, ty_tup hy1, kit_ty (by decide +kernel : kitB "tuple" "tuple" = some true), rfl, _, rfl, iteF ?_⟩
    refine ⟨_, rfl, a, _, rfl, .inr hx1, _, rfl, b, _, rfl, .inr hy1, rfl, ?_⟩
    rw [decide_eq_true (by rw [lx, ly])]
    refine ⟨_, rfl, iteT ?_⟩
    refine ⟨_, rfl, _, rfl, a, b, xs, ys, rfl, .inr ⟨hx1, hy1, fun D nD => ?_⟩⟩
    have sD := s0.trans (same_upd (o := .lst []) nD)
    refine lc_it (walk_zipT (K := K) (a := a) (b := b) (xs := xs) (ys := ys) rfl) (fun i H3 => Same H H3 ∧ H3 D = some (.lst (List.replicate i (.bl true)))) ⟨sD, upd_same⟩ (fun i H3 _ ⟨s3, _⟩ => ⟨Same.seqT s3 hx, Same.seqT s3 hy⟩) ?_ ?_
    · rintro i v H3 H4 hi ⟨s3, eD⟩ ⟨T, x, y, rfl, nT, rfl, e1, e2⟩
      obtain ⟨d1, g1, p1⟩ := DpAll.get ax e1
      obtain ⟨d2, g2, p2⟩ := DpAll.get ay e2
      obtain rfl : d1 = d2 := Option.some.inj (g1.symm.trans g2)
      have s4 := s3.trans (same_upd (o := .tup [x, y]) nT)
      refine ⟨T, _, rfl, .inl (.inl upd_same), rfl, _, _, rfl, _, _, rfl, rfl, rfl, ?_⟩
      refine yesT ?_
      refine ⟨_, rfl, _, rfl, x, y, d1, _, rfl, rfl, lv.2 d1 (List.mem_of_getElem? g1), Dp.same s4 _ _ p1, Dp.same s4 _ _ p2, fun H5 s5 => ?_⟩
      refine ⟨_, s5 _ _ (by rw [upd_ne (ne_of_none eD nT)]; exact eD), ?_, fun p o e => ?_, ?_⟩
      · rw [List.length_replicate]
        have := lv.1
        refine Nat.lt_of_lt_of_le (show i < 1000000 by omega) (by decide)
      · rw [upd_ne (ne_of_none e (s0.free nD))]
        exact s5 _ _ (s4 _ _ e)
      · rw [upd_same, repl_snoc]
    · rintro H3 ⟨s3, eD⟩
      refine ⟨D, List.replicate (min xs.length ys.length) true, rfl, .inl (.inl (by rw [List.map_replicate]; exact eD)), ?_⟩
      rw [all_repl]
      exact q _ s3
  | dict _ => cases dx
theorem ok_same {f : Addr} {fd : FuncData} (F : Fun K "_law_same" "_law_same" sSame f fd) (bf : Binds K fd ["_law_found", "_law_due"] []) (mf : mg "_law_same" = some (.ref f)) (B : Bl mg) : ∀ k : Nat, FnOk P w K mg base CX0 k f fd ["_law_found", "_law_due"] (spSame K k)
  | 0 => same_none
  | k + 1 => ok_same1 F (ok_same F bf mf B k) bf mf B
end
end GZ
namespace GM
theorem pow_pos' (n : Nat) : (0 : Int) < 2 ^ n := Int.pow_pos (by decide)
theorem pow_s (n : Nat) : (2 : Int) ^ (n + 1) = 2 ^ n * 2 := Int.pow_succ 2 n
theorem pow_le' {m n : Nat} (h : m ≤ n) : (2 : Int) ^ m ≤ 2 ^ n := by
  induction n with
  | zero =>
    have : m = 0 := by omega
    rw [this]
    exact Int.le_refl _
  | succ n ih =>
    by_cases e : m = n + 1
    · rw [e]
      exact Int.le_refl _
    · have := ih (by omega)
      have := pow_s n
      have := pow_pos' n
      omega
theorem pow_add' (m n : Nat) : (2 : Int) ^ (m + n) = 2 ^ m * 2 ^ n := Int.pow_add 2 m n
theorem bits_pow {x : Nat} {e : Nat} (h : x < 2 ^ e) : PySem.Builtin.Int.intBits (x : Int) ≤ e := PyProof.Rows.intBits_le (by rw [Int.natAbs_natCast]; exact h)
theorem bits_le_pow {x : Nat} {e : Nat} (h : 2 ^ e ≤ x) : e + 1 ≤ PySem.Builtin.Int.intBits (x : Int) := by
  have hx : x ≠ 0 := by
    have := Nat.two_pow_pos e
    omega
  unfold PySem.Builtin.Int.intBits
  rw [if_neg (by simpa using hx), Int.natAbs_natCast]
  have := (Nat.le_log2 hx).mpr h
  omega
theorem bits_unique {x e : Nat} (h1 : 2 ^ e ≤ x) (h2 : x < 2 ^ (e + 1)) : PySem.Builtin.Int.intBits (x : Int) = e + 1 := by
  have := bits_pow h2
  have := bits_le_pow h1
  omega
theorem bits_ex {x : Nat} (h : 0 < x) : ∃ e, 2 ^ e ≤ x ∧ x < 2 ^ (e + 1) := ⟨x.log2, Nat.log2_self_le (by omega), Nat.lt_log2_self⟩
theorem bits_half {x : Nat} (h : 0 < x) : PySem.Builtin.Int.intBits (x : Int) = PySem.Builtin.Int.intBits ((x / 2 : Nat) : Int) + 1 := by
  obtain ⟨e, h1, h2⟩ := bits_ex h
  rw [bits_unique h1 h2]
  cases e with
  | zero =>
    have : x = 1 := by
      simp at h1 h2
      omega
    rw [this]
    rfl
  | succ e =>
    rw [bits_unique (x := x / 2) (e := e)]
    · rw [Nat.pow_succ] at h1
      omega
    · rw [Nat.pow_succ] at h2
      omega
theorem bits_double {x m : Nat} (h : 0 < x) (hm : m ≤ 1) : PySem.Builtin.Int.intBits ((2 * x + m : Nat) : Int) = PySem.Builtin.Int.intBits (x : Int) + 1 := by
  rw [bits_half (x := 2 * x + m) (by omega), show (2 * x + m) / 2 = x by omega]
theorem shr_lt {x : Int} {a b : Nat} (h0 : 0 ≤ x) (h : x < 2 ^ (a + b)) : 0 ≤ x / 2 ^ b ∧ x / 2 ^ b < 2 ^ a := by
  have hb := pow_pos' b
  refine ⟨Int.ediv_nonneg h0 (by omega), ?_⟩
  rw [pow_add'] at h
  exact Int.ediv_lt_of_lt_mul hb h
end GM
namespace GM
/-! ### words: a sign, a scale of m bits, a tail of t bits -/
def bit (a : Int) (n : Nat) : Int := a / 2 ^ n % 2
def blr (a : Int) : Nat → List Int
  | 0 => []
  | n + 1 => bit a n :: blr a n
def wv : List Int → Int
  | [] => 0
  | d :: r => d * 2 ^ r.length + wv r
theorem blr_len (a : Int) : ∀ n, (blr a n).length = n
  | 0 => rfl
  | n + 1 => by
    show (blr a n).length + 1 = n + 1
    rw [blr_len a n]
theorem div_div (w : Int) (t m : Nat) : w / 2 ^ t / 2 ^ m = w / 2 ^ (t + m) := by
  rw [pow_add', Int.ediv_ediv_of_nonneg (Int.le_of_lt (pow_pos' t))]
theorem bit_div (w : Int) (t m : Nat) : bit (w / 2 ^ t) m = bit w (m + t) := by
  unfold bit
  rw [div_div, Nat.add_comm t m]
theorem blr_take (w : Int) (t : Nat) : ∀ m, (blr w (m + t)).take m = blr (w / 2 ^ t) m
  | 0 => rfl
  | m + 1 => by
    show (blr w ((m + 1) + t)).take (m + 1) = bit (w / 2 ^ t) m :: blr (w / 2 ^ t) m
    rw [show m + 1 + t = (m + t) + 1 by omega]
    show bit w (m + t) :: (blr w (m + t)).take m = _
    rw [blr_take w t m, bit_div]
theorem blr_drop (w : Int) (t : Nat) : ∀ m, (blr w (m + t)).drop m = blr w t
  | 0 => by rw [Nat.zero_add]; rfl
  | m + 1 => by
    rw [show m + 1 + t = (m + t) + 1 by omega]
    show (blr w (m + t)).drop m = _
    exact blr_drop w t m
theorem mod_step (a : Int) (n : Nat) : bit a n * 2 ^ n + a % 2 ^ n = a % 2 ^ (n + 1) := by
  unfold bit
  have hp := pow_pos' n
  have e1 := Int.emod_add_mul_ediv a (2 ^ n)
  have e2 := Int.emod_add_mul_ediv (a / 2 ^ n) 2
  have h1 := Int.emod_nonneg a (show (2 : Int) ^ n ≠ 0 by omega)
  have h2 := Int.emod_lt_of_pos a hp
  have e3 : 2 ^ n * (a / 2 ^ n) = a / 2 ^ n % 2 * 2 ^ n + a / 2 ^ n / 2 * (2 ^ n * 2) := by
    conv => lhs; rw [← e2]
    rw [Int.mul_add, Int.mul_comm (2 ^ n) (a / 2 ^ n % 2), ← Int.mul_assoc, Int.mul_comm (2 ^ n * 2) _]
  have key : (a / 2 ^ n % 2 * 2 ^ n + a % 2 ^ n) + a / 2 ^ n / 2 * 2 ^ (n + 1) = a := by
    rw [pow_s]
    omega
  have hb : 0 ≤ a / 2 ^ n % 2 * 2 ^ n + a % 2 ^ n ∧ a / 2 ^ n % 2 * 2 ^ n + a % 2 ^ n < 2 ^ (n + 1) := by
    rw [pow_s]
    have : a / 2 ^ n % 2 = 0 ∨ a / 2 ^ n % 2 = 1 := by omega
    rcases this with z | z <;> rw [z] <;> omega
  have em := Int.add_mul_emod_self_right (a / 2 ^ n % 2 * 2 ^ n + a % 2 ^ n) (a / 2 ^ n / 2) (2 ^ (n + 1))
  rw [key, Int.emod_eq_of_lt hb.1 hb.2] at em
  exact em.symm
theorem wv_blr (a : Int) : ∀ n, wv (blr a n) = a % 2 ^ n
  | 0 => by
    show (0 : Int) = a % 1
    omega
  | n + 1 => by
    show bit a n * 2 ^ (blr a n).length + wv (blr a n) = _
    rw [blr_len, wv_blr a n, ← mod_step a n]
theorem fold2 : ∀ (ds : List Int) (w : Int), ds.foldl (fun a b => a * 2 + b) w = w * 2 ^ ds.length + wv ds
  | [], w => by
    show w = w * 2 ^ 0 + 0
    rw [Int.pow_zero]
    omega
  | d :: r, w => by
    show r.foldl (fun a b => a * 2 + b) (w * 2 + d) = w * 2 ^ (r.length + 1) + (d * 2 ^ r.length + wv r)
    rw [fold2 r, pow_s, Int.add_mul, Int.mul_assoc, Int.mul_comm 2 (2 ^ r.length)]
    omega
theorem wv_ones : ∀ k, wv (List.replicate k 1) = 2 ^ k - 1
  | 0 => rfl
  | k + 1 => by
    rw [List.replicate_succ]
    show 1 * 2 ^ (List.replicate k (1 : Int)).length + wv (List.replicate k 1) = _
    rw [List.length_replicate, wv_ones k, pow_s]
    omega
/-- sign, scale, tail of a word -/
def sgn (m t : Nat) (w : Int) : Int := w / 2 ^ (m + t) % 2
def scl (m t : Nat) (w : Int) : Int := w / 2 ^ t % 2 ^ m
def tlp (t : Nat) (w : Int) : Int := w % 2 ^ t
theorem scl_tlp (m t : Nat) (w : Int) : scl m t w * 2 ^ t + tlp t w = w % 2 ^ (m + t) := by
  induction m with
  | zero =>
    unfold scl tlp
    rw [Int.pow_zero, Int.emod_one, Int.zero_mul, Int.zero_add, Nat.zero_add]
  | succ m ih =>
    have e := mod_step (w / 2 ^ t) m
    have e2 := mod_step w (m + t)
    rw [bit_div] at e
    unfold scl at ih ⊢
    rw [← e, Int.add_mul, show m + 1 + t = (m + t) + 1 by omega, ← e2, ← ih, Int.mul_assoc, ← pow_add']
    omega
theorem sgn_01 {m t : Nat} {w : Int} : sgn m t w = 0 ∨ sgn m t w = 1 := by
  unfold sgn
  omega
theorem word_eq {m t : Nat} {w : Int} (h0 : 0 ≤ w) (h1 : w < 2 ^ (1 + m + t)) : sgn m t w * 2 ^ (m + t) + w % 2 ^ (m + t) = w := by
  have e := mod_step w (m + t)
  rw [show m + t + 1 = 1 + m + t by omega, Int.emod_eq_of_lt h0 h1] at e
  exact e
theorem scl_nn (m t : Nat) (w : Int) : 0 ≤ scl m t w ∧ scl m t w < 2 ^ m := ⟨Int.emod_nonneg _ (by have := pow_pos' m; omega), Int.emod_lt_of_pos _ (pow_pos' m)⟩
theorem tlp_nn (t : Nat) (w : Int) : 0 ≤ tlp t w ∧ tlp t w < 2 ^ t := ⟨Int.emod_nonneg _ (by have := pow_pos' t; omega), Int.emod_lt_of_pos _ (pow_pos' t)⟩
/-- with the other sign -/
def trn (m t : Nat) (w : Int) : Int := (1 - sgn m t w) * 2 ^ (m + t) + w % 2 ^ (m + t)
theorem mk_parts {m t : Nat} {s r : Int} (hs : s = 0 ∨ s = 1) (h0 : 0 ≤ r) (h1 : r < 2 ^ (m + t)) : 0 ≤ s * 2 ^ (m + t) + r ∧ s * 2 ^ (m + t) + r < 2 ^ (1 + m + t) ∧ sgn m t (s * 2 ^ (m + t) + r) = s ∧ (s * 2 ^ (m + t) + r) % 2 ^ (m + t) = r := by
  have hp := pow_pos' (m + t)
  have e : (2 : Int) ^ (1 + m + t) = 2 ^ (m + t) * 2 := by rw [← pow_s]; congr 1; omega
  have em : (s * 2 ^ (m + t) + r) % 2 ^ (m + t) = r := by
    rw [Int.add_comm, Int.add_mul_emod_self_right, Int.emod_eq_of_lt h0 h1]
  have ed : (s * 2 ^ (m + t) + r) / 2 ^ (m + t) = s := by
    rw [Int.add_comm, Int.add_mul_ediv_right _ _ (by omega), Int.ediv_eq_zero_of_lt h0 h1, Int.zero_add]
  refine ⟨?_, ?_, ?_, em⟩
  · rcases hs with z | z <;> subst z <;> omega
  · rw [e]
    rcases hs with z | z <;> subst z <;> omega
  · unfold sgn
    rw [ed]
    omega
theorem trn_trn {m t : Nat} {w : Int} (h0 : 0 ≤ w) (h1 : w < 2 ^ (1 + m + t)) : trn m t (trn m t w) = w ∧ 0 ≤ trn m t w ∧ trn m t w < 2 ^ (1 + m + t) := by
  have hp := pow_pos' (m + t)
  have hs : 1 - sgn m t w = 0 ∨ 1 - sgn m t w = 1 := by
    have := sgn_01 (m := m) (t := t) (w := w)
    omega
  obtain ⟨a, b, c, d⟩ := mk_parts (m := m) (t := t) hs (Int.emod_nonneg w (show (2 : Int) ^ (m + t) ≠ 0 by omega)) (Int.emod_lt_of_pos w hp)
  refine ⟨?_, a, b⟩
  show (1 - sgn m t (trn m t w)) * 2 ^ (m + t) + trn m t w % 2 ^ (m + t) = w
  rw [show sgn m t (trn m t w) = 1 - sgn m t w from c, show trn m t w % 2 ^ (m + t) = w % 2 ^ (m + t) from d, show 1 - (1 - sgn m t w) = sgn m t w by omega]
  exact word_eq h0 h1
end GM
namespace GZ
open PySem PySem.Spec PyProof.Rows L2
theorem gset_if2 {i : Nat} {v : V} {σ : L2.St} {H : Hp} {c : TT} {t u r : TS} {D : Ends} (h : tIfS c t u { D with nx := r D } (σ.set i (some v)) H) : gName i v σ H ({ D with nx := tSeq (tIfS c t u) r D } : Ends).nx := h
theorem gset_if {σ : L2.St} {H : Hp} {c : TT} {t u r : TS} {D : Ends} (h : tIfS c t u { D with nx := r D } σ H) : tSeq (tIfS c t u) r D σ H := h
theorem ifS_cut {c : TT} {t u : TS} {D : Ends} {σ : L2.St} {H : Hp} (R : L2.St → Hp → Prop) (h : ∀ D' : Ends, (∀ σ' H', R σ' H' → D'.nx σ' H') → tIfS c t u D' σ H) (q : ∀ σ' H', R σ' H' → D.nx σ' H') : tIfS c t u D σ H := h D q
theorem ifS_ev {c : TT} {t u : TS} {D : Ends} {σ : L2.St} {H : Hp} (R : Bool → Hp → Prop) (h : ∀ Q : Bool → Hp → Prop, (∀ z H', R z H' → Q z H') → c σ H Q) (q1 : ∀ H', R true H' → t D σ H') (q2 : ∀ H', R false H' → u D σ H') : tIfS c t u D σ H := h _ fun z H' r => by
  cases z with
  | true => exact q1 H' r
  | false => exact q2 H' r
theorem if_ev {t : TT} {ta tb : TE} {σ : L2.St} {H : Hp} {Q : VK} (R : V → Hp → Prop) (h : ∀ Q : VK, (∀ z H', R z H' → Q z H') → tIf t ta tb σ H Q) (q : ∀ z H', R z H' → Q z H') : tIf t ta tb σ H Q := h Q q
theorem and_ev {ta tb : TE} {σ : L2.St} {H : Hp} {Q : VK} (R : V → Hp → Prop) (h : ∀ Q : VK, (∀ z H', R z H' → Q z H') → tAndV ta tb σ H Q) (q : ∀ z H', R z H' → Q z H') : tAndV ta tb σ H Q := h Q q
theorem or_ev {ta tb : TE} {σ : L2.St} {H : Hp} {Q : VK} (R : V → Hp → Prop) (h : ∀ Q : VK, (∀ z H', R z H' → Q z H') → tOrV ta tb σ H Q) (q : ∀ z H', R z H' → Q z H') : tOrV ta tb σ H Q := h Q q
theorem ifset_ev {c : TT} {e : TE} {k : Nat} {D : Ends} {σ : L2.St} {H : Hp} {old : V} (hσ : σ.set k (some old) = σ) (R : V → Hp → Prop) (h : ∀ Q : VK, (∀ z H', R z H' → Q z H') → c σ H (fun b H1 => if b = true then e σ H1 Q else Q old H1)) (q : ∀ z H', R z H' → D.nx (σ.set k (some z)) H') : tIfS c (tAsg e (gName k)) tNext D σ H := by
  have t := h (fun z H' => D.nx (σ.set k (some z)) H') q
  rw [hσ] at t
  exact t
theorem two_cut {t : TE} {g : TG} {c : TT} {a b r : TS} {D : Ends} {σ : L2.St} {H : Hp} (R : L2.St → Hp → Prop) (h : ∀ D' : Ends, (∀ σ' H', R σ' H' → D'.nx σ' H') → tSeq (tAsg t g) (tIfS c a b) D' σ H) (q : ∀ σ' H', R σ' H' → r D σ' H') : tSeq (tAsg t g) (tSeq (tIfS c a b) r) D σ H := h { D with nx := r D } q
theorem org80 {ta tb : TE} {σ : L2.St} {H : Hp} {Q : VK} {c d : Bool} (ha : ∀ Q : VK, Q (.bl c) H → ta σ H Q) (hb : ∀ Q : VK, Q (.bl d) H → tb σ H Q) (h : Q (.bl (c || d)) H) : tOrV ta tb σ H Q := by
  refine ha _ ⟨c, rfl, ?_⟩
  cases c
  · exact hb _ h
  · exact h
theorem gnext_if18 {σ : L2.St} {H : Hp} {c : TT} {t u : TS} {r : TS} {D : Ends} (h : tIfS c t u { D with nx := r D } σ H) : tNext ({ D with nx := tSeq (tIfS c t u) r D } : Ends) σ H := h
theorem ret_if18 {c : TT} {ta tb : TE} {D : Ends} {σ : L2.St} {H : Hp} (R : Bool → Hp → Prop) (h : ∀ Q : Bool → Hp → Prop, (∀ z H', R z H' → Q z H') → c σ H Q) (q1 : ∀ H', R true H' → ta σ H' D.rt) (q2 : ∀ H', R false H' → tb σ H' D.rt) : tRet (tIf c ta tb) D σ H := h _ fun z H' r => by
  cases z with
  | true => exact q1 H' r
  | false => exact q2 H' r
/-! ### zip of two texts: new pairs of their signs -/
def Itzx (x y : Str) : It :=
  ⟨fun i _ => i < min x.cps.size y.cps.size,
   fun i H v H' => ∃ T c d, v = .ref T ∧ H T = none ∧ H' = upd H T (.tup [.str ⟨#[c]⟩, .str ⟨#[d]⟩]) ∧ x.cps[i]? = some c ∧ y.cps[i]? = some d,
   fun i _ => i = min x.cps.size y.cps.size⟩
def StZx (x y : Str) (tx ty : Tok) (z TI TO i1 i2 : Addr) (i : Nat) (h : Heap) : Prop :=
  IsZip h z TI TO .none ∧ IsTupOf2 h TI (.ref i1) (.ref i2) ∧ (∃ u v, IsTupOf2 h TO u v) ∧ h.IsStrIter i1 (strIterType x) x tx i ∧ h.IsStrIter i2 (strIterType y) y ty i
theorem turn_zx {P : Program} {w : World} {K : PySem.W.Frag} {elts : List Expr} {kk : Nat} {tpos : Pos} {x y : Str} {tx ty : Tok} {z TI TO i1 i2 : Addr} (S : ZipSep2 z TI TO i1 i2 [i1] [i2]) :
    Turn P w K (.Tuple elts kk tpos) (Itzx x y) [z, TI, TO, i1, i2] z (StZx x y tx ty z TI TO i1 i2) where
  mem := List.mem_cons_self
  obj := by
    rintro i h ⟨a1, a2, ⟨u, v, a3⟩, ⟨o1, e1, _, d1⟩, ⟨o2, e2, _, d2⟩⟩ c hm
    simp only [List.mem_cons, List.not_mem_nil, or_false] at hm
    rcases hm with e | e | e | e | e <;> subst e
    · exact ⟨_, a1, (fun _ q => nomatch q)⟩
    · exact ⟨_, a2, (fun _ q => nomatch q)⟩
    · exact ⟨_, a3, (fun _ q => nomatch q)⟩
    · exact ⟨o1, e1, (fun _ q => by rw [d1] at q; cases q)⟩
    · exact ⟨o2, e2, (fun _ q => by rw [d2] at q; cases q)⟩
  keep := by
    rintro i h h' ⟨a1, a2, ⟨u, v, a3⟩, s1, s2⟩ k
    obtain ⟨o1, e1, r1⟩ := s1
    obtain ⟨o2, e2, r2⟩ := s2
    exact ⟨k z (by simp) _ a1, k TI (by simp) _ a2, ⟨u, v, k TO (by simp) _ a3⟩, ⟨o1, k i1 (by simp) _ e1, r1⟩, ⟨o2, k i2 (by simp) _ e2, r2⟩⟩
  item := by
    intro X hP hw hK hc i pins s σ H E I hf st hg
    subst hP hw hK
    have W := WalksT.zipD2 (prog := X.prog) (w := X.w) (A := X.A) S (Draws.text (A := X.A.in1) (I.ok.hd hc) i1 x tx) (Draws.text (A := X.A.in1) (I.ok.hd hc) i2 y ty)
    have hin : ∀ b ∈ [z, TO, i1, i2], b ∈ [z, TI, TO, i1, i2] := fun b hb => by
      simp only [List.mem_cons, List.not_mem_nil, or_false] at hb ⊢
      rcases hb with q | q | q | q <;> simp [q]
    refine W.item i s _ E hg st fun T vals h1 tk pt hT isT mid k1 => ?_
    obtain ⟨u1, u2, ⟨c, t1, hc1, rfl⟩, ⟨d, t2, hd1, rfl⟩, rfl⟩ := pt
    refine ⟨.ref T, rfl, W.go elts kk tpos i T { s with heap := h1, toks := tk } _ E mid fun h2 st2 k2 => ?_⟩
    have nT : T ∉ [z, TO, i1, i2] := W.apart i T h1 mid
    have isT2 : h2.IsTuple T #[.str ⟨#[c]⟩ t1, .str ⟨#[d]⟩ t2] := isT.at fun o e => k2 T o nT e
    have new : ObjOk X.prog X.w (upd H T (.tup [.str ⟨#[c]⟩, .str ⟨#[d]⟩])) h2 T (.tup [.str ⟨#[c]⟩, .str ⟨#[d]⟩]) :=
      ⟨by show 2 ≤ sizeLine; decide, [.str ⟨#[c]⟩ t1, .str ⟨#[d]⟩ t2], .cons ⟨t1, rfl⟩ (.cons ⟨t2, rfl⟩ .nil), isT2⟩
    have I2 : Inv X pins σ (upd H T (.tup [.str ⟨#[c]⟩, .str ⟨#[d]⟩])) { s with heap := h2, toks := tk } :=
      I.turnedNew (t' := tk) (ch := [z, TI, TO, i1, i2]) (fun b o nb e => k2 b o (fun q => nb (hin b q)) (k1 b o (fun q => nb (hin b q)) e)) hf hT new
    refine ⟨.ref T, _, I2, rfl, ⟨T, c, d, rfl, I.hok.fresh hT, rfl, hc1, hd1⟩, st2, fun b hb => ?_⟩
    have nb : b ≠ T := by
      obtain ⟨a1, a2, ⟨u, v, a3⟩, ⟨o1, e1, _⟩, ⟨o2, e2, _⟩⟩ := st
      have lt : b < s.heap.objs.size := by
        simp only [List.mem_cons, List.not_mem_nil, or_false] at hb
        rcases hb with q | q | q | q | q <;> subst q
        · exact Heap.lt_size a1
        · exact Heap.lt_size a2
        · exact Heap.lt_size a3
        · exact Heap.lt_size e1
        · exact Heap.lt_size e2
      exact Nat.ne_of_lt (Nat.lt_of_lt_of_le lt hT)
    rw [upd_ne nb]
    exact (hf b hb).1
  done := by
    intro X hP hw hK hc i pins s σ H E I hf st hg
    subst hP hw hK
    have W := WalksT.zipD2 (prog := X.prog) (w := X.w) (A := X.A) S (Draws.text (A := X.A.in1) (I.ok.hd hc) i1 x tx) (Draws.text (A := X.A.in1) (I.ok.hd hc) i2 y ty)
    have hg' : i = min x.cps.size y.cps.size := hg
    subst hg'
    refine W.done s _ E st fun h1 tk k1 => ⟨rfl, I.turnedL (t' := tk) (ch := [z, TI, TO, i1, i2]) (fun b o nb e => k1 b o (fun q => nb ?_) e) hf⟩
    simp only [List.mem_cons, List.not_mem_nil, or_false] at q ⊢
    rcases q with q | q | q | q <;> simp [q]
  self := fun A i s Q E st h => wpAny_pyIter_zip st.1 h
def iZx (ta : TA) : TI := fun σ H R => ta σ H fun vs H1 => ∃ x y, vs = [.str x, .str y] ∧ R (Itzx x y) H1
theorem pi_zx {X : Cx} {e e2 : Expr} {ta : TA} {p pos tpos : Pos} {elts : List Expr} {kk : Nat} (hg : Gl X "zip") (hm : X.mg "zip" = none) (ha : PA X [e, e2] ta)
    (hs : starEach [e, e2] X.env = (false, eval e X.env) :: starEach [e2] X.env := by rfl) (hp : (backTo pos (starEach [e2] X.env)).any (·.1) = false := by rfl) :
    PI X (.Tuple elts kk tpos) (.Call (.Name "zip" p) [e, e2] [] pos) (iZx ta) := by
  constructor
  intro pins s σ H R I h
  refine Call_ (ld_blt I hg hm PyProof.Rows.boot_zip (PyProof.Rows.callWith_type1 (thn (ha.run pos pins s σ H _ I h) fun us s1 hh => ?_) hs hp))
  obtain ⟨vs, H1, I1, r1, x, y, rfl, q⟩ := hh
  match us, r1 with
  | [v1, v2], .cons ⟨tx, hx⟩ (.cons ⟨ty, hy⟩ .nil) =>
    subst hx hy
    refine zip_begins2 (begins_text x tx) (begins_text y ty) trivial trivial fun h' a1 a2 a3 g1 g2 _ k => wpAny_pyIter_zip a1 ?_
    have I2 : Inv X pins σ H1 { s1 with heap := h' } := I1.kept (t' := s1.toks) k
    have S : ZipSep2 (s1.heap.objs.size + 4) (s1.heap.objs.size + 2) (s1.heap.objs.size + 3) s1.heap.objs.size (s1.heap.objs.size + 1) [s1.heap.objs.size] [s1.heap.objs.size + 1] := zip_sep2 (fp1 := []) (fp2 := []) (fun _ q => nomatch q) (fun _ q => nomatch q)
    have fr : ∀ b ∈ [s1.heap.objs.size + 4, s1.heap.objs.size + 2, s1.heap.objs.size + 3, s1.heap.objs.size, s1.heap.objs.size + 1], FpOk X pins H1 b := fun b hb => by
      have le : s1.heap.objs.size ≤ b := by
        simp only [List.mem_cons, List.not_mem_nil, or_false] at hb
        rcases hb with z | z | z | z | z <;> rw [z]
        · exact Nat.le_add_right _ _
        · exact Nat.le_add_right _ _
        · exact Nat.le_add_right _ _
        · exact Nat.le_refl _
        · exact Nat.le_add_right _ _
      exact I1.fpOk le (I1.hok.fresh le)
    exact ⟨s1.heap.objs.size + 4, [s1.heap.objs.size + 4, s1.heap.objs.size + 2, s1.heap.objs.size + 3, s1.heap.objs.size, s1.heap.objs.size + 1], _, _, H1, rfl, I2, turn_zx S, ⟨a1, a2, ⟨_, _, a3⟩, ⟨_, g1, rfl, rfl⟩, ⟨_, g2, rfl, rfl⟩⟩, fr, q⟩
section
variable {P : Program} {w : World} {K : PySem.W.Frag} {mg : Str → Option Value} {base : Heap}
theorem cutG {Cd A : Int → Int → Hp → Prop} {B : Prop} (h1 : ∀ n p H, Cd n p H → A n p H) (h2 : (∀ n p H, Cd n p H → A n p H) → B) : B := h2 h1
theorem cutA {Cd A : Addr → Hp → Prop} {B : Prop} (h1 : ∀ a H, Cd a H → A a H) (h2 : (∀ a H, Cd a H → A a H) → B) : B := h2 h1
theorem cutH {H : Hp} {A : Hp → Prop} {B : Prop} (h1 : ∀ H', Same H H' → A H') (h2 : (∀ H', Same H H' → A H') → B) : B := h2 h1
theorem cutP {A B : Prop} (h1 : A) (h2 : A → B) : B := h2 h1
theorem gB {i : Nat} {v u : Bool} {σ : L2.St} {H : Hp} {D : L2.St → Hp → Prop} (e : v = u) (h : gName i (V.bl u) σ H D) : gName i (V.bl v) σ H D := e ▸ h
theorem gI {i : Nat} {v u : Int} {σ : L2.St} {H : Hp} {D : L2.St → Hp → Prop} (e : v = u) (h : gName i (V.int u) σ H D) : gName i (V.int v) σ H D := e ▸ h
theorem dvi (a b : Int) : decide (V.int a = V.int b) = decide (a = b) := by
  by_cases c : a = b
  · rw [decide_eq_true c, decide_eq_true (congrArg V.int c)]
  · rw [decide_eq_false c, decide_eq_false (fun z => c (V.int.inj z))]
theorem dvs (a b : Str) : decide (V.str a = V.str b) = decide (a = b) := by
  by_cases c : a = b
  · rw [decide_eq_true c, decide_eq_true (congrArg V.str c)]
  · rw [decide_eq_false c, decide_eq_false (fun z => c (V.str.inj z))]
theorem bx1 {c : Int} {H : Hp} {b : Addr} (h : BoxAt (c + 2 ^ (1 - 1)) H b) : BoxAt (c + 1) H b := h
theorem Keep.none {b p : Addr} {H H' : Hp} (k : Keep b H H') (n : p ≠ b) (h : H' p = none) : H p = none := by
  cases q : H p with
  | none => rfl
  | some o =>
    rw [k p o q n] at h
    cases h
theorem dp_ints {H : Hp} : ∀ ds : List Int, DpAll K H (ds.map V.int) (ds.map PyData.int)
  | [] => .nil
  | d :: ds => .cons (.int d) (dp_ints ds)
theorem lv_ints {n : Nat} (ds : List Int) (h : ds.length ≤ 1000) : Lv (n + 1) (.list (ds.map PyData.int)) := by
  refine ⟨by rw [List.length_map]; omega, fun d hd => ?_⟩
  obtain ⟨x, _, rfl⟩ := List.mem_map.mp hd
  cases n <;> trivial
theorem eqv_ints (ds : List Int) : PyData.eqv (.list (ds.map PyData.int)) (.list (ds.map PyData.int)) = true := PySem.SeqAt.eqv_refl _ (PySem.SeqAt.canLay_of_shaped (PySem.W.shaped_ints ds))
structure LL (K : PySem.W.Frag) (mg : Str → Option Value) (a1 a2 a3 a4 a5 a6 a7 a8 a9 a10 a11 a12 a13 : Addr) (l1 l2 l3 l4 l5 l6 l7 l8 l9 l10 l11 l12 l13 : FuncData) : Prop where
  F_lies_in : Fun K "lies_in" "lies_in" s_lies_in a1 l1
  b_lies_in : Binds K l1 ["bits", "cube"] []
  m_lies_in : mg "lies_in" = some (.ref a1)
  F_common : Fun K "common" "common" s_common a2 l2
  b_common : Binds K l2 ["one", "other"] []
  m_common : mg "common" = some (.ref a2)
  F_common_sign : Fun K "common_sign" "common_sign" s_common_sign a3 l3
  b_common_sign : Binds K l3 ["sign", "other_sign"] []
  m_common_sign : mg "common_sign" = some (.ref a3)
  F__law_box : Fun K "_law_box" "_law_box" sBox a4 l4
  b__law_box : Binds K l4 ["_law_script", "_law_k"] []
  m__law_box : mg "_law_box" = some (.ref a4)
  F__law_take : Fun K "_law_take" "_law_take" sTake a5 l5
  b__law_take : Binds K l5 ["_law_box_here", "_law_size"] []
  m__law_take : mg "_law_take" = some (.ref a5)
  F__law_folded : Fun K "_law_folded" "_law_folded" sFolded a6 l6
  b__law_folded : Binds K l6 ["_law_script", "_law_size"] []
  m__law_folded : mg "_law_folded" = some (.ref a6)
  F__law_same : Fun K "_law_same" "_law_same" sSame a7 l7
  b__law_same : Binds K l7 ["_law_found", "_law_due"] []
  m__law_same : mg "_law_same" = some (.ref a7)
  F__law_cube : Fun K "_law_cube" "_law_cube" s__law_cube a8 l8
  b__law_cube : Binds K l8 ["_law_box_here", "_law_many"] []
  m__law_cube : mg "_law_cube" = some (.ref a8)
  F__law_bent_cube : Fun K "_law_bent_cube" "_law_bent_cube" s__law_bent_cube a9 l9
  b__law_bent_cube : Binds K l9 ["_law_box_here", "_law_cube_here"] []
  m__law_bent_cube : mg "_law_bent_cube" = some (.ref a9)
  F__law_text : Fun K "_law_text" "_law_text" s__law_text a10 l10
  b__law_text : Binds K l10 ["_law_box_here", "_law_cube_here"] []
  m__law_text : mg "_law_text" = some (.ref a10)
  F__law_lies : Fun K "_law_lies" "_law_lies" s__law_lies a11 l11
  b__law_lies : Binds K l11 ["_law_bits", "_law_cube_here"] []
  m__law_lies : mg "_law_lies" = some (.ref a11)
  F__law_met : Fun K "_law_met" "_law_met" s__law_met a12 l12
  b__law_met : Binds K l12 ["_law_one", "_law_other"] []
  m__law_met : mg "_law_met" = some (.ref a12)
  F__law_right : Fun K "_law_right" "_law_right" s__law_right a13 l13
  b__law_right : Binds K l13 ["_law_box_here"] []
  m__law_right : mg "_law_right" = some (.ref a13)
variable {a1 a2 a3 a4 a5 a6 a7 a8 a9 a10 a11 a12 a13 : Addr} {l1 l2 l3 l4 l5 l6 l7 l8 l9 l10 l11 l12 l13 : FuncData}
end
section
variable {P : Program} {w : World} {K : PySem.W.Frag} {mg : Str → Option Value} {base : Heap}
variable {a1 a2 a3 a4 a5 a6 a7 a8 a9 a10 a11 a12 a13 : Addr} {l1 l2 l3 l4 l5 l6 l7 l8 l9 l10 l11 l12 l13 : FuncData}
/-! ### cubes as lists of signs -/
theorem walk_zx {x y : Str} {n : Nat} (hn : n = min x.cps.size y.cps.size) : Walk (Itzx x y) n (fun _ => True) (YPair (fun i => (x.cps[i]?).map fun c => .str ⟨#[c]⟩) (fun i => (y.cps[i]?).map fun c => .str ⟨#[c]⟩)) := by
  subst hn
  refine ⟨fun i _ hi _ => hi, fun _ _ => rfl, fun i H v H' _ _ z => ?_⟩
  obtain ⟨T, c, d, h1, h2, h3, h4, h5⟩ := z
  exact ⟨T, _, _, h1, h2, h3, by simp only [h4]; rfl, by simp only [h5]; rfl⟩
theorem walk_zS {x y : List Nat} {n : Nat} (hx : x.length = n) (hy : y.length = n) : Walk (Itzx (SX.S x) (SX.S y)) n (fun _ => True) (YPair (fun i => (x[i]?).map fun c => .str (SX.S [c])) (fun i => (y[i]?).map fun c => .str (SX.S [c]))) := by
  have w := walk_zx (x := SX.S x) (y := SX.S y) (n := n) (by show n = min x.toArray.size y.toArray.size; rw [List.size_toArray, List.size_toArray, hx, hy]; omega)
  refine ⟨w.goes, w.stops, fun i H v H' hi g z => ?_⟩
  obtain ⟨T, u, v', e1, e2, e3, e4, e5⟩ := w.yields i H v H' hi g z
  refine ⟨T, u, v', e1, e2, e3, ?_, ?_⟩
  · rw [← e4]
    show _ = (x.toArray[i]?).map _
    rw [List.getElem?_toArray]
  · rw [← e5]
    show _ = (y.toArray[i]?).map _
    rw [List.getElem?_toArray]
theorem walk_S {x : List Nat} : Walk (Its (SX.S x)) x.length (fun _ => True) (fun i H v H' => H' = H ∧ ∃ c, x[i]? = some c ∧ v = .str (SX.S [c])) := by
  have w := walk_str (z := SX.S x)
  rw [show (SX.S x).cps.size = x.length from List.size_toArray] at w
  refine ⟨w.goes, w.stops, fun i H v H' hi g z => ?_⟩
  obtain ⟨e, c, h1, h2⟩ := w.yields i H v H' hi g z
  refine ⟨e, c, ?_, h2⟩
  rw [← h1]
  show _ = x.toArray[i]?
  rw [List.getElem?_toArray]
theorem in_strs (x : Str) (ys : List Str) : inV (.str x) (ys.map V.str) = true ↔ x ∈ ys := by
  induction ys with
  | nil => exact ⟨fun z => Bool.noConfusion z, fun z => nomatch z⟩
  | cons y ys ih =>
    show ((y == x) || inV (.str x) (ys.map V.str)) = true ↔ _
    rw [Bool.or_eq_true, beq_iff_eq, ih, List.mem_cons]
    exact ⟨fun z => z.imp Eq.symm id, fun z => z.imp Eq.symm id⟩
theorem flat_strs (ys : List Str) : (ys.map V.str).all flatV = true := by
  induction ys with
  | nil => rfl
  | cons y ys ih => exact ih
theorem S1_inj {a b : Nat} (h : SX.S [a] = SX.S [b]) : a = b := by
  have e := SX.S_inj h
  cases e
  rfl
theorem dS1 (a b : Nat) : decide (V.str (SX.S [a]) = V.str (SX.S [b])) = decide (a = b) := by
  by_cases c : a = b
  · subst c
    rw [decide_eq_true rfl, decide_eq_true rfl]
  · rw [decide_eq_false c, decide_eq_false (fun z => c (S1_inj (V.str.inj z)))]
/-- the signs meet nowhere -/
def bad (a b : Nat) : Bool := decide (a ≠ 45 ∧ b ≠ 45 ∧ b ≠ a)
def mgs (a b : Nat) : Nat := if a = 45 then b else a
def clash (x y : List Nat) : Bool := (List.zipWith bad x y).any id
def meet (x y : List Nat) : List Nat := List.zipWith mgs x y
def csv (a b : Nat) : V := if bad a b = true then .non else .str (SX.S [mgs a b])
def cmV (x y : List Nat) : V := if clash x y = true then .non else .str (SX.S (meet x y))
theorem zw_take {α β γ : Type} (f : α → β → γ) {x : List α} {y : List β} {i : Nat} {a : α} {b : β} (ha : x[i]? = some a) (hb : y[i]? = some b) : (List.zipWith f x y).take (i + 1) = (List.zipWith f x y).take i ++ [f a b] := by
  rw [List.take_add_one, List.getElem?_zipWith, ha, hb]
  rfl
theorem zw_len {α β γ : Type} (f : α → β → γ) {x : List α} {y : List β} {n : Nat} (hx : x.length = n) (hy : y.length = n) : (List.zipWith f x y).length = n := by
  rw [List.length_zipWith, hx, hy, Nat.min_self]
theorem in_non (x y : List Nat) : inV .non (List.zipWith csv x y) = clash x y := by
  unfold inV clash
  induction x generalizing y with
  | nil => rfl
  | cons a x ih =>
    cases y with
    | nil => rfl
    | cons b y =>
      rw [List.zipWith_cons_cons, List.zipWith_cons_cons, List.any_cons, List.any_cons, ih]
      congr 1
      unfold csv
      cases bad a b <;> rfl
theorem flat_cs (x y : List Nat) : (List.zipWith csv x y).all flatV = true := by
  induction x generalizing y with
  | nil => rfl
  | cons a x ih =>
    cases y with
    | nil => rfl
    | cons b y =>
      rw [List.zipWith_cons_cons, List.all_cons, ih, Bool.and_true]
      unfold csv
      cases bad a b <;> rfl
theorem cs_meet (x y : List Nat) (h : clash x y = false) : List.zipWith csv x y = ((meet x y).map fun c => SX.S [c]).map V.str := by
  induction x generalizing y with
  | nil => rfl
  | cons a x ih =>
    cases y with
    | nil => rfl
    | cons b y =>
      unfold clash at h
      rw [List.zipWith_cons_cons, List.any_cons, Bool.or_eq_false_iff] at h
      rw [List.zipWith_cons_cons, ih y h.2]
      unfold csv
      rw [if_neg (by rw [show bad a b = false from h.1]; decide)]
      rfl
theorem joinL_1 : ∀ l : List Nat, TL.joinL [] (l.map fun c => [c]) = l
  | [] => rfl
  | [_] => rfl
  | a :: b :: l => by
    show [a] ++ ([] ++ TL.joinL [] ((b :: l).map fun c => [c])) = _
    rw [joinL_1 (b :: l)]
    rfl
theorem join_1 (l : List Nat) : Txt.join "" (l.map fun c => SX.S [c]) = SX.S l := by
  have e := SX.join_S [] (l.map fun c => [c])
  rw [List.map_map, joinL_1] at e
  exact e
theorem join_z (l : List Nat) (h : l.length ≤ 1000) : ((l.map fun c => SX.S [c]).map (·.length)).sum + (l.map fun c => SX.S [c]).length * ("" : Str).length ≤ 16777216 := by
  have : ((l.map fun c => SX.S [c]).map (·.length)).sum = l.length := by
    induction l with
    | nil => rfl
    | cons a l ih =>
      have h2 : l.length ≤ 1000 := by
        rw [List.length_cons] at h
        omega
      rw [List.map_cons, List.map_cons, List.sum_cons, ih h2, List.length_cons]
      show 1 + l.length = l.length + 1
      omega
  rw [this, List.length_map, show ("" : Str).length = 0 from rfl]
  omega
theorem csv_m (b : Nat) : csv 45 b = .str (SX.S [b]) := by
  unfold csv bad mgs
  rw [if_neg (by simp), if_pos rfl]
theorem csv_y {a b : Nat} (h : ¬ a = 45) (h2 : b = 45 ∨ b = a) : csv a b = .str (SX.S [a]) := by
  unfold csv bad mgs
  rw [if_neg (fun z => by have z := of_decide_eq_true z; omega), if_neg h]
theorem csv_n {a b : Nat} (h : ¬ a = 45) (h2 : ¬ (b = 45 ∨ b = a)) : csv a b = .non := by
  unfold csv bad mgs
  rw [if_pos (decide_eq_true ⟨h, fun z => h2 (.inl z), fun z => h2 (.inr z)⟩)]
theorem mns : Str.ofString "-" = SX.S [45] := by decide +kernel
theorem dM (a : Nat) : decide (V.str (SX.S [a]) = V.str (Str.ofString "-")) = decide (a = 45) := by
  rw [mns]
  exact dS1 a 45
theorem inM (a b : Nat) : inV (.str (SX.S [b])) [.str (Str.ofString "-"), .str (SX.S [a])] = decide (b = 45 ∨ b = a) := by
  apply Bool.eq_iff_iff.mpr
  rw [mns, show ([.str (SX.S [45]), .str (SX.S [a])] : List V) = ([SX.S [45], SX.S [a]] : List Str).map V.str from rfl, in_strs, decide_eq_true_iff, List.mem_cons, List.mem_singleton]
  exact ⟨fun z => z.imp S1_inj S1_inj, fun z => z.imp (fun e => by rw [e]) (fun e => by rw [e])⟩
def spCs : Sp := fun vs H Q _ => ∃ a b : Nat, vs = [.str (SX.S [a]), .str (SX.S [b])] ∧ ∀ H', Same H H' → Q (csv a b) H'
theorem ok_common_sign (B : Bl mg) (L : LL K mg a1 a2 a3 a4 a5 a6 a7 a8 a9 a10 a11 a12 a13 l1 l2 l3 l4 l5 l6 l7 l8 l9 l10 l11 l12 l13) : FnOk P w K mg base CX0 1 a3 l3 ["sign", "other_sign"] spCs := by
  refine L.F_common_sign.ok sc_common_sign (fun vs H Q E h => ?_) (fun cdv A outer s H vs Q E hr h => ?_)
  · obtain ⟨a, b, rfl, _⟩ := h
    rfl
  obtain ⟨a, b, rfl, q⟩ := h
  refine ⟨_, (pss_cons (ps_if (pt_cmpR op_eq (pv 0) pe_str (nomark _)) (pss_one (ps_ret (pv 1))) pss_nil)
    (pss_one (ps_ret (pe_ifExp (pt_cmpR op_in_seq (pv 1) (pe_tup (pa_cons pe_str (pa_cons (pv 0) pa_nil))) (by rfl)) (pv 0) pe_non)))), ?_⟩
  refine ⟨_, rfl, rfl, _, rfl, ite2 (fun c => ?_) (fun c => ?_)⟩
  · have e : a = 45 := of_decide_eq_true ((dM a).symm.trans c)
    subst e
    have q1 := q H (Same.refl _)
    rw [csv_m] at q1
    exact ⟨_, rfl, q1⟩
  have e : ¬ a = 45 := of_decide_eq_false ((dM a).symm.trans (Bool.eq_false_iff.mpr c))
  refine ⟨_, rfl, _, rfl, (by show 2 ≤ sizeLine; decide), fun U nU => ?_⟩
  have sU := same_upd (o := .tup [.str (Str.ofString "-"), .str (SX.S [a])]) nU
  refine ⟨U, _, rfl, .inr (.inl (.inl upd_same)), rfl, rfl, ?_⟩
  refine ⟨_, rfl, ite2 (fun c2 => ?_) (fun c2 => ?_)⟩
  · have e2 : b = 45 ∨ b = a := of_decide_eq_true ((inM a b).symm.trans c2)
    have q1 := q _ sU
    rw [csv_y e e2] at q1
    exact ⟨_, rfl, q1⟩
  · have e2 : ¬ (b = 45 ∨ b = a) := of_decide_eq_false ((inM a b).symm.trans (Bool.eq_false_iff.mpr c2))
    have q1 := q _ sU
    rw [csv_n e e2] at q1
    exact q1
def spCm : Sp := fun vs H Q _ => ∃ (x y : List Nat), vs = [.str (SX.S x), .str (SX.S y)] ∧ x.length = y.length ∧ y.length ≤ 900 ∧ ∀ H', Same H H' → Q (cmV x y) H'
theorem ok_common (B : Bl mg) (L : LL K mg a1 a2 a3 a4 a5 a6 a7 a8 a9 a10 a11 a12 a13 l1 l2 l3 l4 l5 l6 l7 l8 l9 l10 l11 l12 l13) : FnOk P w K mg base CX0 2 a2 l2 ["one", "other"] spCm := by
  have G_common_sign : FnOk P w K mg base CX0 1 a3 l3 ["sign", "other_sign"] spCs := (ok_common_sign B L).mono (by decide)
  refine L.F_common.ok sc_common (fun vs H Q E h => ?_) (fun cdv A outer s H vs Q E hr h => ?_)
  · obtain ⟨x, y, rfl, _⟩ := h
    rfl
  obtain ⟨x, y, rfl, hl, hz, q⟩ := h
  refine ⟨_, (pss_cons (ps_if (pt_cmpR op_ne (pe_callB call_len_str (by rfl) B.len PySem.boot_len (pa_cons (pv 0) pa_nil)) (pe_callB call_len_str (by rfl) B.len PySem.boot_len (pa_cons (pv 1) pa_nil)) (nomark _)) (pss_one (ps_ret pe_non)) pss_nil)
    (pss_cons (ps_setLc (i := 2) (own := [("sign", 3), ("other_sign", 4)]) (g := gTup K 2 (gCons (gName 3) (gCons (gName 4) gNil))) (by rfl) sc_common.nd rfl rfl (sw_true rfl rfl rfl (by decide +kernel)) (pi_zx (by rfl) B.zip (pa_cons (pv 0) (pa_cons (pv 1) pa_nil))) (blkOk_by (own := [("sign", 3), ("other_sign", 4)]) (N := ["one", "other", "signs", "sign", "other_sign"]) (sc := defScope s_common) (by decide +kernel)) (fun _ _ _ _ _ => pg_tup rfl (pgs_cons (pg_name (i := 3) sc_common.nd rfl (Or.inl rfl) (.inr rfl)) (pgs_cons (pg_name (i := 4) sc_common.nd rfl (Or.inl rfl) (.inr rfl)) pgs_nil))) (fun _ _ _ _ _ => pts_nil) (fun _ _ _ _ _ => (pe_call G_common_sign hr (by rfl) L.m_common_sign L.F_common_sign.kp L.b_common_sign .nil pass0 (pa_cons (pv 3) (pa_cons (pv 4) pa_nil)))))
    (pss_one (ps_ret (pe_ifExp (pt_cmpR op_in_seq pe_non (pv 2) (by rfl)) pe_non (pe_bm PySem.F.plainAttrs_str PySem.F.slot_str_join PySem.F.type_str_join mt_join pe_str (pa_cons (pv 2) pa_nil))))))), ?_⟩
  have zx : (SX.S x).length ≤ sizeLine := by
    rw [SX.S_len]
    exact Nat.le_of_lt (small1000 (by omega))
  have zy : (SX.S y).length ≤ sizeLine := by
    rw [SX.S_len]
    exact Nat.le_of_lt (small1000 (by omega))
  refine ⟨_, rfl, _, rfl, zx, _, rfl, _, rfl, zy, rfl, _, rfl, iteNS (congrArg V.int ?_) ?_⟩
  · rw [SX.S_len, SX.S_len, hl]
  refine ⟨_, rfl, _, rfl, SX.S x, SX.S y, rfl, fun D nD => ?_⟩
  refine lc_it (walk_zS (x := x) (y := y) hl rfl) (fun i H3 => Same H H3 ∧ H3 D = some (.lst ((List.zipWith csv x y).take i))) ⟨same_upd nD, upd_same⟩ (fun _ _ _ _ => trivial) ?_ ?_
  · rintro i v H3 H4 hi ⟨s3, eD⟩ ⟨T, u1, u2, rfl, nT, rfl, e1, e2⟩
    obtain ⟨c1, f1, rfl⟩ := Option.map_eq_some_iff.mp e1
    obtain ⟨c2, f2, rfl⟩ := Option.map_eq_some_iff.mp e2
    have sT := same_upd (o := .tup [.str (SX.S [c1]), .str (SX.S [c2])]) nT
    refine ⟨T, _, rfl, .inl (.inl upd_same), rfl, _, _, rfl, _, _, rfl, rfl, rfl, ?_⟩
    refine yesT ?_
    refine ⟨_, rfl, _, rfl, c1, c2, rfl, fun H5 s5 => ?_⟩
    have s45 := sT.trans s5
    refine ⟨_, s45 _ _ eD, ?_, fun b u e => ?_, ?_⟩
    · rw [List.length_take]
      exact Nat.lt_of_le_of_lt (Nat.min_le_left _ _) (small1000 (by omega))
    · rw [upd_ne (ne_of_none e nD)]
      exact s45 _ _ (s3 _ _ e)
    · rw [upd_same, zw_take csv f1 f2]
  rintro H3 ⟨s3, eD⟩
  rw [List.take_of_length_le (by rw [zw_len csv hl rfl]; exact Nat.le_refl _)] at eD
  refine ⟨_, rfl, D, _, rfl, .inl (SqL.of eD), rfl, flat_cs x y, ?_⟩
  have q1 := q _ s3
  unfold cmV at q1
  refine ⟨_, rfl, ite2 (fun c => ?_) (fun c => ?_)⟩
  · rw [if_pos ((in_non x y).symm.trans c)] at q1
    exact q1
  · have e : clash x y = false := (in_non x y).symm.trans (Bool.eq_false_iff.mpr c)
    rw [if_neg (by rw [e]; decide)] at q1
    have lm : (meet x y).length ≤ 900 := by
      unfold meet
      rw [zw_len mgs hl rfl]
      exact hz
    rw [cs_meet x y e] at eD
    refine ⟨rfl, _, rfl, _, D, _, rfl, rfl, .inl (SqL.of eD), join_z _ (by omega), ?_⟩
    rw [join_1]
    exact q1
def BtL (l : List Nat) : Prop := ∀ c ∈ l, c = 48 ∨ c = 49
def SgL (l : List Nat) : Prop := ∀ c ∈ l, c = 45 ∨ c = 48 ∨ c = 49
theorem meet_bits : ∀ (x y : List Nat), x.length = y.length → BtL x → meet x y = x
  | [], _, _, _ => rfl
  | a :: x, [], h, _ => by cases h
  | a :: x, b :: y, h, hb => by
    show mgs a b :: meet x y = _
    rw [meet_bits x y (Nat.succ.inj h) (fun c hc => hb c (List.mem_cons_of_mem _ hc))]
    unfold mgs
    rw [if_neg (by have := hb a List.mem_cons_self; omega)]
def spIn : Sp := fun vs H Q _ => ∃ (x y : List Nat), vs = [.str (SX.S x), .str (SX.S y)] ∧ x.length = y.length ∧ y.length ≤ 900 ∧ BtL x ∧ ∀ H', Same H H' → Q (.bl (!clash x y)) H'
theorem ok_lies_in (B : Bl mg) (L : LL K mg a1 a2 a3 a4 a5 a6 a7 a8 a9 a10 a11 a12 a13 l1 l2 l3 l4 l5 l6 l7 l8 l9 l10 l11 l12 l13) : FnOk P w K mg base CX0 3 a1 l1 ["bits", "cube"] spIn := by
  have G_common : FnOk P w K mg base CX0 2 a2 l2 ["one", "other"] spCm := (ok_common B L).mono (by decide)
  refine L.F_lies_in.ok sc_lies_in (fun vs H Q E h => ?_) (fun cdv A outer s H vs Q E hr h => ?_)
  · obtain ⟨x, y, rfl, _⟩ := h
    rfl
  obtain ⟨x, y, rfl, hl, hz, hb, q⟩ := h
  refine ⟨_, (pss_one (ps_ret (pe_cmpR op_eq (pe_call G_common hr (by rfl) L.m_common L.F_common.kp L.b_common .nil pass0 (pa_cons (pv 0) (pa_cons (pv 1) pa_nil))) (pv 0) (nomark _)))), ?_⟩
  refine ⟨_, rfl, _, rfl, x, y, rfl, hl, hz, fun H1 s1 => ⟨_, rfl, ?_⟩⟩
  have q1 := q _ s1
  unfold cmV
  by_cases c : clash x y = true
  · rw [if_pos c]
    rw [c] at q1
    exact ⟨rfl, q1⟩
  · rw [if_neg c, meet_bits x y hl hb]
    rw [Bool.eq_false_iff.mpr c] at q1
    refine ⟨rfl, ?_⟩
    rw [decide_eq_true rfl]
    exact q1
end
section
variable {P : Program} {w : World} {K : PySem.W.Frag} {mg : Str → Option Value} {base : Heap}
variable {a1 a2 a3 a4 a5 a6 a7 a8 a9 a10 a11 a12 a13 : Addr} {l1 l2 l3 l4 l5 l6 l7 l8 l9 l10 l11 l12 l13 : FuncData}
/-! ### drawn cubes -/
def spCube : Sp := fun vs H Q _ => ∃ (b : Addr) (m : Nat) (c : Int), vs = [.ref b, .int (m : Int)] ∧ BoxAt c H b ∧ c ≤ 900000000 ∧ m ≤ 900 ∧
  ∀ (l : List Nat) (H' : Hp), l.length = m → SgL l → BoxAt (c + m) H' b → Keep b H H' → Q (.str (SX.S l)) H'
theorem at4 {r : Int} (h0 : 0 ≤ r) (h1 : r < 4) : ∃ c, atI (Str.ofString "01--").cps.toList r = some c ∧ (c = 45 ∨ c = 48 ∨ c = 49) := by
  have : r = 0 ∨ r = 1 ∨ r = 2 ∨ r = 3 := by omega
  rcases this with z | z | z | z <;> subst z
  · exact ⟨48, by decide +kernel, by decide⟩
  · exact ⟨49, by decide +kernel, by decide⟩
  · exact ⟨45, by decide +kernel, by decide⟩
  · exact ⟨45, by decide +kernel, by decide⟩
theorem at3 {r : Int} (h0 : 0 ≤ r) (h1 : r < 3) : ∃ c, atI (Str.ofString "01-").cps.toList r = some c ∧ (c = 45 ∨ c = 48 ∨ c = 49) := by
  have : r = 0 ∨ r = 1 ∨ r = 2 := by omega
  rcases this with z | z | z <;> subst z
  · exact ⟨48, by decide +kernel, by decide⟩
  · exact ⟨49, by decide +kernel, by decide⟩
  · exact ⟨45, by decide +kernel, by decide⟩
theorem at2 {r : Int} (h0 : 0 ≤ r) (h1 : r < 2) : ∃ c, atI (Str.ofString "01").cps.toList r = some c ∧ (c = 48 ∨ c = 49) := by
  have : r = 0 ∨ r = 1 := by omega
  rcases this with z | z <;> subst z
  · exact ⟨48, by decide +kernel, by decide⟩
  · exact ⟨49, by decide +kernel, by decide⟩
theorem ln4 : (Str.ofString "01--").length ≤ sizeLine := by decide +kernel
theorem ln3 : (Str.ofString "01-").length ≤ sizeLine := by decide +kernel
theorem ln2 : (Str.ofString "01").length ≤ sizeLine := by decide +kernel
theorem sg_snoc {l : List Nat} {c : Nat} (h : SgL l) (hc : c = 45 ∨ c = 48 ∨ c = 49) : SgL (l ++ [c]) := fun d hd => by
  rcases List.mem_append.mp hd with z | z
  · exact h d z
  · rw [List.mem_singleton.mp z]
    exact hc
theorem bt_snoc {l : List Nat} {c : Nat} (h : BtL l) (hc : c = 48 ∨ c = 49) : BtL (l ++ [c]) := fun d hd => by
  rcases List.mem_append.mp hd with z | z
  · exact h d z
  · rw [List.mem_singleton.mp z]
    exact hc
def s1s (l : List Nat) : List V := (l.map fun c => SX.S [c]).map V.str
theorem s1s_snoc (l : List Nat) (c : Nat) : s1s l ++ [.str (SX.S [c])] = s1s (l ++ [c]) := by
  unfold s1s
  rw [List.map_append, List.map_append]
  rfl
theorem s1s_len (l : List Nat) : (s1s l).length = l.length := by
  unfold s1s
  rw [List.length_map, List.length_map]
theorem ok__law_cube (B : Bl mg) (L : LL K mg a1 a2 a3 a4 a5 a6 a7 a8 a9 a10 a11 a12 a13 l1 l2 l3 l4 l5 l6 l7 l8 l9 l10 l11 l12 l13) : FnOk P w K mg base CX0 10 a8 l8 ["_law_box_here", "_law_many"] spCube := by
  have G__law_take : FnOk P w K mg base CX0 9 a5 l5 ["_law_box_here", "_law_size"] (spTake 1) := (ok_take L.F__law_take L.b__law_take L.m__law_take B 1).mono (by decide)
  refine L.F__law_cube.ok sc__law_cube (fun vs H Q E h => ?_) (fun cdv A outer s H vs Q E hr h => ?_)
  · obtain ⟨b, m, c, rfl, _⟩ := h
    rfl
  obtain ⟨b, m, c, rfl, hB, hc, hm, q⟩ := h
  refine ⟨_, (pss_one (ps_ret (pe_bm PySem.F.plainAttrs_str PySem.F.slot_str_join PySem.F.type_str_join mt_join pe_str (pa_cons (pe_lc (own := [("_law_turn", 2)]) (by rfl) sc__law_cube.nd (pi_range1 (by rfl) B.range (pa_cons (pv 1) pa_nil)) (blkOk_by (own := [("_law_turn", 2)]) (N := ["_law_box_here", "_law_many", "_law_turn"]) (sc := defScope s__law_cube) (by decide +kernel)) (fun _ _ _ _ _ => pg_name (i := 2) sc__law_cube.nd rfl (Or.inl rfl)) (fun _ _ _ _ _ => pts_nil) (fun _ _ _ _ _ => (pe_ix ix_str pe_str (pe_call G__law_take hr (by rfl) L.m__law_take L.F__law_take.kp L.b__law_take .nil pass0 (pa_cons (pv 0) (pa_cons pe_int pa_nil))) (fun _ _ => rfl)))) pa_nil)))), ?_⟩
  refine ⟨rfl, _, rfl, _, rfl, by omega, by omega, fun D nD => ?_⟩
  have nDb : D ≠ b := (hB.ne nD).symm
  rw [Int.toNat_natCast]
  refine lc_range (n := m) (fun j H7 => Keep b H H7 ∧ BoxAt (c + j) H7 b ∧ ∃ l : List Nat, l.length = j ∧ SgL l ∧ H7 D = some (.lst (s1s l))) ⟨Keep.new nD, (hB.same (same_upd nD)).mono (by omega), [], rfl, (fun _ z => nomatch z), upd_same⟩ ?_ ?_
  · rintro j H7 hj ⟨k7, B7, l, ll, sl, eD⟩
    refine ⟨rfl, yesT ?_⟩
    refine ⟨_, rfl, b, _, _, rfl, B7, (by decide), (by decide), (by decide), (by omega), (by decide), fun r H8 u0 u1 B8 k8 => ?_⟩
    obtain ⟨d, ed, hd⟩ := at4 u0 u1
    refine ⟨_, _, d, rfl, rfl, ln4, ed, ?_⟩
    refine ⟨_, k8 _ _ eD nDb, ?_, fun x u e n => ?_, BoxAt.mono (B8.at (upd_ne nDb.symm)) (by show _ + (2 : Int) ^ (1 - 1) ≤ _; rw [show (2 : Int) ^ (1 - 1) = 1 from rfl]; omega), l ++ [d], by rw [List.length_append, ll]; rfl, sg_snoc sl hd, ?_⟩
    · rw [s1s_len]
      exact small1000 (by omega)
    · rw [upd_ne (ne_of_none e nD)]
      exact k8 _ _ (k7 _ _ e n) n
    · rw [upd_same]
      exact congrArg (fun z => some (HO.lst z)) (s1s_snoc l d)
  · rintro H7 ⟨k7, B7, l, ll, sl, eD⟩
    refine ⟨_, D, _, rfl, rfl, .inl (SqL.of eD), join_z l (by omega), ?_⟩
    rw [join_1]
    exact q l _ ll sl B7 k7
def spBent : Sp := fun vs H Q _ => ∃ (b : Addr) (x : List Nat) (c : Int), vs = [.ref b, .str (SX.S x)] ∧ BoxAt c H b ∧ c ≤ 900000000 ∧ x.length ≤ 900 ∧ SgL x ∧
  ∀ (l : List Nat) (H' : Hp), l.length = x.length → SgL l → BoxAt (c + 2 * x.length) H' b → Keep b H H' → Q (.str (SX.S l)) H'
theorem ok__law_bent_cube (B : Bl mg) (L : LL K mg a1 a2 a3 a4 a5 a6 a7 a8 a9 a10 a11 a12 a13 l1 l2 l3 l4 l5 l6 l7 l8 l9 l10 l11 l12 l13) : FnOk P w K mg base CX0 10 a9 l9 ["_law_box_here", "_law_cube_here"] spBent := by
  have G__law_take : FnOk P w K mg base CX0 9 a5 l5 ["_law_box_here", "_law_size"] (spTake 1) := (ok_take L.F__law_take L.b__law_take L.m__law_take B 1).mono (by decide)
  refine L.F__law_bent_cube.ok sc__law_bent_cube (fun vs H Q E h => ?_) (fun cdv A outer s H vs Q E hr h => ?_)
  · obtain ⟨b, x, c, rfl, _⟩ := h
    rfl
  obtain ⟨b, x, c, rfl, hB, hc, hm, hx, q⟩ := h
  refine ⟨_, (pss_cons (ps_setLc (i := 2) (own := [("_law_sign", 3)]) (by rfl) sc__law_bent_cube.nd rfl rfl (sw_true rfl rfl rfl (by decide +kernel)) (pi_str (pv 1)) (blkOk_by (own := [("_law_sign", 3)]) (N := ["_law_box_here", "_law_cube_here", "_law_found", "_law_sign"]) (sc := defScope s__law_bent_cube) (by decide +kernel)) (fun _ _ _ _ _ => pg_name (i := 3) sc__law_bent_cube.nd rfl (Or.inl rfl)) (fun _ _ _ _ _ => pts_nil) (fun _ _ _ _ _ => (pe_ifExp (pt_cmpR op_gt (pe_call G__law_take hr (by rfl) L.m__law_take L.F__law_take.kp L.b__law_take .nil pass0 (pa_cons (pv 0) (pa_cons pe_int pa_nil))) pe_int (nomark _)) (pv 3) (pe_ix ix_str pe_str (pe_call G__law_take hr (by rfl) L.m__law_take L.F__law_take.kp L.b__law_take .nil pass0 (pa_cons (pv 0) (pa_cons pe_int pa_nil))) (fun _ _ => rfl)))))
    (pss_one (ps_ret (pe_bm PySem.F.plainAttrs_str PySem.F.slot_str_join PySem.F.type_str_join mt_join pe_str (pa_cons (pv 2) pa_nil))))), ?_⟩
  refine ⟨_, rfl, SX.S x, rfl, fun D nD => ?_⟩
  have nDb : D ≠ b := (hB.ne nD).symm
  refine lc_it (walk_S (x := x)) (fun j H7 => Keep b H H7 ∧ BoxAt (c + 2 * j) H7 b ∧ ∃ l : List Nat, l.length = j ∧ SgL l ∧ H7 D = some (.lst (s1s l))) ⟨Keep.new nD, (hB.same (same_upd nD)).mono (by omega), [], rfl, (fun _ z => nomatch z), upd_same⟩ (fun _ _ _ _ => trivial) ?_ ?_
  · rintro j v H7 H7' hj ⟨k7, B7, l, ll, sl, eD⟩ ⟨rfl, a, ha, rfl⟩
    have sa := hx a (List.mem_of_getElem? ha)
    refine ⟨rfl, yesT ?_⟩
    refine ⟨_, rfl, b, _, _, rfl, B7, (by decide), (by decide), (by decide), (by omega), (by decide), fun r H8 u0 u1 B8 k8 => ?_⟩
    replace B8 := bx1 B8
    refine ⟨_, _, rfl, rfl, _, rfl, ite2 (fun cc => ?_) (fun cc => ?_)⟩
    · refine ⟨_, rfl, ?_⟩
      refine ⟨_, k8 _ _ eD nDb, ?_, fun x u e n => ?_, BoxAt.mono (B8.at (upd_ne nDb.symm)) (by omega), l ++ [a], by rw [List.length_append, ll]; rfl, sg_snoc sl sa, ?_⟩
      · rw [s1s_len]
        exact small1000 (by omega)
      · rw [upd_ne (ne_of_none e nD)]
        exact k8 _ _ (k7 _ _ e n) n
      · rw [upd_same]
        exact congrArg (fun z => some (HO.lst z)) (s1s_snoc l a)
    · refine ⟨_, rfl, b, _, _, rfl, B8, (by decide), (by decide), (by decide), (by omega), (by decide), fun r2 H9 v0 v1 B9 k9 => ?_⟩
      replace B9 := bx1 B9
      obtain ⟨d, ed, hd⟩ := at3 v0 v1
      refine ⟨_, _, d, rfl, rfl, ln3, ed, ?_⟩
      refine ⟨_, k9 _ _ (k8 _ _ eD nDb) nDb, ?_, fun x u e n => ?_, BoxAt.mono (B9.at (upd_ne nDb.symm)) (by omega), l ++ [d], by rw [List.length_append, ll]; rfl, sg_snoc sl hd, ?_⟩
      · rw [s1s_len]
        exact small1000 (by omega)
      · rw [upd_ne (ne_of_none e nD)]
        exact k9 _ _ (k8 _ _ (k7 _ _ e n) n) n
      · rw [upd_same]
        exact congrArg (fun z => some (HO.lst z)) (s1s_snoc l d)
  · rintro H7 ⟨k7, B7, l, ll, sl, eD⟩
    refine ⟨rfl, _, rfl, _, D, _, rfl, rfl, .inl (SqL.of eD), join_z l (by omega), ?_⟩
    rw [join_1]
    exact q l _ ll sl B7 k7
theorem ln10 : (Str.ofString "10").length ≤ sizeLine := by decide +kernel
theorem flip01 {a : Nat} (h : a = 48 ∨ a = 49) : ∃ (k : Int) (d : Nat), PySem.intText? (SX.S [a]) = some k ∧ (SX.S [a]).length ≤ 640 ∧ atI (Str.ofString "10").cps.toList k = some d ∧ (d = 48 ∨ d = 49) := by
  rcases h with z | z <;> subst z
  · exact ⟨0, 49, by decide +kernel, by decide +kernel, by decide +kernel, by decide⟩
  · exact ⟨1, 48, by decide +kernel, by decide +kernel, by decide +kernel, by decide⟩
theorem s1s_set (l : List Nat) (n d : Nat) : (s1s l).set n (.str (SX.S [d])) = s1s (l.set n d) := by
  unfold s1s
  rw [List.map_set, List.map_set]
theorem bt_set {l : List Nat} {n d : Nat} (h : BtL l) (hd : d = 48 ∨ d = 49) : BtL (l.set n d) := fun c hc => by
  rcases List.mem_or_eq_of_mem_set hc with z | z
  · exact h c z
  · rw [z]
    exact hd
def spText : Sp := fun vs H Q _ => ∃ (b : Addr) (x : List Nat) (c : Int), vs = [.ref b, .str (SX.S x)] ∧ BoxAt c H b ∧ c ≤ 900000000 ∧ x.length ≤ 900 ∧ 0 < x.length ∧ SgL x ∧
  ∀ (l : List Nat) (H' : Hp), l.length = x.length → BtL l → BoxAt (c + x.length + 2) H' b → Keep b H H' → Q (.str (SX.S l)) H'
theorem ok__law_text (B : Bl mg) (L : LL K mg a1 a2 a3 a4 a5 a6 a7 a8 a9 a10 a11 a12 a13 l1 l2 l3 l4 l5 l6 l7 l8 l9 l10 l11 l12 l13) : FnOk P w K mg base CX0 10 a10 l10 ["_law_box_here", "_law_cube_here"] spText := by
  have G__law_take : FnOk P w K mg base CX0 9 a5 l5 ["_law_box_here", "_law_size"] (spTake 1) := (ok_take L.F__law_take L.b__law_take L.m__law_take B 1).mono (by decide)
  refine L.F__law_text.ok sc__law_text (fun vs H Q E h => ?_) (fun cdv A outer s H vs Q E hr h => ?_)
  · obtain ⟨b, x, c, rfl, _⟩ := h
    rfl
  obtain ⟨b, x, c, rfl, hB, hc, hm, h0, hx, q⟩ := h
  refine ⟨_, (pss_cons (ps_setLc (i := 2) (own := [("_law_sign", 4)]) (by rfl) sc__law_text.nd rfl rfl (sw_true rfl rfl rfl (by decide +kernel)) (pi_str (pv 1)) (blkOk_by (own := [("_law_sign", 4)]) (N := ["_law_box_here", "_law_cube_here", "_law_found", "_law_at", "_law_sign"]) (sc := defScope s__law_text) (by decide +kernel)) (fun _ _ _ _ _ => pg_name (i := 4) sc__law_text.nd rfl (Or.inl rfl)) (fun _ _ _ _ _ => pts_nil) (fun _ _ _ _ _ => (pe_ifExp (pt_cmpR op_ne (pv 4) pe_str (nomark _)) (pv 4) (pe_ix ix_str pe_str (pe_call G__law_take hr (by rfl) L.m__law_take L.F__law_take.kp L.b__law_take .nil pass0 (pa_cons (pv 0) (pa_cons pe_int pa_nil))) (fun _ _ => rfl)))))
    (pss_cons (ps_if (pt_cmpR op_eq (pe_call G__law_take hr (by rfl) L.m__law_take L.F__law_take.kp L.b__law_take .nil pass0 (pa_cons (pv 0) (pa_cons pe_int pa_nil))) pe_int (nomark _)) (pss_cons (ps_set (i := 3) sc__law_text.nd rfl (.inl rfl) (pe_call G__law_take hr (by rfl) L.m__law_take L.F__law_take.kp L.b__law_take .nil pass0 (pa_cons (pv 0) (pa_cons (pe_callB call_len_seq (by rfl) B.len PySem.boot_len (pa_cons (pv 2) pa_nil)) pa_nil))))
    (pss_one (ps_asg (pe_ix ix_str pe_str (pe_callTy call_int_str (by rfl) B.int PyProof.Rows.boot_int (pa_cons (pe_ix ix_list (pv 2) (pv 3) (fun _ _ => rfl)) pa_nil)) (fun _ _ => rfl)) (pg_sub (pv 2) (pv 3) set_list)))) pss_nil)
    (pss_one (ps_ret (pe_bm PySem.F.plainAttrs_str PySem.F.slot_str_join PySem.F.type_str_join mt_join pe_str (pa_cons (pv 2) pa_nil)))))), ?_⟩
  refine ⟨_, rfl, SX.S x, rfl, fun D nD => ?_⟩
  have nDb : D ≠ b := (hB.ne nD).symm
  refine lc_it (walk_S (x := x)) (fun j H7 => Keep b H H7 ∧ BoxAt (c + j) H7 b ∧ ∃ l : List Nat, l.length = j ∧ BtL l ∧ H7 D = some (.lst (s1s l))) ⟨Keep.new nD, (hB.same (same_upd nD)).mono (by omega), [], rfl, (fun _ z => nomatch z), upd_same⟩ (fun _ _ _ _ => trivial) ?_ ?_
  · rintro j v H7 H7' hj ⟨k7, B7, l, ll, sl, eD⟩ ⟨rfl, a, ha, rfl⟩
    have sa := hx a (List.mem_of_getElem? ha)
    refine ⟨rfl, yesT ?_⟩
    refine ⟨_, rfl, rfl, _, rfl, ite2 (fun cc => ?_) (fun cc => ?_)⟩
    · rw [dM] at cc
      have na : ¬ a = 45 := fun z => by rw [decide_eq_true z] at cc; cases cc
      refine ⟨_, rfl, ?_⟩
      refine ⟨_, eD, ?_, fun x u e n => ?_, BoxAt.mono (B7.at (upd_ne nDb.symm)) (by omega), l ++ [a], by rw [List.length_append, ll]; rfl, bt_snoc sl (sa.resolve_left na), ?_⟩
      · rw [s1s_len]
        exact small1000 (by omega)
      · rw [upd_ne (ne_of_none e nD)]
        exact k7 _ _ e n
      · rw [upd_same]
        exact congrArg (fun z => some (HO.lst z)) (s1s_snoc l a)
    · refine ⟨_, rfl, b, _, _, rfl, B7, (by decide), (by decide), (by decide), (by omega), (by decide), fun r2 H9 v0 v1 B9 k9 => ?_⟩
      replace B9 := bx1 B9
      obtain ⟨d, ed, hd⟩ := at2 v0 v1
      refine ⟨_, _, d, rfl, rfl, ln2, ed, ?_⟩
      refine ⟨_, k9 _ _ eD nDb, ?_, fun x u e n => ?_, BoxAt.mono (B9.at (upd_ne nDb.symm)) (by omega), l ++ [d], by rw [List.length_append, ll]; rfl, bt_snoc sl hd, ?_⟩
      · rw [s1s_len]
        exact small1000 (by omega)
      · rw [upd_ne (ne_of_none e nD)]
        exact k9 _ _ (k7 _ _ e n) n
      · rw [upd_same]
        exact congrArg (fun z => some (HO.lst z)) (s1s_snoc l d)
  rintro H7 ⟨k7, B7, l, ll, sl, eD⟩
  refine ⟨_, rfl, b, _, _, rfl, B7, (by decide), (by decide), (by decide), (by omega), (by decide), fun r H8 u0 u1 B8 k8 => ?_⟩
  replace B8 := bx1 B8
  have eD8 := k8 _ _ eD nDb
  refine ⟨rfl, _, rfl, ite2 (fun cc => ?_) (fun cc => ?_)⟩
  · refine ⟨_, rfl, _, rfl, D, _, rfl, .inl (SqL.of eD8), ?_⟩
    rw [s1s_len, ll]
    refine ⟨b, _, _, rfl, B8, (by omega), (by omega), (by omega), (by omega), (by decide), fun r2 H9 v0 v1 B9 k9 => ?_⟩
    replace B9 := bx1 B9
    have eD9 := k9 _ _ eD8 nDb
    obtain ⟨n, en⟩ : ∃ n : Nat, r2 = (n : Int) := ⟨r2.toNat, by omega⟩
    subst en
    have hn : n < l.length := by omega
    obtain ⟨a, ea⟩ : ∃ a, l[n]? = some a := ⟨l[n], List.getElem?_eq_getElem hn⟩
    have ha := sl a (List.mem_of_getElem? ea)
    have hat : atI (s1s l) (n : Int) = some (.str (SX.S [a])) := atI_nat (by unfold s1s; rw [List.getElem?_map, List.getElem?_map, ea]; rfl)
    obtain ⟨k, d, i1, i2, i3, hd⟩ := flip01 ha
    refine ⟨_, rfl, _, rfl, D, _, _, _, rfl, rfl, SqL.of eD9, hat, _, k, rfl, i1, i2, _, _, d, rfl, rfl, ln10, i3, ?_⟩
    refine ⟨_, rfl, _, rfl, D, _, _, n, rfl, rfl, eD9, ?_, ?_⟩
    · rw [s1s_len]
      exact ixN_nat hn
    have eU : (upd H9 D (.lst ((s1s l).set n (.str (SX.S [d]))))) D = some (.lst (s1s (l.set n d))) := by
      rw [upd_same, s1s_set]
    refine ⟨rfl, _, rfl, _, D, _, rfl, rfl, .inl (SqL.of eU), join_z _ (by rw [List.length_set]; omega), ?_⟩
    rw [join_1]
    refine q _ _ (by rw [List.length_set]; exact ll) (bt_set sl hd) (BoxAt.mono (B9.at (upd_ne nDb.symm)) (by omega)) fun y u e ny => ?_
    rw [upd_ne (ne_of_none e nD)]
    exact k9 _ _ (k8 _ _ (k7 _ _ e ny) ny) ny
  · refine ⟨rfl, _, rfl, _, D, _, rfl, rfl, .inl (SqL.of eD8), join_z l (by omega), ?_⟩
    rw [join_1]
    exact q l _ ll sl (B8.mono (by omega)) (k7.trans k8)
end
section
variable {P : Program} {w : World} {K : PySem.W.Frag} {mg : Str → Option Value} {base : Heap}
variable {a1 a2 a3 a4 a5 a6 a7 a8 a9 a10 a11 a12 a13 : Addr} {l1 l2 l3 l4 l5 l6 l7 l8 l9 l10 l11 l12 l13 : FuncData}
/-! ### what the law finds -/
theorem in57 (a b : Nat) : inV (.str (SX.S [b])) [.str (SX.S [a]), .str (Str.ofString "-")] = decide (b = a ∨ b = 45) := by
  apply Bool.eq_iff_iff.mpr
  rw [mns, show ([.str (SX.S [a]), .str (SX.S [45])] : List V) = ([SX.S [a], SX.S [45]] : List Str).map V.str from rfl, in_strs, decide_eq_true_iff, List.mem_cons, List.mem_singleton]
  exact ⟨fun z => z.imp S1_inj S1_inj, fun z => z.imp (fun e => by rw [e]) (fun e => by rw [e])⟩
def spLies (K : PySem.W.Frag) : Sp := fun vs H Q _ => ∃ (x y : List Nat), vs = [.str (SX.S x), .str (SX.S y)] ∧ x.length = y.length ∧ y.length ≤ 900 ∧ BtL x ∧ SgL y ∧ ∀ H', Same H H' → Q (.bl (!clash x y)) H'
theorem bad_in {a b : Nat} (h : a = 48 ∨ a = 49) : (if true = true then !inV (.str (SX.S [b])) [.str (SX.S [a]), .str (Str.ofString "-")] else inV (.str (SX.S [b])) [.str (SX.S [a]), .str (Str.ofString "-")]) = bad a b := by
  rw [if_pos rfl, in57]
  unfold bad
  by_cases c : b = a ∨ b = 45
  · rw [decide_eq_true c, decide_eq_false (by omega)]
    rfl
  · rw [decide_eq_false c, decide_eq_true (by omega)]
    rfl
theorem dp_s1s {H : Hp} : ∀ l : List Nat, DpAll K H (s1s l) (l.map fun c => PyData.str (SX.S [c]))
  | [] => .nil
  | d :: ds => .cons (.str _) (dp_s1s ds)
theorem ok_sg {c : Nat} (h : c = 45 ∨ c = 48 ∨ c = 49) : PyData.strOk (SX.S [c]) = true := by
  rcases h with z | z | z <;> subst z <;> decide +kernel
theorem lay_s1 : ∀ l : List Nat, SgL l → PyData.canLayAll0 (l.map fun c => PyData.str (SX.S [c])) = true ∧ PyData.depthAll (l.map fun c => PyData.str (SX.S [c])) ≤ 2
  | [], _ => ⟨by simp [PyData.canLayAll0], by simp [PyData.depthAll]⟩
  | c :: l, h => by
    obtain ⟨h1, h2⟩ := lay_s1 l (fun d hd => h d (List.mem_cons_of_mem _ hd))
    refine ⟨by simp [PyData.canLayAll0, PyData.canLay0, h1, ok_sg (h c List.mem_cons_self)], ?_⟩
    rw [List.map_cons]
    simp only [PyData.depthAll, PyData.depth]
    omega
theorem sh_s1 (l : List Nat) (h : SgL l) : SeqAt.shaped (.list (l.map fun c => PyData.str (SX.S [c]))) = true := by
  obtain ⟨h1, h2⟩ := lay_s1 l h
  refine Bool.and_eq_true_iff.mpr ⟨by simp only [PyData.canLay0]; exact h1, decide_eq_true ?_⟩
  simp only [PyData.depth]
  omega
theorem ok__law_lies (B : Bl mg) (L : LL K mg a1 a2 a3 a4 a5 a6 a7 a8 a9 a10 a11 a12 a13 l1 l2 l3 l4 l5 l6 l7 l8 l9 l10 l11 l12 l13) : FnOk P w K mg base CX0 10 a11 l11 ["_law_bits", "_law_cube_here"] (spLies K) := by
  refine L.F__law_lies.ok sc__law_lies (fun vs H Q E h => ?_) (fun cdv A outer s H vs Q E hr h => ?_)
  · obtain ⟨x, y, rfl, _⟩ := h
    rfl
  obtain ⟨x, y, rfl, hl, hz, hb, hy, q⟩ := h
  refine ⟨_, (pss_one (ps_ret (pe_cmpR (op_eqD hr.units) (pe_lc (own := [("_law_bit", 2), ("_law_sign", 3)]) (g := gTup K 2 (gCons (gName 2) (gCons (gName 3) gNil))) (by rfl) sc__law_lies.nd (pi_zx (by rfl) B.zip (pa_cons (pv 0) (pa_cons (pv 1) pa_nil))) (blkOk_by (own := [("_law_bit", 2), ("_law_sign", 3)]) (N := ["_law_bits", "_law_cube_here", "_law_bit", "_law_sign"]) (sc := defScope s__law_lies) (by decide +kernel)) (fun _ _ _ _ _ => pg_tup rfl (pgs_cons (pg_name (i := 2) sc__law_lies.nd rfl (Or.inl rfl) (.inr rfl)) (pgs_cons (pg_name (i := 3) sc__law_lies.nd rfl (Or.inl rfl) (.inr rfl)) pgs_nil))) (fun _ _ _ _ _ => pts_one (pt_cmpR (op_notIn_seqK (K := K)) (pv 3) (pe_tup (pa_cons (pv 2) (pa_cons pe_str pa_nil))) (by rfl))) (fun _ _ _ _ _ => (pv 3))) (pe_lst pa_nil) (nomark _)))), ?_⟩
  refine ⟨_, rfl, _, rfl, SX.S x, SX.S y, rfl, fun D nD => ?_⟩
  refine lc_it (walk_zS (x := x) (y := y) hl rfl) (fun i H3 => Same H H3 ∧ ∃ ls : List Nat, ls.length ≤ i ∧ SgL ls ∧ (ls = [] ↔ ((List.zipWith bad x y).take i).any id = false) ∧ H3 D = some (.lst (s1s ls))) ⟨same_upd nD, [], Nat.le_refl _, (fun _ z => nomatch z), ⟨fun _ => rfl, fun _ => rfl⟩, upd_same⟩ (fun _ _ _ _ => trivial) ?_ ?_
  · rintro i v H3 H4 hi ⟨s3, ls, l1, sl, l2, eD⟩ ⟨T, u1, u2, rfl, nT, rfl, e1, e2⟩
    obtain ⟨c1, f1, rfl⟩ := Option.map_eq_some_iff.mp e1
    obtain ⟨c2, f2, rfl⟩ := Option.map_eq_some_iff.mp e2
    have sT := same_upd (o := .tup [.str (SX.S [c1]), .str (SX.S [c2])]) nT
    have bc := hb c1 (List.mem_of_getElem? f1)
    refine ⟨T, _, rfl, .inl (.inl upd_same), rfl, _, _, rfl, _, _, rfl, rfl, rfl, ?_⟩
    refine ⟨_, rfl, _, rfl, (by show 2 ≤ sizeLine; decide), fun U nU => ?_⟩
    have sU := sT.trans (same_upd (o := .tup [.str (SX.S [c1]), .str (Str.ofString "-")]) nU)
    refine ⟨U, _, rfl, .inr (.inl (.inl upd_same)), rfl, rfl, ?_⟩
    rw [bad_in bc]
    refine ⟨_, rfl, ite2 (fun c => ?_) (fun c => ?_)⟩
    · refine ⟨_, rfl, _, sU _ _ eD, ?_, fun b u e => ?_, ls ++ [c2], ?_, sg_snoc sl (hy c2 (List.mem_of_getElem? f2)), ?_, ?_⟩
      · rw [s1s_len]
        exact small1000 (by omega)
      · rw [upd_ne (ne_of_none e nD)]
        exact sU _ _ (s3 _ _ e)
      · rw [List.length_append]
        exact Nat.succ_le_succ l1
      · rw [zw_take bad f1 f2, List.any_append, show [bad c1 c2].any id = true from by rw [c]; rfl, Bool.or_true]
        exact ⟨fun z => by simp at z, fun z => by cases z⟩
      · rw [upd_same]
        exact congrArg (fun z => some (HO.lst z)) (s1s_snoc ls c2)
    · refine ⟨fun b u e => sU _ _ (s3 _ _ e), ls, Nat.le_succ_of_le l1, sl, ?_, sU _ _ eD⟩
      rw [zw_take bad f1 f2, List.any_append, show [bad c1 c2].any id = false from by rw [Bool.eq_false_iff.mpr c]; rfl, Bool.or_false]
      exact l2
  rintro H3 ⟨s3, ls, l1, sl, l2, eD⟩
  rw [List.take_of_length_le (by rw [zw_len bad hl rfl]; exact Nat.le_refl _)] at l2
  refine ⟨(by show 0 ≤ sizeLine; decide), fun U nU => ?_⟩
  have sU := same_upd (o := .lst []) nU
  refine ⟨.list (ls.map fun c => .str (SX.S [c])), .list [], .lst (SqL.of (sU _ _ eD)) (dp_s1s ls), .lst (SqL.of upd_same) .nil, ?_, rfl, ?_⟩
  · exact sh_s1 ls sl
  have q1 := q _ (s3.trans sU)
  have hc : clash x y = (List.zipWith bad x y).any id := rfl
  cases ls with
  | nil =>
    rw [hc, l2.mp rfl] at q1
    exact q1
  | cons d ls =>
    have : (List.zipWith bad x y).any id = true := by
      cases z : (List.zipWith bad x y).any id with
      | true => rfl
      | false => cases l2.mpr z
    rw [hc, this] at q1
    exact q1
/-! ### what both have in common, by pairs of signs -/
def prs (x y : List Nat) : List Str := List.zipWith (fun a b => SX.S [a, b]) x y
def SG : List Nat := [45, 48, 49]
theorem sg_mem {l : List Nat} {c : Nat} (h : SgL l) (hc : c ∈ l) : c ∈ SG := by
  rcases h c hc with z | z | z <;> subst z <;> decide
theorem bad_pr : ∀ a ∈ SG, ∀ b ∈ SG, bad a b = decide (SX.S [a, b] = Str.ofString "01" ∨ SX.S [a, b] = Str.ofString "10") := by decide +kernel
theorem at_pr : ∀ a ∈ SG, ∀ b ∈ SG, bad a b = false → atI ([.str (Str.ofString "-"), .str (Str.ofString "0"), .str (Str.ofString "1")] : List V) ((if (!(Builtin.Str.occurrences (SX.S [a, b]) (Str.ofString "0") 0 (SX.S [a, b]).length 1).isEmpty) = true then 1 else 0) + 2 * (if (!(Builtin.Str.occurrences (SX.S [a, b]) (Str.ofString "1") 0 (SX.S [a, b]).length 1).isEmpty) = true then 1 else 0)) = some (.str (SX.S [mgs a b])) := by decide +kernel
theorem clash_pr : ∀ (x y : List Nat), SgL x → SgL y → (clash x y = true ↔ Str.ofString "01" ∈ prs x y ∨ Str.ofString "10" ∈ prs x y)
  | [], _, _, _ => by simp [clash, prs]
  | a :: x, [], _, _ => by simp [clash, prs]
  | a :: x, b :: y, hx, hy => by
    have ih := clash_pr x y (fun c hc => hx c (List.mem_cons_of_mem _ hc)) (fun c hc => hy c (List.mem_cons_of_mem _ hc))
    have e := bad_pr a (sg_mem hx List.mem_cons_self) b (sg_mem hy List.mem_cons_self)
    have ec : clash (a :: x) (b :: y) = (bad a b || clash x y) := rfl
    have ep : prs (a :: x) (b :: y) = SX.S [a, b] :: prs x y := rfl
    rw [ec, ep, Bool.or_eq_true, ih, e, decide_eq_true_iff, List.mem_cons, List.mem_cons]
    constructor
    · rintro ((z | z) | (z | z))
      · exact .inl (.inl z.symm)
      · exact .inr (.inl z.symm)
      · exact .inl (.inr z)
      · exact .inr (.inr z)
    · rintro ((z | z) | (z | z))
      · exact .inl (.inl z.symm)
      · exact .inr (.inl z)
      · exact .inl (.inr z.symm)
      · exact .inr (.inr z)
theorem no_bad : ∀ {x y : List Nat} {i a b : Nat}, clash x y = false → x[i]? = some a → y[i]? = some b → bad a b = false
  | [], _, _, _, _, _, h, _ => by cases h
  | _ :: _, [], _, _, _, _, _, h => by cases h
  | c :: x, d :: y, 0, a, b, h, h1, h2 => by
    cases h1
    cases h2
    exact (Bool.or_eq_false_iff.mp (show (bad c d || clash x y) = false from h)).1
  | c :: x, d :: y, i + 1, a, b, h, h1, h2 => no_bad (x := x) (y := y) (i := i) (Bool.or_eq_false_iff.mp (show (bad c d || clash x y) = false from h)).2 h1 h2
def spMet (K : PySem.W.Frag) : Sp := fun vs H Q _ => ∃ (x y : List Nat), vs = [.str (SX.S x), .str (SX.S y)] ∧ x.length = y.length ∧ y.length ≤ 900 ∧ SgL x ∧ SgL y ∧ ∀ H', Same H H' → Q (cmV x y) H'
theorem ok__law_met (B : Bl mg) (L : LL K mg a1 a2 a3 a4 a5 a6 a7 a8 a9 a10 a11 a12 a13 l1 l2 l3 l4 l5 l6 l7 l8 l9 l10 l11 l12 l13) : FnOk P w K mg base CX0 10 a12 l12 ["_law_one", "_law_other"] (spMet K) := by
  refine L.F__law_met.ok sc__law_met (fun vs H Q E h => ?_) (fun cdv A outer s H vs Q E hr h => ?_)
  · obtain ⟨x, y, rfl, _⟩ := h
    rfl
  obtain ⟨x, y, rfl, hl, hz, hx, hy, q⟩ := h
  refine ⟨_, (pss_cons (ps_setLc (i := 2) (own := [("_law_mine", 3), ("_law_its", 4)]) (g := gTup K 2 (gCons (gName 3) (gCons (gName 4) gNil))) (by rfl) sc__law_met.nd rfl rfl (sw_true rfl rfl rfl (by decide +kernel)) (pi_zx (by rfl) B.zip (pa_cons (pv 0) (pa_cons (pv 1) pa_nil))) (blkOk_by (own := [("_law_mine", 3), ("_law_its", 4)]) (N := ["_law_one", "_law_other", "_law_found", "_law_mine", "_law_its", "_law_both"]) (sc := defScope s__law_met) (by decide +kernel)) (fun _ _ _ _ _ => pg_tup rfl (pgs_cons (pg_name (i := 3) sc__law_met.nd rfl (Or.inl rfl) (.inr rfl)) (pgs_cons (pg_name (i := 4) sc__law_met.nd rfl (Or.inl rfl) (.inr rfl)) pgs_nil))) (fun _ _ _ _ _ => pts_nil) (fun _ _ _ _ _ => (pe_op op_add_str (pv 3) (pv 4))))
    (pss_cons (ps_if (PW.pt (pw_or (pt_cmpR op_in_seq pe_str (pv 2) (by rfl)) (pw_or1 (pt_cmpR op_in_seq pe_str (pv 2) (by rfl))))) (pss_one (ps_ret pe_non)) pss_nil)
    (pss_one (ps_ret (pe_bm PySem.F.plainAttrs_str PySem.F.slot_str_join PySem.F.type_str_join mt_join pe_str (pa_cons (pe_lc (own := [("_law_both", 5)]) (by rfl) sc__law_met.nd (pi_list (pv 2)) (blkOk_by (own := [("_law_both", 5)]) (N := ["_law_one", "_law_other", "_law_found", "_law_mine", "_law_its", "_law_both"]) (sc := defScope s__law_met) (by decide +kernel)) (fun _ _ _ _ _ => pg_name (i := 5) sc__law_met.nd rfl (Or.inl rfl)) (fun _ _ _ _ _ => pts_nil) (fun _ _ _ _ _ => (pe_ix (ix_listK (K := K)) (pe_lst (pa_cons pe_str (pa_cons pe_str (pa_cons pe_str pa_nil)))) (pe_op op_add (pe_callTy call_int1 (by rfl) B.int PyProof.Rows.boot_int (pa_cons (pe_cmpR op_in_str pe_str (pv 5) (by rfl)) pa_nil)) (pe_op op_mul pe_int (pe_callTy call_int1 (by rfl) B.int PyProof.Rows.boot_int (pa_cons (pe_cmpR op_in_str pe_str (pv 5) (by rfl)) pa_nil)))) (fun _ _ => rfl)))) pa_nil)))))), ?_⟩
  refine ⟨_, rfl, _, rfl, SX.S x, SX.S y, rfl, fun D nD => ?_⟩
  have lp : (prs x y).length = y.length := zw_len _ hl rfl
  refine lc_it (walk_zS (x := x) (y := y) hl rfl) (fun i H3 => Same H H3 ∧ H3 D = some (.lst (((prs x y).take i).map V.str))) ⟨same_upd nD, upd_same⟩ (fun _ _ _ _ => trivial) ?_ ?_
  · rintro i v H3 H4 hi ⟨s3, eD⟩ ⟨T, u1, u2, rfl, nT, rfl, e1, e2⟩
    obtain ⟨c1, f1, rfl⟩ := Option.map_eq_some_iff.mp e1
    obtain ⟨c2, f2, rfl⟩ := Option.map_eq_some_iff.mp e2
    have sT := same_upd (o := .tup [.str (SX.S [c1]), .str (SX.S [c2])]) nT
    refine ⟨T, _, rfl, .inl (.inl upd_same), rfl, _, _, rfl, _, _, rfl, rfl, rfl, ?_⟩
    refine yesT ?_
    refine ⟨_, rfl, _, rfl, _, _, rfl, rfl, (by rw [SX.S_len, SX.S_len]; show 2 ≤ sizeLine; decide), _, sT _ _ eD, ?_, fun b u e => ?_, ?_⟩
    · rw [List.length_map, List.length_take]
      exact Nat.lt_of_le_of_lt (Nat.min_le_left _ _) (small1000 (by omega))
    · rw [upd_ne (ne_of_none e nD)]
      exact sT _ _ (s3 _ _ e)
    · rw [upd_same, SX.S_cat]
      unfold prs
      rw [zw_take (fun a b => SX.S [a, b]) f1 f2, List.map_append]
      rfl
  rintro H3 ⟨s3, eD⟩
  rw [List.take_of_length_le (by rw [lp]; exact Nat.le_refl _)] at eD
  have q1 := q _ s3
  unfold cmV at q1
  have cp := clash_pr x y hx hy
  refine gset_if2 ?_
  refine ifS_ev (fun r H' => r = clash x y ∧ H' = H3) (fun Q' q' => ?_) (fun H' z => ?_) (fun H' z => ?_)
  · refine ⟨_, rfl, D, _, rfl, .inl (SqL.of eD), rfl, flat_strs _, _, rfl, ite2 (fun c => ?_) (fun c => ?_)⟩
    · refine q' _ _ ⟨(cp.mpr (.inl ((in_strs _ _).mp c))).symm, rfl⟩
    · refine ⟨_, rfl, D, _, rfl, .inl (SqL.of eD), rfl, flat_strs _, _, rfl, q' _ _ ⟨?_, rfl⟩⟩
      apply Bool.eq_iff_iff.mpr
      rw [cp]
      exact ⟨fun z => .inr ((in_strs _ _).mp z), fun z => (in_strs _ _).mpr (z.resolve_left (fun y => c ((in_strs _ _).mpr y)))⟩
  · obtain ⟨z, rfl⟩ := z
    rw [if_pos z.symm] at q1
    exact q1
  obtain ⟨z, rfl⟩ := z
  rw [if_neg (by rw [← z]; decide)] at q1
  refine ⟨rfl, ?_⟩
  have lm : (meet x y).length = y.length := zw_len mgs hl rfl
  refine ⟨_, rfl, D, rfl, ⟨_, SqL.of eD⟩, fun M nM => ?_⟩
  refine lc_it (walk_list (K := K) (a := D) (xs := (prs x y).map V.str)) (fun i H4 => Same H' H4 ∧ H4 M = some (.lst (s1s ((meet x y).take i)))) ⟨same_upd nM, upd_same⟩ (fun i H4 _ ⟨s4, _⟩ => SqL.of (s4 _ _ eD)) ?_ ?_
  · rintro i v H4 H5 hi ⟨s4, eM⟩ ⟨rfl, ev⟩
    rw [List.length_map, lp] at hi
    obtain ⟨a, ea⟩ : ∃ a, x[i]? = some a := ⟨x[i]'(by omega), List.getElem?_eq_getElem (by omega)⟩
    obtain ⟨b, eb⟩ : ∃ b, y[i]? = some b := ⟨y[i], List.getElem?_eq_getElem hi⟩
    rw [List.getElem?_map, show (prs x y)[i]? = some (SX.S [a, b]) by unfold prs; rw [List.getElem?_zipWith, ea, eb]] at ev
    cases ev
    have ha := sg_mem hx (List.mem_of_getElem? ea)
    have hb := sg_mem hy (List.mem_of_getElem? eb)
    have at1 := at_pr a ha b hb (no_bad z.symm ea eb)
    refine ⟨rfl, yesT ?_⟩
    refine ⟨(by show 3 ≤ sizeLine; decide), fun U nU => ?_⟩
    have sU := same_upd (o := .lst [.str (Str.ofString "-"), .str (Str.ofString "0"), .str (Str.ofString "1")]) nU
    refine ⟨_, rfl, _, _, rfl, rfl, .inr ⟨_, rfl, _, rfl, _, _, rfl, rfl, .inr ⟨_, rfl, _, _, rfl, rfl, .inl ⟨by decide, ?_⟩, _, _, rfl, rfl, U, _, _, _, rfl, rfl, SqL.of upd_same, at1, ?_⟩⟩⟩
    · decide
    refine ⟨_, sU _ _ eM, ?_, fun b u e => ?_, ?_⟩
    · rw [s1s_len, List.length_take]
      exact Nat.lt_of_le_of_lt (Nat.min_le_left _ _) (small1000 (by omega))
    · rw [upd_ne (ne_of_none e nM)]
      exact sU _ _ (s4 _ _ e)
    · rw [upd_same]
      unfold meet
      rw [zw_take mgs ea eb]
      exact congrArg (fun z => some (HO.lst z)) (s1s_snoc _ _)
  rintro H4 ⟨s4, eM⟩
  rw [List.take_of_length_le (by rw [lm, List.length_map, lp]; exact Nat.le_refl _)] at eM
  refine ⟨_, M, _, rfl, rfl, .inl (SqL.of eM), join_z _ (by omega), ?_⟩
  rw [join_1]
  have q2 := q _ (s3.trans s4)
  unfold cmV at q2
  rw [if_neg (by rw [← z]; decide)] at q2
  exact q2
end
section
variable {P : Program} {w : World} {K : PySem.W.Frag} {mg : Str → Option Value} {base : Heap}
variable {a1 a2 a3 a4 a5 a6 a7 a8 a9 a10 a11 a12 a13 : Addr} {l1 l2 l3 l4 l5 l6 l7 l8 l9 l10 l11 l12 l13 : FuncData}
theorem bad_sym : ∀ a ∈ SG, ∀ b ∈ SG, bad b a = bad a b ∧ (bad a b = false → mgs b a = mgs a b) := by decide +kernel
theorem bad_self : ∀ a ∈ SG, bad a a = false ∧ mgs a a = a := by decide +kernel
theorem bad_three : ∀ c ∈ [48, 49], ∀ a ∈ SG, ∀ b ∈ SG, (!(bad a b || bad c (mgs a b))) = (!bad c a && !bad c b) := by decide +kernel
theorem sg_tail {c : Nat} {l : List Nat} (h : SgL (c :: l)) : SgL l := fun d hd => h d (List.mem_cons_of_mem _ hd)
theorem bt_tail {c : Nat} {l : List Nat} (h : BtL (c :: l)) : BtL l := fun d hd => h d (List.mem_cons_of_mem _ hd)
theorem sg_head {c : Nat} {l : List Nat} (h : SgL (c :: l)) : c ∈ SG := sg_mem h List.mem_cons_self
theorem clash_cons (a b : Nat) (x y : List Nat) : clash (a :: x) (b :: y) = (bad a b || clash x y) := rfl
theorem meet_cons (a b : Nat) (x y : List Nat) : meet (a :: x) (b :: y) = mgs a b :: meet x y := rfl
theorem sym57 : ∀ (x y : List Nat), SgL x → SgL y → clash y x = clash x y ∧ (clash x y = false → meet y x = meet x y)
  | [], [], _, _ => ⟨rfl, fun _ => rfl⟩
  | [], _ :: _, _, _ => ⟨rfl, fun _ => rfl⟩
  | _ :: _, [], _, _ => ⟨rfl, fun _ => rfl⟩
  | a :: x, b :: y, hx, hy => by
    obtain ⟨i1, i2⟩ := sym57 x y (sg_tail hx) (sg_tail hy)
    obtain ⟨b1, b2⟩ := bad_sym a (sg_head hx) b (sg_head hy)
    rw [clash_cons, clash_cons, b1, i1]
    refine ⟨rfl, fun z => ?_⟩
    obtain ⟨z1, z2⟩ := Bool.or_eq_false_iff.mp z
    rw [meet_cons, meet_cons, b2 z1, i2 z2]
theorem self57 : ∀ (x : List Nat), SgL x → clash x x = false ∧ meet x x = x
  | [], _ => ⟨rfl, rfl⟩
  | a :: x, hx => by
    obtain ⟨i1, i2⟩ := self57 x (sg_tail hx)
    obtain ⟨b1, b2⟩ := bad_self a (sg_head hx)
    rw [clash_cons, meet_cons, b1, b2, i1, i2]
    exact ⟨rfl, rfl⟩
theorem three57 : ∀ (z x y : List Nat), z.length = x.length → x.length = y.length → BtL z → SgL x → SgL y → (!(clash x y || clash z (meet x y))) = (!clash z x && !clash z y)
  | [], [], [], _, _, _, _, _ => rfl
  | c :: z, a :: x, b :: y, h1, h2, hz, hx, hy => by
    have ih := three57 z x y (Nat.succ.inj h1) (Nat.succ.inj h2) (bt_tail hz) (sg_tail hx) (sg_tail hy)
    have e := bad_three c (by rcases hz c List.mem_cons_self with q | q <;> subst q <;> decide) a (sg_head hx) b (sg_head hy)
    rw [meet_cons, clash_cons, clash_cons, clash_cons, clash_cons]
    revert ih e
    cases bad a b <;> cases bad c (mgs a b) <;> cases bad c a <;> cases bad c b <;> cases clash x y <;> cases clash z (meet x y) <;> cases clash z x <;> cases clash z y <;> decide
theorem cm_sym {x y : List Nat} (hx : SgL x) (hy : SgL y) : cmV y x = cmV x y := by
  obtain ⟨h1, h2⟩ := sym57 x y hx hy
  unfold cmV
  rw [h1]
  by_cases c : clash x y = true
  · rw [if_pos c, if_pos c]
  · rw [if_neg c, if_neg c, h2 (Bool.eq_false_iff.mpr c)]
theorem cm_self {x : List Nat} (hx : SgL x) : cmV x x = .str (SX.S x) := by
  obtain ⟨h1, h2⟩ := self57 x hx
  unfold cmV
  rw [h1, h2]
  rfl
theorem sg_meet : ∀ {x y : List Nat}, SgL x → SgL y → SgL (meet x y)
  | [], _, _, _ => fun _ z => nomatch z
  | _ :: _, [], _, _ => fun _ z => nomatch z
  | a :: x, b :: y, hx, hy => fun c hc => by
    rw [meet_cons] at hc
    rcases List.mem_cons.mp hc with q | q
    · subst q
      unfold mgs
      split
      · exact hy b List.mem_cons_self
      · exact hx a List.mem_cons_self
    · exact sg_meet (sg_tail hx) (sg_tail hy) c q
def cmD (x y : List Nat) : PyData := if clash x y = true then .none else .str (SX.S (meet x y))
theorem dp_cm {H : Hp} (x y : List Nat) : Dp K H (cmV x y) (cmD x y) := by
  unfold cmV cmD
  split
  · exact .non
  · exact .str _
theorem lv_cm (n : Nat) (x y : List Nat) : Lv n (cmD x y) := by
  unfold cmD
  split <;> cases n <;> trivial
theorem sh_two (a b : Bool) : SeqAt.shaped (.list [.bool a, .bool b]) = true := by
  revert a b
  decide +kernel
theorem eqv_tt (a b : Bool) : PyData.eqv (.list [.bool a, .bool b]) (.list [.bool true, .bool true]) = (a && b) := by
  revert a b
  decide +kernel
def spRight : Sp := fun vs H Q _ => ∃ (b : Addr) (c : Int), vs = [.ref b] ∧ BoxAt c H b ∧ c ≤ 700000000 ∧
  ∀ (H' : Hp), BoxAt (c + 400) H' b → Keep b H H' → Q (.bl true) H'
theorem ok__law_right (B : Bl mg) (L : LL K mg a1 a2 a3 a4 a5 a6 a7 a8 a9 a10 a11 a12 a13 l1 l2 l3 l4 l5 l6 l7 l8 l9 l10 l11 l12 l13) : FnOk P w K mg base CX0 12 a13 l13 ["_law_box_here"] spRight := by
  have G__law_take : FnOk P w K mg base CX0 11 a5 l5 ["_law_box_here", "_law_size"] (spTake 1) := (ok_take L.F__law_take L.b__law_take L.m__law_take B 1).mono (by decide)
  have G__law_cube : FnOk P w K mg base CX0 11 a8 l8 ["_law_box_here", "_law_many"] spCube := (ok__law_cube B L).mono (by decide)
  have G__law_bent_cube : FnOk P w K mg base CX0 11 a9 l9 ["_law_box_here", "_law_cube_here"] spBent := (ok__law_bent_cube B L).mono (by decide)
  have G__law_text : FnOk P w K mg base CX0 11 a10 l10 ["_law_box_here", "_law_cube_here"] spText := (ok__law_text B L).mono (by decide)
  have G__law_lies : FnOk P w K mg base CX0 11 a11 l11 ["_law_bits", "_law_cube_here"] (spLies K) := (ok__law_lies B L).mono (by decide)
  have G__law_met : FnOk P w K mg base CX0 11 a12 l12 ["_law_one", "_law_other"] (spMet K) := (ok__law_met B L).mono (by decide)
  have G_common : FnOk P w K mg base CX0 11 a2 l2 ["one", "other"] spCm := (ok_common B L).mono (by decide)
  have G_lies_in : FnOk P w K mg base CX0 11 a1 l1 ["bits", "cube"] spIn := (ok_lies_in B L).mono (by decide)
  have G__law_same : FnOk P w K mg base CX0 11 a7 l7 ["_law_found", "_law_due"] (spSame K 2) := (ok_same L.F__law_same L.b__law_same L.m__law_same B 2).mono (by decide)
  refine L.F__law_right.ok sc__law_right (fun vs H Q E h => ?_) (fun cdv A outer s H vs Q E hr h => ?_)
  · obtain ⟨b, c, rfl, _⟩ := h
    rfl
  obtain ⟨b, c, rfl, hB, hc, q⟩ := h
  refine ⟨_, (pss_cons (ps_set (i := 1) sc__law_right.nd rfl (.inl rfl) (pe_op op_add pe_int (pe_call G__law_take hr (by rfl) L.m__law_take L.F__law_take.kp L.b__law_take .nil pass0 (pa_cons (pv 0) (pa_cons pe_int pa_nil)))))
    (pss_cons (ps_set (i := 2) sc__law_right.nd rfl (.inl rfl) (pe_call G__law_cube hr (by rfl) L.m__law_cube L.F__law_cube.kp L.b__law_cube .nil pass0 (pa_cons (pv 0) (pa_cons (pv 1) pa_nil))))
    (pss_cons (ps_set (i := 3) sc__law_right.nd rfl (.inl rfl) (pe_ix ix_list (pe_lst (pa_cons (pe_call G__law_cube hr (by rfl) L.m__law_cube L.F__law_cube.kp L.b__law_cube .nil pass0 (pa_cons (pv 0) (pa_cons (pv 1) pa_nil))) (pa_cons (pe_call G__law_bent_cube hr (by rfl) L.m__law_bent_cube L.F__law_bent_cube.kp L.b__law_bent_cube .nil pass0 (pa_cons (pv 0) (pa_cons (pv 2) pa_nil))) pa_nil))) (pe_call G__law_take hr (by rfl) L.m__law_take L.F__law_take.kp L.b__law_take .nil pass0 (pa_cons (pv 0) (pa_cons pe_int pa_nil))) (fun _ _ => rfl)))
    (pss_cons (ps_set (i := 4) sc__law_right.nd rfl (.inl rfl) (pe_call G__law_met hr (by rfl) L.m__law_met L.F__law_met.kp L.b__law_met .nil pass0 (pa_cons (pv 2) (pa_cons (pv 3) pa_nil))))
    (pss_cons (ps_if (pt_not (pt_val (pe_call G__law_same hr (by rfl) L.m__law_same L.F__law_same.kp L.b__law_same .nil pass0 (pa_cons (pe_lst (pa_cons (pe_call G_common hr (by rfl) L.m_common L.F_common.kp L.b_common .nil pass0 (pa_cons (pv 2) (pa_cons (pv 3) pa_nil))) (pa_cons (pe_call G_common hr (by rfl) L.m_common L.F_common.kp L.b_common .nil pass0 (pa_cons (pv 3) (pa_cons (pv 2) pa_nil))) (pa_cons (pe_call G_common hr (by rfl) L.m_common L.F_common.kp L.b_common .nil pass0 (pa_cons (pv 2) (pa_cons (pv 2) pa_nil))) pa_nil)))) (pa_cons (pe_lst (pa_cons (pv 4) (pa_cons (pv 4) (pa_cons (pv 2) pa_nil)))) pa_nil))))) (pss_one (ps_ret pe_bl)) pss_nil)
    (pss_cons (ps_for PassesOwn.never rfl (pi_tup (pe_tup (pa_cons (pv 2) (pa_cons (pv 3) (pa_cons (pv 2) pa_nil))))) (pg_name (i := 5) sc__law_right.nd rfl (.inl rfl)) (pss_cons (ps_set (i := 6) sc__law_right.nd rfl (.inl rfl) (pe_call G__law_text hr (by rfl) L.m__law_text L.F__law_text.kp L.b__law_text .nil pass0 (pa_cons (pv 0) (pa_cons (pv 5) pa_nil))))
    (pss_cons (ps_set (i := 7) sc__law_right.nd rfl (.inl rfl) (pe_lst (pa_cons (pe_call G_lies_in hr (by rfl) L.m_lies_in L.F_lies_in.kp L.b_lies_in .nil pass0 (pa_cons (pv 6) (pa_cons (pv 2) pa_nil))) (pa_cons (pe_call G_lies_in hr (by rfl) L.m_lies_in L.F_lies_in.kp L.b_lies_in .nil pass0 (pa_cons (pv 6) (pa_cons (pv 3) pa_nil))) pa_nil))))
    (pss_cons (ps_if (pt_not (pt_val (pe_call G__law_same hr (by rfl) L.m__law_same L.F__law_same.kp L.b__law_same .nil pass0 (pa_cons (pv 7) (pa_cons (pe_lst (pa_cons (pe_call G__law_lies hr (by rfl) L.m__law_lies L.F__law_lies.kp L.b__law_lies .nil pass0 (pa_cons (pv 6) (pa_cons (pv 2) pa_nil))) (pa_cons (pe_call G__law_lies hr (by rfl) L.m__law_lies L.F__law_lies.kp L.b__law_lies .nil pass0 (pa_cons (pv 6) (pa_cons (pv 3) pa_nil))) pa_nil))) pa_nil))))) (pss_one (ps_ret pe_bl)) pss_nil)
    (pss_one (ps_if (pt_cmpR op_ne (pe_and (pe_cmpR op_notN (pv 4) pe_non (nomark _)) (pe_one (pe_call G_lies_in hr (by rfl) L.m_lies_in L.F_lies_in.kp L.b_lies_in .nil pass0 (pa_cons (pv 6) (pa_cons (pv 4) pa_nil))))) (pe_cmpR (op_eqD hr.units) (pv 7) (pe_lst (pa_cons pe_bl (pa_cons pe_bl pa_nil))) (nomark _)) (nomark _)) (pss_one (ps_ret pe_bl)) pss_nil))))))
    (pss_one (ps_ret pe_bl)))))))), ?_⟩
  refine ⟨_, rfl, b, _, _, rfl, hB, (by decide), (by decide), (by decide), (by omega), (by decide), fun r1 H1 u0 u1 B1 k1 => ?_⟩
  replace B1 := bx1 B1
  obtain ⟨m, em⟩ : ∃ m : Nat, 1 + r1 = (m : Int) := ⟨(1 + r1).toNat, by omega⟩
  have m0 : 0 < m := by omega
  have m1 : m ≤ 12 := by omega
  refine ⟨_, _, rfl, rfl, gI em ?_⟩
  refine ⟨_, rfl, _, rfl, b, m, _, rfl, B1, by omega, by omega, fun x H2 lx sx B2 k2 => ?_⟩
  refine ⟨_, rfl, _, rfl, b, m, _, rfl, B2, by omega, by omega, fun y1 H3 ly1 sy1 B3 k3 => ?_⟩
  refine ⟨_, rfl, _, rfl, b, x, _, rfl, B3, by omega, by omega, sx, fun y2 H4 ly2 sy2 B4 k4 => ?_⟩
  rw [lx] at B4 ly2
  refine ⟨(by show 2 ≤ sizeLine; decide), fun U nU => ?_⟩
  have nUb : U ≠ b := (B4.ne nU).symm
  refine ⟨_, rfl, b, _, _, rfl, B4.same (same_upd nU), (by decide), (by decide), (by decide), (by omega), (by decide), fun r2 H5 v0 v1 B5 k5 => ?_⟩
  replace B5 := bx1 B5
  have eU := k5 _ _ upd_same nUb
  obtain ⟨y, ey, ly, sy⟩ : ∃ y : List Nat, atI ([.str (SX.S y1), .str (SX.S y2)] : List V) r2 = some (.str (SX.S y)) ∧ y.length = m ∧ SgL y := by
    have : r2 = 0 ∨ r2 = 1 := by omega
    rcases this with z | z <;> subst z
    · exact ⟨y1, rfl, ly1, sy1⟩
    · exact ⟨y2, rfl, ly2, sy2⟩
  refine ⟨U, _, _, _, rfl, rfl, SqL.of eU, ey, ?_⟩
  have kA : Keep b H H5 := (k1.trans (k2.trans (k3.trans k4))).trans ((Keep.new nU).trans k5)
  have lxy : x.length = y.length := by omega
  refine ⟨_, rfl, _, rfl, x, y, rfl, lxy, by omega, sx, sy, fun H6 s6 => ?_⟩
  refine gset_if2 ?_
  simp only [L2.start, List.map_cons, List.map_nil, List.length_cons, List.length_nil, List.replicate_succ, List.replicate_zero, List.cons_append, List.nil_append, List.set_cons_succ, List.set_cons_zero, Nat.reduceAdd, Nat.reduceSub, Nat.zero_add]
  refine ⟨_, rfl, _, rfl, x, y, rfl, lxy, by omega, fun H7 s7 => ?_⟩
  refine ⟨_, rfl, _, rfl, y, x, rfl, lxy.symm, by omega, fun H8 s8 => ?_⟩
  refine ⟨_, rfl, _, rfl, x, x, rfl, rfl, by omega, fun H9 s9 => ?_⟩
  refine ⟨(by show 3 ≤ sizeLine; decide), fun P1 n1 => ?_⟩
  refine ⟨_, rfl, _, rfl, _, rfl, (by show 3 ≤ sizeLine; decide), fun P2 n2 => ?_⟩
  rw [cm_sym sx sy, cm_self sx] at n2 ⊢
  have t1 := same_upd (o := .lst [cmV x y, cmV x y, .str (SX.S x)]) n1
  have t2 := same_upd (o := .lst [cmV x y, cmV x y, .str (SX.S x)]) n2
  refine ⟨_, _, .list [cmD x y, cmD x y, .str (SX.S x)], 1, rfl, rfl, ?_, .lst (SqL.of (t2 _ _ upd_same)) (.cons (dp_cm x y) (.cons (dp_cm x y) (.cons (.str _) .nil))), .lst (SqL.of upd_same) (.cons (dp_cm x y) (.cons (dp_cm x y) (.cons (.str _) .nil))), fun H10 s10 => ?_⟩
  · refine ⟨by show 3 ≤ 1000000; decide, fun d hd => ?_⟩
    rcases List.mem_cons.mp hd with z | hd
    · subst z
      exact lv_cm _ x y
    rcases List.mem_cons.mp hd with z | hd
    · subst z
      exact lv_cm _ x y
    rcases List.mem_cons.mp hd with z | hd
    · subst z
      trivial
    · cases hd
  refine ⟨_, rfl, iteF ?_⟩
  have sB : Same H5 H10 := s6.trans (s7.trans (s8.trans (s9.trans (t1.trans (t2.trans s10)))))
  have B10 := B5.same sB
  have k10 : Keep b H H10 := kA.trans (Keep.ofSame sB)
  refine ⟨_, rfl, _, rfl, _, rfl, (by show 3 ≤ sizeLine; decide), fun T nT => ?_⟩
  have nTb : T ≠ b := (B10.ne nT).symm
  refine ⟨T, rfl, ⟨_, .inl (.inl upd_same)⟩, ?_⟩
  refine for_it (walk_tup (K := K) (a := T) (xs := [.str (SX.S x), .str (SX.S y), .str (SX.S x)])) (fun i σ H11 => ∃ y5 y6 y7 : Option V, σ = [some (.ref b), some (.int (m : Int)), some (.str (SX.S x)), some (.str (SX.S y)), some (cmV x y), y5, y6, y7] ∧ BoxAt (c + 1 + m + m + 2 * m + 1 + i * (m + 2)) H11 b ∧ Keep b (upd H10 T (.tup [.str (SX.S x), .str (SX.S y), .str (SX.S x)])) H11) ⟨none, none, none, rfl, (B10.same (same_upd nT)).mono (by omega), Keep.refl _ _⟩ (fun i σ H11 _ ⟨_, _, _, _, _, k11⟩ => .inl (.inl (k11 _ _ upd_same nTb))) ?_ ?_
  · rintro i v σ H11 H12 hi ⟨y5, y6, y7, rfl, B11, k11⟩ ⟨rfl, ev⟩
    have hi3 : i < 3 := hi
    obtain ⟨z, rfl, lz, sz⟩ : ∃ z : List Nat, v = .str (SX.S z) ∧ z.length = m ∧ SgL z := by
      have : i = 0 ∨ i = 1 ∨ i = 2 := by omega
      rcases this with w | w | w <;> subst w <;> cases ev
      · exact ⟨x, rfl, lx, sx⟩
      · exact ⟨y, rfl, ly, sy⟩
      · exact ⟨x, rfl, lx, sx⟩
    have him : (i : Int) * (m + 2) ≤ 2 * (12 + 2) := Int.mul_le_mul (by omega) (by omega) (by omega) (by omega)
    refine ⟨_, rfl, _, rfl, b, z, _, rfl, B11, by omega, by omega, by omega, sz, fun t H13 lt bt B13 k13 => ?_⟩
    rw [lz] at lt B13
    refine ⟨_, rfl, _, rfl, t, x, rfl, by omega, by omega, bt, fun H14 s14 => ?_⟩
    refine ⟨_, rfl, _, rfl, t, y, rfl, by omega, by omega, bt, fun H15 s15 => ?_⟩
    refine ⟨(by show 2 ≤ sizeLine; decide), fun F nF => ?_⟩
    have sF := same_upd (o := .lst [.bl (!clash t x), .bl (!clash t y)]) nF
    refine gset_if2 ?_
    refine ⟨_, rfl, _, rfl, _, rfl, t, x, rfl, by omega, by omega, bt, sx, fun H16 s16 => ?_⟩
    refine ⟨_, rfl, _, rfl, t, y, rfl, by omega, by omega, bt, sy, fun H17 s17 => ?_⟩
    refine ⟨(by show 2 ≤ sizeLine; decide), fun F2 nF2 => ?_⟩
    have sF2 := same_upd (o := .lst [.bl (!clash t x), .bl (!clash t y)]) nF2
    have e17 := s17 _ _ (s16 _ _ (upd_same (H := H15) (a := F) (o := HO.lst [V.bl !clash t x, V.bl !clash t y])))
    refine ⟨_, _, .list [.bool (!clash t x), .bool (!clash t y)], 1, rfl, rfl, ⟨by show 2 ≤ 1000000; decide, fun d hd => ?_⟩, .lst (SqL.of (sF2 _ _ e17)) (.cons (.bl _) (.cons (.bl _) .nil)), .lst (SqL.of upd_same) (.cons (.bl _) (.cons (.bl _) .nil)), fun H18 s18 => ?_⟩
    · rcases List.mem_cons.mp hd with z | hd
      · subst z
        trivial
      rcases List.mem_cons.mp hd with z | hd
      · subst z
        trivial
      · cases hd
    refine ⟨_, rfl, iteF ?_⟩
    have s1318 : Same H15 H18 := sF.trans (s16.trans (s17.trans (sF2.trans s18)))
    have e18 := s18 _ _ (sF2 _ _ e17)
    dsimp only [tNext, tIfS, tTest, tOp]
    refine and_ev (fun v H' => v = .bl (!(clash x y || clash t (meet x y))) ∧ Same H18 H') (fun Q' q' => ?_) (fun v H' hv => ?_)
    · refine ⟨_, rfl, rfl, _, rfl, ?_⟩
      by_cases cl : clash x y = true
      · rw [show (!decide (cmV x y = .non)) = false by unfold cmV; rw [if_pos cl, decide_eq_true rfl]; rfl]
        refine q' _ _ ⟨?_, Same.refl _⟩
        rw [cl]
        rfl
      · have ecm : cmV x y = .str (SX.S (meet x y)) := by
          unfold cmV
          rw [if_neg cl]
        rw [show (!decide (cmV x y = .non)) = true by rw [ecm, decide_eq_false (fun z => by cases z)]; rfl]
        have lm : (meet x y).length = y.length := zw_len mgs lxy rfl
        refine ⟨_, rfl, _, rfl, t, meet x y, congrArg (fun v => [V.str (SX.S t), v]) ecm, by omega, by omega, bt, fun H19 s19 => q' _ _ ⟨?_, s19⟩⟩
        rw [Bool.eq_false_iff.mpr cl]
        rfl
    · obtain ⟨rfl, s19⟩ := hv
      refine ⟨_, rfl, (by show 2 ≤ sizeLine; decide), fun W nW => ?_⟩
      have sW := same_upd (o := .lst [.bl true, .bl true]) nW
      refine ⟨.list [.bool (!clash t x), .bool (!clash t y)], .list [.bool true, .bool true], .lst (SqL.of (sW _ _ (s19 _ _ e18))) (.cons (.bl _) (.cons (.bl _) .nil)), .lst (SqL.of upd_same) (.cons (.bl _) (.cons (.bl _) .nil)), sh_two _ _, sh_two _ _, rfl, _, rfl, ?_⟩
      rw [eqv_tt, three57 t x y (by omega) lxy bt sx sy, decide_eq_true rfl]
      have sE := s1318.trans (s19.trans sW)
      have kE : Keep b H12 (upd H' W (.lst [.bl true, .bl true])) := k13.trans (Keep.ofSame (s14.trans (s15.trans sE)))
      refine ⟨_, _, _, rfl, ?_, k11.trans kE⟩
      refine BoxAt.mono (B13.same (s14.trans (s15.trans sE))) ?_
      have : ((i + 1 : Nat) : Int) * (m + 2) = i * (m + 2) + (m + 2) := by
        rw [Int.natCast_add, Int.add_mul]
        omega
      rw [this]
      omega
  · rintro σ H11 ⟨y5, y6, y7, rfl, B11, k11⟩
    have hm3 : ((3 : Nat) : Int) * (m + 2) ≤ 3 * (12 + 2) := Int.mul_le_mul (by omega) (by omega) (by omega) (by omega)
    exact q _ (B11.mono (by show _ + ((3 : Nat) : Int) * ((m : Int) + 2) ≤ _; omega)) ((k10.trans (Keep.new nT)).trans k11)
def spLaw (K : PySem.W.Frag) : Sp := fun vs H Q _ => ∃ (a : Addr) (ns : List Int), vs = [.ref a] ∧ SqL K H a (ns.map V.int) ∧ ns.length ≤ 63 ∧ ∀ H', Q (.bl true) H'
theorem ok_law {f : Addr} {fd : FuncData} (F : Fun K "law" "law" s_law f fd) (B : Bl mg) (L : LL K mg a1 a2 a3 a4 a5 a6 a7 a8 a9 a10 a11 a12 a13 l1 l2 l3 l4 l5 l6 l7 l8 l9 l10 l11 l12 l13) : FnOk P w K mg base CX0 13 f fd ["_law_script"] (spLaw K) := by
  have G__law_folded : FnOk P w K mg base CX0 12 a6 l6 ["_law_script", "_law_size"] (spFolded K) := ok_folded L.F__law_folded B
  have G__law_box : FnOk P w K mg base CX0 12 a4 l4 ["_law_script", "_law_k"] (spBox K) := ok_box L.F__law_box B
  have G__law_right : FnOk P w K mg base CX0 12 a13 l13 ["_law_box_here"] spRight := (ok__law_right B L).mono (by decide)
  refine F.ok sc_law (fun vs H Q E h => ?_) (fun cdv A outer s H vs Q E hr h => ?_)
  · obtain ⟨a, ns, rfl, _⟩ := h
    rfl
  obtain ⟨a, ns, rfl, hS, h63, q⟩ := h
  refine ⟨_, (pss_cons (ps_set (i := 1) sc_law.nd rfl (.inl rfl) (pe_call G__law_folded hr (by rfl) L.m__law_folded L.F__law_folded.kp L.b__law_folded .nil pass0 (pa_cons (pv 0) (pa_cons pe_int pa_nil))))
    (pss_cons (ps_for PassesOwn.never rfl (pi_range1 (by rfl) B.range (pa_cons (pe_callB (call_max2 rfl) (by rfl) B.max boot_max (pa_cons pe_int (pa_cons (pe_callB call_len_seq (by rfl) B.len PySem.boot_len (pa_cons (pv 1) pa_nil)) pa_nil))) pa_nil)) (pg_name (i := 2) sc_law.nd rfl (.inl rfl)) (pss_cons (ps_set (i := 3) sc_law.nd rfl (.inr rfl) (pe_call G__law_box hr (by rfl) L.m__law_box L.F__law_box.kp L.b__law_box .nil pass0 (pa_cons (pv 1) (pa_cons (pv 2) pa_nil))))
    (pss_one (ps_if (pt_not (pt_val (pe_callB (cr_all rfl) (by rfl) B.all boot_all (pa_cons (pe_lc (own := [("_law_turn", 4)]) (by rfl) sc_law.nd (pi_range1 (by rfl) B.range (pa_cons pe_int pa_nil)) (blkOk_by (own := [("_law_turn", 4)]) (N := ["_law_script", "_law_cells", "_law_k", "_law_box_here", "_law_turn"]) (sc := defScope s_law) (by decide +kernel)) (fun _ _ _ _ _ => pg_name (i := 4) sc_law.nd rfl (Or.inl rfl)) (fun _ _ _ _ _ => pts_nil) (fun _ _ _ _ _ => (pe_call G__law_right hr (by rfl) L.m__law_right L.F__law_right.kp L.b__law_right .nil pass0 (pa_cons (pv 3) pa_nil)))) pa_nil)))) (pss_one (ps_ret pe_bl)) pss_nil))))
    (pss_one (ps_ret pe_bl)))), ?_⟩
  refine ⟨_, rfl, a, ns, 4, rfl, hS, h63, by decide, by decide, fun p H1 zs np s1 ep lz => ?_⟩
  have lz2 : zs.length ≤ 4 := by omega
  refine ⟨_, rfl, p, _, rfl, .inl (SqL.of ep), _, _, rfl, ?_⟩
  obtain ⟨n, en, hn⟩ : ∃ n : Nat, (if (((zs.map V.int).length : Nat) : Int) > 1 then (((zs.map V.int).length : Nat) : Int) else 1) = (n : Int) ∧ n ≤ 4 := by
    rw [List.length_map]
    split
    · exact ⟨zs.length, rfl, lz2⟩
    · exact ⟨1, rfl, by decide⟩
  rw [en]
  refine ⟨_, rfl, by omega, by omega, ?_⟩
  rw [Int.toNat_natCast]
  refine for_range (n := n) (fun i σ H5 => ∃ (y2 y3 : Option V), σ = [some (.ref a), some (.ref p), y2, y3, none] ∧ Same H1 H5) ⟨none, none, rfl, Same.refl _⟩ ?_ ?_
  · rintro i σ H5 hi ⟨y2, y3, rfl, s5⟩
    refine ⟨_, rfl, _, rfl, p, zs, _, rfl, SqL.of (s5 _ _ ep), by omega, by omega, fun b H6 nb s6 B6 => ?_⟩
    refine ⟨8, rfl, by decide, by decide, fun D nD => ?_⟩
    have nDb : D ≠ b := (B6.ne nD).symm
    refine lc_range (n := 8) (fun j H7 => Keep b H6 H7 ∧ BoxAt (400 * j) H7 b ∧ H7 D = some (.lst (List.replicate j (.bl true)))) ⟨Keep.new nD, (B6.same (same_upd nD)).mono (by omega), upd_same⟩ ?_ ?_
    · rintro j H7 hj ⟨k7, B7, eD⟩
      refine ⟨rfl, yesT ?_⟩
      refine ⟨_, rfl, b, _, rfl, B7, by omega, fun H8 B8 k8 => ?_⟩
      refine ⟨_, k8 _ _ eD nDb, ?_, fun x u e n => ?_, BoxAt.mono (B8.at (upd_ne nDb.symm)) (by omega), ?_⟩
      · rw [List.length_replicate]
        exact small1000 (by omega)
      · rw [upd_ne (ne_of_none e nD)]
        exact k8 _ _ (k7 _ _ e n) n
      · rw [upd_same, repl_snoc]
    · rintro H7 ⟨k7, B7, eD⟩
      refine ⟨D, List.replicate 8 true, rfl, .inl (.inl (by rw [List.map_replicate]; exact eD)), _, rfl, ?_⟩
      refine iteF ?_
      exact ⟨_, _, rfl, fun x u e => k7 _ _ (s6 _ _ (s5 _ _ e)) (ne_of_none (s5 _ _ e) nb)⟩
  · rintro σ H5 ⟨y2, y3, rfl, s5⟩
    exact q _
end
theorem all_mk {l : PySem.W.OpenLaw} {w : World} {K : PySem.W.Frag} {h : Heap} {mg : Str → Option Value} {fa f1 f2 f3 f4 f5 f6 f7 f8 f9 f10 f11 f12 f13 f14  : Addr} (X : K.In h) (G : h.Ns mainGlobals mg) (hfa : mg "law" = some (.ref fa))
    {od1 an1 od2 an2 od3 an3 od4 an4 od5 an5 od6 an6 od7 an7 od8 an8 od9 an9 od10 an10 od11 an11 od12 an12 od13 an13 od14 an14 : Option Addr} {sl1 sl2 sl3 sl4 sl5 sl6 sl7 sl8 sl9 sl10 sl11 sl12 sl13 sl14 : Array (Option Value)} {oc1 kV1 dc1 pm1 cd1 ct1 oc2 kV2 dc2 pm2 cd2 ct2 oc3 kV3 dc3 pm3 cd3 ct3 oc4 kV4 dc4 pm4 cd4 ct4 oc5 kV5 dc5 pm5 cd5 ct5 oc6 kV6 dc6 pm6 cd6 ct6 oc7 kV7 dc7 pm7 cd7 ct7 oc8 kV8 dc8 pm8 cd8 ct8 oc9 kV9 dc9 pm9 cd9 ct9 oc10 kV10 dc10 pm10 cd10 ct10 oc11 kV11 dc11 pm11 cd11 ct11 oc12 kV12 dc12 pm12 cd12 ct12 oc13 kV13 dc13 pm13 cd13 ct13 oc14 kV14 dc14 pm14 cd14 ct14 : Value}
    (a1 : PySem.W.nsIn K mainGlobals "lies_in" = some (some (.ref f1))) (l1 : K.lookup f1 = some ⟨oc1, od1, .func (PySem.W.fnOf "lies_in" "lies_in" (defArgs s_lies_in) (defBody s_lies_in) (defScope s_lies_in) .none kV1 dc1 pm1 an1 cd1 ct1), sl1⟩) (c1 : PySem.W.codeIn K cd1 "lies_in" = true) (k1 : PySem.W.keepIn K (.ref f1) = true)
    (a2 : PySem.W.nsIn K mainGlobals "common" = some (some (.ref f2))) (l2 : K.lookup f2 = some ⟨oc2, od2, .func (PySem.W.fnOf "common" "common" (defArgs s_common) (defBody s_common) (defScope s_common) .none kV2 dc2 pm2 an2 cd2 ct2), sl2⟩) (c2 : PySem.W.codeIn K cd2 "common" = true) (k2 : PySem.W.keepIn K (.ref f2) = true)
    (a3 : PySem.W.nsIn K mainGlobals "common_sign" = some (some (.ref f3))) (l3 : K.lookup f3 = some ⟨oc3, od3, .func (PySem.W.fnOf "common_sign" "common_sign" (defArgs s_common_sign) (defBody s_common_sign) (defScope s_common_sign) .none kV3 dc3 pm3 an3 cd3 ct3), sl3⟩) (c3 : PySem.W.codeIn K cd3 "common_sign" = true) (k3 : PySem.W.keepIn K (.ref f3) = true)
    (a4 : PySem.W.nsIn K mainGlobals "_law_box" = some (some (.ref f4))) (l4 : K.lookup f4 = some ⟨oc4, od4, .func (PySem.W.fnOf "_law_box" "_law_box" (defArgs sBox) (defBody sBox) (defScope sBox) .none kV4 dc4 pm4 an4 cd4 ct4), sl4⟩) (c4 : PySem.W.codeIn K cd4 "_law_box" = true) (k4 : PySem.W.keepIn K (.ref f4) = true)
    (a5 : PySem.W.nsIn K mainGlobals "_law_take" = some (some (.ref f5))) (l5 : K.lookup f5 = some ⟨oc5, od5, .func (PySem.W.fnOf "_law_take" "_law_take" (defArgs sTake) (defBody sTake) (defScope sTake) .none kV5 dc5 pm5 an5 cd5 ct5), sl5⟩) (c5 : PySem.W.codeIn K cd5 "_law_take" = true) (k5 : PySem.W.keepIn K (.ref f5) = true)
    (a6 : PySem.W.nsIn K mainGlobals "_law_folded" = some (some (.ref f6))) (l6 : K.lookup f6 = some ⟨oc6, od6, .func (PySem.W.fnOf "_law_folded" "_law_folded" (defArgs sFolded) (defBody sFolded) (defScope sFolded) .none kV6 dc6 pm6 an6 cd6 ct6), sl6⟩) (c6 : PySem.W.codeIn K cd6 "_law_folded" = true) (k6 : PySem.W.keepIn K (.ref f6) = true)
    (a7 : PySem.W.nsIn K mainGlobals "_law_same" = some (some (.ref f7))) (l7 : K.lookup f7 = some ⟨oc7, od7, .func (PySem.W.fnOf "_law_same" "_law_same" (defArgs sSame) (defBody sSame) (defScope sSame) .none kV7 dc7 pm7 an7 cd7 ct7), sl7⟩) (c7 : PySem.W.codeIn K cd7 "_law_same" = true) (k7 : PySem.W.keepIn K (.ref f7) = true)
    (a8 : PySem.W.nsIn K mainGlobals "_law_cube" = some (some (.ref f8))) (l8 : K.lookup f8 = some ⟨oc8, od8, .func (PySem.W.fnOf "_law_cube" "_law_cube" (defArgs s__law_cube) (defBody s__law_cube) (defScope s__law_cube) .none kV8 dc8 pm8 an8 cd8 ct8), sl8⟩) (c8 : PySem.W.codeIn K cd8 "_law_cube" = true) (k8 : PySem.W.keepIn K (.ref f8) = true)
    (a9 : PySem.W.nsIn K mainGlobals "_law_bent_cube" = some (some (.ref f9))) (l9 : K.lookup f9 = some ⟨oc9, od9, .func (PySem.W.fnOf "_law_bent_cube" "_law_bent_cube" (defArgs s__law_bent_cube) (defBody s__law_bent_cube) (defScope s__law_bent_cube) .none kV9 dc9 pm9 an9 cd9 ct9), sl9⟩) (c9 : PySem.W.codeIn K cd9 "_law_bent_cube" = true) (k9 : PySem.W.keepIn K (.ref f9) = true)
    (a10 : PySem.W.nsIn K mainGlobals "_law_text" = some (some (.ref f10))) (l10 : K.lookup f10 = some ⟨oc10, od10, .func (PySem.W.fnOf "_law_text" "_law_text" (defArgs s__law_text) (defBody s__law_text) (defScope s__law_text) .none kV10 dc10 pm10 an10 cd10 ct10), sl10⟩) (c10 : PySem.W.codeIn K cd10 "_law_text" = true) (k10 : PySem.W.keepIn K (.ref f10) = true)
    (a11 : PySem.W.nsIn K mainGlobals "_law_lies" = some (some (.ref f11))) (l11 : K.lookup f11 = some ⟨oc11, od11, .func (PySem.W.fnOf "_law_lies" "_law_lies" (defArgs s__law_lies) (defBody s__law_lies) (defScope s__law_lies) .none kV11 dc11 pm11 an11 cd11 ct11), sl11⟩) (c11 : PySem.W.codeIn K cd11 "_law_lies" = true) (k11 : PySem.W.keepIn K (.ref f11) = true)
    (a12 : PySem.W.nsIn K mainGlobals "_law_met" = some (some (.ref f12))) (l12 : K.lookup f12 = some ⟨oc12, od12, .func (PySem.W.fnOf "_law_met" "_law_met" (defArgs s__law_met) (defBody s__law_met) (defScope s__law_met) .none kV12 dc12 pm12 an12 cd12 ct12), sl12⟩) (c12 : PySem.W.codeIn K cd12 "_law_met" = true) (k12 : PySem.W.keepIn K (.ref f12) = true)
    (a13 : PySem.W.nsIn K mainGlobals "_law_right" = some (some (.ref f13))) (l13 : K.lookup f13 = some ⟨oc13, od13, .func (PySem.W.fnOf "_law_right" "_law_right" (defArgs s__law_right) (defBody s__law_right) (defScope s__law_right) .none kV13 dc13 pm13 an13 cd13 ct13), sl13⟩) (c13 : PySem.W.codeIn K cd13 "_law_right" = true) (k13 : PySem.W.keepIn K (.ref f13) = true)
    (a14 : PySem.W.nsIn K mainGlobals "law" = some (some (.ref f14))) (l14 : K.lookup f14 = some ⟨oc14, od14, .func (PySem.W.fnOf "law" "law" (defArgs s_law) (defBody s_law) (defScope s_law) .none kV14 dc14 pm14 an14 cd14 ct14), sl14⟩) (c14 : PySem.W.codeIn K cd14 "law" = true) (k14 : PySem.W.keepIn K (.ref f14) = true)
    (z1 : PySem.W.nsIn K mainGlobals "len" = some none)
    (z2 : PySem.W.nsIn K mainGlobals "abs" = some none)
    (z3 : PySem.W.nsIn K mainGlobals "int" = some none)
    (z4 : PySem.W.nsIn K mainGlobals "divmod" = some none)
    (z5 : PySem.W.nsIn K mainGlobals "list" = some none)
    (z6 : PySem.W.nsIn K mainGlobals "enumerate" = some none)
    (z7 : PySem.W.nsIn K mainGlobals "isinstance" = some none)
    (z8 : PySem.W.nsIn K mainGlobals "tuple" = some none)
    (z9 : PySem.W.nsIn K mainGlobals "str" = some none)
    (z10 : PySem.W.nsIn K mainGlobals "bool" = some none)
    (z11 : PySem.W.nsIn K mainGlobals "zip" = some none)
    (z12 : PySem.W.nsIn K mainGlobals "all" = some none)
    (z13 : PySem.W.nsIn K mainGlobals "range" = some none)
    (z14 : PySem.W.nsIn K mainGlobals "max" = some none)
    (z15 : PySem.W.nsIn K mainGlobals "any" = some none)
    (z16 : PySem.W.nsIn K mainGlobals "min" = some none)
    (z17 : PySem.W.nsIn K mainGlobals "sum" = some none)
    : ∃ fd : FuncData, (∀ (s : Shared) (v : Value), BindsTo s fd ⟨[v], []⟩ [("_law_script", v)]) ∧ ∀ base : Heap, K.In base → base.Ns mainGlobals mg → FnOk l.prog w K mg base CX0 13 fa fd ["_law_script"] (spLaw K) := by
  have e := hfa.symm.trans (PySem.W.mg_of X G a14)
  cases e
  have F1 := fun_mk (st := s_lies_in) l1 c1 k1
  have b1 := F1.binds (ps := ["bits", "cube"]) fun _ _ _ _ _ _ us hl => match us, hl with | [_, _], _ => rfl
  have m1 := PySem.W.mg_of X G a1
  have F2 := fun_mk (st := s_common) l2 c2 k2
  have b2 := F2.binds (ps := ["one", "other"]) fun _ _ _ _ _ _ us hl => match us, hl with | [_, _], _ => rfl
  have m2 := PySem.W.mg_of X G a2
  have F3 := fun_mk (st := s_common_sign) l3 c3 k3
  have b3 := F3.binds (ps := ["sign", "other_sign"]) fun _ _ _ _ _ _ us hl => match us, hl with | [_, _], _ => rfl
  have m3 := PySem.W.mg_of X G a3
  have F4 := fun_mk (st := sBox) l4 c4 k4
  have b4 := F4.binds (ps := ["_law_script", "_law_k"]) fun _ _ _ _ _ _ us hl => match us, hl with | [_, _], _ => rfl
  have m4 := PySem.W.mg_of X G a4
  have F5 := fun_mk (st := sTake) l5 c5 k5
  have b5 := F5.binds (ps := ["_law_box_here", "_law_size"]) fun _ _ _ _ _ _ us hl => match us, hl with | [_, _], _ => rfl
  have m5 := PySem.W.mg_of X G a5
  have F6 := fun_mk (st := sFolded) l6 c6 k6
  have b6 := F6.binds (ps := ["_law_script", "_law_size"]) fun _ _ _ _ _ _ us hl => match us, hl with | [_, _], _ => rfl
  have m6 := PySem.W.mg_of X G a6
  have F7 := fun_mk (st := sSame) l7 c7 k7
  have b7 := F7.binds (ps := ["_law_found", "_law_due"]) fun _ _ _ _ _ _ us hl => match us, hl with | [_, _], _ => rfl
  have m7 := PySem.W.mg_of X G a7
  have F8 := fun_mk (st := s__law_cube) l8 c8 k8
  have b8 := F8.binds (ps := ["_law_box_here", "_law_many"]) fun _ _ _ _ _ _ us hl => match us, hl with | [_, _], _ => rfl
  have m8 := PySem.W.mg_of X G a8
  have F9 := fun_mk (st := s__law_bent_cube) l9 c9 k9
  have b9 := F9.binds (ps := ["_law_box_here", "_law_cube_here"]) fun _ _ _ _ _ _ us hl => match us, hl with | [_, _], _ => rfl
  have m9 := PySem.W.mg_of X G a9
  have F10 := fun_mk (st := s__law_text) l10 c10 k10
  have b10 := F10.binds (ps := ["_law_box_here", "_law_cube_here"]) fun _ _ _ _ _ _ us hl => match us, hl with | [_, _], _ => rfl
  have m10 := PySem.W.mg_of X G a10
  have F11 := fun_mk (st := s__law_lies) l11 c11 k11
  have b11 := F11.binds (ps := ["_law_bits", "_law_cube_here"]) fun _ _ _ _ _ _ us hl => match us, hl with | [_, _], _ => rfl
  have m11 := PySem.W.mg_of X G a11
  have F12 := fun_mk (st := s__law_met) l12 c12 k12
  have b12 := F12.binds (ps := ["_law_one", "_law_other"]) fun _ _ _ _ _ _ us hl => match us, hl with | [_, _], _ => rfl
  have m12 := PySem.W.mg_of X G a12
  have F13 := fun_mk (st := s__law_right) l13 c13 k13
  have b13 := F13.binds (ps := ["_law_box_here"]) fun _ _ _ _ _ _ us hl => match us, hl with | [_], _ => rfl
  have m13 := PySem.W.mg_of X G a13
  have F14 := fun_mk (st := s_law) l14 c14 k14
  have B : Bl mg := ⟨PySem.W.mg_none_of X G z1, PySem.W.mg_none_of X G z2, PySem.W.mg_none_of X G z3, PySem.W.mg_none_of X G z4, PySem.W.mg_none_of X G z5, PySem.W.mg_none_of X G z6, PySem.W.mg_none_of X G z7, PySem.W.mg_none_of X G z8, PySem.W.mg_none_of X G z9, PySem.W.mg_none_of X G z10, PySem.W.mg_none_of X G z11, PySem.W.mg_none_of X G z12, PySem.W.mg_none_of X G z13, PySem.W.mg_none_of X G z14, PySem.W.mg_none_of X G z15, PySem.W.mg_none_of X G z16, PySem.W.mg_none_of X G z17⟩
  refine ⟨PySem.W.fnOf "law" "law" (defArgs s_law) (defBody s_law) (defScope s_law) .none kV14 dc14 pm14 an14 cd14 ct14, fun s v => .of_eq rfl, fun base _ _ => ?_⟩
  have L : LL K mg f1 f2 f3 f4 f5 f6 f7 f8 f9 f10 f11 f12 f13 _ _ _ _ _ _ _ _ _ _ _ _ _ := ⟨F1, b1, m1, F2, b2, m2, F3, b3, m3, F4, b4, m4, F5, b5, m5, F6, b6, m6, F7, b7, m7, F8, b8, m8, F9, b9, m9, F10, b10, m10, F11, b11, m11, F12, b12, m12, F13, b13, m13⟩
  exact ok_law F14 B L
end GZ
open PySem PySem.W PyProof.Rows
set_option maxRecDepth 100000 in
set_option maxHeartbeats 0 in
theorem PySem.Challenge.cw_guessedzeros_k57_cubes_and_what_is_commo_holds : PySem.Challenge.rw_guessedzeros_k57_cubes_and_what_is_commo.Holds := by
  w_on; o_law; k_head; (case hw => w_witness2)
  k_fill
  refine L2.walk_of (l := PySem.Challenge.rw_guessedzeros_k57_cubes_and_what_is_commo) (n := 63) (k := 13) (x := "_law_script") (CX := fun _ => L2.CX0) (sp := fun w => GZ.spLaw _) rfl (by decide) rfl ⟨rfl, by decide, by decide⟩ (fun w h Y => PySem.W.kIn_of Y) ?F (fun _ _ a ns hl _ hS => ⟨a, ns, rfl, hS, hl, fun _ => rfl⟩) (fun _ _ _ _ _ h => h)
  case F =>
    intro w mg fa h KX G hmg
    refine' GZ.all_mk KX G hmg ?a1 ?l1 ?c1 ?k1 ?a2 ?l2 ?c2 ?k2 ?a3 ?l3 ?c3 ?k3 ?a4 ?l4 ?c4 ?k4 ?a5 ?l5 ?c5 ?k5 ?a6 ?l6 ?c6 ?k6 ?a7 ?l7 ?c7 ?k7 ?a8 ?l8 ?c8 ?k8 ?a9 ?l9 ?c9 ?k9 ?a10 ?l10 ?c10 ?k10 ?a11 ?l11 ?c11 ?k11 ?a12 ?l12 ?c12 ?k12 ?a13 ?l13 ?c13 ?k13 ?a14 ?l14 ?c14 ?k14 ?z1 ?z2 ?z3 ?z4 ?z5 ?z6 ?z7 ?z8 ?z9 ?z10 ?z11 ?z12 ?z13 ?z14 ?z15 ?z16 ?z17
    (case a1 => k_is)
    (case l1 => k_is)
    (case c1 => k_is)
    (case k1 => k_is)
    (case a2 => k_is)
    (case l2 => k_is)
    (case c2 => k_is)
    (case k2 => k_is)
    (case a3 => k_is)
    (case l3 => k_is)
    (case c3 => k_is)
    (case k3 => k_is)
    (case a4 => k_is)
    (case l4 => k_is)
    (case c4 => k_is)
    (case k4 => k_is)
    (case a5 => k_is)
    (case l5 => k_is)
    (case c5 => k_is)
    (case k5 => k_is)
    (case a6 => k_is)
    (case l6 => k_is)
    (case c6 => k_is)
    (case k6 => k_is)
    (case a7 => k_is)
    (case l7 => k_is)
    (case c7 => k_is)
    (case k7 => k_is)
    (case a8 => k_is)
    (case l8 => k_is)
    (case c8 => k_is)
    (case k8 => k_is)
    (case a9 => k_is)
    (case l9 => k_is)
    (case c9 => k_is)
    (case k9 => k_is)
    (case a10 => k_is)
    (case l10 => k_is)
    (case c10 => k_is)
    (case k10 => k_is)
    (case a11 => k_is)
    (case l11 => k_is)
    (case c11 => k_is)
    (case k11 => k_is)
    (case a12 => k_is)
    (case l12 => k_is)
    (case c12 => k_is)
    (case k12 => k_is)
    (case a13 => k_is)
    (case l13 => k_is)
    (case c13 => k_is)
    (case k13 => k_is)
    (case a14 => k_is)
    (case l14 => k_is)
    (case c14 => k_is)
    (case k14 => k_is)
    (case z1 => k_is)
    (case z2 => k_is)
    (case z3 => k_is)
    (case z4 => k_is)
    (case z5 => k_is)
    (case z6 => k_is)
    (case z7 => k_is)
    (case z8 => k_is)
    (case z9 => k_is)
    (case z10 => k_is)
    (case z11 => k_is)
    (case z12 => k_is)
    (case z13 => k_is)
    (case z14 => k_is)
    (case z15 => k_is)
    (case z16 => k_is)
    (case z17 => k_is)

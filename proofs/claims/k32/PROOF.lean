import PyProof.Rows.All
import Wide.All
import OpenK.AllK
import Wide.FinOn
import HandS.ForMost
import HandS.Walk
import HandS.Zip
import HandS.WideBits
import HandS.IsInst
import OpenK.KEqL
import HandS.Style
import HandS.NoneIn
import HandS.Wide
import PySem.Challenge.RW_guessedzeros_k32_levels_of_three_by_thre
set_option Elab.async false
set_option linter.all false
set_option maxRecDepth 100000
set_option maxHeartbeats 4000000
namespace GZ
open PySem PySem.Spec PyProof.Rows L2
/-! ### the text by places -/
def topS (i : Nat) : Stmt := PySem.Challenge.pw_guessedzeros_k32_levels_of_three_by_thre.main.body.getD i (.Pass ⟨0, 0, 0, 0⟩)
abbrev s_saved : Stmt := topS 1
theorem sc_saved : FnScope ["x", "y", "z"] ["x", "y", "z"] (defScope s_saved) := ⟨rfl, rfl, rfl, by decide +kernel, rfl, by decide +kernel, by decide +kernel⟩
abbrev s_levels_of : Stmt := topS 2
theorem sc_levels_of : FnScope ["rows", "levels"] ["rows"] (defScope s_levels_of) := ⟨rfl, rfl, rfl, by decide +kernel, rfl, by decide +kernel, by decide +kernel⟩
abbrev s_level_behind : Stmt := topS 3
theorem sc_level_behind : FnScope ["rows", "by_threes", "level", "at"] ["rows"] (defScope s_level_behind) := ⟨rfl, rfl, rfl, by decide +kernel, rfl, by decide +kernel, by decide +kernel⟩
abbrev sBox : Stmt := topS 5
abbrev sTake : Stmt := topS 6
abbrev sFolded : Stmt := topS 7
abbrev sSame : Stmt := topS 8
abbrev s__law_number : Stmt := topS 9
theorem sc__law_number : FnScope ["_law_box_here", "_law_many", "_law_number_here"] ["_law_box_here"] (defScope s__law_number) := ⟨rfl, rfl, rfl, by decide +kernel, rfl, by decide +kernel, by decide +kernel⟩
abbrev s__law_saved : Stmt := topS 10
theorem sc__law_saved : FnScope ["_law_x", "_law_y", "_law_z", "_law_one", "_law_other", "_law_number_here", "_law_place", "_law_many", "_law_whole"] ["_law_x", "_law_y", "_law_z"] (defScope s__law_saved) := ⟨rfl, rfl, rfl, by decide +kernel, rfl, by decide +kernel, by decide +kernel⟩
abbrev s__law_levels : Stmt := topS 11
theorem sc__law_levels : FnScope ["_law_rows", "_law_found", "_law_last", "_law_here", "_law_at", "_law_x", "_law_y", "_law_z"] ["_law_rows"] (defScope s__law_levels) := ⟨rfl, rfl, rfl, by decide +kernel, rfl, by decide +kernel, by decide +kernel⟩
abbrev s__law_right : Stmt := topS 12
theorem sc__law_right : FnScope ["_law_box_here", "_law_x", "_law_y", "_law_z", "_law_rows", "_law_due", "_law_handed", "_law_again", "_law_found", "_law_turn", "_law_level"] ["_law_box_here"] (defScope s__law_right) := ⟨rfl, rfl, rfl, by decide +kernel, rfl, by decide +kernel, by decide +kernel⟩
abbrev s_law : Stmt := topS 13
theorem sc_law : FnScope ["_law_script", "_law_cells", "_law_k", "_law_box_here", "_law_turn"] ["_law_script"] (defScope s_law) := ⟨rfl, rfl, rfl, by decide +kernel, rfl, by decide +kernel, by decide +kernel⟩
/-! ### built-in names that the text leaves alone -/
structure Bl (mg : Str → Option Value) : Prop where
  len : mg "len" = none
  abs : mg "abs" = none
  int : mg "int" = none
  divmod : mg "divmod" = none
  list : mg "list" = none
  enumerate : mg "enumerate" = none
  isinstance : mg "isinstance" = none
  tuple : mg "tuple" = none
  str : mg "str" = none
  bool : mg "bool" = none
  zip : mg "zip" = none
  all : mg "all" = none
  range : mg "range" = none
  max : mg "max" = none
  any : mg "any" = none
  min : mg "min" = none
  sum : mg "sum" = none
/-! ### rules with the written part told (for the blocks of comprehensions) -/
section
variable {X : Cx} {K : PySem.W.Frag}
theorem call_len_seqK (h : X.K = K := by rfl) : CallR X (.builtin "len") (fun xs H Q => ∃ p ys, xs = [.ref p] ∧ (SqL K H p ys ∨ SqT K H p ys) ∧ Q (.int ys.length) H) := by subst h; exact call_len_seq
theorem call_list_ofK (h : X.K = K := by rfl) : CallR X (.type "list") (fun xs H Q => ∃ p ys, xs = [.ref p] ∧ (SqL K H p ys ∨ SqT K H p ys) ∧ ∀ l, H l = none → Q (.ref l) (upd H l (.lst ys))) := by subst h; exact call_list_of
theorem call_tuple_ofK (h : X.K = K := by rfl) : CallR X (.type "tuple") (fun xs H Q => ∃ p ys, xs = [.ref p] ∧ ((SqL K H p ys ∧ ∀ l, H l = none → Q (.ref l) (upd H l (.tup ys))) ∨ (SqT K H p ys ∧ Q (.ref p) H))) := by subst h; exact call_tuple_of
theorem ix_listK (h : X.K = K := by rfl) : IxR X (rIxL K) := by subst h; exact ix_list
theorem ix_tupK (h : X.K = K := by rfl) : IxR X (rIxT K) := by subst h; exact ix_tup
theorem ix_seqK (h : X.K = K := by rfl) : IxR X (rIx K) := by subst h; exact ix_seq
theorem op_in_seqK (h : X.K = K := by rfl) : OpR X (compareOp .In) (rIn K false) := by subst h; exact op_in_seq
theorem op_notIn_seqK (h : X.K = K := by rfl) : OpR X (compareOp .NotIn) (rIn K true) := by subst h; exact op_notIn_seq
theorem sl_listK (h : X.K = K := by rfl) : SlR X (rSlL K) := by subst h; exact sl_list
theorem cr_sumK (hc : X.calm = true) (h : X.K = K := by rfl) : CallR X (.builtin "sum") (rSum K) := by subst h; exact cr_sum hc
theorem cr_allK (hc : X.calm = true) (h : X.K = K := by rfl) : CallR X (.builtin "all") (rAll K) := by subst h; exact cr_all hc
theorem cr_anyK (hc : X.calm = true) (h : X.K = K := by rfl) : CallR X (.builtin "any") (rAny K) := by subst h; exact cr_any hc
theorem call_isiK' (h : X.K = K := by rfl) : CallR X (.builtin "isinstance") (rIsi K) := by subst h; exact call_isi
theorem pi_listK {tg l : Expr} {tl : TE} (hl : PE X l tl) (h : X.K = K := by rfl) : PI X tg l (iList K tl) := by subst h; exact pi_list hl
theorem pi_tupK {tg l : Expr} {tl : TE} (hl : PE X l tl) (h : X.K = K := by rfl) : PI X tg l (iTup K tl) := by subst h; exact pi_tup hl
theorem pe_fldK {e : Expr} {ta : TE} {f : Str} {pos : Pos} (he : PE X e ta) (hb : attributeBase e f X.env (eval e X.env) = eval e X.env) (h : X.K = K := by rfl) : PE X (.Attribute e f pos) (tFld K ta f) := by subst h; exact pe_fld he hb
end
/-! ### heaps -/
theorem same_upd {H : Hp} {p : Addr} {o : HO} (h : H p = none) : Same H (upd H p o) := fun b x e => by
  rw [upd_ne (ne_of_none e h)]
  exact e
/-- all but what stands at b is as it was -/
def Keep (b : Addr) (H H' : Hp) : Prop := ∀ p o, H p = some o → p ≠ b → H' p = some o
theorem Keep.refl (b : Addr) (H : Hp) : Keep b H H := fun _ _ h _ => h
theorem Keep.trans {b : Addr} {H H1 H2 : Hp} (x : Keep b H H1) (y : Keep b H1 H2) : Keep b H H2 := fun p o h n => y p o (x p o h n) n
theorem Keep.ofSame {b : Addr} {H H1 : Hp} (x : Same H H1) : Keep b H H1 := fun p o h _ => x p o h
theorem Keep.upd {b : Addr} {H : Hp} {o : HO} : Keep b H (upd H b o) := fun p x h n => by
  rw [upd_ne n]
  exact h
theorem Keep.new {b p : Addr} {H : Hp} {o : HO} (h : H p = none) : Keep b H (L2.upd H p o) := .ofSame (same_upd h)
theorem Keep.seq {K : PySem.W.Frag} {b a : Addr} {H H' : Hp} {xs : List V} (e : Keep b H H') (n : a ≠ b) (h : SqL K H a xs) : SqL K H' a xs := by
  rcases h with (h | ⟨o, h⟩) | h
  · exact .inl (.inl (e _ _ h n))
  · exact .inl (.inr ⟨o, e _ _ h n⟩)
  · exact .inr h
theorem Keep.seqT {K : PySem.W.Frag} {b a : Addr} {H H' : Hp} {xs : List V} (e : Keep b H H') (n : a ≠ b) (h : SqT K H a xs) : SqT K H' a xs := by
  rcases h with (h | ⟨o, h⟩) | h
  · exact .inl (.inl (e _ _ h n))
  · exact .inl (.inr ⟨o, e _ _ h n⟩)
  · exact .inr h
theorem Same.seqT {K : PySem.W.Frag} {a : Addr} {H H' : Hp} {xs : List V} (e : Same H H') (h : SqT K H a xs) : SqT K H' a xs := by
  rcases h with (h | ⟨o, h⟩) | h
  · exact .inl (.inl (e _ _ h))
  · exact .inl (.inr ⟨o, e _ _ h⟩)
  · exact .inr h
/-- a drawing box: three ints, the last at most c -/
def BoxAt (c : Int) (H : Hp) (b : Addr) : Prop := ∃ x0 x1 x2 : Int, H b = some (.lst [.int x0, .int x1, .int x2]) ∧ 0 ≤ x0 ∧ 0 ≤ x1 ∧ x1 < 2147483647 ∧ 0 ≤ x2 ∧ x2 ≤ c
theorem BoxAt.mono {c d : Int} {H : Hp} {b : Addr} (h : BoxAt c H b) (l : c ≤ d) : BoxAt d H b := by
  obtain ⟨x0, x1, x2, e, a1, a2, a3, a4, a5⟩ := h
  exact ⟨x0, x1, x2, e, a1, a2, a3, a4, by omega⟩
theorem BoxAt.same {c : Int} {H H' : Hp} {b : Addr} (h : BoxAt c H b) (s : Same H H') : BoxAt c H' b := by
  obtain ⟨x0, x1, x2, e, r⟩ := h
  exact ⟨x0, x1, x2, s _ _ e, r⟩
theorem BoxAt.at {c : Int} {H H' : Hp} {b : Addr} (h : BoxAt c H b) (s : H' b = H b) : BoxAt c H' b := by
  obtain ⟨x0, x1, x2, e, r⟩ := h
  exact ⟨x0, x1, x2, by rw [s]; exact e, r⟩
theorem BoxAt.ne {c : Int} {H : Hp} {b p : Addr} (h : BoxAt c H b) (n : H p = none) : b ≠ p := by
  obtain ⟨x0, x1, x2, e, r⟩ := h
  exact ne_of_none e n
theorem e7 : (10 : Int) ^ ((7 : Int).toNat) = 10000000 := by decide
theorem e18 : (10 : Int) ^ ((18 : Int).toNat) = 1000000000000000000 := by decide
theorem divp_small {i j : Int} (h0 : 0 < j) (h1 : j < 2 ^ 250) : CDivP i j := by
  refine ⟨h0, ?_⟩
  show (decide ((if j == 0 then 0 else j.natAbs.log2 / 30 + 1) > 300) && _) = false
  rw [if_neg (show ¬ (j == 0) = true by simpa using (show j ≠ 0 by omega))]
  have hl : j.natAbs.log2 < 250 := PySem.Flt.log2_lt_of (by decide) (by omega)
  rw [decide_eq_false (show ¬ (j.natAbs.log2 / 30 + 1 > 300) by omega), Bool.false_and]
section
variable {P : Program} {w : World} {K : PySem.W.Frag} {mg : Str → Option Value} {base : Heap}
/-! ### _law_take -/
theorem scTake : FnScope ["_law_box_here", "_law_size", "_law_found", "_law_step", "_law_once", "_law_twice"] ["_law_box_here", "_law_size"] (defScope sTake) := ⟨rfl, rfl, rfl, by decide +kernel, rfl, by decide +kernel, by decide +kernel⟩
def spTake (k : Nat) : Sp := fun vs H Q _ => ∃ (b : Addr) (n c : Int), vs = [.ref b, .int n] ∧ BoxAt c H b ∧ 1 ≤ n ∧ n ≤ 10000000 ^ k ∧ n < 2 ^ 250 ∧ c + 2 ^ k ≤ 1000000000 ∧ 0 < k ∧
  ∀ (r : Int) (H' : Hp), 0 ≤ r → r < n → BoxAt (c + 2 ^ (k - 1)) H' b → Keep b H H' → Q (.int r) H'
theorem take_none {f : Addr} {fd : FuncData} : FnOk P w K mg base CX0 0 f fd ["_law_box_here", "_law_size"] (spTake 0) := by
  have no : ∀ vs H Q E, ¬ spTake 0 vs H Q E := fun vs H Q E h => by
    obtain ⟨b, n, c, _, _, _, _, _, _, h0, _⟩ := h
    omega
  exact ⟨fun vs H Q E h => absurd h (no vs H Q E), fun A outer s H args us vs Q E _ _ _ _ h => absurd h (no vs H Q E)⟩
theorem ok_take1 {f : Addr} {fd : FuncData} {k : Nat} (F : Fun K "_law_take" "_law_take" sTake f fd) (G : FnOk P w K mg base CX0 k f fd ["_law_box_here", "_law_size"] (spTake k)) (bf : Binds K fd ["_law_box_here", "_law_size"] []) (mf : mg "_law_take" = some (.ref f)) (B : Bl mg) :
    FnOk P w K mg base CX0 (k + 1) f fd ["_law_box_here", "_law_size"] (spTake (k + 1)) := by
  refine F.ok scTake (fun vs H Q E h => ?_) (fun cdv A outer s H vs Q E hr h => ?_)
  · obtain ⟨b, n, c, rfl, _⟩ := h
    rfl
  obtain ⟨b, n, c, rfl, hB, hn1, hnk, hn60, hc, _, q⟩ := h
  obtain ⟨x0, x1, x2, hb, h0, h1, h1', h2, h2'⟩ := hB
  have hp : (0 : Int) < 2 ^ k := Int.pow_pos (by decide)
  have hk2 : (2 : Int) ^ (k + 1) = 2 ^ k * 2 := Int.pow_succ 2 k
  refine ⟨_, pss_cons (ps_if (pt_cmpR op_gt (pe_ix ix_list (pv 0) pe_int (fun _ _ => rfl)) pe_int (nomark _))
      (pss_cons (ps_asg (pe_callB call_divmodW (by rfl) B.divmod boot_divmod (pa_cons (pe_ix ix_list (pv 0) pe_int (fun _ _ => rfl)) (pa_cons (pv 1) pa_nil)))
          (pg_tup (by rfl) (pgs_cons (pg_sub (pv 0) pe_int set_list) (pgs_cons (pg_name (i := 2) scTake.nd rfl (.inl rfl)) pgs_nil))))
        (pss_one (ps_ret (pv 2)))) pss_nil)
    (pss_cons (ps_if (pt_cmpR op_gt (pv 1) (pe_op op_pow pe_int pe_int) (nomark _))
      (pss_one (ps_ret (pe_op op_mod (pe_op op_add (pe_call G hr (by rfl) mf F.kp bf .nil pass0 (pa_cons (pv 0) (pa_cons (pe_op op_pow pe_int pe_int) pa_nil)))
          (pe_op op_mul (pe_op op_pow pe_int pe_int) (pe_call G hr (by rfl) mf F.kp bf .nil pass0 (pa_cons (pv 0) (pa_cons (pe_op op_add (pe_op op_fdiv (pe_op op_sub (pv 1) pe_int) (pe_op op_pow pe_int pe_int)) pe_int) pa_nil))))) (pv 1)))) pss_nil)
    (pss_cons (ps_asg (pe_op op_add (pe_ix ix_list (pv 0) pe_int (fun _ _ => rfl)) pe_int) (pg_sub (pv 0) pe_int set_list))
    (pss_cons (ps_set (i := 3) scTake.nd rfl (.inl rfl) (pe_op op_add pe_int (pe_op op_mul (pe_ix ix_list (pv 0) pe_int (fun _ _ => rfl)) (pe_ix ix_list (pv 0) pe_int (fun _ _ => rfl)))))
    (pss_cons (ps_set (i := 4) scTake.nd rfl (.inl rfl) (pe_op op_mod (pe_op op_mul (pe_op op_add (pe_ix ix_list (pv 0) pe_int (fun _ _ => rfl)) (pe_op op_mul pe_int (pe_ix ix_list (pv 0) pe_int (fun _ _ => rfl)))) (pv 3)) pe_int))
    (pss_cons (ps_set (i := 5) scTake.nd rfl (.inl rfl) (pe_op op_mod (pe_op op_add (pe_op op_mul (pv 4) (pe_op op_add (pe_op op_mod (pv 4) pe_int) pe_int)) (pe_ix ix_list (pv 0) pe_int (fun _ _ => rfl))) pe_int))
    (pss_one (ps_ret (pe_op op_mod (pe_op op_fdiv (pe_op op_mod (pe_op op_mul (pv 5) (pe_op op_add (pe_op op_mod (pv 5) pe_int) pe_int)) pe_int) pe_int) (pv 1))))))))), ?_⟩
  refine ⟨_, rfl, b, _, _, _, rfl, rfl, SqL.of hb, rfl, _, _, rfl, rfl, _, rfl, ite2 (fun cc => ?_) (fun cc => ?_)⟩
  · -- the great number's own digits
    refine ⟨_, rfl, b, _, _, _, rfl, rfl, SqL.of hb, rfl, _, rfl, _, _, rfl, divp_small (by omega) (by omega), fun p np => ?_⟩
    have nbp : b ≠ p := ne_of_none hb np
    refine ⟨p, _, rfl, .inl (.inl upd_same), rfl, _, _, rfl, _, rfl, b, _, _, 0, rfl, rfl, (by rw [upd_ne nbp]; exact hb), rfl, _, _, rfl, rfl, _, rfl, ?_⟩
    refine q _ _ (Int.emod_nonneg _ (by omega)) (Int.emod_lt_of_pos _ (by omega)) ⟨x0 / n, x1, x2, upd_same, Int.ediv_nonneg h0 (by omega), h1, h1', h2, by show x2 ≤ c + 2 ^ k; omega⟩ ?_
    exact Keep.trans (Keep.new np) Keep.upd
  · refine ⟨_, rfl, _, _, rfl, rfl, ⟨by decide, by decide, by decide⟩, _, _, rfl, rfl, _, rfl, ite2 (fun c2 => ?_) (fun c2 => ?_)⟩
    · -- two lesser draws
      have c3 : (10 : Int) ^ ((7 : Int).toNat) < n := of_decide_eq_true c2
      rw [e7] at c3
      have hk : 0 < k := by
        rcases Nat.eq_zero_or_pos k with z | z
        · subst z
          rw [show (10000000 : Int) ^ (0 + 1) = 10000000 by decide] at hnk
          omega
        · exact z
      obtain ⟨j, rfl⟩ : ∃ j, k = j + 1 := ⟨k - 1, by omega⟩
      have hj2 : (2 : Int) ^ (j + 1) = 2 ^ j * 2 := Int.pow_succ 2 j
      have hjp : (0 : Int) < 2 ^ j := Int.pow_pos (by decide)
      have h10 : (10000000 : Int) ≤ 10000000 ^ (j + 1) := by
        rw [Int.pow_succ]
        have : (0 : Int) < 10000000 ^ j := Int.pow_pos (by decide)
        omega
      have hdiv : (n - 1) / 10000000 + 1 ≤ 10000000 ^ (j + 1) := by
        rw [Int.pow_succ] at hnk
        have : n - 1 < 10000000 ^ (j + 1) * 10000000 := by omega
        have := Int.ediv_lt_of_lt_mul (by decide) this
        omega
      refine ⟨_, rfl, _, _, rfl, rfl, ⟨by decide, by decide, by decide⟩, b, _, c, rfl, ⟨x0, x1, x2, hb, h0, h1, h1', h2, h2'⟩, (by rw [e7]; decide), (by rw [e7]; exact h10), (by rw [e7]; decide), by omega, by omega, fun r1 H1 a1 a2 B1 k1 => ?_⟩
      refine ⟨_, _, rfl, rfl, ⟨by decide, by decide, by decide⟩, _, rfl, _, rfl, _, _, rfl, rfl, _, _, rfl, rfl, ⟨by decide, by decide, by decide⟩, _, _, rfl, rfl, (by rw [e7]; exact ⟨by decide, by decide⟩), _, _, rfl, rfl, ?_⟩
      rw [e7]
      refine ⟨b, _, c + 2 ^ j, rfl, B1, by omega, hdiv, by omega, by omega, by omega, fun r2 H2 a3 a4 B2 k2 => ?_⟩
      refine ⟨_, _, rfl, rfl, .inl ⟨by decide, by decide⟩, _, _, rfl, rfl, _, rfl, _, _, rfl, rfl, (by show (0 : Int) < n; omega), ?_⟩
      refine q _ _ (Int.emod_nonneg _ (by omega)) (Int.emod_lt_of_pos _ (by omega)) (B2.mono ?_) (k1.trans k2)
      show c + 2 ^ j + 2 ^ j ≤ c + 2 ^ (j + 1)
      omega
    · -- a turn of the wheel
      refine ⟨_, rfl, b, _, _, _, rfl, rfl, SqL.of hb, rfl, _, _, rfl, rfl, _, rfl, b, _, _, 2, rfl, rfl, hb, rfl, ?_⟩
      have hb2 : (upd H b (.lst [.int x0, .int x1, .int (x2 + 1)])) b = some (.lst [.int x0, .int x1, .int (x2 + 1)]) := upd_same
      refine ⟨_, rfl, b, _, _, _, rfl, rfl, SqL.of hb2, rfl, _, rfl, b, _, _, _, rfl, rfl, SqL.of hb2, rfl, _, _, rfl, rfl, .inl ⟨by omega, by omega⟩, _, _, rfl, rfl, ?_⟩
      refine ⟨_, rfl, b, _, _, _, rfl, rfl, SqL.of hb2, rfl, _, rfl, b, _, _, _, rfl, rfl, SqL.of hb2, rfl, _, _, rfl, rfl, .inl ⟨by omega, by omega⟩, _, _, rfl, rfl, _, rfl, _, _, rfl, rfl, .inl ⟨by omega, by omega⟩, _, _, rfl, rfl, (by show (0 : Int) < 2147483587; decide), ?_⟩
      generalize (x1 + 39373 * (x2 + 1)) * (69621 + (x2 + 1) * (x2 + 1)) = y
      have y1 := Int.emod_nonneg y (show (2147483587 : Int) ≠ 0 by decide)
      have y2 := Int.emod_lt_of_pos y (show (0 : Int) < 2147483587 by decide)
      refine ⟨_, rfl, _, rfl, _, _, rfl, rfl, (by show (0 : Int) < 30011; decide), _, _, rfl, rfl, _, _, rfl, rfl, .inl ⟨by omega, by omega⟩, _, rfl, b, _, _, _, rfl, rfl, SqL.of hb2, rfl, _, _, rfl, rfl, _, _, rfl, rfl, (by show (0 : Int) < 2147483563; decide), ?_⟩
      generalize (y % 2147483587 * (y % 2147483587 % 30011 + 5) + (x2 + 1)) = z
      have z1 := Int.emod_nonneg z (show (2147483563 : Int) ≠ 0 by decide)
      have z2 := Int.emod_lt_of_pos z (show (0 : Int) < 2147483563 by decide)
      refine ⟨_, rfl, _, rfl, _, _, rfl, rfl, (by show (0 : Int) < 1013; decide), _, _, rfl, rfl, _, _, rfl, rfl, .inl ⟨by omega, by omega⟩, _, _, rfl, rfl, (by show (0 : Int) < 998244353; decide), _, _, rfl, rfl, ⟨by decide, by decide⟩, _, rfl, _, _, rfl, rfl, (by show (0 : Int) < n; omega), ?_⟩
      refine q _ _ (Int.emod_nonneg _ (by omega)) (Int.emod_lt_of_pos _ (by omega)) ⟨x0, x1, x2 + 1, hb2, h0, h1, h1', by omega, by show x2 + 1 ≤ c + 2 ^ k; omega⟩ Keep.upd
theorem ok_take {f : Addr} {fd : FuncData} (F : Fun K "_law_take" "_law_take" sTake f fd) (bf : Binds K fd ["_law_box_here", "_law_size"] []) (mf : mg "_law_take" = some (.ref f)) (B : Bl mg) : ∀ k : Nat, FnOk P w K mg base CX0 k f fd ["_law_box_here", "_law_size"] (spTake k)
  | 0 => take_none
  | k + 1 => ok_take1 F (ok_take F bf mf B k) bf mf B
/-! ### _law_box -/
theorem scBox : FnScope ["_law_script", "_law_k", "_law_cell"] ["_law_script", "_law_k"] (defScope sBox) := ⟨rfl, rfl, rfl, by decide +kernel, rfl, by decide +kernel, by decide +kernel⟩
def spBox (K : PySem.W.Frag) : Sp := fun vs H Q _ => ∃ (a : Addr) (zs : List Int) (k : Int), vs = [.ref a, .int k] ∧ SqL K H a (zs.map V.int) ∧ 0 ≤ k ∧ k ≤ 1000 ∧
  ∀ (p : Addr) (H' : Hp), H p = none → Same H H' → BoxAt 0 H' p → Q (.ref p) H'
theorem b01 (b : Bool) : (-(2 ^ 64) < (if b = true then (1 : Int) else 0)) ∧ (if b = true then (1 : Int) else 0) < 2 ^ 64 := by cases b <;> decide
theorem b01n (b : Bool) : 0 ≤ (if b = true then (1 : Int) else 0) := by cases b <;> decide
theorem abs_nn (i : Int) : 0 ≤ (if i < 0 then -i else i) := by
  split <;> omega
theorem at_int {zs : List Int} {k : Int} (h0 : 0 ≤ k) (h : k < (zs.length : Int)) : ∃ v : Int, atI (zs.map V.int) k = some (.int v) ∧ zs[k.toNat]? = some v := by
  have hk : k.toNat < zs.length := by omega
  have ek : k = ((k.toNat : Nat) : Int) := by omega
  have q : atI (zs.map V.int) ((k.toNat : Nat) : Int) = some (.int zs[k.toNat]) := atI_nat (by rw [List.getElem?_map, List.getElem?_eq_getElem hk] <;> rfl)
  rw [← ek] at q
  exact ⟨zs[k.toNat], q, List.getElem?_eq_getElem hk⟩
theorem ok_box {f : Addr} {fd : FuncData} {k : Nat} (F : Fun K "_law_box" "_law_box" sBox f fd) (B : Bl mg) : FnOk P w K mg base CX0 (k + 1) f fd ["_law_script", "_law_k"] (spBox K) := by
  refine F.ok scBox (fun vs H Q E h => ?_) (fun cdv A outer s H vs Q E hr h => ?_)
  · obtain ⟨a, zs, k, rfl, _⟩ := h
    rfl
  obtain ⟨a, zs, k, rfl, hS, h0, h1, q⟩ := h
  refine ⟨_, pss_cons (ps_set (i := 2) scBox.nd rfl (.inl rfl) (pe_ifExp (pt_cmpR op_lt (pv 1) (pe_callB call_len_seq (by rfl) B.len PySem.boot_len (pa_cons (pv 0) pa_nil)) (nomark _)) (pe_ix ix_list (pv 0) (pv 1) (fun _ _ => rfl)) pe_int))
    (pss_one (ps_ret (pe_lst (pa_cons (pe_op op_mul (pe_callB call_abs (by rfl) B.abs boot_abs (pa_cons (pv 2) pa_nil)) (pe_callTy call_int1 (by rfl) B.int PyProof.Rows.boot_int (pa_cons (pe_cmpR op_ge (pe_callB call_abs (by rfl) B.abs boot_abs (pa_cons (pv 2) pa_nil)) (pe_op op_pow pe_int pe_int) (nomark _)) pa_nil)))
      (pa_cons (pe_op op_mod (pe_op op_mul (pe_op op_add (pe_op op_add (pe_op op_mod (pv 2) pe_int) (pe_op op_mul pe_int (pv 1))) pe_int) pe_int) pe_int) (pa_cons pe_int pa_nil)))))), ?_⟩
  refine ⟨_, rfl, _, rfl, a, _, rfl, .inl hS, _, _, rfl, rfl, _, rfl, ite2 (fun cc => ?_) (fun cc => ?_)⟩
  · have c1 : k < (((zs.map V.int).length : Nat) : Int) := of_decide_eq_true cc
    rw [List.length_map] at c1
    obtain ⟨v, hv, _⟩ := at_int h0 c1
    refine ⟨_, rfl, _, rfl, a, _, _, _, rfl, rfl, hS, hv, ?_⟩
    refine ⟨_, rfl, _, rfl, _, rfl, _, rfl, _, _, rfl, rfl, ⟨by decide, by decide, by decide⟩, _, _, rfl, rfl, .inr ⟨_, rfl, ?_⟩⟩
    refine ⟨_, _, rfl, rfl, .inr (b01 _), _, rfl, _, _, rfl, rfl, (by show (0 : Int) < 2147483629; decide), _, rfl, _, _, rfl, rfl, .inl ⟨by decide, by decide⟩, _, _, rfl, rfl, _, _, rfl, rfl, _, _, rfl, rfl, .inr ⟨by decide, by decide⟩, _, _, rfl, rfl, (by show (0 : Int) < 2147483647; decide), (by show 3 ≤ sizeLine; decide), fun p np => ?_⟩
    refine q p _ np (same_upd np) ⟨_, _, _, upd_same, Int.mul_nonneg (abs_nn v) (b01n _), Int.emod_nonneg _ (by decide), Int.emod_lt_of_pos _ (by decide), by decide, by decide⟩
  · refine ⟨_, rfl, _, rfl, _, rfl, _, rfl, _, _, rfl, rfl, ⟨by decide, by decide, by decide⟩, _, _, rfl, rfl, .inr ⟨_, rfl, ?_⟩⟩
    refine ⟨_, _, rfl, rfl, .inr (b01 _), _, rfl, _, _, rfl, rfl, (by show (0 : Int) < 2147483629; decide), _, rfl, _, _, rfl, rfl, .inl ⟨by decide, by decide⟩, _, _, rfl, rfl, _, _, rfl, rfl, _, _, rfl, rfl, .inr ⟨by decide, by decide⟩, _, _, rfl, rfl, (by show (0 : Int) < 2147483647; decide), (by show 3 ≤ sizeLine; decide), fun p np => ?_⟩
    refine q p _ np (same_upd np) ⟨_, _, _, upd_same, Int.mul_nonneg (abs_nn 0) (b01n _), Int.emod_nonneg _ (by decide), Int.emod_lt_of_pos _ (by decide), by decide, by decide⟩
/-! ### _law_folded -/
theorem scFolded : FnScope ["_law_script", "_law_size", "_law_cells", "_law_k", "_law_cell"] ["_law_script", "_law_size"] (defScope sFolded) := ⟨rfl, rfl, rfl, by decide +kernel, rfl, by decide +kernel, by decide +kernel⟩
def spFolded (K : PySem.W.Frag) : Sp := fun vs H Q _ => ∃ (a : Addr) (ns : List Int) (m : Nat), vs = [.ref a, .int (m : Int)] ∧ SqL K H a (ns.map V.int) ∧ ns.length ≤ 63 ∧ 1 ≤ m ∧ m ≤ 63 ∧
  ∀ (p : Addr) (H' : Hp) (zs : List Int), H p = none → Same H H' → H' p = some (.lst (zs.map V.int)) → zs.length = min ns.length m → Q (.ref p) H'
theorem cut_lo (ns : List Int) (m : Nat) : cutV (ns.map V.int) none (some (m : Int)) = (ns.take m).map V.int := by
  unfold cutV
  rw [HT.sIx_none, HT.sIx_nat, List.drop_zero, Nat.sub_zero, List.length_map, ← List.map_take]
  congr 1
  rw [List.take_eq_take_iff]
  omega
theorem cut_mid (ns : List Int) (m j : Nat) : ∃ ws : List Int, cutV (ns.map V.int) (some (m : Int)) (some (j : Int)) = ws.map V.int ∧ ws.length ≤ ns.length - m := by
  unfold cutV
  rw [HT.sIx_nat, HT.sIx_nat, List.length_map, ← List.map_drop, ← List.map_take]
  refine ⟨_, rfl, ?_⟩
  rw [List.length_take, List.length_drop]
  omega
theorem int_at {ws : List Int} {i : Nat} {x : V} (h : (ws.map V.int)[i]? = some x) : ∃ z, ws[i]? = some z ∧ x = .int z := by
  rw [List.getElem?_map] at h
  cases e : ws[i]? with
  | none =>
    rw [e] at h
    cases h
  | some z =>
    rw [e] at h
    exact ⟨z, rfl, (Option.some.inj h).symm⟩
theorem map_set (zs : List Int) (j : Nat) (v : Int) : (zs.map V.int).set j (.int v) = (zs.set j v).map V.int := List.map_set.symm
theorem ixN_nat {n j : Nat} (h : j < n) : ixN n (j : Int) = some j := by
  unfold ixN
  rw [if_pos (Int.natCast_nonneg j), if_pos (by omega), Int.toNat_natCast]
theorem ok_folded {f : Addr} {fd : FuncData} {k : Nat} (F : Fun K "_law_folded" "_law_folded" sFolded f fd) (B : Bl mg) : FnOk P w K mg base CX0 (k + 1) f fd ["_law_script", "_law_size"] (spFolded K) := by
  refine F.ok scFolded (fun vs H Q E h => ?_) (fun cdv A outer s H vs Q E hr h => ?_)
  · obtain ⟨a, ns, m, rfl, _⟩ := h
    rfl
  obtain ⟨a, ns, m, rfl, hS, h63, hm1, hm2, q⟩ := h
  refine ⟨_, pss_cons (ps_set (i := 2) scFolded.nd rfl (.inl rfl) (pe_callTy call_list_of (by rfl) B.list PyProof.Rows.boot_list (pa_cons (pe_slice sl_list (pv 0) po_none (po_some (pv 1))) pa_nil)))
    (pss_cons (ps_for PassesOwn.never rfl (pi_enum (by rfl) B.enumerate (pa_cons (pe_slice sl_list (pv 0) (po_some (pv 1)) (po_some pe_int)) pa_nil))
        (pg_tup rfl (pgs_cons (pg_name (i := 3) scFolded.nd rfl (.inl rfl)) (pgs_cons (pg_name (i := 4) scFolded.nd rfl (.inl rfl)) pgs_nil)))
      (pss_one (ps_asg (pe_op op_add (pe_ix ix_list (pv 2) (pe_op op_mod (pv 3) (pv 1)) (fun _ _ => rfl)) (pe_op op_mul (pv 4) (pe_op op_add (pv 3) pe_int))) (pg_sub (pv 2) (pe_op op_mod (pv 3) (pv 1)) set_list))))
    (pss_one (ps_ret (pv 2)))), ?_⟩
  refine ⟨_, rfl, _, rfl, _, rfl, a, _, rfl, hS, fun c0 nc0 => ?_⟩
  rw [cut_lo]
  have s0 : Same H (upd H c0 (.lst ((ns.take m).map V.int))) := same_upd nc0
  refine ⟨c0, _, rfl, .inl (.inl (.inl upd_same)), fun p np => ?_⟩
  have npH : H p = none := s0.free np
  have ne0 : c0 ≠ p := fun e => by
    subst e
    rw [upd_same] at np
    cases np
  have s1 := s0.trans (same_upd (o := .lst ((ns.take m).map V.int)) np)
  refine ⟨_, rfl, _, rfl, _, rfl, _, rfl, a, _, rfl, s1.seq hS, fun c nc => ?_⟩
  obtain ⟨ws, ew, lw⟩ := cut_mid ns m 63
  rw [show ((63 : Nat) : Int) = (63 : Int) from rfl] at ew
  rw [ew]
  have s2 := s1.trans (same_upd (o := .lst (ws.map V.int)) nc)
  have nec : c ≠ p := fun e => by
    subst e
    rw [upd_same] at nc
    cases nc
  refine ⟨c, _, rfl, .inl (.inl upd_same), ?_⟩
  refine for_it (walk_enum (K := K) (a := c) (xs := ws.map V.int)) (fun i σ H3 => ∃ (y3 y4 : Option V) (zs : List Int), σ = [some (.ref a), some (.int (m : Int)), some (.ref p), y3, y4] ∧ Same H H3 ∧ H3 c = some (.lst (ws.map V.int)) ∧ H3 p = some (.lst (zs.map V.int)) ∧ zs.length = min ns.length m)
    ⟨none, none, ns.take m, rfl, s2, upd_same, ?_, ?_⟩ (fun i σ H3 _ ⟨_, _, _, _, _, e, _⟩ => .inl (.inl e)) ?_ ?_
  · rw [upd_ne nec.symm]
    exact upd_same
  · rw [List.length_take, Nat.min_comm]
  · rintro i v σ H3 H4 hi ⟨y3, y4, zs, rfl, s3, ec, ep, el⟩ ⟨T, x, y, rfl, nT, rfl, e1, e2⟩
    cases e1
    obtain ⟨z, _, rfl⟩ := int_at e2
    rw [List.length_map] at hi
    have npT : p ≠ T := ne_of_none ep nT
    have ncT : c ≠ T := ne_of_none ec nT
    have sT : Same H3 (upd H3 T (.tup [.int (i : Nat), .int z])) := same_upd nT
    refine ⟨T, _, rfl, .inl (.inl upd_same), rfl, _, _, rfl, _, _, rfl, rfl, ?_⟩
    have lm : (i : Int) % (m : Int) = ((i % m : Nat) : Int) := rfl
    have hl : i % m < zs.length := by
      have := Nat.mod_lt i (show 0 < m by omega)
      omega
    have ev : (zs.map V.int)[i % m]? = some (.int zs[i % m]) := by
      rw [List.getElem?_map, List.getElem?_eq_getElem hl]
      rfl
    refine ⟨_, rfl, _, rfl, _, rfl, _, _, rfl, rfl, (by show (0 : Int) < (m : Int); omega), p, _, _, _, rfl, rfl, SqL.of (sT _ _ ep), (by rw [lm]; exact atI_nat ev), _, rfl, _, rfl, _, _, rfl, rfl, _, _, rfl, rfl, .inr ⟨by omega, by omega⟩, _, _, rfl, rfl, ?_⟩
    refine ⟨_, rfl, _, rfl, _, rfl, _, _, rfl, rfl, (by show (0 : Int) < (m : Int); omega), p, _, _, i % m, rfl, rfl, sT _ _ ep, (by rw [lm, List.length_map]; exact ixN_nat hl), ?_⟩
    refine ⟨_, _, zs.set (i % m) (zs[i % m] + z * ((i : Int) + 2)), rfl, fun b o e => ?_, ?_, ?_, ?_⟩
    · rw [upd_ne (ne_of_none e npH)]
      exact sT _ _ (s3 _ _ e)
    · rw [upd_ne nec]
      exact sT _ _ ec
    · rw [upd_same, map_set]
    · rw [List.length_set]
      exact el
  · rintro σ H3 ⟨y3, y4, zs, rfl, s3, ec, ep, el⟩
    exact ⟨_, rfl, q p H3 zs npH s3 ep el⟩
/-! ### _law_same: of two things of one kind and worth -/
theorem scSame : FnScope ["_law_found", "_law_due", "_law_one", "_law_other"] ["_law_found", "_law_due"] (defScope sSame) := ⟨rfl, rfl, rfl, by decide +kernel, rfl, by decide +kernel, by decide +kernel⟩
def Lv : Nat → PyData → Prop
  | _, .none => True
  | _, .bool _ => True
  | _, .int _ => True
  | _, .str _ => True
  | n + 1, .list ds => ds.length ≤ 1000000 ∧ ∀ d ∈ ds, Lv n d
  | n + 1, .tuple ds => ds.length ≤ 1000000 ∧ ∀ d ∈ ds, Lv n d
  | _, _ => False
mutual
theorem Dp.same {H H' : Hp} (s : Same H H') : ∀ (d : PyData) (v : V), Dp K H v d → Dp K H' v d
  | .none, _, h => by
    cases h
    exact .non
  | .bool b, _, h => by
    cases h
    exact .bl b
  | .int i, _, h => by
    cases h
    exact .int i
  | .str x, _, h => by
    cases h
    exact .str x
  | .list ds, _, h => by
    cases h with
    | lst hs ha => exact .lst (s.seq hs) (Dp.sameAll s ds _ ha)
  | .tuple ds, _, h => by
    cases h with
    | tup hs ha => exact .tup (Same.seqT s hs) (Dp.sameAll s ds _ ha)
  | .dict _, _, h => by cases h
theorem Dp.sameAll {H H' : Hp} (s : Same H H') : ∀ (ds : List PyData) (vs : List V), DpAll K H vs ds → DpAll K H' vs ds
  | [], _, h => by
    cases h
    exact .nil
  | d :: ds, _, h => by
    cases h with
    | cons h1 h2 => exact .cons (Dp.same s d _ h1) (Dp.sameAll s ds _ h2)
end
theorem DpAll.len {H : Hp} : ∀ {ds : List PyData} {vs : List V}, DpAll K H vs ds → vs.length = ds.length
  | [], _, h => by
    cases h
    rfl
  | d :: ds, _, h => by
    cases h with
    | cons h1 h2 => rw [List.length_cons, List.length_cons, DpAll.len h2]
theorem DpAll.get {H : Hp} : ∀ {ds : List PyData} {vs : List V} {i : Nat} {x : V}, DpAll K H vs ds → vs[i]? = some x → ∃ d, ds[i]? = some d ∧ Dp K H x d
  | [], _, i, x, h, e => by
    cases h
    cases e
  | d :: ds, _, 0, x, h, e => by
    cases h with
    | cons h1 h2 =>
      cases e
      exact ⟨d, rfl, h1⟩
  | d :: ds, _, i + 1, x, h, e => by
    cases h with
    | @cons _ vs _ _ h1 h2 => exact DpAll.get (ds := ds) (vs := vs) h2 (show vs[i]? = some x from e)
theorem walk_zipT {a b : Addr} {xs ys : List V} {n : Nat} (hn : n = min xs.length ys.length) : Walk (RZ.ItzT K a b) n (fun H => SqT K H a xs ∧ SqT K H b ys) (YPair (fun i => xs[i]?) (fun i => ys[i]?)) := by
  subst hn
  refine ⟨fun i _ hi q => ?_, fun _ q => ⟨xs, ys, q.1, q.2, by omega⟩, fun i H v H' _ q y => ?_⟩
  · have h1 : i < xs.length := by omega
    have h2 : i < ys.length := by omega
    exact ⟨xs, ys, xs[i], ys[i], q.1, q.2, by simp [h1], by simp [h2]⟩
  · obtain ⟨T, x, z, h1, h2, h3, h4, h5⟩ := y
    exact ⟨T, x, z, h1, h2, h3, h4 xs q.1, h5 ys q.2⟩
theorem ty_lst {H : Hp} {a : Addr} {xs : List V} (h : SqL K H a xs) : TyX K H (.ref a) (.type "list") := by
  rcases h with (h | ⟨o, h⟩) | ⟨o, its, n, h1, h2, _⟩
  · exact .base (.lst h)
  · exact .base (.frz h)
  · exact .kList h1 h2
theorem ty_tup {H : Hp} {a : Addr} {xs : List V} (h : SqT K H a xs) : TyX K H (.ref a) (.type "tuple") := by
  rcases h with (h | ⟨o, h⟩) | ⟨o, its, n, h1, h2, _⟩
  · exact .base (.tup h)
  · exact .fTuple h
  · exact .kTuple h1 h2
def spSame (K : PySem.W.Frag) (k : Nat) : Sp := fun vs H Q _ => ∃ (x y : V) (d : PyData) (j : Nat), vs = [x, y] ∧ k = j + 1 ∧ Lv j d ∧ Dp K H x d ∧ Dp K H y d ∧ ∀ H', Same H H' → Q (.bl true) H'
theorem same_none {f : Addr} {fd : FuncData} : FnOk P w K mg base CX0 0 f fd ["_law_found", "_law_due"] (spSame K 0) := by
  have no : ∀ vs H Q E, ¬ spSame K 0 vs H Q E := fun vs H Q E h => by
    obtain ⟨x, y, d, j, _, h0, _⟩ := h
    omega
  exact ⟨fun vs H Q E h => absurd h (no vs H Q E), fun A outer s H args us vs Q E _ _ _ _ h => absurd h (no vs H Q E)⟩
theorem yesT {σ : L2.St} {H : Hp} {R S : Hp → Prop} (h : R H) : tYes σ H fun b H3 => if b = true then R H3 else S H3 := h
theorem repl_snoc {α : Type} (i : Nat) (x : α) : List.replicate i x ++ [x] = List.replicate (i + 1) x := List.replicate_succ'.symm
theorem all_repl (n : Nat) : (List.replicate n true).all id = true := by
  rw [List.all_eq_true]
  intro x hx
  rw [List.eq_of_mem_replicate hx]
  rfl
theorem kitLT {t : String} {r1 r2 : Bool} (h1 : kitB t "list" = some r1) (h2 : kitB t "tuple" = some r2) : PySem.W.kitAny K (.type t) [.type "list", .type "tuple"] = some (r1 || r2) := by
  refine kitAny_cons (kit_ty h1) (fun e => ?_) (fun e => by rw [e]; rfl)
  rw [e, Bool.false_or]
  refine kitAny_cons (kit_ty h2) (fun e => ?_) (fun e => e)
  rw [e]
  rfl
theorem ok_same1 {f : Addr} {fd : FuncData} {k : Nat} (F : Fun K "_law_same" "_law_same" sSame f fd) (G : FnOk P w K mg base CX0 k f fd ["_law_found", "_law_due"] (spSame K k)) (bf : Binds K fd ["_law_found", "_law_due"] []) (mf : mg "_law_same" = some (.ref f)) (B : Bl mg) :
    FnOk P w K mg base CX0 (k + 1) f fd ["_law_found", "_law_due"] (spSame K (k + 1)) := by
  refine F.ok scSame (fun vs H Q E h => ?_) (fun cdv A outer s H vs Q E hr h => ?_)
  · obtain ⟨x, y, d, j, rfl, _⟩ := h
    rfl
  obtain ⟨x, y, d, j, rfl, ej, lv, dx, dy, q⟩ := h
  obtain rfl : k = j := by omega
  refine ⟨_, pss_cons (ps_if (pt_val (pe_callB call_isiT (by rfl) B.isinstance boot_isinstance (pa_cons (pv 1) (pa_cons (pe_tup (pa_cons (pe_bltn (v := .ty "list") (by rfl) B.list PyProof.Rows.boot_list rfl) (pa_cons (pe_bltn (v := .ty "tuple") (by rfl) B.tuple PyProof.Rows.boot_tuple rfl) pa_nil))) pa_nil))))
      (pss_cons (ps_if (PW.pt (pw_or (pt_cmpR op_ne (pe_callB call_isi (by rfl) B.isinstance boot_isinstance (pa_cons (pv 0) (pa_cons (pe_bltn (v := .ty "list") (by rfl) B.list PyProof.Rows.boot_list rfl) pa_nil))) (pe_callB call_isi (by rfl) B.isinstance boot_isinstance (pa_cons (pv 1) (pa_cons (pe_bltn (v := .ty "list") (by rfl) B.list PyProof.Rows.boot_list rfl) pa_nil))) (nomark _))
          (pw_or1 (pt_cmpR op_ne (pe_callB call_isi (by rfl) B.isinstance boot_isinstance (pa_cons (pv 0) (pa_cons (pe_bltn (v := .ty "tuple") (by rfl) B.tuple PyProof.Rows.boot_tuple rfl) pa_nil))) (pe_callB call_isi (by rfl) B.isinstance boot_isinstance (pa_cons (pv 1) (pa_cons (pe_bltn (v := .ty "tuple") (by rfl) B.tuple PyProof.Rows.boot_tuple rfl) pa_nil))) (nomark _)))))
          (pss_one (ps_ret pe_bl)) pss_nil)
        (pss_one (ps_ret (pe_and (pe_cmpR op_eq (pe_callB call_len_seq (by rfl) B.len PySem.boot_len (pa_cons (pv 0) pa_nil)) (pe_callB call_len_seq (by rfl) B.len PySem.boot_len (pa_cons (pv 1) pa_nil)) (nomark _))
          (pe_one (pe_callB (cr_all rfl) (by rfl) B.all boot_all (pa_cons (pe_lc (own := [("_law_one", 2), ("_law_other", 3)]) (g := gTup K 2 (gCons (gName 2) (gCons (gName 3) gNil))) (by rfl) scSame.nd (RZ.pi_zipA (by rfl) B.zip (pa_cons (pv 0) (pa_cons (pv 1) pa_nil)))
            (blkOk_by (own := [("_law_one", 2), ("_law_other", 3)]) (N := ["_law_found", "_law_due", "_law_one", "_law_other"]) (sc := defScope sSame) (by decide +kernel))
            (fun _ _ _ _ _ => pg_tup rfl (pgs_cons (pg_name (i := 2) scSame.nd rfl (Or.inl rfl) (.inr rfl)) (pgs_cons (pg_name (i := 3) scSame.nd rfl (Or.inl rfl) (.inr rfl)) pgs_nil))) (fun _ _ _ _ _ => pts_nil)
            (fun _ _ _ _ _ => pe_call G hr (by rfl) mf F.kp bf .nil pass0 (pa_cons (pv 2) (pa_cons (pv 3) pa_nil)))) pa_nil))))))) pss_nil)
    (pss_cons (ps_if (PW.pt (pw_or (pt_cmpR op_isN (pv 1) pe_non (nomark _)) (pw_or1 (pt_val (pe_callB call_isi (by rfl) B.isinstance boot_isinstance (pa_cons (pv 1) (pa_cons (pe_bltn (v := .ty "str") (by rfl) B.str PyProof.Rows.boot_str rfl) pa_nil)))))))
      (pss_one (ps_ret (pe_and (pe_cmpR op_eq (pv 0) (pv 1) (nomark _)) (pe_one (pe_cmpR op_eq (pe_callB call_isi (by rfl) B.isinstance boot_isinstance (pa_cons (pv 0) (pa_cons (pe_bltn (v := .ty "str") (by rfl) B.str PyProof.Rows.boot_str rfl) pa_nil))) (pe_callB call_isi (by rfl) B.isinstance boot_isinstance (pa_cons (pv 1) (pa_cons (pe_bltn (v := .ty "str") (by rfl) B.str PyProof.Rows.boot_str rfl) pa_nil))) (nomark _)))))) pss_nil)
    (pss_one (ps_ret (pe_and (pe_callB call_isi (by rfl) B.isinstance boot_isinstance (pa_cons (pv 0) (pa_cons (pe_bltn (v := .ty "int") (by rfl) B.int PyProof.Rows.boot_int rfl) pa_nil))) (pe_and (pe_cmpR op_eq (pe_callB call_isi (by rfl) B.isinstance boot_isinstance (pa_cons (pv 0) (pa_cons (pe_bltn (v := .ty "bool") (by rfl) B.bool PyProof.Rows.boot_bool rfl) pa_nil))) (pe_callB call_isi (by rfl) B.isinstance boot_isinstance (pa_cons (pv 1) (pa_cons (pe_bltn (v := .ty "bool") (by rfl) B.bool PyProof.Rows.boot_bool rfl) pa_nil))) (nomark _))
      (pe_one (pe_cmpR op_eq (pv 0) (pv 1) (nomark _)))))))), ?_⟩
  have pr : Paired ClsV [.ty "list", .ty "tuple"] [.type "list", .type "tuple"] := .cons (.ty _) (.cons (.ty _) .nil)
  refine ⟨_, rfl, (by show 2 ≤ sizeLine; decide), fun tp ntp => ?_⟩
  have s0 : Same H (upd H tp (.tup [.ty "list", .ty "tuple"])) := same_upd ntp
  cases d with
  | none =>
    cases dx
    cases dy
    refine ⟨_, tp, _, _, _, _, rfl, upd_same, pr, .base .non, kitLT (t := "NoneType") (r1 := false) (r2 := false) (by decide +kernel) (by decide +kernel), _, rfl, iteF ?_⟩
    refine ⟨_, rfl, rfl, _, rfl, iteT (iteT ?_)⟩
    refine ⟨_, rfl, _, rfl, rfl, _, rfl, iteT ?_⟩
    refine ⟨_, rfl, _, _, _, _, _, rfl, .ty _, .base .non, kit_ty (by decide +kernel : kitB "NoneType" "str" = some false), _, rfl, _, _, _, _, _, rfl, .ty _, .base .non, kit_ty (by decide +kernel : kitB "NoneType" "str" = some false), rfl, q _ s0⟩
  | bool b =>
    cases dx
    cases dy
    refine ⟨_, tp, _, _, _, _, rfl, upd_same, pr, .base (.bl _), kitLT (t := "bool") (r1 := false) (r2 := false) (by decide +kernel) (by decide +kernel), _, rfl, iteF ?_⟩
    refine ⟨_, rfl, rfl, _, rfl, iteF ?_⟩
    refine ⟨_, rfl, _, _, _, _, _, rfl, .ty _, .base (.bl _), kit_ty (by decide +kernel : kitB "bool" "str" = some false), _, rfl, iteF ?_⟩
    refine ⟨_, rfl, _, _, _, _, _, rfl, .ty _, .base (.bl _), kit_ty (by decide +kernel : kitB "bool" "int" = some true), _, rfl, iteT ?_⟩
    refine ⟨_, rfl, _, _, _, _, _, rfl, .ty _, .base (.bl _), kit_ty (by decide +kernel : kitB "bool" "bool" = some true), _, rfl, _, _, _, _, _, rfl, .ty _, .base (.bl _), kit_ty (by decide +kernel : kitB "bool" "bool" = some true), rfl, _, rfl, iteT ?_⟩
    refine ⟨_, rfl, _, rfl, rfl, ?_⟩
    rw [decide_eq_true rfl]
    exact q _ s0
  | int i =>
    cases dx
    cases dy
    refine ⟨_, tp, _, _, _, _, rfl, upd_same, pr, .base (.int _), kitLT (t := "int") (r1 := false) (r2 := false) (by decide +kernel) (by decide +kernel), _, rfl, iteF ?_⟩
    refine ⟨_, rfl, rfl, _, rfl, iteF ?_⟩
    refine ⟨_, rfl, _, _, _, _, _, rfl, .ty _, .base (.int _), kit_ty (by decide +kernel : kitB "int" "str" = some false), _, rfl, iteF ?_⟩
    refine ⟨_, rfl, _, _, _, _, _, rfl, .ty _, .base (.int _), kit_ty (by decide +kernel : kitB "int" "int" = some true), _, rfl, iteT ?_⟩
    refine ⟨_, rfl, _, _, _, _, _, rfl, .ty _, .base (.int _), kit_ty (by decide +kernel : kitB "int" "bool" = some false), _, rfl, _, _, _, _, _, rfl, .ty _, .base (.int _), kit_ty (by decide +kernel : kitB "int" "bool" = some false), rfl, _, rfl, iteT ?_⟩
    refine ⟨_, rfl, _, rfl, rfl, ?_⟩
    rw [decide_eq_true rfl]
    exact q _ s0
  | str z =>
    cases dx
    cases dy
    refine ⟨_, tp, _, _, _, _, rfl, upd_same, pr, .base (.str _), kitLT (t := "str") (r1 := false) (r2 := false) (by decide +kernel) (by decide +kernel), _, rfl, iteF ?_⟩
    refine ⟨_, rfl, rfl, _, rfl, iteF ?_⟩
    refine ⟨_, rfl, _, _, _, _, _, rfl, .ty _, .base (.str _), kit_ty (by decide +kernel : kitB "str" "str" = some true), _, rfl, iteT ?_⟩
    refine ⟨_, rfl, _, rfl, rfl, ?_⟩
    rw [decide_eq_true rfl]
    refine ⟨_, rfl, iteT ?_⟩
    exact ⟨_, rfl, _, _, _, _, _, rfl, .ty _, .base (.str _), kit_ty (by decide +kernel : kitB "str" "str" = some true), _, rfl, _, _, _, _, _, rfl, .ty _, .base (.str _), kit_ty (by decide +kernel : kitB "str" "str" = some true), rfl, q _ s0⟩
  | list ds =>
    cases dx with
    | @lst a xs _ hx ax =>
    cases dy with
    | @lst b ys _ hy ay =>
    obtain ⟨i, rfl⟩ : ∃ i, k = i + 1 := by
      cases k with
      | zero => exact absurd lv id
      | succ i => exact ⟨i, rfl⟩
    have lx := DpAll.len ax
    have ly := DpAll.len ay
    have hx1 := s0.seq hx
    have hy1 := s0.seq hy
    refine ⟨_, tp, _, _, _, _, rfl, upd_same, pr, ty_lst hy1, kitLT (t := "list") (r1 := true) (r2 := false) (by decide +kernel) (by decide +kernel), _, rfl, iteT ?_⟩
    refine ⟨_, rfl, _, _, _, _, _, rfl, .ty _, ty_lst hx1, kit_ty (by decide +kernel : kitB "list" "list" = some true), _, rfl, _, _, _, _, _, rfl, .ty _, ty_lst hy1, kit_ty (by decide +kernel : kitB "list" "list" = some true), rfl, _, rfl, iteF ?_⟩
    refine ⟨_, rfl, _, _, _, _, _, rfl, .ty _, ty_lst hx1, kit_ty (by decide +kernel : kitB "list" "tuple" = some false), _, rfl, _, _, _, _, _, rfl, .ty _, ty_lst hy1, kit_ty (by decide +kernel : kitB "list" "tuple" = some false), rfl, _, rfl, iteF ?_⟩
    refine ⟨_, rfl, a, _, rfl, .inl hx1, _, rfl, b, _, rfl, .inl hy1, rfl, ?_⟩
    rw [decide_eq_true (by rw [lx, ly])]
    refine ⟨_, rfl, iteT ?_⟩
    refine ⟨_, rfl, _, rfl, a, b, xs, ys, rfl, .inl ⟨hx1, hy1, fun D nD => ?_⟩⟩
    have sD := s0.trans (same_upd (o := .lst []) nD)
    refine lc_it (walk_zip (K := K) (a := a) (b := b) (xs := xs) (ys := ys) rfl) (fun i H3 => Same H H3 ∧ H3 D = some (.lst (List.replicate i (.bl true)))) ⟨sD, upd_same⟩ (fun i H3 _ ⟨s3, _⟩ => ⟨s3.seq hx, s3.seq hy⟩) ?_ ?_
    · rintro i v H3 H4 hi ⟨s3, eD⟩ ⟨T, x, y, rfl, nT, rfl, e1, e2⟩
      obtain ⟨d1, g1, p1⟩ := DpAll.get ax e1
      obtain ⟨d2, g2, p2⟩ := DpAll.get ay e2
      obtain rfl : d1 = d2 := Option.some.inj (g1.symm.trans g2)
      have s4 := s3.trans (same_upd (o := .tup [x, y]) nT)
      refine ⟨T, _, rfl, .inl (.inl upd_same), rfl, _, _, rfl, _, _, rfl, rfl, rfl, ?_⟩
      refine yesT ?_
      refine ⟨_, rfl, _, rfl, x, y, d1, _, rfl, rfl, lv.2 d1 (List.mem_of_getElem? g1), Dp.same s4 _ _ p1, Dp.same s4 _ _ p2, fun H5 s5 => ?_⟩
      refine ⟨_, s5 _ _ (by rw [upd_ne (ne_of_none eD nT)]; exact eD), ?_, fun p o e => ?_, ?_⟩
      · rw [List.length_replicate]
        have := lv.1
        refine Nat.lt_of_lt_of_le (show i < 1000000 by omega) (by decide)
      · rw [upd_ne (ne_of_none e (s0.free nD))]
        exact s5 _ _ (s4 _ _ e)
      · rw [upd_same, repl_snoc]
    · rintro H3 ⟨s3, eD⟩
      refine ⟨D, List.replicate (min xs.length ys.length) true, rfl, .inl (.inl (by rw [List.map_replicate]; exact eD)), ?_⟩
      rw [all_repl]
      exact q _ s3
  | tuple ds =>
    cases dx with
    | @tup a xs _ hx ax =>
    cases dy with
    | @tup b ys _ hy ay =>
    obtain ⟨i, rfl⟩ : ∃ i, k = i + 1 := by
      cases k with
      | zero => exact absurd lv id
      | succ i => exact ⟨i, rfl⟩
    have lx := DpAll.len ax
    have ly := DpAll.len ay
    have hx1 := Same.seqT s0 hx
    have hy1 := Same.seqT s0 hy
    refine ⟨_, tp, _, _, _, _, rfl, upd_same, pr, ty_tup hy1, kitLT (t := "tuple") (r1 := false) (r2 := true) (by decide +kernel) (by decide +kernel), _, rfl, iteT ?_⟩
    refine ⟨_, rfl, _, _, _, _, _, rfl, .ty _, ty_tup hx1, kit_ty (by decide +kernel : kitB "tuple" "list" = some false), _, rfl, _, _, _, _, _, rfl, .ty _, ty_tup hy1, kit_ty (by decide +kernel : kitB "tuple" "list" = some false), rfl, _, rfl, iteF ?_⟩
    refine ⟨_, rfl, _, _, _, _, _, rfl, .ty _, ty_tup hx1, kit_ty (by decide +kernel : kitB "tuple" "tuple" = some true), _, rfl, _, _, _, _, _, rfl, .ty _, ty_tup hy1, kit_ty (by decide +kernel : kitB "tuple" "tuple" = some true), rfl, _, rfl, iteF ?_⟩
    refine ⟨_, rfl, a, _, rfl, .inr hx1, _, rfl, b, _, rfl, .inr hy1, rfl, ?_⟩
    rw [decide_eq_true (by rw [lx, ly])]
    refine ⟨_, rfl, iteT ?_⟩
    refine ⟨_, rfl, _, rfl, a, b, xs, ys, rfl, .inr ⟨hx1, hy1, fun D nD => ?_⟩⟩
    have sD := s0.trans (same_upd (o := .lst []) nD)
    refine lc_it (walk_zipT (K := K) (a := a) (b := b) (xs := xs) (ys := ys) rfl) (fun i H3 => Same H H3 ∧ H3 D = some (.lst (List.replicate i (.bl true)))) ⟨sD, upd_same⟩ (fun i H3 _ ⟨s3, _⟩ => ⟨Same.seqT s3 hx, Same.seqT s3 hy⟩) ?_ ?_
    · rintro i v H3 H4 hi ⟨s3, eD⟩ ⟨T, x, y, rfl, nT, rfl, e1, e2⟩
      obtain ⟨d1, g1, p1⟩ := DpAll.get ax e1
      obtain ⟨d2, g2, p2⟩ := DpAll.get ay e2
      obtain rfl : d1 = d2 := Option.some.inj (g1.symm.trans g2)
      have s4 := s3.trans (same_upd (o := .tup [x, y]) nT)
      refine ⟨T, _, rfl, .inl (.inl upd_same), rfl, _, _, rfl, _, _, rfl, rfl, rfl, ?_⟩
      refine yesT ?_
      refine ⟨_, rfl, _, rfl, x, y, d1, _, rfl, rfl, lv.2 d1 (List.mem_of_getElem? g1), Dp.same s4 _ _ p1, Dp.same s4 _ _ p2, fun H5 s5 => ?_⟩
      refine ⟨_, s5 _ _ (by rw [upd_ne (ne_of_none eD nT)]; exact eD), ?_, fun p o e => ?_, ?_⟩
      · rw [List.length_replicate]
        have := lv.1
        refine Nat.lt_of_lt_of_le (show i < 1000000 by omega) (by decide)
      · rw [upd_ne (ne_of_none e (s0.free nD))]
        exact s5 _ _ (s4 _ _ e)
      · rw [upd_same, repl_snoc]
    · rintro H3 ⟨s3, eD⟩
      refine ⟨D, List.replicate (min xs.length ys.length) true, rfl, .inl (.inl (by rw [List.map_replicate]; exact eD)), ?_⟩
      rw [all_repl]
      exact q _ s3
  | dict _ => cases dx
theorem ok_same {f : Addr} {fd : FuncData} (F : Fun K "_law_same" "_law_same" sSame f fd) (bf : Binds K fd ["_law_found", "_law_due"] []) (mf : mg "_law_same" = some (.ref f)) (B : Bl mg) : ∀ k : Nat, FnOk P w K mg base CX0 k f fd ["_law_found", "_law_due"] (spSame K k)
  | 0 => same_none
  | k + 1 => ok_same1 F (ok_same F bf mf B k) bf mf B
end
end GZ
namespace GM
theorem pow_pos' (n : Nat) : (0 : Int) < 2 ^ n := Int.pow_pos (by decide)
theorem pow_s (n : Nat) : (2 : Int) ^ (n + 1) = 2 ^ n * 2 := Int.pow_succ 2 n
theorem pow_le' {m n : Nat} (h : m ≤ n) : (2 : Int) ^ m ≤ 2 ^ n := by
  induction n with
  | zero =>
    have : m = 0 := by omega
    rw [this]
    exact Int.le_refl _
  | succ n ih =>
    by_cases e : m = n + 1
    · rw [e]
      exact Int.le_refl _
    · have := ih (by omega)
      have := pow_s n
      have := pow_pos' n
      omega
theorem pow_add' (m n : Nat) : (2 : Int) ^ (m + n) = 2 ^ m * 2 ^ n := Int.pow_add 2 m n
theorem bits_pow {x : Nat} {e : Nat} (h : x < 2 ^ e) : PySem.Builtin.Int.intBits (x : Int) ≤ e := PyProof.Rows.intBits_le (by rw [Int.natAbs_natCast]; exact h)
theorem bits_le_pow {x : Nat} {e : Nat} (h : 2 ^ e ≤ x) : e + 1 ≤ PySem.Builtin.Int.intBits (x : Int) := by
  have hx : x ≠ 0 := by
    have := Nat.two_pow_pos e
    omega
  unfold PySem.Builtin.Int.intBits
  rw [if_neg (by simpa using hx), Int.natAbs_natCast]
  have := (Nat.le_log2 hx).mpr h
  omega
theorem bits_unique {x e : Nat} (h1 : 2 ^ e ≤ x) (h2 : x < 2 ^ (e + 1)) : PySem.Builtin.Int.intBits (x : Int) = e + 1 := by
  have := bits_pow h2
  have := bits_le_pow h1
  omega
theorem bits_ex {x : Nat} (h : 0 < x) : ∃ e, 2 ^ e ≤ x ∧ x < 2 ^ (e + 1) := ⟨x.log2, Nat.log2_self_le (by omega), Nat.lt_log2_self⟩
theorem bits_half {x : Nat} (h : 0 < x) : PySem.Builtin.Int.intBits (x : Int) = PySem.Builtin.Int.intBits ((x / 2 : Nat) : Int) + 1 := by
  obtain ⟨e, h1, h2⟩ := bits_ex h
  rw [bits_unique h1 h2]
  cases e with
  | zero =>
    have : x = 1 := by
      simp at h1 h2
      omega
    rw [this]
    rfl
  | succ e =>
    rw [bits_unique (x := x / 2) (e := e)]
    · rw [Nat.pow_succ] at h1
      omega
    · rw [Nat.pow_succ] at h2
      omega
theorem bits_double {x m : Nat} (h : 0 < x) (hm : m ≤ 1) : PySem.Builtin.Int.intBits ((2 * x + m : Nat) : Int) = PySem.Builtin.Int.intBits (x : Int) + 1 := by
  rw [bits_half (x := 2 * x + m) (by omega), show (2 * x + m) / 2 = x by omega]
theorem shr_lt {x : Int} {a b : Nat} (h0 : 0 ≤ x) (h : x < 2 ^ (a + b)) : 0 ≤ x / 2 ^ b ∧ x / 2 ^ b < 2 ^ a := by
  have hb := pow_pos' b
  refine ⟨Int.ediv_nonneg h0 (by omega), ?_⟩
  rw [pow_add'] at h
  exact Int.ediv_lt_of_lt_mul hb h
end GM
namespace GM
/-! ### words: a sign, a scale of m bits, a tail of t bits -/
def bit (a : Int) (n : Nat) : Int := a / 2 ^ n % 2
def blr (a : Int) : Nat → List Int
  | 0 => []
  | n + 1 => bit a n :: blr a n
def wv : List Int → Int
  | [] => 0
  | d :: r => d * 2 ^ r.length + wv r
theorem blr_len (a : Int) : ∀ n, (blr a n).length = n
  | 0 => rfl
  | n + 1 => by
    show (blr a n).length + 1 = n + 1
    rw [blr_len a n]
theorem div_div (w : Int) (t m : Nat) : w / 2 ^ t / 2 ^ m = w / 2 ^ (t + m) := by
  rw [pow_add', Int.ediv_ediv_of_nonneg (Int.le_of_lt (pow_pos' t))]
theorem bit_div (w : Int) (t m : Nat) : bit (w / 2 ^ t) m = bit w (m + t) := by
  unfold bit
  rw [div_div, Nat.add_comm t m]
theorem blr_take (w : Int) (t : Nat) : ∀ m, (blr w (m + t)).take m = blr (w / 2 ^ t) m
  | 0 => rfl
  | m + 1 => by
    show (blr w ((m + 1) + t)).take (m + 1) = bit (w / 2 ^ t) m :: blr (w / 2 ^ t) m
    rw [show m + 1 + t = (m + t) + 1 by omega]
    show bit w (m + t) :: (blr w (m + t)).take m = _
    rw [blr_take w t m, bit_div]
theorem blr_drop (w : Int) (t : Nat) : ∀ m, (blr w (m + t)).drop m = blr w t
  | 0 => by rw [Nat.zero_add]; rfl
  | m + 1 => by
    rw [show m + 1 + t = (m + t) + 1 by omega]
    show (blr w (m + t)).drop m = _
    exact blr_drop w t m
theorem mod_step (a : Int) (n : Nat) : bit a n * 2 ^ n + a % 2 ^ n = a % 2 ^ (n + 1) := by
  unfold bit
  have hp := pow_pos' n
  have e1 := Int.emod_add_mul_ediv a (2 ^ n)
  have e2 := Int.emod_add_mul_ediv (a / 2 ^ n) 2
  have h1 := Int.emod_nonneg a (show (2 : Int) ^ n ≠ 0 by omega)
  have h2 := Int.emod_lt_of_pos a hp
  have e3 : 2 ^ n * (a / 2 ^ n) = a / 2 ^ n % 2 * 2 ^ n + a / 2 ^ n / 2 * (2 ^ n * 2) := by
    conv => lhs; rw [← e2]
    rw [Int.mul_add, Int.mul_comm (2 ^ n) (a / 2 ^ n % 2), ← Int.mul_assoc, Int.mul_comm (2 ^ n * 2) _]
  have key : (a / 2 ^ n % 2 * 2 ^ n + a % 2 ^ n) + a / 2 ^ n / 2 * 2 ^ (n + 1) = a := by
    rw [pow_s]
    omega
  have hb : 0 ≤ a / 2 ^ n % 2 * 2 ^ n + a % 2 ^ n ∧ a / 2 ^ n % 2 * 2 ^ n + a % 2 ^ n < 2 ^ (n + 1) := by
    rw [pow_s]
    have : a / 2 ^ n % 2 = 0 ∨ a / 2 ^ n % 2 = 1 := by omega
    rcases this with z | z <;> rw [z] <;> omega
  have em := Int.add_mul_emod_self_right (a / 2 ^ n % 2 * 2 ^ n + a % 2 ^ n) (a / 2 ^ n / 2) (2 ^ (n + 1))
  rw [key, Int.emod_eq_of_lt hb.1 hb.2] at em
  exact em.symm
theorem wv_blr (a : Int) : ∀ n, wv (blr a n) = a % 2 ^ n
  | 0 => by
    show (0 : Int) = a % 1
    omega
  | n + 1 => by
    show bit a n * 2 ^ (blr a n).length + wv (blr a n) = _
    rw [blr_len, wv_blr a n, ← mod_step a n]
theorem fold2 : ∀ (ds : List Int) (w : Int), ds.foldl (fun a b => a * 2 + b) w = w * 2 ^ ds.length + wv ds
  | [], w => by
    show w = w * 2 ^ 0 + 0
    rw [Int.pow_zero]
    omega
  | d :: r, w => by
    show r.foldl (fun a b => a * 2 + b) (w * 2 + d) = w * 2 ^ (r.length + 1) + (d * 2 ^ r.length + wv r)
    rw [fold2 r, pow_s, Int.add_mul, Int.mul_assoc, Int.mul_comm 2 (2 ^ r.length)]
    omega
theorem wv_ones : ∀ k, wv (List.replicate k 1) = 2 ^ k - 1
  | 0 => rfl
  | k + 1 => by
    rw [List.replicate_succ]
    show 1 * 2 ^ (List.replicate k (1 : Int)).length + wv (List.replicate k 1) = _
    rw [List.length_replicate, wv_ones k, pow_s]
    omega
/-- sign, scale, tail of a word -/
def sgn (m t : Nat) (w : Int) : Int := w / 2 ^ (m + t) % 2
def scl (m t : Nat) (w : Int) : Int := w / 2 ^ t % 2 ^ m
def tlp (t : Nat) (w : Int) : Int := w % 2 ^ t
theorem scl_tlp (m t : Nat) (w : Int) : scl m t w * 2 ^ t + tlp t w = w % 2 ^ (m + t) := by
  induction m with
  | zero =>
    unfold scl tlp
    rw [Int.pow_zero, Int.emod_one, Int.zero_mul, Int.zero_add, Nat.zero_add]
  | succ m ih =>
    have e := mod_step (w / 2 ^ t) m
    have e2 := mod_step w (m + t)
    rw [bit_div] at e
    unfold scl at ih ⊢
    rw [← e, Int.add_mul, show m + 1 + t = (m + t) + 1 by omega, ← e2, ← ih, Int.mul_assoc, ← pow_add']
    omega
theorem sgn_01 {m t : Nat} {w : Int} : sgn m t w = 0 ∨ sgn m t w = 1 := by
  unfold sgn
  omega
theorem word_eq {m t : Nat} {w : Int} (h0 : 0 ≤ w) (h1 : w < 2 ^ (1 + m + t)) : sgn m t w * 2 ^ (m + t) + w % 2 ^ (m + t) = w := by
  have e := mod_step w (m + t)
  rw [show m + t + 1 = 1 + m + t by omega, Int.emod_eq_of_lt h0 h1] at e
  exact e
theorem scl_nn (m t : Nat) (w : Int) : 0 ≤ scl m t w ∧ scl m t w < 2 ^ m := ⟨Int.emod_nonneg _ (by have := pow_pos' m; omega), Int.emod_lt_of_pos _ (pow_pos' m)⟩
theorem tlp_nn (t : Nat) (w : Int) : 0 ≤ tlp t w ∧ tlp t w < 2 ^ t := ⟨Int.emod_nonneg _ (by have := pow_pos' t; omega), Int.emod_lt_of_pos _ (pow_pos' t)⟩
/-- with the other sign -/
def trn (m t : Nat) (w : Int) : Int := (1 - sgn m t w) * 2 ^ (m + t) + w % 2 ^ (m + t)
theorem mk_parts {m t : Nat} {s r : Int} (hs : s = 0 ∨ s = 1) (h0 : 0 ≤ r) (h1 : r < 2 ^ (m + t)) : 0 ≤ s * 2 ^ (m + t) + r ∧ s * 2 ^ (m + t) + r < 2 ^ (1 + m + t) ∧ sgn m t (s * 2 ^ (m + t) + r) = s ∧ (s * 2 ^ (m + t) + r) % 2 ^ (m + t) = r := by
  have hp := pow_pos' (m + t)
  have e : (2 : Int) ^ (1 + m + t) = 2 ^ (m + t) * 2 := by rw [← pow_s]; congr 1; omega
  have em : (s * 2 ^ (m + t) + r) % 2 ^ (m + t) = r := by
    rw [Int.add_comm, Int.add_mul_emod_self_right, Int.emod_eq_of_lt h0 h1]
  have ed : (s * 2 ^ (m + t) + r) / 2 ^ (m + t) = s := by
    rw [Int.add_comm, Int.add_mul_ediv_right _ _ (by omega), Int.ediv_eq_zero_of_lt h0 h1, Int.zero_add]
  refine ⟨?_, ?_, ?_, em⟩
  · rcases hs with z | z <;> subst z <;> omega
  · rw [e]
    rcases hs with z | z <;> subst z <;> omega
  · unfold sgn
    rw [ed]
    omega
theorem trn_trn {m t : Nat} {w : Int} (h0 : 0 ≤ w) (h1 : w < 2 ^ (1 + m + t)) : trn m t (trn m t w) = w ∧ 0 ≤ trn m t w ∧ trn m t w < 2 ^ (1 + m + t) := by
  have hp := pow_pos' (m + t)
  have hs : 1 - sgn m t w = 0 ∨ 1 - sgn m t w = 1 := by
    have := sgn_01 (m := m) (t := t) (w := w)
    omega
  obtain ⟨a, b, c, d⟩ := mk_parts (m := m) (t := t) hs (Int.emod_nonneg w (show (2 : Int) ^ (m + t) ≠ 0 by omega)) (Int.emod_lt_of_pos w hp)
  refine ⟨?_, a, b⟩
  show (1 - sgn m t (trn m t w)) * 2 ^ (m + t) + trn m t w % 2 ^ (m + t) = w
  rw [show sgn m t (trn m t w) = 1 - sgn m t w from c, show trn m t w % 2 ^ (m + t) = w % 2 ^ (m + t) from d, show 1 - (1 - sgn m t w) = sgn m t w by omega]
  exact word_eq h0 h1
end GM
namespace GM
open PySem PyProof.Rows
/-! ### bits of and, or, unlike, of whole numbers -/
abbrev An (x y : Int) : Int := Builtin.bitAnd x y
abbrev Or (x y : Int) : Int := Builtin.bitOr x y
abbrev Xo (x y : Int) : Int := Builtin.bitXor x y
theorem an_step (x y : Int) : An x y / 2 = An (x / 2) (y / 2) ∧ An x y % 2 = (x % 2) * (y % 2) := by
  have h := PySem.W.kbt_halves x y
  have hx : x % 2 = 0 ∨ x % 2 = 1 := by omega
  have hy : y % 2 = 0 ∨ y % 2 = 1 := by omega
  unfold An
  rcases hx with a | a <;> rcases hy with b | b <;> rw [a, b] at h ⊢
  · rw [if_neg (by decide)] at h
    omega
  · rw [if_neg (by decide)] at h
    omega
  · rw [if_neg (by decide)] at h
    omega
  · rw [if_pos (by decide)] at h
    omega
theorem or_step (x y : Int) : Or x y / 2 = Or (x / 2) (y / 2) ∧ Or x y % 2 = x % 2 + y % 2 - (x % 2) * (y % 2) := by
  obtain ⟨h1, h2⟩ := an_step x y
  have hx : x % 2 = 0 ∨ x % 2 = 1 := by omega
  have hy : y % 2 = 0 ∨ y % 2 = 1 := by omega
  unfold Or
  rw [bitOr_and, bitOr_and]
  unfold An at h1 h2
  rcases hx with a | a <;> rcases hy with b | b <;> rw [a, b] at h2 ⊢ <;> omega
theorem xo_step (x y : Int) : Xo x y / 2 = Xo (x / 2) (y / 2) ∧ Xo x y % 2 = (x % 2 + y % 2) % 2 := by
  obtain ⟨h1, h2⟩ := an_step x y
  have hx : x % 2 = 0 ∨ x % 2 = 1 := by omega
  have hy : y % 2 = 0 ∨ y % 2 = 1 := by omega
  unfold Xo
  rw [bitXor_and, bitXor_and]
  unfold An at h1 h2
  rcases hx with a | a <;> rcases hy with b | b <;> rw [a, b] at h2 ⊢ <;> omega
def x3 (x y z : Int) : Int := Xo (Xo x y) z
def mj (x y z : Int) : Int := Or (Or (An x y) (An x z)) (An y z)
theorem x3_step (x y z : Int) : x3 x y z / 2 = x3 (x / 2) (y / 2) (z / 2) ∧ x3 x y z % 2 = (x % 2 + y % 2 + z % 2) % 2 := by
  unfold x3
  obtain ⟨a1, a2⟩ := xo_step (Xo x y) z
  obtain ⟨b1, b2⟩ := xo_step x y
  rw [a1, a2, b1, b2]
  exact ⟨rfl, by omega⟩
theorem mj_step (x y z : Int) : mj x y z / 2 = mj (x / 2) (y / 2) (z / 2) ∧ mj x y z % 2 = (x % 2 + y % 2 + z % 2) / 2 := by
  unfold mj
  obtain ⟨a1, a2⟩ := or_step (Or (An x y) (An x z)) (An y z)
  obtain ⟨b1, b2⟩ := or_step (An x y) (An x z)
  obtain ⟨c1, c2⟩ := an_step x y
  obtain ⟨d1, d2⟩ := an_step x z
  obtain ⟨e1, e2⟩ := an_step y z
  refine ⟨by rw [a1, b1, c1, d1, e1], ?_⟩
  rw [a2, b2, c2, d2, e2]
  have hx : x % 2 = 0 ∨ x % 2 = 1 := by omega
  have hy : y % 2 = 0 ∨ y % 2 = 1 := by omega
  have hz : z % 2 = 0 ∨ z % 2 = 1 := by omega
  rcases hx with a | a <;> rcases hy with b | b <;> rcases hz with c | c <;> rw [a, b, c] <;> decide
theorem div_s (x : Int) (k : Nat) : x / 2 ^ (k + 1) = x / 2 ^ k / 2 := by
  rw [pow_s, Int.ediv_ediv_of_nonneg (Int.le_of_lt (pow_pos' k))]
theorem x3_div (x y z : Int) : ∀ k, x3 x y z / 2 ^ k = x3 (x / 2 ^ k) (y / 2 ^ k) (z / 2 ^ k)
  | 0 => by simp
  | k + 1 => by rw [div_s, div_s, div_s, div_s, x3_div x y z k, (x3_step _ _ _).1]
theorem mj_div (x y z : Int) : ∀ k, mj x y z / 2 ^ k = mj (x / 2 ^ k) (y / 2 ^ k) (z / 2 ^ k)
  | 0 => by simp
  | k + 1 => by rw [div_s, div_s, div_s, div_s, mj_div x y z k, (mj_step _ _ _).1]
theorem x3_bit (x y z : Int) (k : Nat) : bit (x3 x y z) k = (bit x k + bit y k + bit z k) % 2 := by
  unfold bit
  rw [x3_div, (x3_step _ _ _).2]
theorem mj_bit (x y z : Int) (k : Nat) : bit (mj x y z) k = (bit x k + bit y k + bit z k) / 2 := by
  unfold bit
  rw [mj_div, (mj_step _ _ _).2]
/-- so many bits and the sign -/
def Sg (k : Nat) (x : Int) : Prop := x / 2 ^ k = 0 ∨ x / 2 ^ k = -1
theorem sg_iff {k : Nat} {x : Int} : Sg k x ↔ -(2 ^ k) ≤ x ∧ x < 2 ^ k := by
  have hp := pow_pos' k
  unfold Sg
  constructor
  · intro h
    have e := Int.emod_add_mul_ediv x (2 ^ k)
    have h1 := Int.emod_nonneg x (show (2 : Int) ^ k ≠ 0 by omega)
    have h2 := Int.emod_lt_of_pos x hp
    rcases h with z | z <;> rw [z] at e <;> omega
  · intro ⟨h1, h2⟩
    by_cases c : 0 ≤ x
    · exact .inl (Int.ediv_eq_zero_of_lt c h2)
    · right
      have : (x + 2 ^ k) / 2 ^ k = x / 2 ^ k + 1 := by
        have := Int.add_mul_ediv_right x 1 (show (2 : Int) ^ k ≠ 0 by omega)
        rw [Int.one_mul] at this
        exact this
      have h3 : (x + 2 ^ k) / 2 ^ k = 0 := Int.ediv_eq_zero_of_lt (by omega) (by omega)
      omega
theorem sg_x3 {k : Nat} {x y z : Int} (hx : Sg k x) (hy : Sg k y) (hz : Sg k z) : Sg k (x3 x y z) := by
  unfold Sg
  rw [x3_div]
  unfold Sg at hx hy hz
  rcases hx with a | a <;> rcases hy with b | b <;> rcases hz with c | c <;> rw [a, b, c] <;> decide
theorem sg_mj {k : Nat} {x y z : Int} (hx : Sg k x) (hy : Sg k y) (hz : Sg k z) : Sg k (mj x y z) := by
  unfold Sg
  rw [mj_div]
  unfold Sg at hx hy hz
  rcases hx with a | a <;> rcases hy with b | b <;> rcases hz with c | c <;> rw [a, b, c] <;> decide
theorem sum_sg : ∀ (k : Nat) (x y z : Int), Sg k x → Sg k y → Sg k z → x3 x y z + 2 * mj x y z = x + y + z
  | 0, x, y, z, hx, hy, hz => by
    unfold Sg at hx hy hz
    simp only [Int.pow_zero, Int.ediv_one] at hx hy hz
    rcases hx with a | a <;> rcases hy with b | b <;> rcases hz with c | c <;> subst a <;> subst b <;> subst c <;> decide
  | k + 1, x, y, z, hx, hy, hz => by
    have sh : ∀ {x : Int}, Sg (k + 1) x → Sg k (x / 2) := fun {x} h => by
      unfold Sg at h ⊢
      rw [Int.ediv_ediv_of_nonneg (by decide), show (2 : Int) * 2 ^ k = 2 ^ (k + 1) by rw [pow_s]; omega]
      exact h
    have ih := sum_sg k (x / 2) (y / 2) (z / 2) (sh hx) (sh hy) (sh hz)
    obtain ⟨a1, a2⟩ := x3_step x y z
    obtain ⟨b1, b2⟩ := mj_step x y z
    omega
theorem sg_ex (x : Int) : Sg x.natAbs x := by
  rw [sg_iff]
  have h : x.natAbs < 2 ^ x.natAbs := Nat.lt_two_pow_self
  have c : ((2 ^ x.natAbs : Nat) : Int) = (2 : Int) ^ x.natAbs := PySem.W.kbt_cast _
  omega
theorem sg_mono {j k : Nat} {x : Int} (h : Sg j x) (l : j ≤ k) : Sg k x := by
  rw [sg_iff] at h ⊢
  have := pow_le' l
  omega
theorem sum3 (x y z : Int) : 2 * mj x y z = x + y + z - x3 x y z := by
  have := sum_sg (x.natAbs + y.natAbs + z.natAbs) x y z (sg_mono (sg_ex x) (by omega)) (sg_mono (sg_ex y) (by omega)) (sg_mono (sg_ex z) (by omega))
  omega
/-- a number by its two hundred and sixty bits -/
theorem back {w x : Int} (h1 : -(2 ^ 259) ≤ x) (h2 : x < 2 ^ 259) (hw : w = x % 2 ^ 260) : (if w / 2 ^ 259 = 1 then w - 2 ^ 260 else w) = x := by
  have h : (2 : Int) ^ 260 = 2 ^ 259 * 2 := pow_s 259
  rw [h] at hw ⊢
  generalize (2 : Int) ^ 259 = q at *
  have hq : 0 < q := by omega
  by_cases c : 0 ≤ x
  · rw [Int.emod_eq_of_lt c (by omega)] at hw
    subst hw
    rw [Int.ediv_eq_zero_of_lt c h2, if_neg (by decide)]
  · have e : x % (q * 2) = x + q * 2 := by
      rw [← Int.add_emod_right, Int.emod_eq_of_lt (by omega) (by omega)]
    rw [e] at hw
    have d : w / q = 1 := by
      rw [show w = (x + q) + 1 * q by omega, Int.add_mul_ediv_right _ _ (by omega), Int.ediv_eq_zero_of_lt (by omega) (by omega)]
      rfl
    rw [d, if_pos rfl]
    omega
/-! ### levels -/
def at3 (r : List Int) (j : Nat) : Int := r.getD j 0
def trip (r : List Int) (j : Nat) : List Int := [x3 (at3 r (3 * j)) (at3 r (3 * j + 1)) (at3 r (3 * j + 2)), at3 r (3 * j) + at3 r (3 * j + 1) + at3 r (3 * j + 2) - x3 (at3 r (3 * j)) (at3 r (3 * j + 1)) (at3 r (3 * j + 2))]
def acc (r : List Int) : Nat → List Int
  | 0 => []
  | j + 1 => acc r j ++ trip r j
def lv (r : List Int) : List Int := acc r (r.length / 3) ++ r.drop (r.length / 3 * 3)
theorem acc_len (r : List Int) : ∀ j, (acc r j).length = 2 * j
  | 0 => rfl
  | j + 1 => by
    show (acc r j ++ trip r j).length = _
    rw [List.length_append, acc_len r j]
    show 2 * j + 2 = _
    omega
theorem lv_len (r : List Int) : (lv r).length = 2 * (r.length / 3) + (r.length - r.length / 3 * 3) := by
  unfold lv
  rw [List.length_append, acc_len, List.length_drop]
theorem at3_get {r : List Int} {j : Nat} (h : j < r.length) : r[j]? = some (at3 r j) := by
  unfold at3
  rw [show r.getD j 0 = r[j] by simp [List.getD, List.getElem?_eq_getElem h]]
  exact List.getElem?_eq_getElem h
theorem take_s {r : List Int} {j : Nat} (h : j < r.length) : (r.take (j + 1)).sum = (r.take j).sum + at3 r j := by
  rw [List.take_add_one, at3_get h, List.sum_append]
  show _ + ([at3 r j] : List Int).sum = _
  rw [List.sum_cons, List.sum_nil]
  omega
theorem acc_sum (r : List Int) : ∀ j, 3 * j ≤ r.length → (acc r j).sum = (r.take (3 * j)).sum
  | 0, _ => rfl
  | j + 1, h => by
    show (acc r j ++ trip r j).sum = _
    rw [List.sum_append, acc_sum r j (by omega), show 3 * (j + 1) = 3 * j + 1 + 1 + 1 by omega, take_s (by omega), take_s (by omega), take_s (by omega)]
    unfold trip
    rw [List.sum_cons, List.sum_cons, List.sum_nil]
    omega
theorem lv_sum (r : List Int) : (lv r).sum = r.sum := by
  unfold lv
  rw [List.sum_append, acc_sum r _ (by omega), show r.length / 3 * 3 = 3 * (r.length / 3) by omega]
  rw [← List.sum_append, List.take_append_drop]
def lvn (r : List Int) : Nat → List Int
  | 0 => r
  | i + 1 => lv (lvn r i)
theorem lvn_sum (r : List Int) : ∀ i, (lvn r i).sum = r.sum
  | 0 => rfl
  | i + 1 => by
    show (lv (lvn r i)).sum = _
    rw [lv_sum, lvn_sum r i]
/-- n is where the levels end -/
def Ends (r : List Int) (n : Nat) : Prop := (∀ i, i < n → 2 < (lvn r i).length) ∧ (lvn r n).length ≤ 2
theorem ends_one {r : List Int} {n m : Nat} (h1 : Ends r n) (h2 : Ends r m) : n = m := by
  rcases Nat.lt_trichotomy n m with h | h | h
  · have := h2.1 n h
    have := h1.2
    omega
  · exact h
  · have := h1.1 m h
    have := h2.2
    omega
theorem lvn_len (r : List Int) : ∀ n, (∀ i, i < n → 2 < (lvn r i).length) → (lvn r n).length + n ≤ r.length
  | 0, _ => Nat.le_refl _
  | n + 1, h => by
    have ih := lvn_len r n fun i hi => h i (by omega)
    have h1 := h n (by omega)
    have h2 := lv_len (lvn r n)
    show (lv (lvn r n)).length + (n + 1) ≤ _
    omega
end GM
namespace GZ
open PySem PySem.Spec PyProof.Rows L2
/-! ### xs.extend(a tuple) -/
section
variable {X : Cx}
theorem ext_tup {prog : Program} {w : World} {A : Around} {s : Shared} {Q : Value → Shared → Prop} {E : Value → Shared → Prop} {l b : Addr} {its : List Value} {n : Nat} {o : Obj} {items : Array Value} {m : Nat} (hS : s.heap.get? l = some { cls := .type "list", data := .seq its.toArray n })
    (ho : s.heap.get? b = some o) (hc : o.cls = .type "tuple") (hd : o.data = .seq items m) (hz : its.length + items.size ≤ sizeLine)
    (hQ : Q .none { s with heap := s.heap.update l (Obj.mapSeq (· ++ items)) }) : wpAny (model prog w) A (call (.builtin "list.extend") [.ref l, .ref b]) Q E s := by
  refine wpAny_call_entry PySem.F.slot_list_extend ⟨_, hS, rfl⟩ PySem.F.entry_list_extend ?_ (PySem.F.args_list_extend_2 _ _)
  show wpAny _ _ (Builtin.List.listExtendWith (.ref l) (.ref b) .none) _ _ s
  unfold Builtin.List.listExtendWith
  refine wpAny_bind (wpAny_typeOf ⟨o, ho, hc⟩ ?_)
  have h1 : (Builtin.List.listSameRef (.ref l) (.ref b) || Value.type "tuple" == Value.type "list" || Value.type "tuple" == Value.type "tuple") = true := by simp
  simp only [h1, if_true]
  refine wpAny_bind ?_
  unfold Builtin.List.listItems
  refine wpAny_bind (wpAny_seqItems ho hd (wpAny_pure ?_))
  refine wpAny_bind ?_
  refine wpAny_bind (wpAny_seqItems hS rfl (wpAny_pure ?_))
  have hl2 : (!its.toArray.isEmpty && Builtin.List.listTooLong (its.toArray.size + items.size)) = false := by
    rw [notLongL (by rw [List.size_toArray]; exact hz), Bool.and_false]
  rw [if_neg (by rw [hl2]; exact Bool.false_ne_true)]
  show wpAny _ _ (updateSeq l (· ++ items) >>= fun _ => PySem.ret Value.none) _ _ s
  refine wpAny_bind (wpAny_updateSeq hS rfl ?_ (hz := by rw [List.size_toArray]; omega) (_hz' := by rw [Array.size_append, List.size_toArray]; omega))
  exact wpAny_pure ⟨_, rfl, hQ⟩
theorem mt_extT : MtM X "list.extend" (fun x vs H Q => ∃ l b xs zs, x = .ref l ∧ vs = [.ref b] ∧ H l = some (.lst xs) ∧ SqT X.K H b zs ∧ xs.length + zs.length ≤ sizeLine ∧ Q .non (upd H l (.lst (xs ++ zs)))) := by
  intro pins s σ H x vs v us Q I rx rv h
  obtain ⟨l, b, xs, zs, rfl, rfl, hH, hB, hz, q⟩ := h
  cases rx
  obtain ⟨u, rfl, ru⟩ := rv.one
  cases ru
  obtain ⟨z, its, n, r, hl, e⟩ := I.lstM hH
  obtain ⟨its2, r2, ⟨o2, eo2, hc2, n2, hd2⟩, hz2⟩ := I.tuple hB
  have hl2 := r2.length
  refine ext_tup e eo2 hc2 hd2 (by rw [List.size_toArray, ← hl, ← hl2]; exact hz) ?_
  refine ⟨.non, _, I.lset (its' := its ++ its2) hH e (by simp) (r.append r2) ?_, rfl, q⟩
  rw [List.length_append]
  omega
end
section
variable {P : Program} {w : World} {K : PySem.W.Frag} {mg : Str → Option Value} {base : Heap}
theorem cutP {A B : Prop} (h1 : A) (h2 : A → B) : B := h2 h1
theorem gB {i : Nat} {v u : Bool} {σ : L2.St} {H : Hp} {D : L2.St → Hp → Prop} (e : v = u) (h : gName i (V.bl u) σ H D) : gName i (V.bl v) σ H D := e ▸ h
theorem gI {i : Nat} {v u : Int} {σ : L2.St} {H : Hp} {D : L2.St → Hp → Prop} (e : v = u) (h : gName i (V.int u) σ H D) : gName i (V.int v) σ H D := e ▸ h
theorem dvi (a b : Int) : decide (V.int a = V.int b) = decide (a = b) := by
  by_cases c : a = b
  · rw [decide_eq_true c, decide_eq_true (congrArg V.int c)]
  · rw [decide_eq_false c, decide_eq_false (fun z => c (V.int.inj z))]
theorem dvs (a b : Str) : decide (V.str a = V.str b) = decide (a = b) := by
  by_cases c : a = b
  · rw [decide_eq_true c, decide_eq_true (congrArg V.str c)]
  · rw [decide_eq_false c, decide_eq_false (fun z => c (V.str.inj z))]
theorem bx1 {c : Int} {H : Hp} {b : Addr} (h : BoxAt (c + 2 ^ (1 - 1)) H b) : BoxAt (c + 1) H b := h
theorem Keep.none {b p : Addr} {H H' : Hp} (k : Keep b H H') (n : p ≠ b) (h : H' p = none) : H p = none := by
  cases q : H p with
  | none => rfl
  | some o =>
    rw [k p o q n] at h
    cases h
theorem dp_ints {H : Hp} : ∀ ds : List Int, DpAll K H (ds.map V.int) (ds.map PyData.int)
  | [] => .nil
  | d :: ds => .cons (.int d) (dp_ints ds)
theorem lv_ints {n : Nat} (ds : List Int) (h : ds.length ≤ 1000) : Lv (n + 1) (.list (ds.map PyData.int)) := by
  refine ⟨by rw [List.length_map]; omega, fun d hd => ?_⟩
  obtain ⟨x, _, rfl⟩ := List.mem_map.mp hd
  cases n <;> trivial
theorem eqv_ints (ds : List Int) : PyData.eqv (.list (ds.map PyData.int)) (.list (ds.map PyData.int)) = true := PySem.SeqAt.eqv_refl _ (PySem.SeqAt.canLay_of_shaped (PySem.W.shaped_ints ds))
structure LL (K : PySem.W.Frag) (mg : Str → Option Value) (a1 a2 a3 a4 a5 a6 a7 a8 a9 a10 a11 : Addr) (l1 l2 l3 l4 l5 l6 l7 l8 l9 l10 l11 : FuncData) : Prop where
  F_saved : Fun K "saved" "saved" s_saved a1 l1
  b_saved : Binds K l1 ["x", "y", "z"] []
  m_saved : mg "saved" = some (.ref a1)
  F_levels_of : Fun K "levels_of" "levels_of" s_levels_of a2 l2
  b_levels_of : Binds K l2 ["rows"] []
  m_levels_of : mg "levels_of" = some (.ref a2)
  F_level_behind : Fun K "level_behind" "level_behind" s_level_behind a3 l3
  b_level_behind : Binds K l3 ["rows"] []
  m_level_behind : mg "level_behind" = some (.ref a3)
  F__law_box : Fun K "_law_box" "_law_box" sBox a4 l4
  b__law_box : Binds K l4 ["_law_script", "_law_k"] []
  m__law_box : mg "_law_box" = some (.ref a4)
  F__law_take : Fun K "_law_take" "_law_take" sTake a5 l5
  b__law_take : Binds K l5 ["_law_box_here", "_law_size"] []
  m__law_take : mg "_law_take" = some (.ref a5)
  F__law_folded : Fun K "_law_folded" "_law_folded" sFolded a6 l6
  b__law_folded : Binds K l6 ["_law_script", "_law_size"] []
  m__law_folded : mg "_law_folded" = some (.ref a6)
  F__law_same : Fun K "_law_same" "_law_same" sSame a7 l7
  b__law_same : Binds K l7 ["_law_found", "_law_due"] []
  m__law_same : mg "_law_same" = some (.ref a7)
  F__law_number : Fun K "_law_number" "_law_number" s__law_number a8 l8
  b__law_number : Binds K l8 ["_law_box_here"] []
  m__law_number : mg "_law_number" = some (.ref a8)
  F__law_saved : Fun K "_law_saved" "_law_saved" s__law_saved a9 l9
  b__law_saved : Binds K l9 ["_law_x", "_law_y", "_law_z"] []
  m__law_saved : mg "_law_saved" = some (.ref a9)
  F__law_levels : Fun K "_law_levels" "_law_levels" s__law_levels a10 l10
  b__law_levels : Binds K l10 ["_law_rows"] []
  m__law_levels : mg "_law_levels" = some (.ref a10)
  F__law_right : Fun K "_law_right" "_law_right" s__law_right a11 l11
  b__law_right : Binds K l11 ["_law_box_here"] []
  m__law_right : mg "_law_right" = some (.ref a11)
variable {a1 a2 a3 a4 a5 a6 a7 a8 a9 a10 a11 : Addr} {l1 l2 l3 l4 l5 l6 l7 l8 l9 l10 l11 : FuncData}

theorem bx9 {c : Int} {H : Hp} {b : Addr} (h : BoxAt (c + 2 ^ (9 - 1)) H b) : BoxAt (c + 256) H b := h
def Sq (K : PySem.W.Frag) (H : Hp) (a : Addr) (ds : List Int) : Prop := SqL K H a (ds.map V.int) ∨ SqT K H a (ds.map V.int)
theorem Sq.same {H H' : Hp} {a : Addr} {ds : List Int} (h : Sq K H a ds) (s : Same H H') : Sq K H' a ds := by
  rcases h with h | h
  · exact .inl (s.seq h)
  · exact .inr (Same.seqT s h)
/-! ### saved -/
def spSaved : Sp := fun vs H Q _ => ∃ x y z : Int, vs = [.int x, .int y, .int z] ∧ ∀ p, H p = none → Q (.ref p) (upd H p (.tup [.int (GM.x3 x y z), .int (x + y + z - GM.x3 x y z)]))
theorem ok_saved (B : Bl mg) (L : LL K mg a1 a2 a3 a4 a5 a6 a7 a8 a9 a10 a11 l1 l2 l3 l4 l5 l6 l7 l8 l9 l10 l11) : FnOk P w K mg base CX0 1 a1 l1 ["x", "y", "z"] spSaved := by
  refine L.F_saved.ok sc_saved (fun vs H Q E h => ?_) (fun cdv A outer s H vs Q E hr h => ?_)
  · obtain ⟨x, y, z, rfl, _⟩ := h
    rfl
  obtain ⟨x, y, z, rfl, q⟩ := h
  refine ⟨_, (pss_one (ps_ret (pe_tup (pa_cons (pe_op op_xor (pe_op op_xor (pv 0) (pv 1)) (pv 2)) (pa_cons (pe_op op_mul pe_int (pe_op op_or (pe_op op_or (pe_op op_and (pv 0) (pv 1)) (pe_op op_and (pv 0) (pv 2))) (pe_op op_and (pv 1) (pv 2)))) pa_nil))))), ?_⟩
  refine ⟨_, rfl, _, rfl, _, _, rfl, rfl, _, rfl, _, _, rfl, rfl, _, rfl, _, rfl, _, _, rfl, rfl, _, rfl, _, rfl, _, _, rfl, rfl, _, _, rfl, rfl, _, rfl, _, rfl, _, _, rfl, rfl, _, _, rfl, rfl, _, _, rfl, rfl, .inl ⟨by decide, by decide⟩, (by show 2 ≤ sizeLine; decide), fun p np => ?_⟩
  have q' := q p np
  rw [← GM.sum3] at q'
  exact q'
/-! ### level_behind -/
def spBehind : Sp := fun vs H Q _ => ∃ (a : Addr) (r : List Int), vs = [.ref a] ∧ H a = some (.lst (r.map V.int)) ∧ r.length ≤ 198 ∧
  ∀ p H', H p = none → Same H H' → H' p = some (.lst ((GM.lv r).map V.int)) → Q (.ref p) H'
theorem at_get3 {r : List Int} {i : Nat} (h : i < r.length) : atI (r.map V.int) (i : Int) = some (.int (GM.at3 r i)) := by
  refine atI_nat ?_
  rw [List.getElem?_map, GM.at3_get h]
  rfl
theorem cut_hi (r : List Int) (m : Nat) : cutV (r.map V.int) (some (m : Int)) none = (r.drop m).map V.int := by
  unfold cutV
  rw [HT.sIx_nat, HT.sIx_none, List.length_map, ← List.map_drop, ← List.map_take]
  congr 1
  by_cases c : m ≤ r.length
  · rw [Nat.min_eq_left c, List.take_of_length_le (by rw [List.length_drop]; exact Nat.le_refl _)]
  · rw [List.drop_of_length_le (by omega), List.drop_of_length_le (by omega), List.take_nil]
theorem rg3_all : ((List.range 67).all fun k => decide (Builtin.Range.small 0 (3 * (k : Int)) 3 = true) && decide (Builtin.Range.rangeSize 0 (3 * (k : Int)) 3 = k)) = true := by decide +kernel
theorem rg3 {k : Nat} (h : k ≤ 66) : RgC 0 ((3 * k : Nat) : Int) 3 k := by
  have a := List.all_eq_true.mp rg3_all k (List.mem_range.mpr (by omega))
  rw [Bool.and_eq_true] at a
  exact ⟨by decide, by decide, of_decide_eq_true a.1, of_decide_eq_true a.2⟩
theorem lv_eq (r : List Int) : (GM.lv r).map V.int = (GM.acc r (r.length / 3)).map V.int ++ (r.drop (3 * (r.length / 3))).map V.int := by
  unfold GM.lv
  rw [List.map_append, Nat.mul_comm]
theorem ok_level_behind (B : Bl mg) (L : LL K mg a1 a2 a3 a4 a5 a6 a7 a8 a9 a10 a11 l1 l2 l3 l4 l5 l6 l7 l8 l9 l10 l11) : FnOk P w K mg base CX0 2 a3 l3 ["rows"] spBehind := by
  have G_saved : FnOk P w K mg base CX0 1 a1 l1 ["x", "y", "z"] spSaved := (ok_saved B L).mono (by decide)
  refine L.F_level_behind.ok sc_level_behind (fun vs H Q E h => ?_) (fun cdv A outer s H vs Q E hr h => ?_)
  · obtain ⟨a, r, rfl, _⟩ := h
    rfl
  obtain ⟨a, r, rfl, ha, hl, q⟩ := h
  refine ⟨_, (pss_cons (ps_set (i := 1) sc_level_behind.nd rfl (.inl rfl) (pe_op op_mul (pe_op op_fdiv (pe_callB call_len_seq (by rfl) B.len PySem.boot_len (pa_cons (pv 0) pa_nil)) pe_int) pe_int))
    (pss_cons (ps_set (i := 2) sc_level_behind.nd rfl (.inl rfl) (pe_lst pa_nil))
    (pss_cons (ps_for PassesOwn.never rfl (pi_range3 (by rfl) B.range (pa_cons pe_int (pa_cons (pv 1) (pa_cons pe_int pa_nil)))) (pg_name (i := 3) sc_level_behind.nd rfl (.inl rfl)) (pss_one (ps_expr (pe_bm PySem.F.plainAttrs_list PySem.F.slot_list_extend PySem.F.type_list_extend mt_extT (pv 2) (pa_cons (pe_call G_saved hr (by rfl) L.m_saved L.F_saved.kp L.b_saved .nil pass0 (pa_cons (pe_ix ix_list (pv 0) (pv 3) (fun _ _ => rfl)) (pa_cons (pe_ix ix_list (pv 0) (pe_op op_add (pv 3) pe_int) (fun _ _ => rfl)) (pa_cons (pe_ix ix_list (pv 0) (pe_op op_add (pv 3) pe_int) (fun _ _ => rfl)) pa_nil)))) pa_nil)))))
    (pss_one (ps_ret (pe_op op_cat (pv 2) (pe_slice sl_list (pv 0) (po_some (pv 1)) po_none))))))), ?_⟩
  have hb : (((r.map V.int).length : Nat) : Int) / 3 * 3 = ((3 * (r.length / 3) : Nat) : Int) := by
    rw [List.length_map]
    omega
  refine ⟨_, rfl, a, _, rfl, .inl (SqL.of ha), _, _, rfl, rfl, ⟨by decide, by decide⟩, _, _, rfl, rfl, .inr ⟨by decide, by decide⟩, ?_⟩
  refine ⟨Nat.zero_le _, fun o no => ?_⟩
  refine ⟨_, rfl, 0, ((3 * (r.length / 3) : Nat) : Int), 3, r.length / 3, congrArg (fun z => [V.int 0, V.int z, V.int 3]) hb, rg3 (by omega), ?_⟩
  refine for_it walk_rangeC (fun i σ H3 => ∃ (y3 : Option V), σ = [some (.ref a), some (.int ((((r.map V.int).length : Nat) : Int) / 3 * 3)), some (.ref o), y3] ∧ Same H H3 ∧ H3 o = some (.lst ((GM.acc r i).map V.int))) ⟨none, rfl, same_upd no, (upd_same : (upd H o (.lst [])) o = some (.lst []))⟩ (fun _ _ _ _ _ => trivial) ?_ ?_
  · rintro i v σ H3 H4 hi ⟨y3, rfl, s3, eo⟩ ⟨rfl, rfl⟩
    show gName _ (V.int (0 + (i : Nat) * 3)) _ _ _
    rw [show (0 : Int) + (i : Nat) * 3 = ((3 * i : Nat) : Int) by omega]
    have ha3 := s3 _ _ ha
    refine ⟨_, rfl, .inl ⟨rfl, _, SqL.of eo⟩, _, rfl, _, rfl, a, _, _, _, rfl, rfl, SqL.of ha3, at_get3 (by omega), _, rfl, _, rfl, _, _, rfl, rfl, a, _, _, _, rfl, rfl, SqL.of ha3, at_get3 (i := 3 * i + 1) (by omega), _, rfl, _, rfl, _, _, rfl, rfl, a, _, _, _, rfl, rfl, SqL.of ha3, at_get3 (i := 3 * i + 2) (by omega), _, _, _, rfl, fun p np => ?_⟩
    have sp := same_upd (o := .tup [.int (GM.x3 (GM.at3 r (3 * i)) (GM.at3 r (3 * i + 1)) (GM.at3 r (3 * i + 2))), .int (GM.at3 r (3 * i) + GM.at3 r (3 * i + 1) + GM.at3 r (3 * i + 2) - GM.x3 (GM.at3 r (3 * i)) (GM.at3 r (3 * i + 1)) (GM.at3 r (3 * i + 2)))]) np
    refine ⟨o, p, _, _, rfl, rfl, sp _ _ eo, .inl (.inl upd_same), ?_, _, rfl, fun x u e => ?_, ?_⟩
    · rw [List.length_map, GM.acc_len]
      exact Nat.le_of_lt (small1000 (by show 2 * i + 2 ≤ 1000; omega))
    · rw [upd_ne (ne_of_none e no)]
      exact sp _ _ (s3 _ _ e)
    · rw [upd_same]
      show some (HO.lst ((GM.acc r i).map V.int ++ (GM.trip r i).map V.int)) = some (HO.lst ((GM.acc r i ++ GM.trip r i).map V.int))
      rw [List.map_append]
  · rintro σ H3 ⟨y3, rfl, s3, eo⟩
    have ha3 := s3 _ _ ha
    refine ⟨_, rfl, _, rfl, _, rfl, _, congrArg V.int hb, a, _, rfl, SqL.of ha3, fun c nc => ?_⟩
    rw [cut_hi]
    have sc := same_upd (o := .lst ((r.drop (3 * (r.length / 3))).map V.int)) nc
    refine ⟨o, c, _, _, rfl, rfl, sc _ _ eo, upd_same, ?_, fun p np => ?_⟩
    · rw [List.length_map, List.length_map, GM.acc_len, List.length_drop]
      exact Nat.le_of_lt (small1000 (by omega))
    refine q p _ (s3.free (sc.free np)) (s3.trans (sc.trans (same_upd np))) ?_
    rw [upd_same, lv_eq]
/-! ### levels_of -/
/-- at L0 stands the list of the levels of r, n behind the first -/
def LvAt (H0 H : Hp) (L0 : Addr) (r : List Int) (n : Nat) (pre : List (Addr × List Int)) (x : Addr) : Prop :=
  H L0 = some (.lst (pre.map (fun q => V.ref q.1) ++ [V.ref x])) ∧ (∀ q ∈ pre ++ [(x, GM.lvn r n)], H q.1 = some (.lst (q.2.map V.int)) ∧ H0 q.1 = none ∧ q.1 ≠ L0) ∧ pre.map Prod.snd = (List.range n).map (GM.lvn r) ∧ (∀ i, i < n → 2 < (GM.lvn r i).length)
theorem LvAt.last {H0 H : Hp} {L0 : Addr} {r : List Int} {n : Nat} {pre : List (Addr × List Int)} {x : Addr} (h : LvAt H0 H L0 r n pre x) : H x = some (.lst ((GM.lvn r n).map V.int)) ∧ H0 x = none ∧ x ≠ L0 :=
  h.2.1 (x, GM.lvn r n) (List.mem_append_right _ List.mem_cons_self)
theorem LvAt.same {H0 H H' : Hp} {L0 : Addr} {r : List Int} {n : Nat} {pre : List (Addr × List Int)} {x : Addr} (h : LvAt H0 H L0 r n pre x) (s : Same H H') : LvAt H0 H' L0 r n pre x :=
  ⟨s _ _ h.1, fun q hq => ⟨s _ _ (h.2.1 q hq).1, (h.2.1 q hq).2⟩, h.2.2⟩
theorem LvAt.len {H0 H : Hp} {L0 : Addr} {r : List Int} {n : Nat} {pre : List (Addr × List Int)} {x : Addr} (h : LvAt H0 H L0 r n pre x) : pre.length = n := by
  have := congrArg List.length h.2.2.1
  rw [List.length_map, List.length_map, List.length_range] at this
  exact this
/-- one level more -/
theorem LvAt.next {H0 H H' : Hp} {L0 : Addr} {r : List Int} {n : Nat} {pre : List (Addr × List Int)} {x y : Addr} (h : LvAt H0 H L0 r n pre x) (s : Same H H') (s0 : Same H0 H) (hl : 2 < (GM.lvn r n).length) (ny : H y = none) (ey : H' y = some (.lst ((GM.lv (GM.lvn r n)).map V.int))) :
    LvAt H0 (upd H' L0 (.lst ((pre.map (fun q => V.ref q.1) ++ [V.ref x]) ++ [V.ref y]))) L0 r (n + 1) (pre ++ [(x, GM.lvn r n)]) y := by
  have nyL : y ≠ L0 := (ne_of_none h.1 ny).symm
  refine ⟨?_, fun q hq => ?_, ?_, fun i hi => ?_⟩
  · rw [upd_same, List.map_append]
    rfl
  · rcases List.mem_append.mp hq with e | e
    · obtain ⟨a1, a2, a3⟩ := h.2.1 q e
      exact ⟨by rw [upd_ne a3]; exact s _ _ a1, a2, a3⟩
    · rw [List.mem_singleton] at e
      subst e
      exact ⟨by rw [upd_ne nyL]; exact ey, s0.free ny, nyL⟩
  · rw [List.map_append, h.2.2.1, List.range_succ, List.map_append]
    rfl
  · by_cases c : i < n
    · exact h.2.2.2 i c
    · rw [show i = n by omega]
      exact hl
def spLev (K : PySem.W.Frag) : Sp := fun vs H Q _ => ∃ (a : Addr) (r : List Int), vs = [.ref a] ∧ Sq K H a r ∧ r.length ≤ 101 ∧
  ∀ p H' n pre x, H p = none → Same H H' → LvAt H H' p r n pre x → (GM.lvn r n).length ≤ 2 → Q (.ref p) H'
theorem ok_levels_of (B : Bl mg) (L : LL K mg a1 a2 a3 a4 a5 a6 a7 a8 a9 a10 a11 l1 l2 l3 l4 l5 l6 l7 l8 l9 l10 l11) : FnOk P w K mg base CX0 3 a2 l2 ["rows"] (spLev K) := by
  have G_level_behind : FnOk P w K mg base CX0 2 a3 l3 ["rows"] spBehind := (ok_level_behind B L).mono (by decide)
  refine L.F_levels_of.ok sc_levels_of (fun vs H Q E h => ?_) (fun cdv A outer s H vs Q E hr h => ?_)
  · obtain ⟨a, r, rfl, _⟩ := h
    rfl
  obtain ⟨a, r, rfl, ha, hl, q⟩ := h
  refine ⟨_, (pss_cons (ps_set (i := 1) sc_levels_of.nd rfl (.inl rfl) (pe_lst (pa_cons (pe_callTy call_list_of (by rfl) B.list PyProof.Rows.boot_list (pa_cons (pv 0) pa_nil)) pa_nil)))
    (pss_cons (ps_while PassesOwn.never (pt_cmpR op_gt (pe_callB call_len_seq (by rfl) B.len PySem.boot_len (pa_cons (pe_ix ix_list (pv 1) (pe_un un_neg pe_int) (fun _ _ => rfl)) pa_nil)) pe_int (nomark _)) (pss_one (ps_expr (pe_bm PySem.F.plainAttrs_list PySem.F.slot_list_append PySem.F.type_list_append mt_append (pv 1) (pa_cons (pe_call G_level_behind hr (by rfl) L.m_level_behind L.F_level_behind.kp L.b_level_behind .nil pass0 (pa_cons (pe_ix ix_list (pv 1) (pe_un un_neg pe_int) (fun _ _ => rfl)) pa_nil)) pa_nil)))))
    (pss_one (ps_ret (pv 1))))), ?_⟩
  refine ⟨_, rfl, a, _, rfl, ha, fun l0 nl0 => ⟨(by show 1 ≤ sizeLine; decide), fun L0 nL0 => ?_⟩⟩
  have s0 := same_upd (o := .lst (r.map V.int)) nl0
  have s1 := s0.trans (same_upd (o := .lst [.ref l0]) nL0)
  have ne0 : l0 ≠ L0 := fun e => by
    subst e
    rw [upd_same] at nL0
    cases nL0
  have nLH : H L0 = none := s0.free nL0
  refine ⟨fun m σ H5 => ∃ (n : Nat) (pre : List (Addr × List Int)) (x : Addr), σ = [some (.ref a), some (.ref L0)] ∧ Same H H5 ∧ LvAt H H5 L0 r n pre x ∧ m + n = 300, ⟨300, 0, [], l0, rfl, s1, ⟨upd_same, fun q hq => ?_, rfl, fun i hi => absurd hi (Nat.not_lt_zero i)⟩, rfl⟩, ?_⟩
  · rw [List.nil_append, List.mem_singleton] at hq
    subst hq
    exact ⟨by rw [upd_ne ne0]; exact upd_same, nl0, ne0⟩
  rintro m σ H5 ⟨n, pre, x, rfl, s5, hL, hm⟩
  obtain ⟨ex, nx, nxL⟩ := hL.last
  have hln := GM.lvn_len r n hL.2.2.2
  refine ⟨_, rfl, _, rfl, L0, _, _, _, rfl, rfl, SqL.of hL.1, atI_last _ _, x, _, rfl, .inl (SqL.of ex), _, _, rfl, rfl, _, rfl, ite2 (fun c => ?_) (fun c => ?_)⟩
  · have c1 : (2 : Int) < (((GM.lvn r n).map V.int).length : Nat) := of_decide_eq_true c
    rw [List.length_map] at c1
    refine ⟨fun σ' H' => ∃ (pre : List (Addr × List Int)) (x : Addr), σ' = [some (.ref a), some (.ref L0)] ∧ Same H H' ∧ LvAt H H' L0 r (n + 1) pre x, fun σ' H' ⟨pre', x', e1, e2, e3⟩ => ⟨m - 1, by omega, n + 1, pre', x', e1, e2, e3, by omega⟩, ?_⟩
    refine ⟨_, rfl, .inl ⟨rfl, _, SqL.of hL.1⟩, _, rfl, _, rfl, L0, _, _, _, rfl, rfl, SqL.of hL.1, atI_last _ _, x, _, rfl, ex, by omega, fun y H6 ny s6 ey => ?_⟩
    refine ⟨L0, _, _, rfl, rfl, s6 _ _ hL.1, ?_, _, y, rfl, fun z u e => ?_, hL.next s6 s5 (by omega) ny ey⟩
    · rw [List.length_append, List.length_map, hL.len]
      exact small1000 (by show n + 1 ≤ 1000; omega)
    · rw [upd_ne (ne_of_none e nLH)]
      exact s6 _ _ (s5 _ _ e)
  · have c1 : ¬ (2 : Int) < (((GM.lvn r n).map V.int).length : Nat) := of_decide_eq_false (Bool.eq_false_iff.mpr c)
    rw [List.length_map] at c1
    exact ⟨_, rfl, q L0 H5 n pre x nLH s5 hL (by omega)⟩
/-! ### _law_levels -/
theorem drop3 {r : List Int} {i : Nat} (h : 3 * i + 2 < r.length) : (r.drop (3 * i)).take 3 = [GM.at3 r (3 * i), GM.at3 r (3 * i + 1), GM.at3 r (3 * i + 2)] := by
  have g : ∀ j, (hj : j < r.length) → r[j] = GM.at3 r j := fun j hj => by
    have := GM.at3_get hj
    rw [List.getElem?_eq_getElem hj] at this
    exact Option.some.inj this
  rw [List.drop_eq_getElem_cons (by omega), List.drop_eq_getElem_cons (by omega), List.drop_eq_getElem_cons (by omega), g _ (by omega), g _ (by omega), g _ (by omega)]
  rfl
theorem cut_3 {r : List Int} {i : Nat} (h : 3 * i + 2 < r.length) : cutV (r.map V.int) (some (3 * (i : Int))) (some (3 * (i : Int) + 3)) = [.int (GM.at3 r (3 * i)), .int (GM.at3 r (3 * i + 1)), .int (GM.at3 r (3 * i + 2))] := by
  rw [show 3 * (i : Int) + 3 = ((3 * i + 3 : Nat) : Int) by omega, show 3 * (i : Int) = ((3 * i : Nat) : Int) by omega]
  unfold cutV
  rw [HT.sIx_nat, HT.sIx_nat, List.length_map, ← List.map_drop, ← List.map_take, Nat.min_eq_left (by omega), Nat.min_eq_left (by omega), show 3 * i + 3 - 3 * i = 3 by omega, drop3 h]
  rfl
theorem ok__law_levels (B : Bl mg) (L : LL K mg a1 a2 a3 a4 a5 a6 a7 a8 a9 a10 a11 l1 l2 l3 l4 l5 l6 l7 l8 l9 l10 l11) : FnOk P w K mg base CX0 1 a10 l10 ["_law_rows"] (spLev K) := by
  refine L.F__law_levels.ok sc__law_levels (fun vs H Q E h => ?_) (fun cdv A outer s H vs Q E hr h => ?_)
  · obtain ⟨a, r, rfl, _⟩ := h
    rfl
  obtain ⟨a, r, rfl, ha, hl, q⟩ := h
  refine ⟨_, (pss_cons (ps_set (i := 1) sc__law_levels.nd rfl (.inl rfl) (pe_lst (pa_cons (pe_callTy call_list_of (by rfl) B.list PyProof.Rows.boot_list (pa_cons (pv 0) pa_nil)) pa_nil)))
    (pss_cons (ps_while PassesOwn.never (pt_cmpR op_gt (pe_callB call_len_seq (by rfl) B.len PySem.boot_len (pa_cons (pe_ix ix_list (pv 1) (pe_un un_neg pe_int) (fun _ _ => rfl)) pa_nil)) pe_int (nomark _)) (pss_cons (ps_par (by rfl) sc__law_levels.nd (i := 2) (j := 3) rfl rfl (by decide) rfl rfl (pa_cons (pe_ix ix_list (pv 1) (pe_un un_neg pe_int) (fun _ _ => rfl)) (pa_cons (pe_lst pa_nil) pa_nil)) (by rfl))
    (pss_cons (ps_for PassesOwn.never rfl (pi_range1 (by rfl) B.range (pa_cons (pe_op op_fdiv (pe_callB call_len_seq (by rfl) B.len PySem.boot_len (pa_cons (pv 2) pa_nil)) pe_int) pa_nil)) (pg_name (i := 4) sc__law_levels.nd rfl (.inl rfl)) (pss_cons (ps_asg (pe_slice sl_list (pv 2) (po_some (pe_op op_mul pe_int (pv 4))) (po_some (pe_op op_add (pe_op op_mul pe_int (pv 4)) pe_int))) (pg_unl rfl (pgs_cons (pg_name (i := 5) sc__law_levels.nd rfl (.inl rfl)) (pgs_cons (pg_name (i := 6) sc__law_levels.nd rfl (.inl rfl)) (pgs_cons (pg_name (i := 7) sc__law_levels.nd rfl (.inl rfl)) pgs_nil)))))
    (pss_one (ps_expr (pe_bm PySem.F.plainAttrs_list PySem.F.slot_list_extend PySem.F.type_list_extend mt_extend (pv 3) (pa_cons (pe_lst (pa_cons (pe_op op_xor (pe_op op_xor (pv 5) (pv 6)) (pv 7)) (pa_cons (pe_op op_sub (pe_op op_add (pe_op op_add (pv 5) (pv 6)) (pv 7)) (pe_op op_xor (pe_op op_xor (pv 5) (pv 6)) (pv 7))) pa_nil))) pa_nil))))))
    (pss_one (ps_expr (pe_bm PySem.F.plainAttrs_list PySem.F.slot_list_append PySem.F.type_list_append mt_append (pv 1) (pa_cons (pe_op op_cat (pv 3) (pe_slice sl_list (pv 2) (po_some (pe_op op_sub (pe_callB call_len_seq (by rfl) B.len PySem.boot_len (pa_cons (pv 2) pa_nil)) (pe_op op_mod (pe_callB call_len_seq (by rfl) B.len PySem.boot_len (pa_cons (pv 2) pa_nil)) pe_int))) po_none)) pa_nil)))))))
    (pss_one (ps_ret (pv 1))))), ?_⟩
  refine ⟨_, rfl, a, _, rfl, ha, fun l0 nl0 => ⟨(by show 1 ≤ sizeLine; decide), fun L0 nL0 => ?_⟩⟩
  have s0 := same_upd (o := .lst (r.map V.int)) nl0
  have s1 := s0.trans (same_upd (o := .lst [.ref l0]) nL0)
  have ne0 : l0 ≠ L0 := fun e => by
    subst e
    rw [upd_same] at nL0
    cases nL0
  have nLH : H L0 = none := s0.free nL0
  refine ⟨fun m σ H5 => ∃ (n : Nat) (pre : List (Addr × List Int)) (x : Addr) (y2 y3 y4 y5 y6 y7 : Option V), σ = [some (.ref a), some (.ref L0), y2, y3, y4, y5, y6, y7] ∧ Same H H5 ∧ LvAt H H5 L0 r n pre x ∧ m + n = 300, ⟨300, 0, [], l0, none, none, none, none, none, none, rfl, s1, ⟨upd_same, fun q hq => ?_, rfl, fun i hi => absurd hi (Nat.not_lt_zero i)⟩, rfl⟩, ?_⟩
  · rw [List.nil_append, List.mem_singleton] at hq
    subst hq
    exact ⟨by rw [upd_ne ne0]; exact upd_same, nl0, ne0⟩
  rintro m σ H5 ⟨n, pre, x, y2, y3, y4, y5, y6, y7, rfl, s5, hL, hm⟩
  obtain ⟨ex, nx, nxL⟩ := hL.last
  have hln := GM.lvn_len r n hL.2.2.2
  refine ⟨_, rfl, _, rfl, L0, _, _, _, rfl, rfl, SqL.of hL.1, atI_last _ _, x, _, rfl, .inl (SqL.of ex), _, _, rfl, rfl, _, rfl, ite2 (fun c => ?_) (fun c => ?_)⟩
  · have c1 : (2 : Int) < (((GM.lvn r n).map V.int).length : Nat) := of_decide_eq_true c
    rw [List.length_map] at c1
    refine ⟨fun σ' H' => ∃ (pre : List (Addr × List Int)) (x : Addr) (y2 y3 y4 y5 y6 y7 : Option V), σ' = [some (.ref a), some (.ref L0), y2, y3, y4, y5, y6, y7] ∧ Same H H' ∧ LvAt H H' L0 r (n + 1) pre x, fun σ' H' ⟨pre', x', z2, z3, z4, z5, z6, z7, e1, e2, e3⟩ => ⟨m - 1, by omega, n + 1, pre', x', z2, z3, z4, z5, z6, z7, e1, e2, e3, by omega⟩, ?_⟩
    have hnn : (GM.lvn r n).length ≤ 101 := by omega
    generalize hR : GM.lvn r n = R at ex c1 hnn
    refine ⟨_, rfl, _, rfl, L0, _, _, _, rfl, rfl, SqL.of hL.1, atI_last _ _, Nat.zero_le _, fun o no => ?_⟩
    refine ⟨_, _, rfl, ?_⟩
    have so := same_upd (o := .lst []) no
    have ex1 := so _ _ ex
    refine ⟨_, rfl, x, _, rfl, .inl (SqL.of ex1), _, _, rfl, rfl, ⟨by decide, by decide⟩, ((R.length / 3 : Nat) : Int), congrArg (fun z => [V.int z]) (show (((R.map V.int).length : Nat) : Int) / 3 = ((R.length / 3 : Nat) : Int) by rw [List.length_map]; omega), by omega, by omega, ?_⟩
    rw [Int.toNat_natCast]
    refine for_range (n := R.length / 3) (fun i σ H6 => ∃ (y4 y5 y6 y7 : Option V), σ = [some (.ref a), some (.ref L0), some (.ref x), some (.ref o), y4, y5, y6, y7] ∧ Same H5 H6 ∧ H6 o = some (.lst ((GM.acc R i).map V.int))) ⟨y4, y5, y6, y7, rfl, so, (upd_same : (upd H5 o (.lst [])) o = some (.lst []))⟩ ?_ ?_
    · rintro i σ H6 hi ⟨y4, y5, y6, y7, rfl, s6, eo⟩
      show gName _ (V.int (0 + (i : Int))) _ _ _
      rw [Int.zero_add]
      have ex6 := s6 _ _ ex
      refine ⟨_, rfl, _, rfl, _, _, rfl, rfl, .inl ⟨by decide, by decide⟩, _, rfl, _, rfl, _, _, rfl, rfl, .inl ⟨by decide, by decide⟩, _, _, rfl, rfl, _, rfl, x, _, rfl, SqL.of ex6, fun c nc => ?_⟩
      rw [cut_3 (by omega)]
      have s7 := same_upd (o := .lst [.int (GM.at3 R (3 * i)), .int (GM.at3 R (3 * i + 1)), .int (GM.at3 R (3 * i + 2))]) nc
      refine ⟨c, _, rfl, SqL.of upd_same, rfl, _, _, rfl, _, _, rfl, _, _, rfl, rfl, ?_⟩
      refine ⟨_, rfl, .inl ⟨rfl, _, SqL.of (s7 _ _ eo)⟩, _, rfl, _, rfl, _, _, rfl, rfl, _, rfl, _, _, rfl, rfl, _, rfl, _, rfl, _, _, rfl, rfl, _, rfl, _, _, rfl, rfl, _, rfl, _, rfl, _, _, rfl, rfl, _, rfl, _, _, rfl, rfl, _, _, rfl, rfl, (by show 2 ≤ sizeLine; decide), fun d nd => ?_⟩
      have s8 := same_upd (o := .lst ((GM.trip R i).map V.int)) nd
      refine ⟨o, d, _, _, rfl, rfl, s8 _ _ (s7 _ _ eo), upd_same, ?_, _, _, _, _, rfl, fun z u e => ?_, ?_⟩
      · rw [List.length_map, GM.acc_len]
        exact Nat.le_of_lt (small1000 (by show 2 * i + 2 ≤ 1000; omega))
      · rw [upd_ne (ne_of_none e no)]
        exact s8 _ _ (s7 _ _ (s6 _ _ e))
      · rw [upd_same]
        show some (HO.lst ((GM.acc R i).map V.int ++ (GM.trip R i).map V.int)) = some (HO.lst ((GM.acc R i ++ GM.trip R i).map V.int))
        rw [List.map_append]
    · rintro σ H6 ⟨y4, y5, y6, y7, rfl, s6, eo⟩
      have ex6 := s6 _ _ ex
      refine ⟨_, rfl, .inl ⟨rfl, _, SqL.of (s6 _ _ hL.1)⟩, _, rfl, _, rfl, _, rfl, x, _, rfl, .inl (SqL.of ex6), _, rfl, x, _, rfl, .inl (SqL.of ex6), _, _, rfl, rfl, (by show (0 : Int) < 3; decide), _, _, rfl, rfl, _, congrArg V.int (show (((R.map V.int).length : Nat) : Int) - (((R.map V.int).length : Nat) : Int) % 3 = ((3 * (R.length / 3) : Nat) : Int) by rw [List.length_map]; omega), x, _, rfl, SqL.of ex6, fun c nc => ?_⟩
      rw [cut_hi]
      have sc := same_upd (o := .lst ((R.drop (3 * (R.length / 3))).map V.int)) nc
      refine ⟨o, c, _, _, rfl, rfl, sc _ _ eo, upd_same, ?_, fun p np => ?_⟩
      · rw [List.length_map, List.length_map, GM.acc_len, List.length_drop]
        exact Nat.le_of_lt (small1000 (by omega))
      rw [← lv_eq]
      have sp := same_upd (o := .lst ((GM.lv R).map V.int)) np
      have s9 := s6.trans (sc.trans sp)
      subst hR
      refine ⟨L0, _, _, rfl, rfl, s9 _ _ hL.1, ?_, _, p, _, _, _, _, _, _, rfl, fun z u e => ?_, hL.next s9 s5 (by omega) (s6.free (sc.free np)) upd_same⟩
      · rw [List.length_append, List.length_map, hL.len]
        exact small1000 (by show n + 1 ≤ 1000; omega)
      · rw [upd_ne (ne_of_none e nLH)]
        exact s9 _ _ (s5 _ _ e)
  · have c1 : ¬ (2 : Int) < (((GM.lvn r n).map V.int).length : Nat) := of_decide_eq_false (Bool.eq_false_iff.mpr c)
    rw [List.length_map] at c1
    exact ⟨_, rfl, q L0 H5 n pre x nLH s5 hL (by omega)⟩
end
section
variable {P : Program} {w : World} {K : PySem.W.Frag} {mg : Str → Option Value} {base : Heap}
variable {a1 a2 a3 a4 a5 a6 a7 a8 a9 a10 a11 : Addr} {l1 l2 l3 l4 l5 l6 l7 l8 l9 l10 l11 : FuncData}
/-! ### _law_number -/
def spNumber : Sp := fun vs H Q _ => ∃ (b : Addr) (c : Int), vs = [.ref b] ∧ BoxAt c H b ∧ c ≤ 900000000 ∧
  ∀ (r : Int) (H' : Hp), -(2 ^ 200) < r → r < 2 ^ 200 → BoxAt (c + 2000) H' b → Keep b H H' → Q (.int r) H'
theorem ok__law_number (B : Bl mg) (L : LL K mg a1 a2 a3 a4 a5 a6 a7 a8 a9 a10 a11 l1 l2 l3 l4 l5 l6 l7 l8 l9 l10 l11) : FnOk P w K mg base CX0 10 a8 l8 ["_law_box_here"] spNumber := by
  have G__law_take : FnOk P w K mg base CX0 9 a5 l5 ["_law_box_here", "_law_size"] (spTake 9) := (ok_take L.F__law_take L.b__law_take L.m__law_take B 9).mono (by decide)
  refine L.F__law_number.ok sc__law_number (fun vs H Q E h => ?_) (fun cdv A outer s H vs Q E hr h => ?_)
  · obtain ⟨b, c, rfl, _⟩ := h
    rfl
  obtain ⟨b, c, rfl, hB, hc, q⟩ := h
  refine ⟨_, (pss_cons (ps_set (i := 1) sc__law_number.nd rfl (.inl rfl) (pe_ix ix_list (pe_lst (pa_cons (pe_op op_add pe_int (pe_call G__law_take hr (by rfl) L.m__law_take L.F__law_take.kp L.b__law_take .nil pass0 (pa_cons (pv 0) (pa_cons pe_int pa_nil)))) (pa_cons (pe_op op_add pe_int (pe_call G__law_take hr (by rfl) L.m__law_take L.F__law_take.kp L.b__law_take .nil pass0 (pa_cons (pv 0) (pa_cons pe_int pa_nil)))) (pa_cons pe_int pa_nil)))) (pe_call G__law_take hr (by rfl) L.m__law_take L.F__law_take.kp L.b__law_take .nil pass0 (pa_cons (pv 0) (pa_cons pe_int pa_nil))) (fun _ _ => rfl)))
    (pss_cons (ps_set (i := 2) sc__law_number.nd rfl (.inl rfl) (pe_ix ix_list (pe_lst (pa_cons (pe_call G__law_take hr (by rfl) L.m__law_take L.F__law_take.kp L.b__law_take .nil pass0 (pa_cons (pv 0) (pa_cons (pe_op op_oneShl pe_int (pv 1)) pa_nil))) (pa_cons (pe_op op_sub (pe_op op_oneShl pe_int (pv 1)) pe_int) (pa_cons pe_int (pa_cons (pe_op op_oneShl pe_int (pe_op op_sub (pv 1) pe_int)) pa_nil))))) (pe_call G__law_take hr (by rfl) L.m__law_take L.F__law_take.kp L.b__law_take .nil pass0 (pa_cons (pv 0) (pa_cons pe_int pa_nil))) (fun _ _ => rfl)))
    (pss_one (ps_ret (pe_ix ix_list (pe_lst (pa_cons (pv 2) (pa_cons (pe_op op_sub pe_int (pv 2)) pa_nil))) (pe_call G__law_take hr (by rfl) L.m__law_take L.F__law_take.kp L.b__law_take .nil pass0 (pa_cons (pv 0) (pa_cons pe_int pa_nil))) (fun _ _ => rfl)))))), ?_⟩
  refine ⟨_, rfl, b, _, _, rfl, hB, (by decide), (by decide), (by decide), (by omega), (by decide), fun r1 H1 u0 u1 B1 k1 => ?_⟩
  replace B1 := bx9 B1
  refine ⟨_, _, rfl, rfl, _, rfl, b, _, _, rfl, B1, (by decide), (by decide), (by decide), (by omega), (by decide), fun r2 H2 v0 v1 B2 k2 => ?_⟩
  replace B2 := bx9 B2
  refine ⟨_, _, rfl, rfl, (by show 3 ≤ sizeLine; decide), fun m nm => ?_⟩
  have nmb : m ≠ b := (B2.ne nm).symm
  refine ⟨_, rfl, b, _, _, rfl, B2.same (same_upd nm), (by decide), (by decide), (by decide), (by omega), (by decide), fun r3 H3 w0 w1 B3 k3 => ?_⟩
  replace B3 := bx9 B3
  have em := k3 _ _ upd_same nmb
  obtain ⟨n, hn, hn1, hn200⟩ : ∃ n : Nat, atI ([.int (1 + r1), .int (1 + r2), .int 200] : List V) r3 = some (.int (n : Int)) ∧ 1 ≤ n ∧ n ≤ 200 := by
    have c3 : r3 = 0 ∨ r3 = 1 ∨ r3 = 2 := by omega
    rcases c3 with z | z | z
    · subst z
      exact ⟨(1 + r1).toNat, by rw [Int.toNat_of_nonneg (by omega)]; rfl, by omega, by omega⟩
    · subst z
      exact ⟨(1 + r2).toNat, by rw [Int.toNat_of_nonneg (by omega)]; rfl, by omega, by omega⟩
    · subst z
      exact ⟨200, rfl, by omega, by omega⟩
  refine ⟨m, _, _, _, rfl, rfl, SqL.of em, hn, ?_⟩
  have kA : Keep b H H3 := (k1.trans (k2.trans (Keep.new nm))).trans k3
  have hp := GM.pow_pos' n
  have hp2 : (2 : Int) ^ n ≤ 2 ^ 200 := GM.pow_le' hn200
  have hp3 : (2 : Int) ^ n = 2 ^ (n - 1) * 2 := by rw [← GM.pow_s]; congr 1; omega
  have hp4 := GM.pow_pos' (n - 1)
  refine ⟨_, rfl, _, rfl, n, rfl, rfl, by omega, b, _, _, rfl, B3, by omega, by omega, by omega, by omega, (by decide), fun r4 H4 x0 x1 B4 k4 => ?_⟩
  replace B4 := bx9 B4
  refine ⟨_, rfl, n, rfl, rfl, by omega, _, _, rfl, rfl, _, rfl, _, _, rfl, rfl, n - 1, rfl, congrArg V.int (by omega), by omega, (by show 4 ≤ sizeLine; decide), fun l nl => ?_⟩
  have nlb : l ≠ b := (B4.ne nl).symm
  refine ⟨_, rfl, b, _, _, rfl, B4.same (same_upd nl), (by decide), (by decide), (by decide), (by omega), (by decide), fun r5 H5 y0 y1 B5 k5 => ?_⟩
  replace B5 := bx9 B5
  have el := k5 _ _ upd_same nlb
  obtain ⟨x, hx, hx0, hx1⟩ : ∃ x : Int, atI ([.int r4, .int (2 ^ n - 1), .int 0, .int (2 ^ (n - 1))] : List V) r5 = some (.int x) ∧ 0 ≤ x ∧ x < 2 ^ 200 := by
    have c5 : r5 = 0 ∨ r5 = 1 ∨ r5 = 2 ∨ r5 = 3 := by omega
    rcases c5 with z | z | z | z <;> subst z
    · exact ⟨_, rfl, by omega, by omega⟩
    · exact ⟨_, rfl, by omega, by omega⟩
    · exact ⟨_, rfl, by omega, by omega⟩
    · exact ⟨_, rfl, by omega, by omega⟩
  refine ⟨l, _, _, _, rfl, rfl, SqL.of el, hx, ?_⟩
  refine ⟨_, rfl, _, rfl, _, _, rfl, rfl, (by show 2 ≤ sizeLine; decide), fun l2 nl2 => ?_⟩
  have nl2b : l2 ≠ b := (B5.ne nl2).symm
  refine ⟨_, rfl, b, _, _, rfl, B5.same (same_upd nl2), (by decide), (by decide), (by decide), (by omega), (by decide), fun r6 H7 z0 z1 B7 k7 => ?_⟩
  replace B7 := bx9 B7
  have el2 := k7 _ _ upd_same nl2b
  obtain ⟨y, hy, hy0, hy1⟩ : ∃ y : Int, atI ([.int x, .int (0 - x)] : List V) r6 = some (.int y) ∧ -(2 ^ 200) < y ∧ y < 2 ^ 200 := by
    have c6 : r6 = 0 ∨ r6 = 1 := by omega
    rcases c6 with z | z <;> subst z
    · exact ⟨_, rfl, by omega, by omega⟩
    · exact ⟨_, rfl, by omega, by omega⟩
  refine ⟨l2, _, _, _, rfl, rfl, SqL.of el2, hy, ?_⟩
  exact q _ _ hy0 hy1 (B7.mono (by omega)) ((kA.trans k4).trans (((Keep.new nl).trans k5).trans ((Keep.new nl2).trans k7)))
/-! ### _law_saved -/
theorem one_s (x y z : Int) (i : Nat) : GM.x3 x y z % 2 ^ i + (x / 2 ^ i % 2 ^ 1 + y / 2 ^ i % 2 ^ 1 + z / 2 ^ i % 2 ^ 1) % 2 * 2 ^ i = GM.x3 x y z % 2 ^ (i + 1) := by
  have e := GM.mod_step (GM.x3 x y z) i
  rw [GM.x3_bit] at e
  rw [← e, Int.add_comm]
  rfl
theorem two_s (x y z : Int) (i : Nat) : 2 * (GM.mj x y z % 2 ^ i) + (x / 2 ^ i % 2 ^ 1 + y / 2 ^ i % 2 ^ 1 + z / 2 ^ i % 2 ^ 1) / 2 * 2 ^ (i + 1) = 2 * (GM.mj x y z % 2 ^ (i + 1)) := by
  have e := GM.mod_step (GM.mj x y z) i
  rw [GM.mj_bit] at e
  rw [← e, GM.pow_s]
  show 2 * (GM.mj x y z % 2 ^ i) + (GM.bit x i + GM.bit y i + GM.bit z i) / 2 * (2 ^ i * 2) = _
  generalize (GM.bit x i + GM.bit y i + GM.bit z i) / 2 = t
  rw [← Int.mul_assoc, Int.mul_add]
  omega
def spSavedL : Sp := fun vs H Q _ => ∃ x y z : Int, vs = [.int x, .int y, .int z] ∧ (-(2 ^ 200) < x ∧ x < 2 ^ 200) ∧ (-(2 ^ 200) < y ∧ y < 2 ^ 200) ∧ (-(2 ^ 200) < z ∧ z < 2 ^ 200) ∧ ∀ p H', H p = none → Same H H' → H' p = some (.tup [.int (GM.x3 x y z), .int (x + y + z - GM.x3 x y z)]) → Q (.ref p) H'
theorem many_in (x y z : Int) (i : Nat) : 0 ≤ x / 2 ^ i % 2 ^ 1 + y / 2 ^ i % 2 ^ 1 + z / 2 ^ i % 2 ^ 1 ∧ x / 2 ^ i % 2 ^ 1 + y / 2 ^ i % 2 ^ 1 + z / 2 ^ i % 2 ^ 1 ≤ 3 := by
  rw [Int.pow_succ, Int.pow_zero, Int.one_mul]
  omega
theorem ok__law_saved (B : Bl mg) (L : LL K mg a1 a2 a3 a4 a5 a6 a7 a8 a9 a10 a11 l1 l2 l3 l4 l5 l6 l7 l8 l9 l10 l11) : FnOk P w K mg base CX0 1 a9 l9 ["_law_x", "_law_y", "_law_z"] spSavedL := by
  refine L.F__law_saved.ok sc__law_saved (fun vs H Q E h => ?_) (fun cdv A outer s H vs Q E hr h => ?_)
  · obtain ⟨x, y, z, rfl, _⟩ := h
    rfl
  obtain ⟨x, y, z, rfl, hx, hy, hz, q⟩ := h
  refine ⟨_, (pss_cons (ps_asg (pe_tup (pa_cons pe_int (pa_cons pe_int (pa_cons pe_int pa_nil)))) (pg_tup (by rfl) (pgs_cons (pg_name (i := 3) sc__law_saved.nd rfl (.inl rfl)) (pgs_cons (pg_name (i := 4) sc__law_saved.nd rfl (.inl rfl)) (pgs_cons (pg_name (i := 5) sc__law_saved.nd rfl (.inl rfl)) pgs_nil)))))
    (pss_cons (ps_for PassesOwn.never rfl (pi_range1 (by rfl) B.range (pa_cons pe_int pa_nil)) (pg_name (i := 6) sc__law_saved.nd rfl (.inl rfl)) (pss_cons (ps_set (i := 7) sc__law_saved.nd rfl (.inl rfl) (pe_op op_add (pe_op op_add (pe_op op_andM (pe_op op_shrN (pv 0) (pv 6)) pe_int) (pe_op op_andM (pe_op op_shrN (pv 1) (pv 6)) pe_int)) (pe_op op_andM (pe_op op_shrN (pv 2) (pv 6)) pe_int)))
    (pss_one (ps_par (by rfl) sc__law_saved.nd (i := 3) (j := 4) rfl rfl (by decide) rfl rfl (pa_cons (pe_op op_add (pv 3) (pe_op op_shlN (pe_op op_mod (pv 7) pe_int) (pv 6))) (pa_cons (pe_op op_add (pv 4) (pe_op op_shlN (pe_op op_fdiv (pv 7) pe_int) (pe_op op_add (pv 6) pe_int))) pa_nil)) (by rfl)))))
    (pss_cons (ps_set (i := 8) sc__law_saved.nd rfl (.inl rfl) (pe_op op_oneShl pe_int pe_int))
    (pss_cons (ps_set (i := 3) sc__law_saved.nd rfl (.inl rfl) (pe_ifExp (pt_cmpR op_eq (pe_op op_shrN (pv 3) pe_int) pe_int (nomark _)) (pe_op op_sub (pv 3) (pv 8)) (pv 3)))
    (pss_cons (ps_set (i := 4) sc__law_saved.nd rfl (.inl rfl) (pe_op op_mod (pv 4) (pv 8)))
    (pss_one (ps_ret (pe_tup (pa_cons (pv 3) (pa_cons (pe_ifExp (pt_cmpR op_eq (pe_op op_shrN (pv 4) pe_int) pe_int (nomark _)) (pe_op op_sub (pv 4) (pv 8)) (pv 4)) pa_nil)))))))))), ?_⟩
  refine ⟨(by show 3 ≤ sizeLine; decide), fun t0 nt0 => ?_⟩
  have s0 := same_upd (o := .tup [.int 0, .int 0, .int 0]) nt0
  refine ⟨t0, _, rfl, .inl (.inl upd_same), rfl, _, _, rfl, _, _, rfl, _, _, rfl, rfl, ?_⟩
  refine ⟨260, rfl, by decide, by decide, for_range (n := 260) (fun i σ H3 => ∃ (y6 y7 : Option V), σ = [some (.int x), some (.int y), some (.int z), some (.int (GM.x3 x y z % 2 ^ i)), some (.int (2 * (GM.mj x y z % 2 ^ i))), some (.int 0), y6, y7, none] ∧ Same H H3) ⟨none, none, ?_, s0⟩ ?_ ?_⟩
  · rw [Int.pow_zero, Int.emod_one, Int.emod_one]
    rfl
  · rintro i σ H3 hi ⟨y6, y7, rfl, s3⟩
    show gName _ (V.int (0 + (i : Int))) _ _ _
    rw [Int.zero_add]
    refine ⟨_, rfl, _, rfl, _, i, rfl, rfl, _, 1, rfl, rfl, _, rfl, _, rfl, _, i, rfl, rfl, _, 1, rfl, rfl, _, _, rfl, rfl, _, rfl, _, rfl, _, i, rfl, rfl, _, 1, rfl, rfl, _, _, rfl, rfl, ?_⟩
    have hm := many_in x y z i
    have h1 := one_s x y z i
    have h2 := two_s x y z i
    refine ⟨_, rfl, _, rfl, _, _, rfl, rfl, (by show (0 : Int) < 2; decide), _, rfl, _, i, rfl, rfl, shl_ok (n := 3) (by omega) (by omega), _, _, rfl, rfl, _, rfl, _, rfl, _, _, rfl, rfl, ⟨by decide, by decide⟩, _, rfl, _, _, rfl, rfl, _, i + 1, rfl, rfl, shl_ok (n := 3) (by omega) (by omega), _, _, rfl, rfl, ?_⟩
    refine ⟨.int (GM.x3 x y z % 2 ^ (i + 1)), .int (2 * (GM.mj x y z % 2 ^ (i + 1))), ?_, _, _, rfl, s3⟩
    rw [← h1, ← h2]
  rintro σ H3 ⟨y6, y7, rfl, s3⟩
  have sx := (GM.sg_iff (k := 200)).mpr ⟨Int.le_of_lt hx.1, hx.2⟩
  have sy := (GM.sg_iff (k := 200)).mpr ⟨Int.le_of_lt hy.1, hy.2⟩
  have sz := (GM.sg_iff (k := 200)).mpr ⟨Int.le_of_lt hz.1, hz.2⟩
  have b1 := (GM.sg_iff (k := 200)).mp (GM.sg_x3 sx sy sz)
  have b2 := (GM.sg_iff (k := 200)).mp (GM.sg_mj sx sy sz)
  have p1 : (2 : Int) ^ 200 * 2 ≤ 2 ^ 259 := by rw [← GM.pow_s]; exact GM.pow_le' (by decide)
  have p2 := GM.pow_pos' 200
  have e1 := GM.back (w := GM.x3 x y z % 2 ^ 260) (x := GM.x3 x y z) (by omega) (by omega) rfl
  have e2 := GM.back (w := 2 * (GM.mj x y z % 2 ^ 260) % 2 ^ 260) (x := 2 * GM.mj x y z) (by omega) (by omega) (by rw [Int.mul_emod, Int.emod_emod, ← Int.mul_emod])
  rw [GM.sum3] at e2
  have fin : ∀ u v : Int, (if GM.x3 x y z % 2 ^ 260 / 2 ^ 259 = 1 then GM.x3 x y z % 2 ^ 260 - 2 ^ 260 else GM.x3 x y z % 2 ^ 260) = u → (if 2 * (GM.mj x y z % 2 ^ 260) % 2 ^ 260 / 2 ^ 259 = 1 then 2 * (GM.mj x y z % 2 ^ 260) % 2 ^ 260 - 2 ^ 260 else 2 * (GM.mj x y z % 2 ^ 260) % 2 ^ 260) = v → ∀ p, H3 p = none → Q (.ref p) (upd H3 p (.tup [.int u, .int v])) := fun u v hu hv p np => by
    rw [← hu, ← hv, e1, e2]
    exact q p _ (s3.free np) (s3.trans (same_upd np)) upd_same
  generalize GM.x3 x y z % 2 ^ 260 = w1 at *
  generalize 2 * (GM.mj x y z % 2 ^ 260) = w2 at *
  refine ⟨260, rfl, rfl, by decide, ?_⟩
  apply cutP
  case h2 =>
    intro rest
    refine ⟨_, rfl, _, 259, rfl, rfl, rfl, _, rfl, ite2 (fun c => ?_) (fun c => ?_)⟩
    · rw [dvi] at c
      refine ⟨_, rfl, _, rfl, _, _, rfl, rfl, ?_⟩
      exact gI (show w1 - 2 ^ 260 = (if w1 / 2 ^ 259 = 1 then w1 - 2 ^ 260 else w1) by rw [if_pos (of_decide_eq_true c)]) rest
    · rw [dvi] at c
      refine ⟨_, rfl, ?_⟩
      exact gI (show w1 = (if w1 / 2 ^ 259 = 1 then w1 - 2 ^ 260 else w1) by rw [if_neg (of_decide_eq_false (Bool.eq_false_iff.mpr c))]) rest
  have p260 : (0 : Int) < 2 ^ 260 := GM.pow_pos' 260
  refine ⟨_, rfl, _, rfl, _, _, rfl, rfl, p260, ?_⟩
  refine ⟨_, rfl, _, rfl, _, 259, rfl, rfl, rfl, _, rfl, ite2 (fun c => ?_) (fun c => ?_)⟩
  · rw [dvi] at c
    refine ⟨_, rfl, _, rfl, _, _, rfl, rfl, (by show 2 ≤ sizeLine; decide), fun p np => ?_⟩
    exact fin _ _ rfl (by rw [if_pos (of_decide_eq_true c)]) p np
  · rw [dvi] at c
    refine ⟨_, rfl, (by show 2 ≤ sizeLine; decide), fun p np => ?_⟩
    exact fin _ _ rfl (by rw [if_neg (of_decide_eq_false (Bool.eq_false_iff.mpr c))]) p np
/-! ### _law_right -/
def spRight : Sp := fun vs H Q _ => ∃ (b : Addr) (c : Int), vs = [.ref b] ∧ BoxAt c H b ∧ c ≤ 700000000 ∧
  ∀ (H' : Hp), BoxAt (c + 400000) H' b → Keep b H H' → Q (.bl true) H'
def tD (l : List Int) : PyData := .list (l.map PyData.int)
theorem dp_qs {H : Hp} : ∀ qs : List (Addr × List Int), (∀ q ∈ qs, H q.1 = some (.lst (q.2.map V.int))) → DpAll K H (qs.map fun q => V.ref q.1) ((qs.map Prod.snd).map tD)
  | [], _ => .nil
  | q :: qs, h => .cons (.lst (SqL.of (h q List.mem_cons_self)) (dp_ints _)) (dp_qs qs fun p hp => h p (List.mem_cons_of_mem _ hp))
theorem LvAt.qs {H0 H : Hp} {L0 : Addr} {r : List Int} {n : Nat} {pre : List (Addr × List Int)} {x : Addr} (h : LvAt H0 H L0 r n pre x) : (pre ++ [(x, GM.lvn r n)]).map Prod.snd = (List.range (n + 1)).map (GM.lvn r) := by
  rw [List.map_append, h.2.2.1, List.range_succ, List.map_append]
  rfl
theorem LvAt.dp {H0 H : Hp} {L0 : Addr} {r : List Int} {n : Nat} {pre : List (Addr × List Int)} {x : Addr} (h : LvAt H0 H L0 r n pre x) : Dp K H (.ref L0) (.list (((List.range (n + 1)).map (GM.lvn r)).map tD)) := by
  have a := dp_qs (K := K) (H := H) (pre ++ [(x, GM.lvn r n)]) fun q hq => (h.2.1 q hq).1
  rw [h.qs, List.map_append] at a
  exact .lst (SqL.of h.1) a
theorem lv_lev {r : List Int} {n : Nat} (hn : n ≤ 200) (h : ∀ i, i ≤ n → (GM.lvn r i).length ≤ 1000) : Lv 2 (.list (((List.range (n + 1)).map (GM.lvn r)).map tD)) := by
  refine ⟨by rw [List.length_map, List.length_map, List.length_range]; omega, fun d hd => ?_⟩
  obtain ⟨l, hl, rfl⟩ := List.mem_map.mp hd
  obtain ⟨i, hi, rfl⟩ := List.mem_map.mp hl
  rw [List.mem_range] at hi
  exact lv_ints _ (h i (by omega))
theorem any_repl (n : Nat) : (List.replicate n false).any id = false := by
  rw [List.any_eq_false]
  intro x hx
  rw [List.eq_of_mem_replicate hx]
  decide
theorem ok__law_right (B : Bl mg) (L : LL K mg a1 a2 a3 a4 a5 a6 a7 a8 a9 a10 a11 l1 l2 l3 l4 l5 l6 l7 l8 l9 l10 l11) : FnOk P w K mg base CX0 12 a11 l11 ["_law_box_here"] spRight := by
  have G__law_number : FnOk P w K mg base CX0 11 a8 l8 ["_law_box_here"] spNumber := (ok__law_number B L).mono (by decide)
  have G__law_take : FnOk P w K mg base CX0 11 a5 l5 ["_law_box_here", "_law_size"] (spTake 9) := (ok_take L.F__law_take L.b__law_take L.m__law_take B 9).mono (by decide)
  have G_saved : FnOk P w K mg base CX0 11 a1 l1 ["x", "y", "z"] spSaved := (ok_saved B L).mono (by decide)
  have G__law_saved : FnOk P w K mg base CX0 11 a9 l9 ["_law_x", "_law_y", "_law_z"] spSavedL := (ok__law_saved B L).mono (by decide)
  have G__law_levels : FnOk P w K mg base CX0 11 a10 l10 ["_law_rows"] (spLev K) := (ok__law_levels B L).mono (by decide)
  have G_levels_of : FnOk P w K mg base CX0 11 a2 l2 ["rows"] (spLev K) := (ok_levels_of B L).mono (by decide)
  have G__law_same : FnOk P w K mg base CX0 11 a7 l7 ["_law_found", "_law_due"] (spSame K 3) := (ok_same L.F__law_same L.b__law_same L.m__law_same B 3).mono (by decide)
  refine L.F__law_right.ok sc__law_right (fun vs H Q E h => ?_) (fun cdv A outer s H vs Q E hr h => ?_)
  · obtain ⟨b, c, rfl, _⟩ := h
    rfl
  obtain ⟨b, c, rfl, hB, hc, q⟩ := h
  refine ⟨_, (pss_cons (ps_asg (pe_lc (own := [("_law_turn", 9)]) (by rfl) sc__law_right.nd (pi_range1 (by rfl) B.range (pa_cons pe_int pa_nil)) (blkOk_by (own := [("_law_turn", 9)]) (N := ["_law_box_here", "_law_x", "_law_y", "_law_z", "_law_rows", "_law_due", "_law_handed", "_law_again", "_law_found", "_law_turn", "_law_level"]) (sc := defScope s__law_right) (by decide +kernel)) (fun _ _ _ _ _ => pg_name (i := 9) sc__law_right.nd rfl (Or.inl rfl)) (fun _ _ _ _ _ => pts_nil) (fun _ _ _ _ _ => (pe_call G__law_number hr (by rfl) L.m__law_number L.F__law_number.kp L.b__law_number .nil pass0 (pa_cons (pv 0) pa_nil)))) (pg_unl (by rfl) (pgs_cons (pg_name (i := 1) sc__law_right.nd rfl (.inl rfl)) (pgs_cons (pg_name (i := 2) sc__law_right.nd rfl (.inl rfl)) (pgs_cons (pg_name (i := 3) sc__law_right.nd rfl (.inl rfl)) pgs_nil)))))
    (pss_cons (ps_if (PW.pt (pw_or (pt_not (pt_val (pe_call G__law_same hr (by rfl) L.m__law_same L.F__law_same.kp L.b__law_same .nil pass0 (pa_cons (pe_call G_saved hr (by rfl) L.m_saved L.F_saved.kp L.b_saved .nil pass0 (pa_cons (pv 1) (pa_cons (pv 2) (pa_cons (pv 3) pa_nil)))) (pa_cons (pe_call G__law_saved hr (by rfl) L.m__law_saved L.F__law_saved.kp L.b__law_saved .nil pass0 (pa_cons (pv 1) (pa_cons (pv 2) (pa_cons (pv 3) pa_nil)))) pa_nil))))) (pw_or1 (pt_cmpR op_ne (pe_callB (cr_sum rfl) (by rfl) B.sum boot_sum (pa_cons (pe_callTy call_list_of (by rfl) B.list PyProof.Rows.boot_list (pa_cons (pe_call G_saved hr (by rfl) L.m_saved L.F_saved.kp L.b_saved .nil pass0 (pa_cons (pv 1) (pa_cons (pv 2) (pa_cons (pv 3) pa_nil)))) pa_nil)) pa_nil)) (pe_op op_add (pe_op op_add (pv 1) (pv 2)) (pv 3)) (nomark _))))) (pss_one (ps_ret pe_bl)) pss_nil)
    (pss_cons (ps_set (i := 4) sc__law_right.nd rfl (.inr rfl) (pe_lc (own := [("_law_turn", 9)]) (by rfl) sc__law_right.nd (pi_range1 (by rfl) B.range (pa_cons (pe_ix ix_list (pe_lst (pa_cons (pe_call G__law_take hr (by rfl) L.m__law_take L.F__law_take.kp L.b__law_take .nil pass0 (pa_cons (pv 0) (pa_cons pe_int pa_nil))) (pa_cons (pe_call G__law_take hr (by rfl) L.m__law_take L.F__law_take.kp L.b__law_take .nil pass0 (pa_cons (pv 0) (pa_cons pe_int pa_nil))) (pa_cons pe_int pa_nil)))) (pe_call G__law_take hr (by rfl) L.m__law_take L.F__law_take.kp L.b__law_take .nil pass0 (pa_cons (pv 0) (pa_cons pe_int pa_nil))) (fun _ _ => rfl)) pa_nil)) (blkOk_by (own := [("_law_turn", 9)]) (N := ["_law_box_here", "_law_x", "_law_y", "_law_z", "_law_rows", "_law_due", "_law_handed", "_law_again", "_law_found", "_law_turn", "_law_level"]) (sc := defScope s__law_right) (by decide +kernel)) (fun _ _ _ _ _ => pg_name (i := 9) sc__law_right.nd rfl (Or.inl rfl)) (fun _ _ _ _ _ => pts_nil) (fun _ _ _ _ _ => (pe_call G__law_number hr (by rfl) L.m__law_number L.F__law_number.kp L.b__law_number .nil pass0 (pa_cons (pv 0) pa_nil)))))
    (pss_cons (ps_par (by rfl) sc__law_right.nd (i := 5) (j := 6) rfl rfl (by decide) rfl rfl (pa_cons (pe_call G__law_levels hr (by rfl) L.m__law_levels L.F__law_levels.kp L.b__law_levels .nil pass0 (pa_cons (pv 4) pa_nil)) (pa_cons (pe_ix ix_list (pe_lst (pa_cons (pe_callTy call_list_of (by rfl) B.list PyProof.Rows.boot_list (pa_cons (pv 4) pa_nil)) (pa_cons (pe_callTy call_tuple_of (by rfl) B.tuple PyProof.Rows.boot_tuple (pa_cons (pv 4) pa_nil)) pa_nil))) (pe_call G__law_take hr (by rfl) L.m__law_take L.F__law_take.kp L.b__law_take .nil pass0 (pa_cons (pv 0) (pa_cons pe_int pa_nil))) (fun _ _ => rfl)) pa_nil)) (by rfl))
    (pss_cons (ps_for PassesOwn.never rfl (pi_range1 (by rfl) B.range (pa_cons pe_int pa_nil)) (pg_name (i := 7) sc__law_right.nd rfl (.inl rfl)) (pss_cons (ps_set (i := 8) sc__law_right.nd rfl (.inl rfl) (pe_call G_levels_of hr (by rfl) L.m_levels_of L.F_levels_of.kp L.b_levels_of .nil pass0 (pa_cons (pv 6) pa_nil)))
    (pss_cons (ps_if (PW.pt (pw_or (pt_not (pt_val (pe_call G__law_same hr (by rfl) L.m__law_same L.F__law_same.kp L.b__law_same .nil pass0 (pa_cons (pv 8) (pa_cons (pv 5) pa_nil))))) (pw_or1 (pt_cmpR (op_neD hr.units) (pe_callTy call_list_of (by rfl) B.list PyProof.Rows.boot_list (pa_cons (pv 6) pa_nil)) (pv 4) (nomark _))))) (pss_one (ps_ret pe_bl)) pss_nil)
    (pss_cons (ps_if (pt_val (pe_callB (cr_any rfl) (by rfl) B.any boot_any (pa_cons (pe_lc (own := [("_law_level", 10)]) (by rfl) sc__law_right.nd (pi_list (pv 8)) (blkOk_by (own := [("_law_level", 10)]) (N := ["_law_box_here", "_law_x", "_law_y", "_law_z", "_law_rows", "_law_due", "_law_handed", "_law_again", "_law_found", "_law_turn", "_law_level"]) (sc := defScope s__law_right) (by decide +kernel)) (fun _ _ _ _ _ => pg_name (i := 10) sc__law_right.nd rfl (Or.inl rfl)) (fun _ _ _ _ _ => pts_nil) (fun _ _ _ _ _ => (pe_cmpR op_ne (pe_callB (cr_sumK (K := K) rfl) (by rfl) B.sum boot_sum (pa_cons (pv 10) pa_nil)) (pe_callB (cr_sumK (K := K) rfl) (by rfl) B.sum boot_sum (pa_cons (pv 4) pa_nil)) (nomark _)))) pa_nil))) (pss_one (ps_ret pe_bl)) pss_nil)
    (pss_cons (ps_expr (pe_bm PySem.F.plainAttrs_list PySem.F.slot_list_append PySem.F.type_list_append mt_append (pe_ix ix_list (pv 8) pe_int (fun _ _ => rfl)) (pa_cons pe_int pa_nil)))
    (pss_cons (ps_expr (pe_bm PySem.F.plainAttrs_list PySem.F.slot_list_append PySem.F.type_list_append mt_append (pe_ix ix_list (pv 8) (pe_un un_neg pe_int) (fun _ _ => rfl)) (pa_cons pe_int pa_nil)))
    (pss_one (ps_expr (pe_bm PySem.F.plainAttrs_list PySem.F.slot_list_append PySem.F.type_list_append mt_append (pv 8) (pa_cons (pe_lst pa_nil) pa_nil))))))))))
    (pss_one (ps_ret pe_bl))))))), ?_⟩
  -- three numbers
  refine ⟨3, rfl, by decide, by decide, fun D nD => ?_⟩
  have nDb : D ≠ b := (hB.ne nD).symm
  refine lc_range (n := 3) (fun j H3 => ∃ zs : List Int, zs.length = j ∧ H3 D = some (.lst (zs.map V.int)) ∧ (∀ z ∈ zs, -(2 ^ 200) < z ∧ z < 2 ^ 200) ∧ BoxAt (c + 2000 * j) H3 b ∧ Keep b H H3) ⟨[], rfl, upd_same, (fun _ h => nomatch h), (hB.same (same_upd nD)).mono (by omega), Keep.new nD⟩ ?_ ?_
  · rintro j H3 hj ⟨zs, hz, eD, hzs, B3, k3⟩
    refine ⟨rfl, yesT ?_⟩
    refine ⟨_, rfl, b, _, rfl, B3, by omega, fun r H4 r0 r1 B4 k4 => ?_⟩
    refine ⟨_, k4 _ _ eD nDb, ?_, zs ++ [r], ?_, ?_, fun z hz => ?_, BoxAt.mono (B4.at (upd_ne nDb.symm)) (by omega), fun x u e n => ?_⟩
    · rw [List.length_map]
      exact small1000 (by omega)
    · rw [List.length_append, hz]
      rfl
    · rw [upd_same, List.map_append]
      rfl
    · rcases List.mem_append.mp hz with h | h
      · exact hzs z h
      · rw [List.mem_singleton] at h
        subst h
        exact ⟨r0, r1⟩
    · rw [upd_ne (ne_of_none e nD)]
      exact k4 _ _ (k3 _ _ e n) n
  rintro H3 ⟨zs, hz, eD, hzs, B3, k3⟩
  obtain ⟨x, y, z, rfl⟩ : ∃ x y z, zs = [x, y, z] := by
    match zs, hz with
    | [x, y, z], _ => exact ⟨x, y, z, rfl⟩
  have hx := hzs x List.mem_cons_self
  have hy := hzs y (List.mem_cons_of_mem _ List.mem_cons_self)
  have hzz := hzs z (List.mem_cons_of_mem _ (List.mem_cons_of_mem _ List.mem_cons_self))
  refine ⟨D, _, rfl, SqL.of eD, rfl, _, _, rfl, _, _, rfl, _, _, rfl, rfl, ?_⟩
  -- saved
  refine ⟨_, rfl, _, rfl, _, rfl, _, _, _, rfl, fun p1 np1 => ?_⟩
  have s1 := same_upd (o := .tup [.int (GM.x3 x y z), .int (x + y + z - GM.x3 x y z)]) np1
  refine ⟨_, rfl, _, rfl, _, rfl, _, _, _, rfl, hx, hy, hzz, fun p2 H4 np2 s2 e2 => ?_⟩
  refine ⟨_, _, .tuple [.int (GM.x3 x y z), .int (x + y + z - GM.x3 x y z)], 2, rfl, rfl, ⟨by show 2 ≤ 1000000; decide, fun d hd => ?_⟩, .tup (.inl (.inl (s2 _ _ upd_same))) (.cons (.int _) (.cons (.int _) .nil)), .tup (.inl (.inl e2)) (.cons (.int _) (.cons (.int _) .nil)), fun H5 s5 => ?_⟩
  · rcases List.mem_cons.mp hd with e | hd
    · rw [e]; trivial
    · rcases List.mem_cons.mp hd with e | hd
      · rw [e]; trivial
      · exact nomatch hd
  refine ⟨_, rfl, iteF ?_⟩
  have s35 := s1.trans (s2.trans s5)
  refine ⟨_, rfl, _, rfl, _, rfl, _, _, _, rfl, fun p3 np3 => ?_⟩
  have s6 := same_upd (o := .tup [.int (GM.x3 x y z), .int (x + y + z - GM.x3 x y z)]) np3
  refine ⟨p3, _, rfl, .inr (.inl (.inl upd_same)), fun l1 nl1 => ?_⟩
  have s7 := same_upd (o := .lst [.int (GM.x3 x y z), .int (x + y + z - GM.x3 x y z)]) nl1
  refine ⟨l1, [GM.x3 x y z, x + y + z - GM.x3 x y z], rfl, SqL.of upd_same, _, rfl, _, rfl, _, _, rfl, rfl, _, rfl, _, _, rfl, rfl, rfl, _, rfl, iteNS (congrArg V.int (by rw [List.sum_cons, List.sum_cons, List.sum_nil]; omega)) ?_⟩
  have s37 := s35.trans (s6.trans s7)
  have B7 := B3.same s37
  have k7 := k3.trans (Keep.ofSame s37)
  -- rows
  refine ⟨_, rfl, b, _, _, rfl, B7, (by decide), (by decide), (by decide), (by omega), (by decide), fun r1 H8 u0 u1 B8 k8 => ?_⟩
  replace B8 := bx9 B8
  refine ⟨_, rfl, b, _, _, rfl, B8, (by decide), (by decide), (by decide), (by omega), (by decide), fun r2 H9 v0 v1 B9 k9 => ?_⟩
  replace B9 := bx9 B9
  refine ⟨(by show 3 ≤ sizeLine; decide), fun m nm => ?_⟩
  have nmb : m ≠ b := (B9.ne nm).symm
  refine ⟨_, rfl, b, _, _, rfl, B9.same (same_upd nm), (by decide), (by decide), (by decide), (by omega), (by decide), fun r3 H10 w0 w1 B10 k10 => ?_⟩
  replace B10 := bx9 B10
  have em := k10 _ _ upd_same nmb
  obtain ⟨n, hn, hn1⟩ : ∃ n : Nat, atI ([.int r1, .int r2, .int 101] : List V) r3 = some (.int (n : Int)) ∧ n ≤ 101 := by
    have c3 : r3 = 0 ∨ r3 = 1 ∨ r3 = 2 := by omega
    rcases c3 with z | z | z
    · subst z
      exact ⟨r1.toNat, by rw [Int.toNat_of_nonneg (by omega)]; rfl, by omega⟩
    · subst z
      exact ⟨r2.toNat, by rw [Int.toNat_of_nonneg (by omega)]; rfl, by omega⟩
    · subst z
      exact ⟨101, rfl, by omega⟩
  refine ⟨m, _, _, _, rfl, rfl, SqL.of em, hn, _, rfl, by omega, by omega, fun R nR => ?_⟩
  have kA : Keep b H H10 := ((k7.trans (k8.trans k9)).trans (Keep.new nm)).trans k10
  have nRb : R ≠ b := (B10.ne nR).symm
  rw [Int.toNat_natCast]
  refine lc_range (n := n) (fun j H3 => ∃ zs : List Int, zs.length = j ∧ H3 R = some (.lst (zs.map V.int)) ∧ BoxAt (c + 10000 + 2000 * j) H3 b ∧ Keep b H10 H3) ⟨[], rfl, upd_same, (B10.same (same_upd nR)).mono (by omega), Keep.new nR⟩ ?_ ?_
  · rintro j H3 hj ⟨zs, hz, eR, B3, k3⟩
    refine ⟨rfl, yesT ?_⟩
    refine ⟨_, rfl, b, _, rfl, B3, by omega, fun r H4 r0 r1 B4 k4 => ?_⟩
    refine ⟨_, k4 _ _ eR nRb, ?_, zs ++ [r], ?_, ?_, BoxAt.mono (B4.at (upd_ne nRb.symm)) (by omega), fun x u e n => ?_⟩
    · rw [List.length_map]
      exact small1000 (by omega)
    · rw [List.length_append, hz]
      rfl
    · rw [upd_same, List.map_append]
      rfl
    · rw [upd_ne (ne_of_none e nR)]
      exact k4 _ _ (k3 _ _ e n) n
  rintro H11 ⟨rs, hrs, eR, B11, k11⟩
  have hlr : rs.length ≤ 101 := by omega
  have kB := kA.trans k11
  -- due, handed
  refine ⟨_, rfl, R, rs, rfl, .inl (SqL.of eR), hlr, fun du H12 n1 pre1 x1 ndu s12 L1 e1 => ?_⟩
  have eR12 := s12 _ _ eR
  refine ⟨_, rfl, R, _, rfl, .inl (SqL.of eR12), fun l nl => ?_⟩
  have sl := same_upd (o := .lst (rs.map V.int)) nl
  refine ⟨_, rfl, R, _, rfl, .inl ⟨SqL.of (sl _ _ eR12), fun t nt => ?_⟩⟩
  have st := same_upd (o := .tup (rs.map V.int)) nt
  refine ⟨(by show 2 ≤ sizeLine; decide), fun m2 nm2 => ?_⟩
  have sm := same_upd (o := .lst [.ref l, .ref t]) nm2
  have B12 := B11.same s12
  have B13 := ((B12.same sl).same st).same sm
  have nlb : l ≠ b := (B12.ne nl).symm
  have ntb : t ≠ b := ((B12.same sl).ne nt).symm
  have nm2b : m2 ≠ b := (((B12.same sl).same st).ne nm2).symm
  refine ⟨_, rfl, b, _, _, rfl, B13, (by decide), (by decide), (by decide), (by omega), (by decide), fun r5 H14 g0 g1 B14 k14 => ?_⟩
  replace B14 := bx9 B14
  have em2 := k14 _ _ upd_same nm2b
  have el := k14 _ _ (sm _ _ (st _ _ upd_same)) nlb
  have et := k14 _ _ (sm _ _ upd_same) ntb
  have s23 := sl.trans (st.trans sm)
  have eR14 := k14 _ _ (s23 _ _ eR12) nRb
  obtain ⟨hd, eh, hS⟩ : ∃ hd : Addr, atI ([.ref l, .ref t] : List V) r5 = some (.ref hd) ∧ Sq K H14 hd rs := by
    have c3 : r5 = 0 ∨ r5 = 1 := by omega
    rcases c3 with z | z
    · subst z
      exact ⟨l, rfl, .inl (SqL.of el)⟩
    · subst z
      exact ⟨t, rfl, .inr (.inl (.inl et))⟩
  refine ⟨m2, _, _, _, rfl, rfl, SqL.of em2, eh, _, _, rfl, ?_⟩
  have kC := ((kB.trans (Keep.ofSame s12)).trans (Keep.ofSame s23)).trans k14
  have L14 : LvAt H11 H14 du rs n1 pre1 x1 := by
    have hb11 : ∃ o, H11 b = some o := by
      obtain ⟨x0, y0, z0, e, _⟩ := B11
      exact ⟨_, e⟩
    have L2 := L1.same s23
    have ndb : du ≠ b := (B11.ne ndu).symm
    refine ⟨k14 _ _ L2.1 ndb, fun q hq => ?_, L2.2.2⟩
    obtain ⟨a1, a2, a3⟩ := L2.2.1 q hq
    exact ⟨k14 _ _ a1 (B11.ne a2).symm, a2, a3⟩
  have hE1 : GM.Ends rs n1 := ⟨L1.2.2.2, e1⟩
  have hln1 := GM.lvn_len rs n1 L1.2.2.2
  refine ⟨2, rfl, by decide, by decide, for_range (n := 2) (fun i σ H15 => ∃ (y7 y8 : Option V), σ = [some (.ref b), some (.int x), some (.int y), some (.int z), some (.ref R), some (.ref du), some (.ref hd), y7, y8, none, none] ∧ Same H14 H15) ⟨none, none, rfl, Same.refl _⟩ ?_ ?_⟩
  · rintro i σ H15 hi ⟨y7, y8, rfl, s15⟩
    refine ⟨_, rfl, hd, rs, rfl, hS.same s15, hlr, fun fo H16 n2 pre2 x2 nfo s16 L2 e2 => ?_⟩
    obtain rfl : n2 = n1 := GM.ends_one ⟨L2.2.2.2, e2⟩ hE1
    have hlen : ∀ i, i ≤ n2 → (GM.lvn rs i).length ≤ 1000 := fun i hi => by
      have := GM.lvn_len rs i fun j hj => L2.2.2.2 j (by omega)
      omega
    have s1516 := s15.trans s16
    refine ⟨_, rfl, _, rfl, _, _, _, 2, rfl, rfl, lv_lev (by omega) hlen, L2.dp, (L14.same s1516).dp, fun H17 s17 => ?_⟩
    refine ⟨_, rfl, iteF ?_⟩
    have s1417 := s1516.trans s17
    refine ⟨_, rfl, hd, _, rfl, hS.same s1417, fun l2 nl2 => ?_⟩
    have s18 := s1417.trans (same_upd (o := .lst (rs.map V.int)) nl2)
    refine ⟨_, rfl, .list (rs.map PyData.int), .list (rs.map PyData.int), .lst (SqL.of upd_same) (dp_ints _), .lst (SqL.of (s18 _ _ eR14)) (dp_ints _), PySem.W.shaped_ints _, PySem.W.shaped_ints _, _, rfl, ?_⟩
    rw [eqv_ints]
    refine iteF ?_
    have L3 := (L2.same s17).same (same_upd (o := .lst (rs.map V.int)) nl2)
    have eR18 := s18 _ _ eR14
    show tSeq _ _ _ _ (upd H17 l2 (.lst (rs.map V.int)))
    generalize upd H17 l2 (.lst (rs.map V.int)) = H18 at s18 L3 eR18 ⊢
    -- sums
    have L3s : SqL K H18 fo (((pre2 ++ [(x2, GM.lvn rs n2)]).map fun q => V.ref q.1)) := by
      rw [List.map_append]
      exact SqL.of L3.1
    refine ⟨_, rfl, fo, rfl, ⟨_, L3s⟩, fun D2 nD2 => ?_⟩
    refine lc_it (walk_list (K := K) (a := fo) (xs := (pre2 ++ [(x2, GM.lvn rs n2)]).map fun q => V.ref q.1)) (fun j H19 => Same H18 H19 ∧ H19 D2 = some (.lst (List.replicate j (.bl false)))) ⟨same_upd nD2, upd_same⟩ (fun j H19 _ ⟨s19, _⟩ => s19.seq L3s) ?_ ?_
    · rintro j v H19 H20 hj ⟨s19, eD2⟩ ⟨rfl, hv⟩
      rw [List.getElem?_map] at hv
      obtain ⟨qq, hq, rfl⟩ : ∃ qq, (pre2 ++ [(x2, GM.lvn rs n2)])[j]? = some qq ∧ v = V.ref qq.1 := by
        cases e : (pre2 ++ [(x2, GM.lvn rs n2)])[j]? with
        | none => rw [e] at hv; cases hv
        | some qq => rw [e] at hv; exact ⟨qq, rfl, (Option.some.inj hv).symm⟩
      have hqm := List.mem_of_getElem? hq
      have hqs : qq.2.sum = rs.sum := by
        have : qq.2 ∈ (pre2 ++ [(x2, GM.lvn rs n2)]).map Prod.snd := List.mem_map.mpr ⟨qq, hqm, rfl⟩
        rw [L3.qs] at this
        obtain ⟨k, _, e⟩ := List.mem_map.mp this
        rw [← e, GM.lvn_sum]
      refine ⟨rfl, yesT ?_⟩
      refine ⟨_, rfl, qq.1, qq.2, rfl, SqL.of (s19 _ _ (L3.2.1 qq hqm).1), _, rfl, R, rs, rfl, SqL.of (s19 _ _ eR18), rfl, _, eD2, ?_, fun p u e => ?_, ?_⟩
      · rw [List.length_replicate]
        rw [List.length_map, List.length_append, L3.len] at hj
        exact small1000 (by have : ([(x2, GM.lvn rs n2)] : List (Addr × List Int)).length = 1 := rfl; omega)
      · rw [upd_ne (ne_of_none e nD2)]
        exact s19 _ _ e
      · rw [upd_same, dvi, decide_eq_true hqs]
        exact congrArg (fun z => some (HO.lst z)) (repl_snoc _ _)
    rintro H19 ⟨s19, eD2⟩
    refine ⟨D2, List.replicate _ false, rfl, .inl (.inl (by rw [List.map_replicate]; exact eD2)), _, rfl, ?_⟩
    rw [any_repl]
    refine iteF ?_
    have L4 := L3.same s19
    have s20 := s18.trans s19
    -- the told lists, changed
    obtain ⟨a0, q0, ea0, ma0⟩ : ∃ (a0 : Addr) (q0 : List Int), atI (pre2.map (fun q => V.ref q.1) ++ [V.ref x2]) 0 = some (.ref a0) ∧ (a0, q0) ∈ pre2 ++ [(x2, GM.lvn rs n2)] := by
      cases pre2 with
      | nil => exact ⟨x2, _, atI_nat (j := 0) rfl, List.mem_cons_self⟩
      | cons p ps => exact ⟨p.1, p.2, atI_nat (j := 0) rfl, List.mem_cons_self⟩
    obtain ⟨f1, f2, f3⟩ := L4.2.1 _ ma0
    have hq0 : q0.length ≤ 900 := by
      have : q0 ∈ (pre2 ++ [(x2, GM.lvn rs n2)]).map Prod.snd := List.mem_map.mpr ⟨(a0, q0), ma0, rfl⟩
      rw [L4.qs] at this
      obtain ⟨k, hk, e⟩ := List.mem_map.mp this
      rw [List.mem_range] at hk
      have := GM.lvn_len rs k fun j hj => L2.2.2.2 j (by omega)
      rw [← e]
      omega
    obtain ⟨g1, g2, g3⟩ := L4.last
    refine ⟨_, rfl, fo, _, _, _, rfl, rfl, SqL.of L4.1, ea0, .inl ⟨rfl, _, SqL.of f1⟩, a0, _, _, rfl, rfl, f1, ?_, ?_⟩
    · rw [List.length_map]
      exact small1000 (by show q0.length ≤ 1000; omega)
    have efo1 : (upd H19 a0 (.lst (q0.map V.int ++ [.int 1]))) fo = some (.lst (pre2.map (fun q => V.ref q.1) ++ [V.ref x2])) := by
      rw [upd_ne f3.symm]
      exact L4.1
    obtain ⟨gl, eg, hgl⟩ : ∃ gl : List V, (upd H19 a0 (.lst (q0.map V.int ++ [.int 1]))) x2 = some (.lst gl) ∧ gl.length ≤ 950 := by
      by_cases c : x2 = a0
      · rw [c]
        exact ⟨_, upd_same, by rw [List.length_append, List.length_map]; show q0.length + 1 ≤ 950; omega⟩
      · refine ⟨_, by rw [upd_ne c]; exact g1, ?_⟩
        rw [List.length_map]
        omega
    refine ⟨_, rfl, _, rfl, fo, _, _, _, rfl, rfl, SqL.of efo1, atI_last _ _, .inl ⟨rfl, _, SqL.of eg⟩, x2, _, _, rfl, rfl, eg, small1000 (by omega), ?_⟩
    have efo2 : (upd (upd H19 a0 (.lst (q0.map V.int ++ [.int 1]))) x2 (.lst (gl ++ [.int 2]))) fo = some (.lst (pre2.map (fun q => V.ref q.1) ++ [V.ref x2])) := by
      rw [upd_ne g3.symm]
      exact efo1
    refine ⟨_, rfl, .inl ⟨rfl, _, SqL.of efo2⟩, Nat.zero_le _, fun em nem => ?_⟩
    have sem := same_upd (o := .lst []) nem
    refine ⟨fo, _, _, rfl, rfl, sem _ _ efo2, ?_, _, _, rfl, fun p u e => ?_⟩
    · rw [List.length_append, List.length_map, L4.len]
      exact small1000 (by show n2 + 1 ≤ 1000; omega)
    have e15 := s15 _ _ e
    rw [upd_ne (ne_of_none e15 nfo)]
    refine sem _ _ ?_
    rw [upd_ne (ne_of_none e15 g2), upd_ne (ne_of_none e15 f2)]
    exact s20 _ _ e
  rintro σ H15 ⟨y7, y8, rfl, s15⟩
  exact q _ ((B14.same s15).mono (by omega)) (kC.trans (Keep.ofSame s15))
def spLaw (K : PySem.W.Frag) : Sp := fun vs H Q _ => ∃ (a : Addr) (ns : List Int), vs = [.ref a] ∧ SqL K H a (ns.map V.int) ∧ ns.length ≤ 63 ∧ ∀ H', Q (.bl true) H'
theorem ok_law {f : Addr} {fd : FuncData} (F : Fun K "law" "law" s_law f fd) (B : Bl mg) (L : LL K mg a1 a2 a3 a4 a5 a6 a7 a8 a9 a10 a11 l1 l2 l3 l4 l5 l6 l7 l8 l9 l10 l11) : FnOk P w K mg base CX0 13 f fd ["_law_script"] (spLaw K) := by
  have G__law_folded : FnOk P w K mg base CX0 12 a6 l6 ["_law_script", "_law_size"] (spFolded K) := ok_folded L.F__law_folded B
  have G__law_box : FnOk P w K mg base CX0 12 a4 l4 ["_law_script", "_law_k"] (spBox K) := ok_box L.F__law_box B
  have G__law_right : FnOk P w K mg base CX0 12 a11 l11 ["_law_box_here"] spRight := (ok__law_right B L).mono (by decide)
  refine F.ok sc_law (fun vs H Q E h => ?_) (fun cdv A outer s H vs Q E hr h => ?_)
  · obtain ⟨a, ns, rfl, _⟩ := h
    rfl
  obtain ⟨a, ns, rfl, hS, h63, q⟩ := h
  refine ⟨_, (pss_cons (ps_set (i := 1) sc_law.nd rfl (.inl rfl) (pe_call G__law_folded hr (by rfl) L.m__law_folded L.F__law_folded.kp L.b__law_folded .nil pass0 (pa_cons (pv 0) (pa_cons pe_int pa_nil))))
    (pss_cons (ps_for PassesOwn.never rfl (pi_range1 (by rfl) B.range (pa_cons (pe_callB (call_max2 rfl) (by rfl) B.max boot_max (pa_cons pe_int (pa_cons (pe_callB call_len_seq (by rfl) B.len PySem.boot_len (pa_cons (pv 1) pa_nil)) pa_nil))) pa_nil)) (pg_name (i := 2) sc_law.nd rfl (.inl rfl)) (pss_cons (ps_set (i := 3) sc_law.nd rfl (.inr rfl) (pe_call G__law_box hr (by rfl) L.m__law_box L.F__law_box.kp L.b__law_box .nil pass0 (pa_cons (pv 1) (pa_cons (pv 2) pa_nil))))
    (pss_one (ps_if (pt_not (pt_val (pe_callB (cr_all rfl) (by rfl) B.all boot_all (pa_cons (pe_lc (own := [("_law_turn", 4)]) (by rfl) sc_law.nd (pi_range1 (by rfl) B.range (pa_cons pe_int pa_nil)) (blkOk_by (own := [("_law_turn", 4)]) (N := ["_law_script", "_law_cells", "_law_k", "_law_box_here", "_law_turn"]) (sc := defScope s_law) (by decide +kernel)) (fun _ _ _ _ _ => pg_name (i := 4) sc_law.nd rfl (Or.inl rfl)) (fun _ _ _ _ _ => pts_nil) (fun _ _ _ _ _ => (pe_call G__law_right hr (by rfl) L.m__law_right L.F__law_right.kp L.b__law_right .nil pass0 (pa_cons (pv 3) pa_nil)))) pa_nil)))) (pss_one (ps_ret pe_bl)) pss_nil))))
    (pss_one (ps_ret pe_bl)))), ?_⟩
  refine ⟨_, rfl, a, ns, 4, rfl, hS, h63, by decide, by decide, fun p H1 zs np s1 ep lz => ?_⟩
  have lz2 : zs.length ≤ 4 := by omega
  refine ⟨_, rfl, p, _, rfl, .inl (SqL.of ep), _, _, rfl, ?_⟩
  obtain ⟨n, en, hn⟩ : ∃ n : Nat, (if (((zs.map V.int).length : Nat) : Int) > 2 then (((zs.map V.int).length : Nat) : Int) else 2) = (n : Int) ∧ n ≤ 4 := by
    rw [List.length_map]
    split
    · exact ⟨zs.length, rfl, lz2⟩
    · exact ⟨2, rfl, by decide⟩
  rw [en]
  refine ⟨_, rfl, by omega, by omega, ?_⟩
  rw [Int.toNat_natCast]
  refine for_range (n := n) (fun i σ H5 => ∃ (y2 y3 : Option V), σ = [some (.ref a), some (.ref p), y2, y3, none] ∧ Same H1 H5) ⟨none, none, rfl, Same.refl _⟩ ?_ ?_
  · rintro i σ H5 hi ⟨y2, y3, rfl, s5⟩
    refine ⟨_, rfl, _, rfl, p, zs, _, rfl, SqL.of (s5 _ _ ep), by omega, by omega, fun b H6 nb s6 B6 => ?_⟩
    refine ⟨5, rfl, by decide, by decide, fun D nD => ?_⟩
    have nDb : D ≠ b := (B6.ne nD).symm
    refine lc_range (n := 5) (fun j H7 => Keep b H6 H7 ∧ BoxAt (400000 * j) H7 b ∧ H7 D = some (.lst (List.replicate j (.bl true)))) ⟨Keep.new nD, (B6.same (same_upd nD)).mono (by omega), upd_same⟩ ?_ ?_
    · rintro j H7 hj ⟨k7, B7, eD⟩
      refine ⟨rfl, yesT ?_⟩
      refine ⟨_, rfl, b, _, rfl, B7, by omega, fun H8 B8 k8 => ?_⟩
      refine ⟨_, k8 _ _ eD nDb, ?_, fun x u e n => ?_, BoxAt.mono (B8.at (upd_ne nDb.symm)) (by omega), ?_⟩
      · rw [List.length_replicate]
        exact small1000 (by omega)
      · rw [upd_ne (ne_of_none e nD)]
        exact k8 _ _ (k7 _ _ e n) n
      · rw [upd_same, repl_snoc]
    · rintro H7 ⟨k7, B7, eD⟩
      refine ⟨D, List.replicate 5 true, rfl, .inl (.inl (by rw [List.map_replicate]; exact eD)), _, rfl, ?_⟩
      refine iteF ?_
      exact ⟨_, _, rfl, fun x u e => k7 _ _ (s6 _ _ (s5 _ _ e)) (ne_of_none (s5 _ _ e) nb)⟩
  · rintro σ H5 ⟨y2, y3, rfl, s5⟩
    exact q _
end
theorem all_mk {l : PySem.W.OpenLaw} {w : World} {K : PySem.W.Frag} {h : Heap} {mg : Str → Option Value} {fa f1 f2 f3 f4 f5 f6 f7 f8 f9 f10 f11 f12  : Addr} (X : K.In h) (G : h.Ns mainGlobals mg) (hfa : mg "law" = some (.ref fa))
    {od1 an1 od2 an2 od3 an3 od4 an4 od5 an5 od6 an6 od7 an7 od8 an8 od9 an9 od10 an10 od11 an11 od12 an12 : Option Addr} {sl1 sl2 sl3 sl4 sl5 sl6 sl7 sl8 sl9 sl10 sl11 sl12 : Array (Option Value)} {oc1 kV1 dc1 pm1 cd1 ct1 oc2 kV2 dc2 pm2 cd2 ct2 oc3 kV3 dc3 pm3 cd3 ct3 oc4 kV4 dc4 pm4 cd4 ct4 oc5 kV5 dc5 pm5 cd5 ct5 oc6 kV6 dc6 pm6 cd6 ct6 oc7 kV7 dc7 pm7 cd7 ct7 oc8 kV8 dc8 pm8 cd8 ct8 oc9 kV9 dc9 pm9 cd9 ct9 oc10 kV10 dc10 pm10 cd10 ct10 oc11 kV11 dc11 pm11 cd11 ct11 oc12 kV12 dc12 pm12 cd12 ct12 : Value}
    (a1 : PySem.W.nsIn K mainGlobals "saved" = some (some (.ref f1))) (l1 : K.lookup f1 = some ⟨oc1, od1, .func (PySem.W.fnOf "saved" "saved" (defArgs s_saved) (defBody s_saved) (defScope s_saved) .none kV1 dc1 pm1 an1 cd1 ct1), sl1⟩) (c1 : PySem.W.codeIn K cd1 "saved" = true) (k1 : PySem.W.keepIn K (.ref f1) = true)
    (a2 : PySem.W.nsIn K mainGlobals "levels_of" = some (some (.ref f2))) (l2 : K.lookup f2 = some ⟨oc2, od2, .func (PySem.W.fnOf "levels_of" "levels_of" (defArgs s_levels_of) (defBody s_levels_of) (defScope s_levels_of) .none kV2 dc2 pm2 an2 cd2 ct2), sl2⟩) (c2 : PySem.W.codeIn K cd2 "levels_of" = true) (k2 : PySem.W.keepIn K (.ref f2) = true)
    (a3 : PySem.W.nsIn K mainGlobals "level_behind" = some (some (.ref f3))) (l3 : K.lookup f3 = some ⟨oc3, od3, .func (PySem.W.fnOf "level_behind" "level_behind" (defArgs s_level_behind) (defBody s_level_behind) (defScope s_level_behind) .none kV3 dc3 pm3 an3 cd3 ct3), sl3⟩) (c3 : PySem.W.codeIn K cd3 "level_behind" = true) (k3 : PySem.W.keepIn K (.ref f3) = true)
    (a4 : PySem.W.nsIn K mainGlobals "_law_box" = some (some (.ref f4))) (l4 : K.lookup f4 = some ⟨oc4, od4, .func (PySem.W.fnOf "_law_box" "_law_box" (defArgs sBox) (defBody sBox) (defScope sBox) .none kV4 dc4 pm4 an4 cd4 ct4), sl4⟩) (c4 : PySem.W.codeIn K cd4 "_law_box" = true) (k4 : PySem.W.keepIn K (.ref f4) = true)
    (a5 : PySem.W.nsIn K mainGlobals "_law_take" = some (some (.ref f5))) (l5 : K.lookup f5 = some ⟨oc5, od5, .func (PySem.W.fnOf "_law_take" "_law_take" (defArgs sTake) (defBody sTake) (defScope sTake) .none kV5 dc5 pm5 an5 cd5 ct5), sl5⟩) (c5 : PySem.W.codeIn K cd5 "_law_take" = true) (k5 : PySem.W.keepIn K (.ref f5) = true)
    (a6 : PySem.W.nsIn K mainGlobals "_law_folded" = some (some (.ref f6))) (l6 : K.lookup f6 = some ⟨oc6, od6, .func (PySem.W.fnOf "_law_folded" "_law_folded" (defArgs sFolded) (defBody sFolded) (defScope sFolded) .none kV6 dc6 pm6 an6 cd6 ct6), sl6⟩) (c6 : PySem.W.codeIn K cd6 "_law_folded" = true) (k6 : PySem.W.keepIn K (.ref f6) = true)
    (a7 : PySem.W.nsIn K mainGlobals "_law_same" = some (some (.ref f7))) (l7 : K.lookup f7 = some ⟨oc7, od7, .func (PySem.W.fnOf "_law_same" "_law_same" (defArgs sSame) (defBody sSame) (defScope sSame) .none kV7 dc7 pm7 an7 cd7 ct7), sl7⟩) (c7 : PySem.W.codeIn K cd7 "_law_same" = true) (k7 : PySem.W.keepIn K (.ref f7) = true)
    (a8 : PySem.W.nsIn K mainGlobals "_law_number" = some (some (.ref f8))) (l8 : K.lookup f8 = some ⟨oc8, od8, .func (PySem.W.fnOf "_law_number" "_law_number" (defArgs s__law_number) (defBody s__law_number) (defScope s__law_number) .none kV8 dc8 pm8 an8 cd8 ct8), sl8⟩) (c8 : PySem.W.codeIn K cd8 "_law_number" = true) (k8 : PySem.W.keepIn K (.ref f8) = true)
    (a9 : PySem.W.nsIn K mainGlobals "_law_saved" = some (some (.ref f9))) (l9 : K.lookup f9 = some ⟨oc9, od9, .func (PySem.W.fnOf "_law_saved" "_law_saved" (defArgs s__law_saved) (defBody s__law_saved) (defScope s__law_saved) .none kV9 dc9 pm9 an9 cd9 ct9), sl9⟩) (c9 : PySem.W.codeIn K cd9 "_law_saved" = true) (k9 : PySem.W.keepIn K (.ref f9) = true)
    (a10 : PySem.W.nsIn K mainGlobals "_law_levels" = some (some (.ref f10))) (l10 : K.lookup f10 = some ⟨oc10, od10, .func (PySem.W.fnOf "_law_levels" "_law_levels" (defArgs s__law_levels) (defBody s__law_levels) (defScope s__law_levels) .none kV10 dc10 pm10 an10 cd10 ct10), sl10⟩) (c10 : PySem.W.codeIn K cd10 "_law_levels" = true) (k10 : PySem.W.keepIn K (.ref f10) = true)
    (a11 : PySem.W.nsIn K mainGlobals "_law_right" = some (some (.ref f11))) (l11 : K.lookup f11 = some ⟨oc11, od11, .func (PySem.W.fnOf "_law_right" "_law_right" (defArgs s__law_right) (defBody s__law_right) (defScope s__law_right) .none kV11 dc11 pm11 an11 cd11 ct11), sl11⟩) (c11 : PySem.W.codeIn K cd11 "_law_right" = true) (k11 : PySem.W.keepIn K (.ref f11) = true)
    (a12 : PySem.W.nsIn K mainGlobals "law" = some (some (.ref f12))) (l12 : K.lookup f12 = some ⟨oc12, od12, .func (PySem.W.fnOf "law" "law" (defArgs s_law) (defBody s_law) (defScope s_law) .none kV12 dc12 pm12 an12 cd12 ct12), sl12⟩) (c12 : PySem.W.codeIn K cd12 "law" = true) (k12 : PySem.W.keepIn K (.ref f12) = true)
    (z1 : PySem.W.nsIn K mainGlobals "len" = some none)
    (z2 : PySem.W.nsIn K mainGlobals "abs" = some none)
    (z3 : PySem.W.nsIn K mainGlobals "int" = some none)
    (z4 : PySem.W.nsIn K mainGlobals "divmod" = some none)
    (z5 : PySem.W.nsIn K mainGlobals "list" = some none)
    (z6 : PySem.W.nsIn K mainGlobals "enumerate" = some none)
    (z7 : PySem.W.nsIn K mainGlobals "isinstance" = some none)
    (z8 : PySem.W.nsIn K mainGlobals "tuple" = some none)
    (z9 : PySem.W.nsIn K mainGlobals "str" = some none)
    (z10 : PySem.W.nsIn K mainGlobals "bool" = some none)
    (z11 : PySem.W.nsIn K mainGlobals "zip" = some none)
    (z12 : PySem.W.nsIn K mainGlobals "all" = some none)
    (z13 : PySem.W.nsIn K mainGlobals "range" = some none)
    (z14 : PySem.W.nsIn K mainGlobals "max" = some none)
    (z15 : PySem.W.nsIn K mainGlobals "any" = some none)
    (z16 : PySem.W.nsIn K mainGlobals "min" = some none)
    (z17 : PySem.W.nsIn K mainGlobals "sum" = some none)
    : ∃ fd : FuncData, (∀ (s : Shared) (v : Value), BindsTo s fd ⟨[v], []⟩ [("_law_script", v)]) ∧ ∀ base : Heap, K.In base → base.Ns mainGlobals mg → FnOk l.prog w K mg base CX0 13 fa fd ["_law_script"] (spLaw K) := by
  have e := hfa.symm.trans (PySem.W.mg_of X G a12)
  cases e
  have F1 := fun_mk (st := s_saved) l1 c1 k1
  have b1 := F1.binds (ps := ["x", "y", "z"]) fun _ _ _ _ _ _ us hl => match us, hl with | [_, _, _], _ => rfl
  have m1 := PySem.W.mg_of X G a1
  have F2 := fun_mk (st := s_levels_of) l2 c2 k2
  have b2 := F2.binds (ps := ["rows"]) fun _ _ _ _ _ _ us hl => match us, hl with | [_], _ => rfl
  have m2 := PySem.W.mg_of X G a2
  have F3 := fun_mk (st := s_level_behind) l3 c3 k3
  have b3 := F3.binds (ps := ["rows"]) fun _ _ _ _ _ _ us hl => match us, hl with | [_], _ => rfl
  have m3 := PySem.W.mg_of X G a3
  have F4 := fun_mk (st := sBox) l4 c4 k4
  have b4 := F4.binds (ps := ["_law_script", "_law_k"]) fun _ _ _ _ _ _ us hl => match us, hl with | [_, _], _ => rfl
  have m4 := PySem.W.mg_of X G a4
  have F5 := fun_mk (st := sTake) l5 c5 k5
  have b5 := F5.binds (ps := ["_law_box_here", "_law_size"]) fun _ _ _ _ _ _ us hl => match us, hl with | [_, _], _ => rfl
  have m5 := PySem.W.mg_of X G a5
  have F6 := fun_mk (st := sFolded) l6 c6 k6
  have b6 := F6.binds (ps := ["_law_script", "_law_size"]) fun _ _ _ _ _ _ us hl => match us, hl with | [_, _], _ => rfl
  have m6 := PySem.W.mg_of X G a6
  have F7 := fun_mk (st := sSame) l7 c7 k7
  have b7 := F7.binds (ps := ["_law_found", "_law_due"]) fun _ _ _ _ _ _ us hl => match us, hl with | [_, _], _ => rfl
  have m7 := PySem.W.mg_of X G a7
  have F8 := fun_mk (st := s__law_number) l8 c8 k8
  have b8 := F8.binds (ps := ["_law_box_here"]) fun _ _ _ _ _ _ us hl => match us, hl with | [_], _ => rfl
  have m8 := PySem.W.mg_of X G a8
  have F9 := fun_mk (st := s__law_saved) l9 c9 k9
  have b9 := F9.binds (ps := ["_law_x", "_law_y", "_law_z"]) fun _ _ _ _ _ _ us hl => match us, hl with | [_, _, _], _ => rfl
  have m9 := PySem.W.mg_of X G a9
  have F10 := fun_mk (st := s__law_levels) l10 c10 k10
  have b10 := F10.binds (ps := ["_law_rows"]) fun _ _ _ _ _ _ us hl => match us, hl with | [_], _ => rfl
  have m10 := PySem.W.mg_of X G a10
  have F11 := fun_mk (st := s__law_right) l11 c11 k11
  have b11 := F11.binds (ps := ["_law_box_here"]) fun _ _ _ _ _ _ us hl => match us, hl with | [_], _ => rfl
  have m11 := PySem.W.mg_of X G a11
  have F12 := fun_mk (st := s_law) l12 c12 k12
  have B : Bl mg := ⟨PySem.W.mg_none_of X G z1, PySem.W.mg_none_of X G z2, PySem.W.mg_none_of X G z3, PySem.W.mg_none_of X G z4, PySem.W.mg_none_of X G z5, PySem.W.mg_none_of X G z6, PySem.W.mg_none_of X G z7, PySem.W.mg_none_of X G z8, PySem.W.mg_none_of X G z9, PySem.W.mg_none_of X G z10, PySem.W.mg_none_of X G z11, PySem.W.mg_none_of X G z12, PySem.W.mg_none_of X G z13, PySem.W.mg_none_of X G z14, PySem.W.mg_none_of X G z15, PySem.W.mg_none_of X G z16, PySem.W.mg_none_of X G z17⟩
  refine ⟨PySem.W.fnOf "law" "law" (defArgs s_law) (defBody s_law) (defScope s_law) .none kV12 dc12 pm12 an12 cd12 ct12, fun s v => .of_eq rfl, fun base _ _ => ?_⟩
  have L : LL K mg f1 f2 f3 f4 f5 f6 f7 f8 f9 f10 f11 _ _ _ _ _ _ _ _ _ _ _ := ⟨F1, b1, m1, F2, b2, m2, F3, b3, m3, F4, b4, m4, F5, b5, m5, F6, b6, m6, F7, b7, m7, F8, b8, m8, F9, b9, m9, F10, b10, m10, F11, b11, m11⟩
  exact ok_law F12 B L
end GZ
open PySem PySem.W PyProof.Rows
set_option maxRecDepth 100000 in
set_option maxHeartbeats 0 in
theorem PySem.Challenge.cw_guessedzeros_k32_levels_of_three_by_thre_holds : PySem.Challenge.rw_guessedzeros_k32_levels_of_three_by_thre.Holds := by
  w_on; o_law; k_head; (case hw => w_witness2)
  k_fill
  refine L2.walk_of (l := PySem.Challenge.rw_guessedzeros_k32_levels_of_three_by_thre) (n := 63) (k := 13) (x := "_law_script") (CX := fun _ => L2.CX0) (sp := fun w => GZ.spLaw _) rfl (by decide) rfl ⟨rfl, by decide, by decide⟩ (fun w h Y => PySem.W.kIn_of Y) ?F (fun _ _ a ns hl _ hS => ⟨a, ns, rfl, hS, hl, fun _ => rfl⟩) (fun _ _ _ _ _ h => h)
  case F =>
    intro w mg fa h KX G hmg
    refine' GZ.all_mk KX G hmg ?a1 ?l1 ?c1 ?k1 ?a2 ?l2 ?c2 ?k2 ?a3 ?l3 ?c3 ?k3 ?a4 ?l4 ?c4 ?k4 ?a5 ?l5 ?c5 ?k5 ?a6 ?l6 ?c6 ?k6 ?a7 ?l7 ?c7 ?k7 ?a8 ?l8 ?c8 ?k8 ?a9 ?l9 ?c9 ?k9 ?a10 ?l10 ?c10 ?k10 ?a11 ?l11 ?c11 ?k11 ?a12 ?l12 ?c12 ?k12 ?z1 ?z2 ?z3 ?z4 ?z5 ?z6 ?z7 ?z8 ?z9 ?z10 ?z11 ?z12 ?z13 ?z14 ?z15 ?z16 ?z17
    (case a1 => k_is)
    (case l1 => k_is)
    (case c1 => k_is)
    (case k1 => k_is)
    (case a2 => k_is)
    (case l2 => k_is)
    (case c2 => k_is)
    (case k2 => k_is)
    (case a3 => k_is)
    (case l3 => k_is)
    (case c3 => k_is)
    (case k3 => k_is)
    (case a4 => k_is)
    (case l4 => k_is)
    (case c4 => k_is)
    (case k4 => k_is)
    (case a5 => k_is)
    (case l5 => k_is)
    (case c5 => k_is)
    (case k5 => k_is)
    (case a6 => k_is)
    (case l6 => k_is)
    (case c6 => k_is)
    (case k6 => k_is)
    (case a7 => k_is)
    (case l7 => k_is)
    (case c7 => k_is)
    (case k7 => k_is)
    (case a8 => k_is)
    (case l8 => k_is)
    (case c8 => k_is)
    (case k8 => k_is)
    (case a9 => k_is)
    (case l9 => k_is)
    (case c9 => k_is)
    (case k9 => k_is)
    (case a10 => k_is)
    (case l10 => k_is)
    (case c10 => k_is)
    (case k10 => k_is)
    (case a11 => k_is)
    (case l11 => k_is)
    (case c11 => k_is)
    (case k11 => k_is)
    (case a12 => k_is)
    (case l12 => k_is)
    (case c12 => k_is)
    (case k12 => k_is)
    (case z1 => k_is)
    (case z2 => k_is)
    (case z3 => k_is)
    (case z4 => k_is)
    (case z5 => k_is)
    (case z6 => k_is)
    (case z7 => k_is)
    (case z8 => k_is)
    (case z9 => k_is)
    (case z10 => k_is)
    (case z11 => k_is)
    (case z12 => k_is)
    (case z13 => k_is)
    (case z14 => k_is)
    (case z15 => k_is)
    (case z16 => k_is)
    (case z17 => k_is)

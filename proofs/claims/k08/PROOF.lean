import PyProof.Rows.All
import Wide.All
import OpenK.AllK
import Wide.FinOn
import HandS.ForMost
import HandS.Walk
import HandS.Zip
import HandS.WideBits
import HandS.IsInst
import OpenK.KEqL
import HandS.TupAny
import PySem.Challenge.RW_guessedzeros_k08_flags_together_and_cuts
set_option Elab.async false
set_option linter.all false
set_option maxRecDepth 100000
set_option maxHeartbeats 4000000
namespace GZ
open PySem PySem.Spec PyProof.Rows L2
/-! ### the text by places -/
def topS (i : Nat) : Stmt := PySem.Challenge.pw_guessedzeros_k08_flags_together_and_cuts.main.body.getD i (.Pass ⟨0, 0, 0, 0⟩)
abbrev s_flags_together : Stmt := topS 2
theorem sc_flags_together : FnScope ["one", "other", "flag"] ["one", "other"] (defScope s_flags_together) := ⟨rfl, rfl, rfl, by decide +kernel, rfl, by decide +kernel, by decide +kernel⟩
abbrev s_cut_off : Stmt := topS 3
theorem sc_cut_off : FnScope ["number", "by", "kept"] ["number", "by"] (defScope s_cut_off) := ⟨rfl, rfl, rfl, by decide +kernel, rfl, by decide +kernel, by decide +kernel⟩
abbrev sBox : Stmt := topS 5
abbrev sTake : Stmt := topS 6
abbrev sFolded : Stmt := topS 7
abbrev sSame : Stmt := topS 8
abbrev s__law_long : Stmt := topS 9
theorem sc__law_long : FnScope ["_law_box_here", "_law_bits", "_law_number", "_law_turn"] ["_law_box_here", "_law_bits"] (defScope s__law_long) := ⟨rfl, rfl, rfl, by decide +kernel, rfl, by decide +kernel, by decide +kernel⟩
abbrev s__law_flags_right : Stmt := topS 10
theorem sc__law_flags_right : FnScope ["_law_box_here", "_law_every", "_law_turn", "_law_some", "_law_due", "_law_told", "_law_side", "_law_flag"] ["_law_box_here"] (defScope s__law_flags_right) := ⟨rfl, rfl, rfl, by decide +kernel, rfl, by decide +kernel, by decide +kernel⟩
abbrev s__law_cut_right : Stmt := topS 11
theorem sc__law_cut_right : FnScope ["_law_box_here", "_law_bits", "_law_low", "_law_number", "_law_by", "_law_left", "_law_rest", "_law_first", "_law_one", "_law_other"] ["_law_box_here"] (defScope s__law_cut_right) := ⟨rfl, rfl, rfl, by decide +kernel, rfl, by decide +kernel, by decide +kernel⟩
abbrev s_law : Stmt := topS 12
theorem sc_law : FnScope ["_law_script", "_law_cells", "_law_k", "_law_box_here", "_law_turn"] ["_law_script"] (defScope s_law) := ⟨rfl, rfl, rfl, by decide +kernel, rfl, by decide +kernel, by decide +kernel⟩
/-! ### built-in names that the text leaves alone -/
structure Bl (mg : Str → Option Value) : Prop where
  len : mg "len" = none
  abs : mg "abs" = none
  int : mg "int" = none
  divmod : mg "divmod" = none
  list : mg "list" = none
  enumerate : mg "enumerate" = none
  isinstance : mg "isinstance" = none
  tuple : mg "tuple" = none
  str : mg "str" = none
  bool : mg "bool" = none
  zip : mg "zip" = none
  all : mg "all" = none
  range : mg "range" = none
  max : mg "max" = none
  any : mg "any" = none
  min : mg "min" = none
  sum : mg "sum" = none
/-! ### rules with the written part told (for the blocks of comprehensions) -/
section
variable {X : Cx} {K : PySem.W.Frag}
theorem call_len_seqK (h : X.K = K := by rfl) : CallR X (.builtin "len") (fun xs H Q => ∃ p ys, xs = [.ref p] ∧ (SqL K H p ys ∨ SqT K H p ys) ∧ Q (.int ys.length) H) := by subst h; exact call_len_seq
theorem call_list_ofK (h : X.K = K := by rfl) : CallR X (.type "list") (fun xs H Q => ∃ p ys, xs = [.ref p] ∧ (SqL K H p ys ∨ SqT K H p ys) ∧ ∀ l, H l = none → Q (.ref l) (upd H l (.lst ys))) := by subst h; exact call_list_of
theorem call_tuple_ofK (h : X.K = K := by rfl) : CallR X (.type "tuple") (fun xs H Q => ∃ p ys, xs = [.ref p] ∧ ((SqL K H p ys ∧ ∀ l, H l = none → Q (.ref l) (upd H l (.tup ys))) ∨ (SqT K H p ys ∧ Q (.ref p) H))) := by subst h; exact call_tuple_of
theorem ix_listK (h : X.K = K := by rfl) : IxR X (rIxL K) := by subst h; exact ix_list
theorem ix_tupK (h : X.K = K := by rfl) : IxR X (rIxT K) := by subst h; exact ix_tup
theorem ix_seqK (h : X.K = K := by rfl) : IxR X (rIx K) := by subst h; exact ix_seq
theorem op_in_seqK (h : X.K = K := by rfl) : OpR X (compareOp .In) (rIn K false) := by subst h; exact op_in_seq
theorem op_notIn_seqK (h : X.K = K := by rfl) : OpR X (compareOp .NotIn) (rIn K true) := by subst h; exact op_notIn_seq
theorem sl_listK (h : X.K = K := by rfl) : SlR X (rSlL K) := by subst h; exact sl_list
theorem cr_sumK (hc : X.calm = true) (h : X.K = K := by rfl) : CallR X (.builtin "sum") (rSum K) := by subst h; exact cr_sum hc
theorem cr_allK (hc : X.calm = true) (h : X.K = K := by rfl) : CallR X (.builtin "all") (rAll K) := by subst h; exact cr_all hc
theorem cr_anyK (hc : X.calm = true) (h : X.K = K := by rfl) : CallR X (.builtin "any") (rAny K) := by subst h; exact cr_any hc
theorem call_isiK' (h : X.K = K := by rfl) : CallR X (.builtin "isinstance") (rIsi K) := by subst h; exact call_isi
theorem pi_listK {tg l : Expr} {tl : TE} (hl : PE X l tl) (h : X.K = K := by rfl) : PI X tg l (iList K tl) := by subst h; exact pi_list hl
theorem pi_tupK {tg l : Expr} {tl : TE} (hl : PE X l tl) (h : X.K = K := by rfl) : PI X tg l (iTup K tl) := by subst h; exact pi_tup hl
theorem pe_fldK {e : Expr} {ta : TE} {f : Str} {pos : Pos} (he : PE X e ta) (hb : attributeBase e f X.env (eval e X.env) = eval e X.env) (h : X.K = K := by rfl) : PE X (.Attribute e f pos) (tFld K ta f) := by subst h; exact pe_fld he hb
end
/-! ### heaps -/
theorem same_upd {H : Hp} {p : Addr} {o : HO} (h : H p = none) : Same H (upd H p o) := fun b x e => by
  rw [upd_ne (ne_of_none e h)]
  exact e
/-- all but what stands at b is as it was -/
def Keep (b : Addr) (H H' : Hp) : Prop := ∀ p o, H p = some o → p ≠ b → H' p = some o
theorem Keep.refl (b : Addr) (H : Hp) : Keep b H H := fun _ _ h _ => h
theorem Keep.trans {b : Addr} {H H1 H2 : Hp} (x : Keep b H H1) (y : Keep b H1 H2) : Keep b H H2 := fun p o h n => y p o (x p o h n) n
theorem Keep.ofSame {b : Addr} {H H1 : Hp} (x : Same H H1) : Keep b H H1 := fun p o h _ => x p o h
theorem Keep.upd {b : Addr} {H : Hp} {o : HO} : Keep b H (upd H b o) := fun p x h n => by
  rw [upd_ne n]
  exact h
theorem Keep.new {b p : Addr} {H : Hp} {o : HO} (h : H p = none) : Keep b H (L2.upd H p o) := .ofSame (same_upd h)
theorem Keep.seq {K : PySem.W.Frag} {b a : Addr} {H H' : Hp} {xs : List V} (e : Keep b H H') (n : a ≠ b) (h : SqL K H a xs) : SqL K H' a xs := by
  rcases h with (h | ⟨o, h⟩) | h
  · exact .inl (.inl (e _ _ h n))
  · exact .inl (.inr ⟨o, e _ _ h n⟩)
  · exact .inr h
theorem Keep.seqT {K : PySem.W.Frag} {b a : Addr} {H H' : Hp} {xs : List V} (e : Keep b H H') (n : a ≠ b) (h : SqT K H a xs) : SqT K H' a xs := by
  rcases h with (h | ⟨o, h⟩) | h
  · exact .inl (.inl (e _ _ h n))
  · exact .inl (.inr ⟨o, e _ _ h n⟩)
  · exact .inr h
theorem Same.seqT {K : PySem.W.Frag} {a : Addr} {H H' : Hp} {xs : List V} (e : Same H H') (h : SqT K H a xs) : SqT K H' a xs := by
  rcases h with (h | ⟨o, h⟩) | h
  · exact .inl (.inl (e _ _ h))
  · exact .inl (.inr ⟨o, e _ _ h⟩)
  · exact .inr h
/-- a drawing box: three ints, the last at most c -/
def BoxAt (c : Int) (H : Hp) (b : Addr) : Prop := ∃ x0 x1 x2 : Int, H b = some (.lst [.int x0, .int x1, .int x2]) ∧ 0 ≤ x0 ∧ 0 ≤ x1 ∧ x1 < 2147483647 ∧ 0 ≤ x2 ∧ x2 ≤ c
theorem BoxAt.mono {c d : Int} {H : Hp} {b : Addr} (h : BoxAt c H b) (l : c ≤ d) : BoxAt d H b := by
  obtain ⟨x0, x1, x2, e, a1, a2, a3, a4, a5⟩ := h
  exact ⟨x0, x1, x2, e, a1, a2, a3, a4, by omega⟩
theorem BoxAt.same {c : Int} {H H' : Hp} {b : Addr} (h : BoxAt c H b) (s : Same H H') : BoxAt c H' b := by
  obtain ⟨x0, x1, x2, e, r⟩ := h
  exact ⟨x0, x1, x2, s _ _ e, r⟩
theorem BoxAt.at {c : Int} {H H' : Hp} {b : Addr} (h : BoxAt c H b) (s : H' b = H b) : BoxAt c H' b := by
  obtain ⟨x0, x1, x2, e, r⟩ := h
  exact ⟨x0, x1, x2, by rw [s]; exact e, r⟩
theorem BoxAt.ne {c : Int} {H : Hp} {b p : Addr} (h : BoxAt c H b) (n : H p = none) : b ≠ p := by
  obtain ⟨x0, x1, x2, e, r⟩ := h
  exact ne_of_none e n
theorem e7 : (10 : Int) ^ ((7 : Int).toNat) = 10000000 := by decide
theorem e18 : (10 : Int) ^ ((18 : Int).toNat) = 1000000000000000000 := by decide
theorem divp_small {i j : Int} (h0 : 0 < j) (h1 : j < 2 ^ 64) : CDivP i j := by
  refine ⟨h0, ?_⟩
  show (decide ((if j == 0 then 0 else j.natAbs.log2 / 30 + 1) > 300) && _) = false
  rw [if_neg (show ¬ (j == 0) = true by simpa using (show j ≠ 0 by omega))]
  have hl : j.natAbs.log2 < 64 := PySem.Flt.log2_lt_of (by decide) (by omega)
  rw [decide_eq_false (show ¬ (j.natAbs.log2 / 30 + 1 > 300) by omega), Bool.false_and]
section
variable {P : Program} {w : World} {K : PySem.W.Frag} {mg : Str → Option Value} {base : Heap}
/-! ### _law_take -/
theorem scTake : FnScope ["_law_box_here", "_law_size", "_law_found", "_law_step", "_law_once", "_law_twice"] ["_law_box_here", "_law_size"] (defScope sTake) := ⟨rfl, rfl, rfl, by decide +kernel, rfl, by decide +kernel, by decide +kernel⟩
def spTake (k : Nat) : Sp := fun vs H Q _ => ∃ (b : Addr) (n c : Int), vs = [.ref b, .int n] ∧ BoxAt c H b ∧ 1 ≤ n ∧ n ≤ 10000000 ^ k ∧ n < 2 ^ 60 ∧ c + 2 ^ k ≤ 1000000000 ∧ 0 < k ∧
  ∀ (r : Int) (H' : Hp), 0 ≤ r → r < n → BoxAt (c + 2 ^ (k - 1)) H' b → Keep b H H' → Q (.int r) H'
theorem take_none {f : Addr} {fd : FuncData} : FnOk P w K mg base CX0 0 f fd ["_law_box_here", "_law_size"] (spTake 0) := by
  have no : ∀ vs H Q E, ¬ spTake 0 vs H Q E := fun vs H Q E h => by
    obtain ⟨b, n, c, _, _, _, _, _, _, h0, _⟩ := h
    omega
  exact ⟨fun vs H Q E h => absurd h (no vs H Q E), fun A outer s H args us vs Q E _ _ _ _ h => absurd h (no vs H Q E)⟩
theorem ok_take1 {f : Addr} {fd : FuncData} {k : Nat} (F : Fun K "_law_take" "_law_take" sTake f fd) (G : FnOk P w K mg base CX0 k f fd ["_law_box_here", "_law_size"] (spTake k)) (bf : Binds K fd ["_law_box_here", "_law_size"] []) (mf : mg "_law_take" = some (.ref f)) (B : Bl mg) :
    FnOk P w K mg base CX0 (k + 1) f fd ["_law_box_here", "_law_size"] (spTake (k + 1)) := by
  refine F.ok scTake (fun vs H Q E h => ?_) (fun cdv A outer s H vs Q E hr h => ?_)
  · obtain ⟨b, n, c, rfl, _⟩ := h
    rfl
  obtain ⟨b, n, c, rfl, hB, hn1, hnk, hn60, hc, _, q⟩ := h
  obtain ⟨x0, x1, x2, hb, h0, h1, h1', h2, h2'⟩ := hB
  have hp : (0 : Int) < 2 ^ k := Int.pow_pos (by decide)
  have hk2 : (2 : Int) ^ (k + 1) = 2 ^ k * 2 := Int.pow_succ 2 k
  refine ⟨_, pss_cons (ps_if (pt_cmpR op_gt (pe_ix ix_list (pv 0) pe_int (fun _ _ => rfl)) pe_int (nomark _))
      (pss_cons (ps_asg (pe_callB call_divmodW (by rfl) B.divmod boot_divmod (pa_cons (pe_ix ix_list (pv 0) pe_int (fun _ _ => rfl)) (pa_cons (pv 1) pa_nil)))
          (pg_tup (by rfl) (pgs_cons (pg_sub (pv 0) pe_int set_list) (pgs_cons (pg_name (i := 2) scTake.nd rfl (.inl rfl)) pgs_nil))))
        (pss_one (ps_ret (pv 2)))) pss_nil)
    (pss_cons (ps_if (pt_cmpR op_gt (pv 1) (pe_op op_pow pe_int pe_int) (nomark _))
      (pss_one (ps_ret (pe_op op_mod (pe_op op_add (pe_call G hr (by rfl) mf F.kp bf .nil pass0 (pa_cons (pv 0) (pa_cons (pe_op op_pow pe_int pe_int) pa_nil)))
          (pe_op op_mul (pe_op op_pow pe_int pe_int) (pe_call G hr (by rfl) mf F.kp bf .nil pass0 (pa_cons (pv 0) (pa_cons (pe_op op_add (pe_op op_fdiv (pe_op op_sub (pv 1) pe_int) (pe_op op_pow pe_int pe_int)) pe_int) pa_nil))))) (pv 1)))) pss_nil)
    (pss_cons (ps_asg (pe_op op_add (pe_ix ix_list (pv 0) pe_int (fun _ _ => rfl)) pe_int) (pg_sub (pv 0) pe_int set_list))
    (pss_cons (ps_set (i := 3) scTake.nd rfl (.inl rfl) (pe_op op_add pe_int (pe_op op_mul (pe_ix ix_list (pv 0) pe_int (fun _ _ => rfl)) (pe_ix ix_list (pv 0) pe_int (fun _ _ => rfl)))))
    (pss_cons (ps_set (i := 4) scTake.nd rfl (.inl rfl) (pe_op op_mod (pe_op op_mul (pe_op op_add (pe_ix ix_list (pv 0) pe_int (fun _ _ => rfl)) (pe_op op_mul pe_int (pe_ix ix_list (pv 0) pe_int (fun _ _ => rfl)))) (pv 3)) pe_int))
    (pss_cons (ps_set (i := 5) scTake.nd rfl (.inl rfl) (pe_op op_mod (pe_op op_add (pe_op op_mul (pv 4) (pe_op op_add (pe_op op_mod (pv 4) pe_int) pe_int)) (pe_ix ix_list (pv 0) pe_int (fun _ _ => rfl))) pe_int))
    (pss_one (ps_ret (pe_op op_mod (pe_op op_fdiv (pe_op op_mod (pe_op op_mul (pv 5) (pe_op op_add (pe_op op_mod (pv 5) pe_int) pe_int)) pe_int) pe_int) (pv 1))))))))), ?_⟩
  refine ⟨_, rfl, b, _, _, _, rfl, rfl, SqL.of hb, rfl, _, _, rfl, rfl, _, rfl, ite2 (fun cc => ?_) (fun cc => ?_)⟩
  · -- the great number's own digits
    refine ⟨_, rfl, b, _, _, _, rfl, rfl, SqL.of hb, rfl, _, rfl, _, _, rfl, divp_small (by omega) (by omega), fun p np => ?_⟩
    have nbp : b ≠ p := ne_of_none hb np
    refine ⟨p, _, rfl, .inl (.inl upd_same), rfl, _, _, rfl, _, rfl, b, _, _, 0, rfl, rfl, (by rw [upd_ne nbp]; exact hb), rfl, _, _, rfl, rfl, _, rfl, ?_⟩
    refine q _ _ (Int.emod_nonneg _ (by omega)) (Int.emod_lt_of_pos _ (by omega)) ⟨x0 / n, x1, x2, upd_same, Int.ediv_nonneg h0 (by omega), h1, h1', h2, by show x2 ≤ c + 2 ^ k; omega⟩ ?_
    exact Keep.trans (Keep.new np) Keep.upd
  · refine ⟨_, rfl, _, _, rfl, rfl, ⟨by decide, by decide, by decide⟩, _, _, rfl, rfl, _, rfl, ite2 (fun c2 => ?_) (fun c2 => ?_)⟩
    · -- two lesser draws
      have c3 : (10 : Int) ^ ((7 : Int).toNat) < n := of_decide_eq_true c2
      rw [e7] at c3
      have hk : 0 < k := by
        rcases Nat.eq_zero_or_pos k with z | z
        · subst z
          rw [show (10000000 : Int) ^ (0 + 1) = 10000000 by decide] at hnk
          omega
        · exact z
      obtain ⟨j, rfl⟩ : ∃ j, k = j + 1 := ⟨k - 1, by omega⟩
      have hj2 : (2 : Int) ^ (j + 1) = 2 ^ j * 2 := Int.pow_succ 2 j
      have hjp : (0 : Int) < 2 ^ j := Int.pow_pos (by decide)
      have h10 : (10000000 : Int) ≤ 10000000 ^ (j + 1) := by
        rw [Int.pow_succ]
        have : (0 : Int) < 10000000 ^ j := Int.pow_pos (by decide)
        omega
      have hdiv : (n - 1) / 10000000 + 1 ≤ 10000000 ^ (j + 1) := by
        rw [Int.pow_succ] at hnk
        have : n - 1 < 10000000 ^ (j + 1) * 10000000 := by omega
        have := Int.ediv_lt_of_lt_mul (by decide) this
        omega
      refine ⟨_, rfl, _, _, rfl, rfl, ⟨by decide, by decide, by decide⟩, b, _, c, rfl, ⟨x0, x1, x2, hb, h0, h1, h1', h2, h2'⟩, (by rw [e7]; decide), (by rw [e7]; exact h10), (by rw [e7]; decide), by omega, by omega, fun r1 H1 a1 a2 B1 k1 => ?_⟩
      refine ⟨_, _, rfl, rfl, ⟨by decide, by decide, by decide⟩, _, rfl, _, rfl, _, _, rfl, rfl, _, _, rfl, rfl, ⟨by decide, by decide, by decide⟩, _, _, rfl, rfl, (by rw [e7]; exact ⟨by decide, by decide⟩), _, _, rfl, rfl, ?_⟩
      rw [e7]
      refine ⟨b, _, c + 2 ^ j, rfl, B1, by omega, hdiv, by omega, by omega, by omega, fun r2 H2 a3 a4 B2 k2 => ?_⟩
      refine ⟨_, _, rfl, rfl, .inl ⟨by decide, by decide⟩, _, _, rfl, rfl, _, rfl, _, _, rfl, rfl, (by show (0 : Int) < n; omega), ?_⟩
      refine q _ _ (Int.emod_nonneg _ (by omega)) (Int.emod_lt_of_pos _ (by omega)) (B2.mono ?_) (k1.trans k2)
      show c + 2 ^ j + 2 ^ j ≤ c + 2 ^ (j + 1)
      omega
    · -- a turn of the wheel
      refine ⟨_, rfl, b, _, _, _, rfl, rfl, SqL.of hb, rfl, _, _, rfl, rfl, _, rfl, b, _, _, 2, rfl, rfl, hb, rfl, ?_⟩
      have hb2 : (upd H b (.lst [.int x0, .int x1, .int (x2 + 1)])) b = some (.lst [.int x0, .int x1, .int (x2 + 1)]) := upd_same
      refine ⟨_, rfl, b, _, _, _, rfl, rfl, SqL.of hb2, rfl, _, rfl, b, _, _, _, rfl, rfl, SqL.of hb2, rfl, _, _, rfl, rfl, .inl ⟨by omega, by omega⟩, _, _, rfl, rfl, ?_⟩
      refine ⟨_, rfl, b, _, _, _, rfl, rfl, SqL.of hb2, rfl, _, rfl, b, _, _, _, rfl, rfl, SqL.of hb2, rfl, _, _, rfl, rfl, .inl ⟨by omega, by omega⟩, _, _, rfl, rfl, _, rfl, _, _, rfl, rfl, .inl ⟨by omega, by omega⟩, _, _, rfl, rfl, (by show (0 : Int) < 2147483587; decide), ?_⟩
      generalize (x1 + 39373 * (x2 + 1)) * (69621 + (x2 + 1) * (x2 + 1)) = y
      have y1 := Int.emod_nonneg y (show (2147483587 : Int) ≠ 0 by decide)
      have y2 := Int.emod_lt_of_pos y (show (0 : Int) < 2147483587 by decide)
      refine ⟨_, rfl, _, rfl, _, _, rfl, rfl, (by show (0 : Int) < 30011; decide), _, _, rfl, rfl, _, _, rfl, rfl, .inl ⟨by omega, by omega⟩, _, rfl, b, _, _, _, rfl, rfl, SqL.of hb2, rfl, _, _, rfl, rfl, _, _, rfl, rfl, (by show (0 : Int) < 2147483563; decide), ?_⟩
      generalize (y % 2147483587 * (y % 2147483587 % 30011 + 5) + (x2 + 1)) = z
      have z1 := Int.emod_nonneg z (show (2147483563 : Int) ≠ 0 by decide)
      have z2 := Int.emod_lt_of_pos z (show (0 : Int) < 2147483563 by decide)
      refine ⟨_, rfl, _, rfl, _, _, rfl, rfl, (by show (0 : Int) < 1013; decide), _, _, rfl, rfl, _, _, rfl, rfl, .inl ⟨by omega, by omega⟩, _, _, rfl, rfl, (by show (0 : Int) < 998244353; decide), _, _, rfl, rfl, ⟨by decide, by decide⟩, _, rfl, _, _, rfl, rfl, (by show (0 : Int) < n; omega), ?_⟩
      refine q _ _ (Int.emod_nonneg _ (by omega)) (Int.emod_lt_of_pos _ (by omega)) ⟨x0, x1, x2 + 1, hb2, h0, h1, h1', by omega, by show x2 + 1 ≤ c + 2 ^ k; omega⟩ Keep.upd
theorem ok_take {f : Addr} {fd : FuncData} (F : Fun K "_law_take" "_law_take" sTake f fd) (bf : Binds K fd ["_law_box_here", "_law_size"] []) (mf : mg "_law_take" = some (.ref f)) (B : Bl mg) : ∀ k : Nat, FnOk P w K mg base CX0 k f fd ["_law_box_here", "_law_size"] (spTake k)
  | 0 => take_none
  | k + 1 => ok_take1 F (ok_take F bf mf B k) bf mf B
/-! ### _law_box -/
theorem scBox : FnScope ["_law_script", "_law_k", "_law_cell"] ["_law_script", "_law_k"] (defScope sBox) := ⟨rfl, rfl, rfl, by decide +kernel, rfl, by decide +kernel, by decide +kernel⟩
def spBox (K : PySem.W.Frag) : Sp := fun vs H Q _ => ∃ (a : Addr) (zs : List Int) (k : Int), vs = [.ref a, .int k] ∧ SqL K H a (zs.map V.int) ∧ 0 ≤ k ∧ k ≤ 1000 ∧
  ∀ (p : Addr) (H' : Hp), H p = none → Same H H' → BoxAt 0 H' p → Q (.ref p) H'
theorem b01 (b : Bool) : (-(2 ^ 64) < (if b = true then (1 : Int) else 0)) ∧ (if b = true then (1 : Int) else 0) < 2 ^ 64 := by cases b <;> decide
theorem b01n (b : Bool) : 0 ≤ (if b = true then (1 : Int) else 0) := by cases b <;> decide
theorem abs_nn (i : Int) : 0 ≤ (if i < 0 then -i else i) := by
  split <;> omega
theorem at_int {zs : List Int} {k : Int} (h0 : 0 ≤ k) (h : k < (zs.length : Int)) : ∃ v : Int, atI (zs.map V.int) k = some (.int v) ∧ zs[k.toNat]? = some v := by
  have hk : k.toNat < zs.length := by omega
  have ek : k = ((k.toNat : Nat) : Int) := by omega
  have q : atI (zs.map V.int) ((k.toNat : Nat) : Int) = some (.int zs[k.toNat]) := atI_nat (by rw [List.getElem?_map, List.getElem?_eq_getElem hk] <;> rfl)
  rw [← ek] at q
  exact ⟨zs[k.toNat], q, List.getElem?_eq_getElem hk⟩
theorem ok_box {f : Addr} {fd : FuncData} {k : Nat} (F : Fun K "_law_box" "_law_box" sBox f fd) (B : Bl mg) : FnOk P w K mg base CX0 (k + 1) f fd ["_law_script", "_law_k"] (spBox K) := by
  refine F.ok scBox (fun vs H Q E h => ?_) (fun cdv A outer s H vs Q E hr h => ?_)
  · obtain ⟨a, zs, k, rfl, _⟩ := h
    rfl
  obtain ⟨a, zs, k, rfl, hS, h0, h1, q⟩ := h
  refine ⟨_, pss_cons (ps_set (i := 2) scBox.nd rfl (.inl rfl) (pe_ifExp (pt_cmpR op_lt (pv 1) (pe_callB call_len_seq (by rfl) B.len PySem.boot_len (pa_cons (pv 0) pa_nil)) (nomark _)) (pe_ix ix_list (pv 0) (pv 1) (fun _ _ => rfl)) pe_int))
    (pss_one (ps_ret (pe_lst (pa_cons (pe_op op_mul (pe_callB call_abs (by rfl) B.abs boot_abs (pa_cons (pv 2) pa_nil)) (pe_callTy call_int1 (by rfl) B.int PyProof.Rows.boot_int (pa_cons (pe_cmpR op_ge (pe_callB call_abs (by rfl) B.abs boot_abs (pa_cons (pv 2) pa_nil)) (pe_op op_pow pe_int pe_int) (nomark _)) pa_nil)))
      (pa_cons (pe_op op_mod (pe_op op_mul (pe_op op_add (pe_op op_add (pe_op op_mod (pv 2) pe_int) (pe_op op_mul pe_int (pv 1))) pe_int) pe_int) pe_int) (pa_cons pe_int pa_nil)))))), ?_⟩
  refine ⟨_, rfl, _, rfl, a, _, rfl, .inl hS, _, _, rfl, rfl, _, rfl, ite2 (fun cc => ?_) (fun cc => ?_)⟩
  · have c1 : k < (((zs.map V.int).length : Nat) : Int) := of_decide_eq_true cc
    rw [List.length_map] at c1
    obtain ⟨v, hv, _⟩ := at_int h0 c1
    refine ⟨_, rfl, _, rfl, a, _, _, _, rfl, rfl, hS, hv, ?_⟩
    refine ⟨_, rfl, _, rfl, _, rfl, _, rfl, _, _, rfl, rfl, ⟨by decide, by decide, by decide⟩, _, _, rfl, rfl, .inr ⟨_, rfl, ?_⟩⟩
    refine ⟨_, _, rfl, rfl, .inr (b01 _), _, rfl, _, _, rfl, rfl, (by show (0 : Int) < 2147483629; decide), _, rfl, _, _, rfl, rfl, .inl ⟨by decide, by decide⟩, _, _, rfl, rfl, _, _, rfl, rfl, _, _, rfl, rfl, .inr ⟨by decide, by decide⟩, _, _, rfl, rfl, (by show (0 : Int) < 2147483647; decide), (by show 3 ≤ sizeLine; decide), fun p np => ?_⟩
    refine q p _ np (same_upd np) ⟨_, _, _, upd_same, Int.mul_nonneg (abs_nn v) (b01n _), Int.emod_nonneg _ (by decide), Int.emod_lt_of_pos _ (by decide), by decide, by decide⟩
  · refine ⟨_, rfl, _, rfl, _, rfl, _, rfl, _, _, rfl, rfl, ⟨by decide, by decide, by decide⟩, _, _, rfl, rfl, .inr ⟨_, rfl, ?_⟩⟩
    refine ⟨_, _, rfl, rfl, .inr (b01 _), _, rfl, _, _, rfl, rfl, (by show (0 : Int) < 2147483629; decide), _, rfl, _, _, rfl, rfl, .inl ⟨by decide, by decide⟩, _, _, rfl, rfl, _, _, rfl, rfl, _, _, rfl, rfl, .inr ⟨by decide, by decide⟩, _, _, rfl, rfl, (by show (0 : Int) < 2147483647; decide), (by show 3 ≤ sizeLine; decide), fun p np => ?_⟩
    refine q p _ np (same_upd np) ⟨_, _, _, upd_same, Int.mul_nonneg (abs_nn 0) (b01n _), Int.emod_nonneg _ (by decide), Int.emod_lt_of_pos _ (by decide), by decide, by decide⟩
/-! ### _law_folded -/
theorem scFolded : FnScope ["_law_script", "_law_size", "_law_cells", "_law_k", "_law_cell"] ["_law_script", "_law_size"] (defScope sFolded) := ⟨rfl, rfl, rfl, by decide +kernel, rfl, by decide +kernel, by decide +kernel⟩
def spFolded (K : PySem.W.Frag) : Sp := fun vs H Q _ => ∃ (a : Addr) (ns : List Int) (m : Nat), vs = [.ref a, .int (m : Int)] ∧ SqL K H a (ns.map V.int) ∧ ns.length ≤ 63 ∧ 1 ≤ m ∧ m ≤ 63 ∧
  ∀ (p : Addr) (H' : Hp) (zs : List Int), H p = none → Same H H' → H' p = some (.lst (zs.map V.int)) → zs.length = min ns.length m → Q (.ref p) H'
theorem cut_lo (ns : List Int) (m : Nat) : cutV (ns.map V.int) none (some (m : Int)) = (ns.take m).map V.int := by
  unfold cutV
  rw [HT.sIx_none, HT.sIx_nat, List.drop_zero, Nat.sub_zero, List.length_map, ← List.map_take]
  congr 1
  rw [List.take_eq_take_iff]
  omega
theorem cut_mid (ns : List Int) (m j : Nat) : ∃ ws : List Int, cutV (ns.map V.int) (some (m : Int)) (some (j : Int)) = ws.map V.int ∧ ws.length ≤ ns.length - m := by
  unfold cutV
  rw [HT.sIx_nat, HT.sIx_nat, List.length_map, ← List.map_drop, ← List.map_take]
  refine ⟨_, rfl, ?_⟩
  rw [List.length_take, List.length_drop]
  omega
theorem int_at {ws : List Int} {i : Nat} {x : V} (h : (ws.map V.int)[i]? = some x) : ∃ z, ws[i]? = some z ∧ x = .int z := by
  rw [List.getElem?_map] at h
  cases e : ws[i]? with
  | none =>
    rw [e] at h
    cases h
  | some z =>
    rw [e] at h
    exact ⟨z, rfl, (Option.some.inj h).symm⟩
theorem map_set (zs : List Int) (j : Nat) (v : Int) : (zs.map V.int).set j (.int v) = (zs.set j v).map V.int := List.map_set.symm
theorem ixN_nat {n j : Nat} (h : j < n) : ixN n (j : Int) = some j := by
  unfold ixN
  rw [if_pos (Int.natCast_nonneg j), if_pos (by omega), Int.toNat_natCast]
theorem ok_folded {f : Addr} {fd : FuncData} {k : Nat} (F : Fun K "_law_folded" "_law_folded" sFolded f fd) (B : Bl mg) : FnOk P w K mg base CX0 (k + 1) f fd ["_law_script", "_law_size"] (spFolded K) := by
  refine F.ok scFolded (fun vs H Q E h => ?_) (fun cdv A outer s H vs Q E hr h => ?_)
  · obtain ⟨a, ns, m, rfl, _⟩ := h
    rfl
  obtain ⟨a, ns, m, rfl, hS, h63, hm1, hm2, q⟩ := h
  refine ⟨_, pss_cons (ps_set (i := 2) scFolded.nd rfl (.inl rfl) (pe_callTy call_list_of (by rfl) B.list PyProof.Rows.boot_list (pa_cons (pe_slice sl_list (pv 0) po_none (po_some (pv 1))) pa_nil)))
    (pss_cons (ps_for PassesOwn.never rfl (pi_enum (by rfl) B.enumerate (pa_cons (pe_slice sl_list (pv 0) (po_some (pv 1)) (po_some pe_int)) pa_nil))
        (pg_tup rfl (pgs_cons (pg_name (i := 3) scFolded.nd rfl (.inl rfl)) (pgs_cons (pg_name (i := 4) scFolded.nd rfl (.inl rfl)) pgs_nil)))
      (pss_one (ps_asg (pe_op op_add (pe_ix ix_list (pv 2) (pe_op op_mod (pv 3) (pv 1)) (fun _ _ => rfl)) (pe_op op_mul (pv 4) (pe_op op_add (pv 3) pe_int))) (pg_sub (pv 2) (pe_op op_mod (pv 3) (pv 1)) set_list))))
    (pss_one (ps_ret (pv 2)))), ?_⟩
  refine ⟨_, rfl, _, rfl, _, rfl, a, _, rfl, hS, fun c0 nc0 => ?_⟩
  rw [cut_lo]
  have s0 : Same H (upd H c0 (.lst ((ns.take m).map V.int))) := same_upd nc0
  refine ⟨c0, _, rfl, .inl (.inl (.inl upd_same)), fun p np => ?_⟩
  have npH : H p = none := s0.free np
  have ne0 : c0 ≠ p := fun e => by
    subst e
    rw [upd_same] at np
    cases np
  have s1 := s0.trans (same_upd (o := .lst ((ns.take m).map V.int)) np)
  refine ⟨_, rfl, _, rfl, _, rfl, _, rfl, a, _, rfl, s1.seq hS, fun c nc => ?_⟩
  obtain ⟨ws, ew, lw⟩ := cut_mid ns m 63
  rw [show ((63 : Nat) : Int) = (63 : Int) from rfl] at ew
  rw [ew]
  have s2 := s1.trans (same_upd (o := .lst (ws.map V.int)) nc)
  have nec : c ≠ p := fun e => by
    subst e
    rw [upd_same] at nc
    cases nc
  refine ⟨c, _, rfl, .inl (.inl upd_same), ?_⟩
  refine for_it (walk_enum (K := K) (a := c) (xs := ws.map V.int)) (fun i σ H3 => ∃ (y3 y4 : Option V) (zs : List Int), σ = [some (.ref a), some (.int (m : Int)), some (.ref p), y3, y4] ∧ Same H H3 ∧ H3 c = some (.lst (ws.map V.int)) ∧ H3 p = some (.lst (zs.map V.int)) ∧ zs.length = min ns.length m)
    ⟨none, none, ns.take m, rfl, s2, upd_same, ?_, ?_⟩ (fun i σ H3 _ ⟨_, _, _, _, _, e, _⟩ => .inl (.inl e)) ?_ ?_
  · rw [upd_ne nec.symm]
    exact upd_same
  · rw [List.length_take, Nat.min_comm]
  · rintro i v σ H3 H4 hi ⟨y3, y4, zs, rfl, s3, ec, ep, el⟩ ⟨T, x, y, rfl, nT, rfl, e1, e2⟩
    cases e1
    obtain ⟨z, _, rfl⟩ := int_at e2
    rw [List.length_map] at hi
    have npT : p ≠ T := ne_of_none ep nT
    have ncT : c ≠ T := ne_of_none ec nT
    have sT : Same H3 (upd H3 T (.tup [.int (i : Nat), .int z])) := same_upd nT
    refine ⟨T, _, rfl, .inl (.inl upd_same), rfl, _, _, rfl, _, _, rfl, rfl, ?_⟩
    have lm : (i : Int) % (m : Int) = ((i % m : Nat) : Int) := rfl
    have hl : i % m < zs.length := by
      have := Nat.mod_lt i (show 0 < m by omega)
      omega
    have ev : (zs.map V.int)[i % m]? = some (.int zs[i % m]) := by
      rw [List.getElem?_map, List.getElem?_eq_getElem hl]
      rfl
    refine ⟨_, rfl, _, rfl, _, rfl, _, _, rfl, rfl, (by show (0 : Int) < (m : Int); omega), p, _, _, _, rfl, rfl, SqL.of (sT _ _ ep), (by rw [lm]; exact atI_nat ev), _, rfl, _, rfl, _, _, rfl, rfl, _, _, rfl, rfl, .inr ⟨by omega, by omega⟩, _, _, rfl, rfl, ?_⟩
    refine ⟨_, rfl, _, rfl, _, rfl, _, _, rfl, rfl, (by show (0 : Int) < (m : Int); omega), p, _, _, i % m, rfl, rfl, sT _ _ ep, (by rw [lm, List.length_map]; exact ixN_nat hl), ?_⟩
    refine ⟨_, _, zs.set (i % m) (zs[i % m] + z * ((i : Int) + 2)), rfl, fun b o e => ?_, ?_, ?_, ?_⟩
    · rw [upd_ne (ne_of_none e npH)]
      exact sT _ _ (s3 _ _ e)
    · rw [upd_ne nec]
      exact sT _ _ ec
    · rw [upd_same, map_set]
    · rw [List.length_set]
      exact el
  · rintro σ H3 ⟨y3, y4, zs, rfl, s3, ec, ep, el⟩
    exact ⟨_, rfl, q p H3 zs npH s3 ep el⟩
/-! ### _law_same: of two things of one kind and worth -/
theorem scSame : FnScope ["_law_found", "_law_due", "_law_one", "_law_other"] ["_law_found", "_law_due"] (defScope sSame) := ⟨rfl, rfl, rfl, by decide +kernel, rfl, by decide +kernel, by decide +kernel⟩
def Lv : Nat → PyData → Prop
  | _, .none => True
  | _, .bool _ => True
  | _, .int _ => True
  | _, .str _ => True
  | n + 1, .list ds => ds.length ≤ 1000000 ∧ ∀ d ∈ ds, Lv n d
  | n + 1, .tuple ds => ds.length ≤ 1000000 ∧ ∀ d ∈ ds, Lv n d
  | _, _ => False
mutual
theorem Dp.same {H H' : Hp} (s : Same H H') : ∀ (d : PyData) (v : V), Dp K H v d → Dp K H' v d
  | .none, _, h => by
    cases h
    exact .non
  | .bool b, _, h => by
    cases h
    exact .bl b
  | .int i, _, h => by
    cases h
    exact .int i
  | .str x, _, h => by
    cases h
    exact .str x
  | .list ds, _, h => by
    cases h with
    | lst hs ha => exact .lst (s.seq hs) (Dp.sameAll s ds _ ha)
  | .tuple ds, _, h => by
    cases h with
    | tup hs ha => exact .tup (Same.seqT s hs) (Dp.sameAll s ds _ ha)
  | .dict _, _, h => by cases h
theorem Dp.sameAll {H H' : Hp} (s : Same H H') : ∀ (ds : List PyData) (vs : List V), DpAll K H vs ds → DpAll K H' vs ds
  | [], _, h => by
    cases h
    exact .nil
  | d :: ds, _, h => by
    cases h with
    | cons h1 h2 => exact .cons (Dp.same s d _ h1) (Dp.sameAll s ds _ h2)
end
theorem DpAll.len {H : Hp} : ∀ {ds : List PyData} {vs : List V}, DpAll K H vs ds → vs.length = ds.length
  | [], _, h => by
    cases h
    rfl
  | d :: ds, _, h => by
    cases h with
    | cons h1 h2 => rw [List.length_cons, List.length_cons, DpAll.len h2]
theorem DpAll.get {H : Hp} : ∀ {ds : List PyData} {vs : List V} {i : Nat} {x : V}, DpAll K H vs ds → vs[i]? = some x → ∃ d, ds[i]? = some d ∧ Dp K H x d
  | [], _, i, x, h, e => by
    cases h
    cases e
  | d :: ds, _, 0, x, h, e => by
    cases h with
    | cons h1 h2 =>
      cases e
      exact ⟨d, rfl, h1⟩
  | d :: ds, _, i + 1, x, h, e => by
    cases h with
    | @cons _ vs _ _ h1 h2 => exact DpAll.get (ds := ds) (vs := vs) h2 (show vs[i]? = some x from e)
theorem walk_zipT {a b : Addr} {xs ys : List V} {n : Nat} (hn : n = min xs.length ys.length) : Walk (RZ.ItzT K a b) n (fun H => SqT K H a xs ∧ SqT K H b ys) (YPair (fun i => xs[i]?) (fun i => ys[i]?)) := by
  subst hn
  refine ⟨fun i _ hi q => ?_, fun _ q => ⟨xs, ys, q.1, q.2, by omega⟩, fun i H v H' _ q y => ?_⟩
  · have h1 : i < xs.length := by omega
    have h2 : i < ys.length := by omega
    exact ⟨xs, ys, xs[i], ys[i], q.1, q.2, by simp [h1], by simp [h2]⟩
  · obtain ⟨T, x, z, h1, h2, h3, h4, h5⟩ := y
    exact ⟨T, x, z, h1, h2, h3, h4 xs q.1, h5 ys q.2⟩
theorem ty_lst {H : Hp} {a : Addr} {xs : List V} (h : SqL K H a xs) : TyX K H (.ref a) (.type "list") := by
  rcases h with (h | ⟨o, h⟩) | ⟨o, its, n, h1, h2, _⟩
  · exact .base (.lst h)
  · exact .base (.frz h)
  · exact .kList h1 h2
theorem ty_tup {H : Hp} {a : Addr} {xs : List V} (h : SqT K H a xs) : TyX K H (.ref a) (.type "tuple") := by
  rcases h with (h | ⟨o, h⟩) | ⟨o, its, n, h1, h2, _⟩
  · exact .base (.tup h)
  · exact .fTuple h
  · exact .kTuple h1 h2
def spSame (K : PySem.W.Frag) (k : Nat) : Sp := fun vs H Q _ => ∃ (x y : V) (d : PyData) (j : Nat), vs = [x, y] ∧ k = j + 1 ∧ Lv j d ∧ Dp K H x d ∧ Dp K H y d ∧ ∀ H', Same H H' → Q (.bl true) H'
theorem same_none {f : Addr} {fd : FuncData} : FnOk P w K mg base CX0 0 f fd ["_law_found", "_law_due"] (spSame K 0) := by
  have no : ∀ vs H Q E, ¬ spSame K 0 vs H Q E := fun vs H Q E h => by
    obtain ⟨x, y, d, j, _, h0, _⟩ := h
    omega
  exact ⟨fun vs H Q E h => absurd h (no vs H Q E), fun A outer s H args us vs Q E _ _ _ _ h => absurd h (no vs H Q E)⟩
theorem yesT {σ : L2.St} {H : Hp} {R S : Hp → Prop} (h : R H) : tYes σ H fun b H3 => if b = true then R H3 else S H3 := h
theorem repl_snoc {α : Type} (i : Nat) (x : α) : List.replicate i x ++ [x] = List.replicate (i + 1) x := List.replicate_succ'.symm
theorem all_repl (n : Nat) : (List.replicate n true).all id = true := by
  rw [List.all_eq_true]
  intro x hx
  rw [List.eq_of_mem_replicate hx]
  rfl
theorem kitLT {t : String} {r1 r2 : Bool} (h1 : kitB t "list" = some r1) (h2 : kitB t "tuple" = some r2) : PySem.W.kitAny K (.type t) [.type "list", .type "tuple"] = some (r1 || r2) := by
  refine kitAny_cons (kit_ty h1) (fun e => ?_) (fun e => by rw [e]; rfl)
  rw [e, Bool.false_or]
  refine kitAny_cons (kit_ty h2) (fun e => ?_) (fun e => e)
  rw [e]
  rfl
theorem ok_same1 {f : Addr} {fd : FuncData} {k : Nat} (F : Fun K "_law_same" "_law_same" sSame f fd) (G : FnOk P w K mg base CX0 k f fd ["_law_found", "_law_due"] (spSame K k)) (bf : Binds K fd ["_law_found", "_law_due"] []) (mf : mg "_law_same" = some (.ref f)) (B : Bl mg) :
    FnOk P w K mg base CX0 (k + 1) f fd ["_law_found", "_law_due"] (spSame K (k + 1)) := by
  refine F.ok scSame (fun vs H Q E h => ?_) (fun cdv A outer s H vs Q E hr h => ?_)
  · obtain ⟨x, y, d, j, rfl, _⟩ := h
    rfl
  obtain ⟨x, y, d, j, rfl, ej, lv, dx, dy, q⟩ := h
  obtain rfl : k = j := by omega
  refine ⟨_, pss_cons (ps_if (pt_val (pe_callB call_isiT (by rfl) B.isinstance boot_isinstance (pa_cons (pv 1) (pa_cons (pe_tup (pa_cons (pe_bltn (v := .ty "list") (by rfl) B.list PyProof.Rows.boot_list rfl) (pa_cons (pe_bltn (v := .ty "tuple") (by rfl) B.tuple PyProof.Rows.boot_tuple rfl) pa_nil))) pa_nil))))
      (pss_cons (ps_if (PW.pt (pw_or (pt_cmpR op_ne (pe_callB call_isi (by rfl) B.isinstance boot_isinstance (pa_cons (pv 0) (pa_cons (pe_bltn (v := .ty "list") (by rfl) B.list PyProof.Rows.boot_list rfl) pa_nil))) (pe_callB call_isi (by rfl) B.isinstance boot_isinstance (pa_cons (pv 1) (pa_cons (pe_bltn (v := .ty "list") (by rfl) B.list PyProof.Rows.boot_list rfl) pa_nil))) (nomark _))
          (pw_or1 (pt_cmpR op_ne (pe_callB call_isi (by rfl) B.isinstance boot_isinstance (pa_cons (pv 0) (pa_cons (pe_bltn (v := .ty "tuple") (by rfl) B.tuple PyProof.Rows.boot_tuple rfl) pa_nil))) (pe_callB call_isi (by rfl) B.isinstance boot_isinstance (pa_cons (pv 1) (pa_cons (pe_bltn (v := .ty "tuple") (by rfl) B.tuple PyProof.Rows.boot_tuple rfl) pa_nil))) (nomark _)))))
          (pss_one (ps_ret pe_bl)) pss_nil)
        (pss_one (ps_ret (pe_and (pe_cmpR op_eq (pe_callB call_len_seq (by rfl) B.len PySem.boot_len (pa_cons (pv 0) pa_nil)) (pe_callB call_len_seq (by rfl) B.len PySem.boot_len (pa_cons (pv 1) pa_nil)) (nomark _))
          (pe_one (pe_callB (cr_all rfl) (by rfl) B.all boot_all (pa_cons (pe_lc (own := [("_law_one", 2), ("_law_other", 3)]) (g := gTup K 2 (gCons (gName 2) (gCons (gName 3) gNil))) (by rfl) scSame.nd (RZ.pi_zipA (by rfl) B.zip (pa_cons (pv 0) (pa_cons (pv 1) pa_nil)))
            (blkOk_by (own := [("_law_one", 2), ("_law_other", 3)]) (N := ["_law_found", "_law_due", "_law_one", "_law_other"]) (sc := defScope sSame) (by decide +kernel))
            (fun _ _ _ _ _ => pg_tup rfl (pgs_cons (pg_name (i := 2) scSame.nd rfl (Or.inl rfl) (.inr rfl)) (pgs_cons (pg_name (i := 3) scSame.nd rfl (Or.inl rfl) (.inr rfl)) pgs_nil))) (fun _ _ _ _ _ => pts_nil)
            (fun _ _ _ _ _ => pe_call G hr (by rfl) mf F.kp bf .nil pass0 (pa_cons (pv 2) (pa_cons (pv 3) pa_nil)))) pa_nil))))))) pss_nil)
    (pss_cons (ps_if (PW.pt (pw_or (pt_cmpR op_isN (pv 1) pe_non (nomark _)) (pw_or1 (pt_val (pe_callB call_isi (by rfl) B.isinstance boot_isinstance (pa_cons (pv 1) (pa_cons (pe_bltn (v := .ty "str") (by rfl) B.str PyProof.Rows.boot_str rfl) pa_nil)))))))
      (pss_one (ps_ret (pe_and (pe_cmpR op_eq (pv 0) (pv 1) (nomark _)) (pe_one (pe_cmpR op_eq (pe_callB call_isi (by rfl) B.isinstance boot_isinstance (pa_cons (pv 0) (pa_cons (pe_bltn (v := .ty "str") (by rfl) B.str PyProof.Rows.boot_str rfl) pa_nil))) (pe_callB call_isi (by rfl) B.isinstance boot_isinstance (pa_cons (pv 1) (pa_cons (pe_bltn (v := .ty "str") (by rfl) B.str PyProof.Rows.boot_str rfl) pa_nil))) (nomark _)))))) pss_nil)
    (pss_one (ps_ret (pe_and (pe_callB call_isi (by rfl) B.isinstance boot_isinstance (pa_cons (pv 0) (pa_cons (pe_bltn (v := .ty "int") (by rfl) B.int PyProof.Rows.boot_int rfl) pa_nil))) (pe_and (pe_cmpR op_eq (pe_callB call_isi (by rfl) B.isinstance boot_isinstance (pa_cons (pv 0) (pa_cons (pe_bltn (v := .ty "bool") (by rfl) B.bool PyProof.Rows.boot_bool rfl) pa_nil))) (pe_callB call_isi (by rfl) B.isinstance boot_isinstance (pa_cons (pv 1) (pa_cons (pe_bltn (v := .ty "bool") (by rfl) B.bool PyProof.Rows.boot_bool rfl) pa_nil))) (nomark _))
      (pe_one (pe_cmpR op_eq (pv 0) (pv 1) (nomark _)))))))), ?_⟩
  have pr : Paired ClsV [.ty "list", .ty "tuple"] [.type "list", .type "tuple"] := .cons (.ty _) (.cons (.ty _) .nil)
  refine ⟨_, rfl, (by show 2 ≤ sizeLine; decide), fun tp ntp => ?_⟩
  have s0 : Same H (upd H tp (.tup [.ty "list", .ty "tuple"])) := same_upd ntp
  cases d with
  | none =>
    cases dx
    cases dy
    refine ⟨_, tp, _, _, _, _, rfl, upd_same, pr, .base .non, kitLT (t := "NoneType") (r1 := false) (r2 := false) (by decide +kernel) (by decide +kernel), _, rfl, iteF ?_⟩
    refine ⟨_, rfl, rfl, _, rfl, iteT (iteT ?_)⟩
    refine ⟨_, rfl, _, rfl, rfl, _, rfl, iteT ?_⟩
    refine ⟨_, rfl, _, _, _, _, _, rfl, .ty _, .base .non, kit_ty (by decide +kernel : kitB "NoneType" "str" = some false), _, rfl, _, _, _, _, _, rfl, .ty _, .base .non, kit_ty (by decide +kernel : kitB "NoneType" "str" = some false), rfl, q _ s0⟩
  | bool b =>
    cases dx
    cases dy
    refine ⟨_, tp, _, _, _, _, rfl, upd_same, pr, .base (.bl _), kitLT (t := "bool") (r1 := false) (r2 := false) (by decide +kernel) (by decide +kernel), _, rfl, iteF ?_⟩
    refine ⟨_, rfl, rfl, _, rfl, iteF ?_⟩
    refine ⟨_, rfl, _, _, _, _, _, rfl, .ty _, .base (.bl _), kit_ty (by decide +kernel : kitB "bool" "str" = some false), _, rfl, iteF ?_⟩
    refine ⟨_, rfl, _, _, _, _, _, rfl, .ty _, .base (.bl _), kit_ty (by decide +kernel : kitB "bool" "int" = some true), _, rfl, iteT ?_⟩
    refine ⟨_, rfl, _, _, _, _, _, rfl, .ty _, .base (.bl _), kit_ty (by decide +kernel : kitB "bool" "bool" = some true), _, rfl, _, _, _, _, _, rfl, .ty _, .base (.bl _), kit_ty (by decide +kernel : kitB "bool" "bool" = some true), rfl, _, rfl, iteT ?_⟩
    refine ⟨_, rfl, _, rfl, rfl, ?_⟩
    rw [decide_eq_true rfl]
    exact q _ s0
  | int i =>
    cases dx
    cases dy
    refine ⟨_, tp, _, _, _, _, rfl, upd_same, pr, .base (.int _), kitLT (t := "int") (r1 := false) (r2 := false) (by decide +kernel) (by decide +kernel), _, rfl, iteF ?_⟩
    refine ⟨_, rfl, rfl, _, rfl, iteF ?_⟩
    refine ⟨_, rfl, _, _, _, _, _, rfl, .ty _, .base (.int _), kit_ty (by decide +kernel : kitB "int" "str" = some false), _, rfl, iteF ?_⟩
    refine ⟨_, rfl, _, _, _, _, _, rfl, .ty _, .base (.int _), kit_ty (by decide +kernel : kitB "int" "int" = some true), _, rfl, iteT ?_⟩
    refine ⟨_, rfl, _, _, _, _, _, rfl, .ty _, .base (.int _), kit_ty (by decide +kernel : kitB "int" "bool" = some false), _, rfl, _, _, _, _, _, rfl, .ty _, .base (.int _), kit_ty (by decide +kernel : kitB "int" "bool" = some false), rfl, _, rfl, iteT ?_⟩
    refine ⟨_, rfl, _, rfl, rfl, ?_⟩
    rw [decide_eq_true rfl]
    exact q _ s0
  | str z =>
    cases dx
    cases dy
    refine ⟨_, tp, _, _, _, _, rfl, upd_same, pr, .base (.str _), kitLT (t := "str") (r1 := false) (r2 := false) (by decide +kernel) (by decide +kernel), _, rfl, iteF ?_⟩
    refine ⟨_, rfl, rfl, _, rfl, iteF ?_⟩
    refine ⟨_, rfl, _, _, _, _, _, rfl, .ty _, .base (.str _), kit_ty (by decide +kernel : kitB "str" "str" = some true), _, rfl, iteT ?_⟩
    refine ⟨_, rfl, _, rfl, rfl, ?_⟩
    rw [decide_eq_true rfl]
    refine ⟨_, rfl, iteT ?_⟩
    exact ⟨_, rfl, _, _, _, _, _, rfl, .ty _, .base (.str _), kit_ty (by decide +kernel : kitB "str" "str" = some true), _, rfl, _, _, _, _, _, rfl, .ty _, .base (.str _), kit_ty (by decide +kernel : kitB "str" "str" = some true), rfl, q _ s0⟩
  | list ds =>
    cases dx with
    | @lst a xs _ hx ax =>
    cases dy with
    | @lst b ys _ hy ay =>
    obtain ⟨i, rfl⟩ : ∃ i, k = i + 1 := by
      cases k with
      | zero => exact absurd lv id
      | succ i => exact ⟨i, rfl⟩
    have lx := DpAll.len ax
    have ly := DpAll.len ay
    have hx1 := s0.seq hx
    have hy1 := s0.seq hy
    refine ⟨_, tp, _, _, _, _, rfl, upd_same, pr, ty_lst hy1, kitLT (t := "list") (r1 := true) (r2 := false) (by decide +kernel) (by decide +kernel), _, rfl, iteT ?_⟩
    refine ⟨_, rfl, _, _, _, _, _, rfl, .ty _, ty_lst hx1, kit_ty (by decide +kernel : kitB "list" "list" = some true), _, rfl, _, _, _, _, _, rfl, .ty _, ty_lst hy1, kit_ty (by decide +kernel : kitB "list" "list" = some true), rfl, _, rfl, iteF ?_⟩
    refine ⟨_, rfl, _, _, _, _, _, rfl, .ty _, ty_lst hx1, kit_ty (by decide +kernel : kitB "list" "tuple" = some false), _, rfl, _, _, _, _, _, rfl, .ty _, ty_lst hy1, kit_ty (by decide +kernel : kitB "list" "tuple" = some false), rfl, _, rfl, iteF ?_⟩
    refine ⟨_, rfl, a, _, rfl, .inl hx1, _, rfl, b, _, rfl, .inl hy1, rfl, ?_⟩
    rw [decide_eq_true (by rw [lx, ly])]
    refine ⟨_, rfl, iteT ?_⟩
    refine ⟨_, rfl, _, rfl, a, b, xs, ys, rfl, .inl ⟨hx1, hy1, fun D nD => ?_⟩⟩
    have sD := s0.trans (same_upd (o := .lst []) nD)
    refine lc_it (walk_zip (K := K) (a := a) (b := b) (xs := xs) (ys := ys) rfl) (fun i H3 => Same H H3 ∧ H3 D = some (.lst (List.replicate i (.bl true)))) ⟨sD, upd_same⟩ (fun i H3 _ ⟨s3, _⟩ => ⟨s3.seq hx, s3.seq hy⟩) ?_ ?_
    · rintro i v H3 H4 hi ⟨s3, eD⟩ ⟨T, x, y, rfl, nT, rfl, e1, e2⟩
      obtain ⟨d1, g1, p1⟩ := DpAll.get ax e1
      obtain ⟨d2, g2, p2⟩ := DpAll.get ay e2
      obtain rfl : d1 = d2 := Option.some.inj (g1.symm.trans g2)
      have s4 := s3.trans (same_upd (o := .tup [x, y]) nT)
      refine ⟨T, _, rfl, .inl (.inl upd_same), rfl, _, _, rfl, _, _, rfl, rfl, rfl, ?_⟩
      refine yesT ?_
      refine ⟨_, rfl, _, rfl, x, y, d1, _, rfl, rfl, lv.2 d1 (List.mem_of_getElem? g1), Dp.same s4 _ _ p1, Dp.same s4 _ _ p2, fun H5 s5 => ?_⟩
      refine ⟨_, s5 _ _ (by rw [upd_ne (ne_of_none eD nT)]; exact eD), ?_, fun p o e => ?_, ?_⟩
      · rw [List.length_replicate]
        have := lv.1
        refine Nat.lt_of_lt_of_le (show i < 1000000 by omega) (by decide)
      · rw [upd_ne (ne_of_none e (s0.free nD))]
        exact s5 _ _ (s4 _ _ e)
      · rw [upd_same, repl_snoc]
    · rintro H3 ⟨s3, eD⟩
      refine ⟨D, List.replicate (min xs.length ys.length) true, rfl, .inl (.inl (by rw [List.map_replicate]; exact eD)), ?_⟩
      rw [all_repl]
      exact q _ s3
  | tuple ds =>
    cases dx with
    | @tup a xs _ hx ax =>
    cases dy with
    | @tup b ys _ hy ay =>
    obtain ⟨i, rfl⟩ : ∃ i, k = i + 1 := by
      cases k with
      | zero => exact absurd lv id
      | succ i => exact ⟨i, rfl⟩
    have lx := DpAll.len ax
    have ly := DpAll.len ay
    have hx1 := Same.seqT s0 hx
    have hy1 := Same.seqT s0 hy
    refine ⟨_, tp, _, _, _, _, rfl, upd_same, pr, ty_tup hy1, kitLT (t := "tuple") (r1 := false) (r2 := true) (by decide +kernel) (by decide +kernel), _, rfl, iteT ?_⟩
    refine ⟨_, rfl, _, _, _, _, _, rfl, .ty _, ty_tup hx1, kit_ty (by decide +kernel : kitB "tuple" "list" = some false), _, rfl, _, _, _, _, _, rfl, .ty _, ty_tup hy1, kit_ty (by decide +kernel : kitB "tuple" "list" = some false), rfl, _, rfl, iteF ?_⟩
    refine ⟨_, rfl, _, _, _, _, _, rfl, .ty _, ty_tup hx1, kit_ty (by decide +kernel : kitB "tuple" "tuple" = some true), _, rfl, _, _, _, _, _, rfl, .ty _, ty_tup hy1, kit_ty (by decide +kernel : kitB "tuple" "tuple" = some true), rfl, _, rfl, iteF ?_⟩
    refine ⟨_, rfl, a, _, rfl, .inr hx1, _, rfl, b, _, rfl, .inr hy1, rfl, ?_⟩
    rw [decide_eq_true (by rw [lx, ly])]
    refine ⟨_, rfl, iteT ?_⟩
    refine ⟨_, rfl, _, rfl, a, b, xs, ys, rfl, .inr ⟨hx1, hy1, fun D nD => ?_⟩⟩
    have sD := s0.trans (same_upd (o := .lst []) nD)
    refine lc_it (walk_zipT (K := K) (a := a) (b := b) (xs := xs) (ys := ys) rfl) (fun i H3 => Same H H3 ∧ H3 D = some (.lst (List.replicate i (.bl true)))) ⟨sD, upd_same⟩ (fun i H3 _ ⟨s3, _⟩ => ⟨Same.seqT s3 hx, Same.seqT s3 hy⟩) ?_ ?_
    · rintro i v H3 H4 hi ⟨s3, eD⟩ ⟨T, x, y, rfl, nT, rfl, e1, e2⟩
      obtain ⟨d1, g1, p1⟩ := DpAll.get ax e1
      obtain ⟨d2, g2, p2⟩ := DpAll.get ay e2
      obtain rfl : d1 = d2 := Option.some.inj (g1.symm.trans g2)
      have s4 := s3.trans (same_upd (o := .tup [x, y]) nT)
      refine ⟨T, _, rfl, .inl (.inl upd_same), rfl, _, _, rfl, _, _, rfl, rfl, rfl, ?_⟩
      refine yesT ?_
      refine ⟨_, rfl, _, rfl, x, y, d1, _, rfl, rfl, lv.2 d1 (List.mem_of_getElem? g1), Dp.same s4 _ _ p1, Dp.same s4 _ _ p2, fun H5 s5 => ?_⟩
      refine ⟨_, s5 _ _ (by rw [upd_ne (ne_of_none eD nT)]; exact eD), ?_, fun p o e => ?_, ?_⟩
      · rw [List.length_replicate]
        have := lv.1
        refine Nat.lt_of_lt_of_le (show i < 1000000 by omega) (by decide)
      · rw [upd_ne (ne_of_none e (s0.free nD))]
        exact s5 _ _ (s4 _ _ e)
      · rw [upd_same, repl_snoc]
    · rintro H3 ⟨s3, eD⟩
      refine ⟨D, List.replicate (min xs.length ys.length) true, rfl, .inl (.inl (by rw [List.map_replicate]; exact eD)), ?_⟩
      rw [all_repl]
      exact q _ s3
  | dict _ => cases dx
theorem ok_same {f : Addr} {fd : FuncData} (F : Fun K "_law_same" "_law_same" sSame f fd) (bf : Binds K fd ["_law_found", "_law_due"] []) (mf : mg "_law_same" = some (.ref f)) (B : Bl mg) : ∀ k : Nat, FnOk P w K mg base CX0 k f fd ["_law_found", "_law_due"] (spSame K k)
  | 0 => same_none
  | k + 1 => ok_same1 F (ok_same F bf mf B k) bf mf B
end
end GZ
namespace GM
theorem pow_pos' (n : Nat) : (0 : Int) < 2 ^ n := Int.pow_pos (by decide)
theorem pow_s (n : Nat) : (2 : Int) ^ (n + 1) = 2 ^ n * 2 := Int.pow_succ 2 n
theorem pow_le' {m n : Nat} (h : m ≤ n) : (2 : Int) ^ m ≤ 2 ^ n := by
  induction n with
  | zero =>
    have : m = 0 := by omega
    rw [this]
    exact Int.le_refl _
  | succ n ih =>
    by_cases e : m = n + 1
    · rw [e]
      exact Int.le_refl _
    · have := ih (by omega)
      have := pow_s n
      have := pow_pos' n
      omega
theorem pow_add' (m n : Nat) : (2 : Int) ^ (m + n) = 2 ^ m * 2 ^ n := Int.pow_add 2 m n
theorem bits_pow {x : Nat} {e : Nat} (h : x < 2 ^ e) : PySem.Builtin.Int.intBits (x : Int) ≤ e := PyProof.Rows.intBits_le (by rw [Int.natAbs_natCast]; exact h)
theorem bits_le_pow {x : Nat} {e : Nat} (h : 2 ^ e ≤ x) : e + 1 ≤ PySem.Builtin.Int.intBits (x : Int) := by
  have hx : x ≠ 0 := by
    have := Nat.two_pow_pos e
    omega
  unfold PySem.Builtin.Int.intBits
  rw [if_neg (by simpa using hx), Int.natAbs_natCast]
  have := (Nat.le_log2 hx).mpr h
  omega
theorem bits_unique {x e : Nat} (h1 : 2 ^ e ≤ x) (h2 : x < 2 ^ (e + 1)) : PySem.Builtin.Int.intBits (x : Int) = e + 1 := by
  have := bits_pow h2
  have := bits_le_pow h1
  omega
theorem bits_ex {x : Nat} (h : 0 < x) : ∃ e, 2 ^ e ≤ x ∧ x < 2 ^ (e + 1) := ⟨x.log2, Nat.log2_self_le (by omega), Nat.lt_log2_self⟩
theorem bits_half {x : Nat} (h : 0 < x) : PySem.Builtin.Int.intBits (x : Int) = PySem.Builtin.Int.intBits ((x / 2 : Nat) : Int) + 1 := by
  obtain ⟨e, h1, h2⟩ := bits_ex h
  rw [bits_unique h1 h2]
  cases e with
  | zero =>
    have : x = 1 := by
      simp at h1 h2
      omega
    rw [this]
    rfl
  | succ e =>
    rw [bits_unique (x := x / 2) (e := e)]
    · rw [Nat.pow_succ] at h1
      omega
    · rw [Nat.pow_succ] at h2
      omega
theorem bits_double {x m : Nat} (h : 0 < x) (hm : m ≤ 1) : PySem.Builtin.Int.intBits ((2 * x + m : Nat) : Int) = PySem.Builtin.Int.intBits (x : Int) + 1 := by
  rw [bits_half (x := 2 * x + m) (by omega), show (2 * x + m) / 2 = x by omega]
theorem shr_lt {x : Int} {a b : Nat} (h0 : 0 ≤ x) (h : x < 2 ^ (a + b)) : 0 ≤ x / 2 ^ b ∧ x / 2 ^ b < 2 ^ a := by
  have hb := pow_pos' b
  refine ⟨Int.ediv_nonneg h0 (by omega), ?_⟩
  rw [pow_add'] at h
  exact Int.ediv_lt_of_lt_mul hb h
end GM
namespace GM
/-! ### words: a sign, a scale of m bits, a tail of t bits -/
def bit (a : Int) (n : Nat) : Int := a / 2 ^ n % 2
def blr (a : Int) : Nat → List Int
  | 0 => []
  | n + 1 => bit a n :: blr a n
def wv : List Int → Int
  | [] => 0
  | d :: r => d * 2 ^ r.length + wv r
theorem blr_len (a : Int) : ∀ n, (blr a n).length = n
  | 0 => rfl
  | n + 1 => by
    show (blr a n).length + 1 = n + 1
    rw [blr_len a n]
theorem div_div (w : Int) (t m : Nat) : w / 2 ^ t / 2 ^ m = w / 2 ^ (t + m) := by
  rw [pow_add', Int.ediv_ediv_of_nonneg (Int.le_of_lt (pow_pos' t))]
theorem bit_div (w : Int) (t m : Nat) : bit (w / 2 ^ t) m = bit w (m + t) := by
  unfold bit
  rw [div_div, Nat.add_comm t m]
theorem blr_take (w : Int) (t : Nat) : ∀ m, (blr w (m + t)).take m = blr (w / 2 ^ t) m
  | 0 => rfl
  | m + 1 => by
    show (blr w ((m + 1) + t)).take (m + 1) = bit (w / 2 ^ t) m :: blr (w / 2 ^ t) m
    rw [show m + 1 + t = (m + t) + 1 by omega]
    show bit w (m + t) :: (blr w (m + t)).take m = _
    rw [blr_take w t m, bit_div]
theorem blr_drop (w : Int) (t : Nat) : ∀ m, (blr w (m + t)).drop m = blr w t
  | 0 => by rw [Nat.zero_add]; rfl
  | m + 1 => by
    rw [show m + 1 + t = (m + t) + 1 by omega]
    show (blr w (m + t)).drop m = _
    exact blr_drop w t m
theorem mod_step (a : Int) (n : Nat) : bit a n * 2 ^ n + a % 2 ^ n = a % 2 ^ (n + 1) := by
  unfold bit
  have hp := pow_pos' n
  have e1 := Int.emod_add_mul_ediv a (2 ^ n)
  have e2 := Int.emod_add_mul_ediv (a / 2 ^ n) 2
  have h1 := Int.emod_nonneg a (show (2 : Int) ^ n ≠ 0 by omega)
  have h2 := Int.emod_lt_of_pos a hp
  have e3 : 2 ^ n * (a / 2 ^ n) = a / 2 ^ n % 2 * 2 ^ n + a / 2 ^ n / 2 * (2 ^ n * 2) := by
    conv => lhs; rw [← e2]
    rw [Int.mul_add, Int.mul_comm (2 ^ n) (a / 2 ^ n % 2), ← Int.mul_assoc, Int.mul_comm (2 ^ n * 2) _]
  have key : (a / 2 ^ n % 2 * 2 ^ n + a % 2 ^ n) + a / 2 ^ n / 2 * 2 ^ (n + 1) = a := by
    rw [pow_s]
    omega
  have hb : 0 ≤ a / 2 ^ n % 2 * 2 ^ n + a % 2 ^ n ∧ a / 2 ^ n % 2 * 2 ^ n + a % 2 ^ n < 2 ^ (n + 1) := by
    rw [pow_s]
    have : a / 2 ^ n % 2 = 0 ∨ a / 2 ^ n % 2 = 1 := by omega
    rcases this with z | z <;> rw [z] <;> omega
  have em := Int.add_mul_emod_self_right (a / 2 ^ n % 2 * 2 ^ n + a % 2 ^ n) (a / 2 ^ n / 2) (2 ^ (n + 1))
  rw [key, Int.emod_eq_of_lt hb.1 hb.2] at em
  exact em.symm
theorem wv_blr (a : Int) : ∀ n, wv (blr a n) = a % 2 ^ n
  | 0 => by
    show (0 : Int) = a % 1
    omega
  | n + 1 => by
    show bit a n * 2 ^ (blr a n).length + wv (blr a n) = _
    rw [blr_len, wv_blr a n, ← mod_step a n]
theorem fold2 : ∀ (ds : List Int) (w : Int), ds.foldl (fun a b => a * 2 + b) w = w * 2 ^ ds.length + wv ds
  | [], w => by
    show w = w * 2 ^ 0 + 0
    rw [Int.pow_zero]
    omega
  | d :: r, w => by
    show r.foldl (fun a b => a * 2 + b) (w * 2 + d) = w * 2 ^ (r.length + 1) + (d * 2 ^ r.length + wv r)
    rw [fold2 r, pow_s, Int.add_mul, Int.mul_assoc, Int.mul_comm 2 (2 ^ r.length)]
    omega
theorem wv_ones : ∀ k, wv (List.replicate k 1) = 2 ^ k - 1
  | 0 => rfl
  | k + 1 => by
    rw [List.replicate_succ]
    show 1 * 2 ^ (List.replicate k (1 : Int)).length + wv (List.replicate k 1) = _
    rw [List.length_replicate, wv_ones k, pow_s]
    omega
/-- sign, scale, tail of a word -/
def sgn (m t : Nat) (w : Int) : Int := w / 2 ^ (m + t) % 2
def scl (m t : Nat) (w : Int) : Int := w / 2 ^ t % 2 ^ m
def tlp (t : Nat) (w : Int) : Int := w % 2 ^ t
theorem scl_tlp (m t : Nat) (w : Int) : scl m t w * 2 ^ t + tlp t w = w % 2 ^ (m + t) := by
  induction m with
  | zero =>
    unfold scl tlp
    rw [Int.pow_zero, Int.emod_one, Int.zero_mul, Int.zero_add, Nat.zero_add]
  | succ m ih =>
    have e := mod_step (w / 2 ^ t) m
    have e2 := mod_step w (m + t)
    rw [bit_div] at e
    unfold scl at ih ⊢
    rw [← e, Int.add_mul, show m + 1 + t = (m + t) + 1 by omega, ← e2, ← ih, Int.mul_assoc, ← pow_add']
    omega
theorem sgn_01 {m t : Nat} {w : Int} : sgn m t w = 0 ∨ sgn m t w = 1 := by
  unfold sgn
  omega
theorem word_eq {m t : Nat} {w : Int} (h0 : 0 ≤ w) (h1 : w < 2 ^ (1 + m + t)) : sgn m t w * 2 ^ (m + t) + w % 2 ^ (m + t) = w := by
  have e := mod_step w (m + t)
  rw [show m + t + 1 = 1 + m + t by omega, Int.emod_eq_of_lt h0 h1] at e
  exact e
theorem scl_nn (m t : Nat) (w : Int) : 0 ≤ scl m t w ∧ scl m t w < 2 ^ m := ⟨Int.emod_nonneg _ (by have := pow_pos' m; omega), Int.emod_lt_of_pos _ (pow_pos' m)⟩
theorem tlp_nn (t : Nat) (w : Int) : 0 ≤ tlp t w ∧ tlp t w < 2 ^ t := ⟨Int.emod_nonneg _ (by have := pow_pos' t; omega), Int.emod_lt_of_pos _ (pow_pos' t)⟩
/-- with the other sign -/
def trn (m t : Nat) (w : Int) : Int := (1 - sgn m t w) * 2 ^ (m + t) + w % 2 ^ (m + t)
theorem mk_parts {m t : Nat} {s r : Int} (hs : s = 0 ∨ s = 1) (h0 : 0 ≤ r) (h1 : r < 2 ^ (m + t)) : 0 ≤ s * 2 ^ (m + t) + r ∧ s * 2 ^ (m + t) + r < 2 ^ (1 + m + t) ∧ sgn m t (s * 2 ^ (m + t) + r) = s ∧ (s * 2 ^ (m + t) + r) % 2 ^ (m + t) = r := by
  have hp := pow_pos' (m + t)
  have e : (2 : Int) ^ (1 + m + t) = 2 ^ (m + t) * 2 := by rw [← pow_s]; congr 1; omega
  have em : (s * 2 ^ (m + t) + r) % 2 ^ (m + t) = r := by
    rw [Int.add_comm, Int.add_mul_emod_self_right, Int.emod_eq_of_lt h0 h1]
  have ed : (s * 2 ^ (m + t) + r) / 2 ^ (m + t) = s := by
    rw [Int.add_comm, Int.add_mul_ediv_right _ _ (by omega), Int.ediv_eq_zero_of_lt h0 h1, Int.zero_add]
  refine ⟨?_, ?_, ?_, em⟩
  · rcases hs with z | z <;> subst z <;> omega
  · rw [e]
    rcases hs with z | z <;> subst z <;> omega
  · unfold sgn
    rw [ed]
    omega
theorem trn_trn {m t : Nat} {w : Int} (h0 : 0 ≤ w) (h1 : w < 2 ^ (1 + m + t)) : trn m t (trn m t w) = w ∧ 0 ≤ trn m t w ∧ trn m t w < 2 ^ (1 + m + t) := by
  have hp := pow_pos' (m + t)
  have hs : 1 - sgn m t w = 0 ∨ 1 - sgn m t w = 1 := by
    have := sgn_01 (m := m) (t := t) (w := w)
    omega
  obtain ⟨a, b, c, d⟩ := mk_parts (m := m) (t := t) hs (Int.emod_nonneg w (show (2 : Int) ^ (m + t) ≠ 0 by omega)) (Int.emod_lt_of_pos w hp)
  refine ⟨?_, a, b⟩
  show (1 - sgn m t (trn m t w)) * 2 ^ (m + t) + trn m t w % 2 ^ (m + t) = w
  rw [show sgn m t (trn m t w) = 1 - sgn m t w from c, show trn m t w % 2 ^ (m + t) = w % 2 ^ (m + t) from d, show 1 - (1 - sgn m t w) = sgn m t w by omega]
  exact word_eq h0 h1
end GM
namespace GZ
open PySem PySem.Spec PyProof.Rows L2
section
variable {K : PySem.W.Frag}
theorem dp_ints {H : Hp} : ∀ ds : List Int, DpAll K H (ds.map V.int) (ds.map PyData.int)
  | [] => .nil
  | d :: ds => .cons (.int d) (dp_ints ds)
theorem lv_ints {n : Nat} (ds : List Int) (h : ds.length ≤ 1000) : Lv (n + 1) (.list (ds.map PyData.int)) := by
  refine ⟨by rw [List.length_map]; omega, fun d hd => ?_⟩
  obtain ⟨x, _, rfl⟩ := List.mem_map.mp hd
  cases n <;> trivial
theorem flat_ints : ∀ ds : List Int, (ds.map V.int).all flatV = true
  | [] => rfl
  | d :: ds => by
    rw [List.map_cons, List.all_cons, flat_ints ds]
    rfl
theorem eqv_ints (ds : List Int) : PyData.eqv (.list (ds.map PyData.int)) (.list (ds.map PyData.int)) = true := PySem.SeqAt.eqv_refl _ (PySem.SeqAt.canLay_of_shaped (PySem.W.shaped_ints ds))
end
theorem bx1 {c : Int} {H : Hp} {b : Addr} (h : BoxAt (c + 2 ^ (1 - 1)) H b) : BoxAt (c + 1) H b := h
theorem bx2 {c : Int} {H : Hp} {b : Addr} (h : BoxAt (c + 2 ^ (2 - 1)) H b) : BoxAt (c + 2) H b := h
theorem Keep.none {b p : Addr} {H H' : Hp} (k : Keep b H H') (n : p ≠ b) (h : H' p = none) : H p = none := by
  cases q : H p with
  | none => rfl
  | some o =>
    rw [k p o q n] at h
    cases h
theorem op_catAK {X : Cx} {K : PySem.W.Frag} (h : X.K = K := by rfl) : OpR X (binaryOp .Add) (rCatA K) := by subst h; exact op_catA
/-! ### flags -/
def FL : List Str := ["bad", "bynought", "over", "under", "rounded"]
theorem FL_nd : FL.Nodup := by unfold FL; decide +kernel
def fl (q : Str → Bool) : List V := (FL.filter q).map V.str
theorem fl_flat (q : Str → Bool) : (fl q).all flatV = true := by
  rw [List.all_eq_true]
  intro x hx
  obtain ⟨y, _, rfl⟩ := List.mem_map.mp hx
  rfl
theorem fl_len (q : Str → Bool) : (fl q).length ≤ 5 := by
  unfold fl
  rw [List.length_map]
  exact List.length_filter_le q FL
theorem inV_mem {f : Str} {xs : List Str} : inV (.str f) (xs.map V.str) = true ↔ f ∈ xs := by
  unfold inV
  rw [List.any_eq_true]
  constructor
  · rintro ⟨y, hy, e⟩
    obtain ⟨z, hz, rfl⟩ := List.mem_map.mp hy
    have : (z == f) = true := e
    rw [beq_iff_eq] at this
    subst this
    exact hz
  · intro h
    exact ⟨.str f, List.mem_map.mpr ⟨f, h, rfl⟩, by show (f == f) = true; exact beq_self_eq_true f⟩
theorem inV_fl {f : Str} (h : f ∈ FL) (q : Str → Bool) : inV (.str f) (fl q) = q f := by
  rw [Bool.eq_iff_iff]
  unfold fl
  rw [inV_mem, List.mem_filter]
  exact ⟨fun x => x.2, fun x => ⟨h, x⟩⟩
theorem inV_two {f : Str} (h : f ∈ FL) (q r : Str → Bool) : inV (.str f) (fl q ++ fl r) = (q f || r f) := by
  have : inV (.str f) (fl q ++ fl r) = (inV (.str f) (fl q) || inV (.str f) (fl r)) := List.any_append
  rw [this, inV_fl h, inV_fl h]
/-- what is gathered behind i turns -/
def flT (q : Str → Bool) (i : Nat) : List V := ((FL.take i).filter q).map V.str
theorem flT_step (q : Str → Bool) {i : Nat} {f : Str} (h : FL[i]? = some f) : flT q (i + 1) = if q f = true then flT q i ++ [.str f] else flT q i := by
  unfold flT
  rw [List.take_add_one, h, List.filter_append, List.map_append]
  show _ ++ (([f] : List Str).filter q).map V.str = _
  by_cases e : q f = true
  · rw [if_pos e, List.filter_cons_of_pos e]
    rfl
  · rw [if_neg e, List.filter_cons_of_neg e]
    simp
theorem flT_all (q : Str → Bool) : flT q 5 = fl q := rfl
theorem flT_len (q : Str → Bool) (i : Nat) : (flT q i).length ≤ 5 := by
  unfold flT
  rw [List.length_map]
  exact Nat.le_trans (List.length_filter_le _ _) (by rw [List.length_take]; exact Nat.min_le_right _ _)
/-- one draw more -/
theorem flT_ext (q : Str → Bool) {i : Nat} {f : Str} (h : FL[i]? = some f) (d : Bool) : ∃ q' : Str → Bool, flT q' (i + 1) = if d = true then flT q i ++ [.str f] else flT q i := by
  refine ⟨fun g => if g = f then d else q g, ?_⟩
  rw [flT_step _ h]
  have e : flT (fun g => if g = f then d else q g) i = flT q i := by
    unfold flT
    congr 1
    refine List.filter_congr fun g hg => ?_
    have n : g ≠ f := fun z => by
      subst z
      obtain ⟨j, hj, ej⟩ := List.mem_iff_getElem.mp hg
      rw [List.length_take] at hj
      rw [List.getElem_take] at ej
      have h2 : FL[j]? = some g := by rw [List.getElem?_eq_getElem (by omega), ej]
      have := nd_ix FL_nd h2 h
      omega
    rw [if_neg n]
  rw [e, if_pos rfl]
theorem dp_strs {K : PySem.W.Frag} {H : Hp} : ∀ xs : List Str, DpAll K H (xs.map V.str) (xs.map PyData.str)
  | [] => .nil
  | x :: xs => .cons (.str x) (dp_strs xs)
theorem lv_strs {n : Nat} (xs : List Str) (h : xs.length ≤ 1000) : Lv (n + 1) (.tuple (xs.map PyData.str)) := by
  refine ⟨by rw [List.length_map]; omega, fun d hd => ?_⟩
  obtain ⟨x, _, rfl⟩ := List.mem_map.mp hd
  cases n <;> trivial
theorem FL_len (q : Str → Bool) : (FL.filter q).length ≤ 1000 := Nat.le_trans (List.length_filter_le q FL) (by decide)
section
variable {P : Program} {w : World} {K : PySem.W.Frag} {mg : Str → Option Value} {base : Heap}
theorem dp_fl {H : Hp} {p : Addr} {q : Str → Bool} (h : SqT K H p (fl q)) : Dp K H (.ref p) (.tuple ((FL.filter q).map PyData.str)) := .tup h (dp_strs _)
/-- the module's own FLAGS -/
structure FG (K : PySem.W.Frag) (mg : Str → Option Value) (fa : Addr) : Prop where
  mgF : mg "FLAGS" = some (.ref fa)
  sq : ∀ H, SqT K H fa (FL.map V.str)
/-! ### flags_together -/
def spFT (K : PySem.W.Frag) : Sp := fun vs H Q _ => ∃ (a b : Addr) (q r : Str → Bool), vs = [.ref a, .ref b] ∧ SqT K H a (fl q) ∧ SqT K H b (fl r) ∧
  ∀ (p : Addr) (H' : Hp), Same H H' → H' p = some (.tup (fl fun f => q f || r f)) → Q (.ref p) H'
theorem ok_ft {f fa : Addr} {fd : FuncData} {k : Nat} (F : Fun K "flags_together" "flags_together" s_flags_together f fd) (T : FG K mg fa) (B : Bl mg) : FnOk P w K mg base CX0 (k + 1) f fd ["one", "other"] (spFT K) := by
  refine F.ok sc_flags_together (fun vs H Q E h => ?_) (fun cdv A outer s H vs Q E hr h => ?_)
  · obtain ⟨a, b, q, r, rfl, _⟩ := h
    rfl
  obtain ⟨a, b, q, r, rfl, ha, hb, qq⟩ := h
  refine ⟨_, (pss_one (ps_ret (pe_callTy call_tuple_of (by rfl) B.tuple PyProof.Rows.boot_tuple (pa_cons (pe_lc (own := [("flag", 2)]) (by rfl) sc_flags_together.nd (pi_tup (pe_glob (v := .ref fa) rfl T.mgF rfl)) (blkOk_by (own := [("flag", 2)]) (N := ["one", "other", "flag"]) (sc := defScope s_flags_together) (by decide +kernel)) (fun _ _ _ _ _ => pg_name (i := 2) sc_flags_together.nd rfl (Or.inl rfl)) (fun _ _ _ _ _ => pts_one (PW.pt (pw_or (pt_cmpR (op_in_seqK (K := K)) (pv 2) (pv 0) (by rfl)) (pw_or1 (pt_cmpR (op_in_seqK (K := K)) (pv 2) (pv 1) (by rfl)))))) (fun _ _ _ _ _ => (pv 2))) pa_nil)))), ?_⟩
  refine ⟨fa, rfl, ⟨_, T.sq _⟩, fun D nD => ?_⟩
  have sD : Same H (upd H D (.lst [])) := same_upd nD
  refine lc_it (walk_tup (K := K) (a := fa) (xs := FL.map V.str)) (fun i H3 => Same H H3 ∧ H3 D = some (.lst (flT (fun f => q f || r f) i))) ⟨sD, upd_same⟩ (fun i H3 _ _ => T.sq _) ?_ ?_
  · rintro i x H3 H4 hi ⟨s3, eD⟩ ⟨rfl, hx⟩
    obtain ⟨g, hg, rfl⟩ : ∃ g, FL[i]? = some g ∧ x = .str g := by
      rw [List.getElem?_map] at hx
      cases e : FL[i]? with
      | none => rw [e] at hx; cases hx
      | some z => rw [e] at hx; exact ⟨z, rfl, (Option.some.inj hx).symm⟩
    have gm : g ∈ FL := List.mem_of_getElem? hg
    have st := flT_step (fun f => q f || r f) hg
    have yes : (q g || r g) = true → ∃ acc, H4 D = some (.lst acc) ∧ acc.length < sizeLine ∧ Same H (upd H4 D (.lst (acc ++ [V.str g]))) ∧ (upd H4 D (.lst (acc ++ [V.str g]))) D = some (.lst (flT (fun f => q f || r f) (i + 1))) := fun h => by
      refine ⟨_, eD, Nat.lt_of_le_of_lt (flT_len _ _) (by decide), fun x u e => ?_, ?_⟩
      · rw [upd_ne (ne_of_none e nD)]
        exact s3 _ _ e
      · rw [upd_same, st, if_pos h]
    refine ⟨rfl, ?_⟩
    refine ⟨_, rfl, _, rfl, a, _, rfl, .inr (Same.seqT s3 ha), rfl, fl_flat _, ?_⟩
    show ∃ k, V.bl (inV (.str g) (fl q)) = .bl k ∧ _
    rw [inV_fl gm]
    refine ⟨_, rfl, ite2 (fun c => ?_) (fun c => ?_)⟩
    · refine iteT ?_
      exact ⟨_, rfl, yes (by rw [c]; rfl)⟩
    · refine ⟨_, rfl, _, rfl, b, _, rfl, .inr (Same.seqT s3 hb), rfl, fl_flat _, ?_⟩
      show ∃ k, V.bl (inV (.str g) (fl r)) = .bl k ∧ _
      rw [inV_fl gm]
      refine ⟨_, rfl, ite2 (fun c2 => ?_) (fun c2 => ?_)⟩
      · exact ⟨_, rfl, yes (by rw [c2]; exact Bool.or_true _)⟩
      · refine ⟨s3, ?_⟩
        rw [st, if_neg (fun z => by
          rw [Bool.or_eq_true] at z
          exact z.elim c c2)]
        exact eD
  · rintro H3 ⟨s3, eD⟩
    refine ⟨D, _, rfl, .inl ⟨SqL.of eD, fun p np => ?_⟩⟩
    exact qq p _ (s3.trans (same_upd np)) upd_same
/-! ### cut_off -/
def rst (n : Int) (k : Nat) : Bool := decide (0 < n % 2 ^ k)
theorem rst_eq (n : Int) (k : Nat) : (!decide (V.int (n / 2 ^ k * 2 ^ k) = V.int n)) = rst n k := by
  have hp := GM.pow_pos' k
  have e := Int.emod_add_mul_ediv n (2 ^ k)
  have h0 := Int.emod_nonneg n (show (2 : Int) ^ k ≠ 0 by omega)
  rw [Int.mul_comm] at e
  unfold rst
  rw [Bool.eq_iff_iff, Bool.not_eq_true', decide_eq_false_iff_not, decide_eq_true_iff]
  constructor
  · intro h
    have : n / 2 ^ k * 2 ^ k ≠ n := fun z => h (congrArg V.int z)
    omega
  · intro h z
    have := V.int.inj z
    omega
def spCut : Sp := fun vs H Q _ => ∃ (n : Int) (k : Nat), vs = [.int n, .int (k : Int)] ∧ 0 ≤ n ∧ n < 2 ^ 300 ∧ k ≤ 1000 ∧ ∀ p, H p = none → Q (.ref p) (upd H p (.tup [.int (n / 2 ^ k), .bl (rst n k)]))
theorem ok_cut {f : Addr} {fd : FuncData} {k : Nat} (F : Fun K "cut_off" "cut_off" s_cut_off f fd) : FnOk P w K mg base CX0 (k + 1) f fd ["number", "by"] spCut := by
  refine F.ok sc_cut_off (fun vs H Q E h => ?_) (fun cdv A outer s H vs Q E hr h => ?_)
  · obtain ⟨n, k, rfl, _⟩ := h
    rfl
  obtain ⟨n, k, rfl, h0, h1, hk, q⟩ := h
  refine ⟨_, (pss_cons (ps_if (pt_cmpR op_lt (pv 1) pe_int (nomark _)) (pss_one (ps_ret (pe_tup (pa_cons (pe_op op_shlN (pv 0) (pe_un un_neg (pv 1))) (pa_cons pe_bl pa_nil))))) pss_nil)
    (pss_cons (ps_set (i := 2) sc_cut_off.nd rfl (.inl rfl) (pe_op op_shrN (pv 0) (pv 1)))
    (pss_one (ps_ret (pe_tup (pa_cons (pv 2) (pa_cons (pe_cmpR op_ne (pe_op op_shlN (pv 2) (pv 1)) (pv 0) (nomark _)) pa_nil))))))), ?_⟩
  have hp := GM.pow_pos' k
  have c300 : ((2 ^ 300 : Nat) : Int) = (2 : Int) ^ 300 := PySem.W.kbt_cast _
  have hd : n / 2 ^ k ≤ n := Int.ediv_le_self _ h0
  have hd0 : 0 ≤ n / 2 ^ k := Int.ediv_nonneg h0 (by omega)
  refine ⟨_, rfl, _, _, rfl, rfl, _, rfl, ite2 (fun c => ?_) (fun c => ?_)⟩
  · have : (k : Int) < 0 := of_decide_eq_true c
    omega
  · refine ⟨_, rfl, _, rfl, _, k, rfl, rfl, ?_⟩
    refine ⟨_, rfl, _, rfl, _, rfl, _, k, rfl, rfl, shl_ok (n := 300) (by omega) (by omega), _, rfl, rfl, ?_⟩
    rw [rst_eq]
    exact ⟨(by show 2 ≤ sizeLine; decide), fun p np => q p np⟩
theorem cut_two {n : Int} (h0 : 0 ≤ n) {a b : Nat} : n / 2 ^ a / 2 ^ b = n / 2 ^ (a + b) ∧ (rst n a || rst (n / 2 ^ a) b) = rst n (a + b) := by
  refine ⟨GM.div_div n a b, ?_⟩
  have e := GM.scl_tlp b a n
  have h1 := GM.scl_nn b a n
  have h2 := GM.tlp_nn a n
  unfold GM.scl GM.tlp at *
  unfold rst
  rw [Nat.add_comm a b, ← e, Bool.eq_iff_iff, Bool.or_eq_true, decide_eq_true_iff, decide_eq_true_iff, decide_eq_true_iff]
  have hp := GM.pow_pos' a
  generalize n / 2 ^ a % 2 ^ b = u at *
  generalize n % 2 ^ a = v at *
  constructor
  · rintro (z | z)
    · have := Int.mul_nonneg h1.1 (Int.le_of_lt hp)
      omega
    · have := Int.mul_pos z hp
      omega
  · intro z
    by_cases hv : 0 < v
    · exact .inl hv
    · refine .inr ?_
      have hv0 : v = 0 := by omega
      rw [hv0, Int.add_zero] at z
      exact Int.pos_of_mul_pos_left z hp |> fun h => h
end
section
variable {P : Program} {w : World} {K : PySem.W.Frag} {mg : Str → Option Value} {base : Heap}
/-! ### _law_long -/
def spLong : Sp := fun vs H Q _ => ∃ (b : Addr) (n : Nat) (c : Int), vs = [.ref b, .int (n : Int)] ∧ n ≤ 200 ∧ BoxAt c H b ∧ c ≤ 900000000 ∧
  ∀ (r : Int) (H' : Hp), 0 ≤ r → r < 2 ^ n → BoxAt (c + 16) H' b → Keep b H H' → Q (.int r) H'
theorem ok_long {f g : Addr} {fd gd : FuncData} (F : Fun K "_law_long" "_law_long" s__law_long f fd) (FT : Fun K "_law_take" "_law_take" sTake g gd) (bT : Binds K gd ["_law_box_here", "_law_size"] []) (mT : mg "_law_take" = some (.ref g)) (B : Bl mg) :
    FnOk P w K mg base CX0 3 f fd ["_law_box_here", "_law_bits"] spLong := by
  have G : FnOk P w K mg base CX0 2 g gd ["_law_box_here", "_law_size"] (spTake 2) := ok_take FT bT mT B 2
  refine F.ok sc__law_long (fun vs H Q E h => ?_) (fun cdv A outer s H vs Q E hr h => ?_)
  · obtain ⟨b, n, c, rfl, _⟩ := h
    rfl
  obtain ⟨b, n, c, rfl, hn, hB, hc, q⟩ := h
  refine ⟨_, (pss_cons (ps_set (i := 2) sc__law_long.nd rfl (.inl rfl) pe_int)
    (pss_cons (ps_for PassesOwn.never rfl (pi_range1 (by rfl) B.range (pa_cons pe_int pa_nil)) (pg_name (i := 3) sc__law_long.nd rfl (.inl rfl)) (pss_one (ps_set (i := 2) sc__law_long.nd rfl (.inl rfl) (pe_op op_add (pe_op op_shlN (pv 2) pe_int) (pe_call G hr (by rfl) mT FT.kp bT .nil pass0 (pa_cons (pv 0) (pa_cons (pe_op op_oneShl pe_int pe_int) pa_nil)))))))
    (pss_one (ps_ret (pe_op op_shrN (pv 2) (pe_op op_sub pe_int (pv 1))))))), ?_⟩
  refine ⟨_, rfl, by decide, by decide, ?_⟩
  refine for_range (n := 8) (fun i σ H5 => ∃ (y2 : Int) (y3 : Option V), σ = [some (.ref b), some (.int (n : Int)), some (.int y2), y3] ∧ 0 ≤ y2 ∧ y2 < 2 ^ (25 * i) ∧ BoxAt (c + 2 * i) H5 b ∧ Keep b H H5) ⟨0, none, rfl, by decide, by decide, hB.mono (by omega), Keep.refl _ _⟩ ?_ ?_
  · rintro i σ H5 hi ⟨y2, y3, rfl, h0, h1, B5, k5⟩
    have hle : (2 : Int) ^ (25 * i) ≤ 2 ^ 200 := GM.pow_le' (by omega)
    have c200 : ((2 ^ 200 : Nat) : Int) = (2 : Int) ^ 200 := PySem.W.kbt_cast _
    refine ⟨_, rfl, _, 25, rfl, rfl, shl_ok (n := 200) (by omega) (by decide), _, rfl, 25, rfl, rfl, by decide, b, _, _, rfl, B5, (by decide), (by decide), (by decide), (by omega), (by decide), fun r H6 r0 r1 B6 k6 => ?_⟩
    replace B6 := bx2 B6
    have e25 : (2 : Int) ^ (25 * (i + 1)) = 2 ^ (25 * i) * 2 ^ 25 := by
      rw [← GM.pow_add']
      congr 1
    refine ⟨_, _, rfl, rfl, _, _, rfl, ?_, ?_, B6.mono (by omega), k5.trans k6⟩
    · have : (0 : Int) ≤ y2 * 2 ^ 25 := Int.mul_nonneg h0 (by decide)
      omega
    · rw [e25]
      have h25 : (2 : Int) ^ 25 = 33554432 := by decide
      rw [h25] at r1 ⊢
      omega
  · rintro σ H5 ⟨y2, y3, rfl, h0, h1, B5, k5⟩
    have := GM.shr_lt (x := y2) (a := n) (b := 200 - n) h0 (by rw [show n + (200 - n) = 25 * 8 by omega]; exact h1)
    refine ⟨_, rfl, _, rfl, _, _, rfl, rfl, _, 200 - n, rfl, congrArg V.int (by omega), ?_⟩
    exact q _ _ this.1 this.2 (B5.mono (by omega)) k5
end
section
variable {P : Program} {w : World} {K : PySem.W.Frag} {mg : Str → Option Value} {base : Heap} {fa : Addr}
structure L8 (K : PySem.W.Frag) (mg : Str → Option Value) (a1 a2 a3 a4 a5 : Addr) (l1 l2 l3 l4 l5 : FuncData) : Prop where
  F1 : Fun K "flags_together" "flags_together" s_flags_together a1 l1
  b1 : Binds K l1 ["one", "other"] []
  m1 : mg "flags_together" = some (.ref a1)
  F2 : Fun K "cut_off" "cut_off" s_cut_off a2 l2
  b2 : Binds K l2 ["number", "by"] []
  m2 : mg "cut_off" = some (.ref a2)
  F3 : Fun K "_law_take" "_law_take" sTake a3 l3
  b3 : Binds K l3 ["_law_box_here", "_law_size"] []
  m3 : mg "_law_take" = some (.ref a3)
  F4 : Fun K "_law_same" "_law_same" sSame a4 l4
  b4 : Binds K l4 ["_law_found", "_law_due"] []
  m4 : mg "_law_same" = some (.ref a4)
  F5 : Fun K "_law_long" "_law_long" s__law_long a5 l5
  b5 : Binds K l5 ["_law_box_here", "_law_bits"] []
  m5 : mg "_law_long" = some (.ref a5)
variable {a1 a2 a3 a4 a5 : Addr} {l1 l2 l3 l4 l5 : FuncData}
def spFlags : Sp := fun vs H Q _ => ∃ (b : Addr) (c : Int), vs = [.ref b] ∧ BoxAt c H b ∧ c ≤ 700000000 ∧
  ∀ (H' : Hp), BoxAt (c + 100) H' b → Keep b H H' → Q (.bl true) H'
theorem ok_flags {f : Addr} {fd : FuncData} (F : Fun K "_law_flags_right" "_law_flags_right" s__law_flags_right f fd) (T : FG K mg fa) (B : Bl mg) (L : L8 K mg a1 a2 a3 a4 a5 l1 l2 l3 l4 l5) : FnOk P w K mg base CX0 3 f fd ["_law_box_here"] spFlags := by
  have G1 : FnOk P w K mg base CX0 2 a1 l1 ["one", "other"] (spFT K) := ok_ft L.F1 T B
  have G3 : FnOk P w K mg base CX0 1 a3 l3 ["_law_box_here", "_law_size"] (spTake 1) := ok_take L.F3 L.b3 L.m3 B 1
  have G4 : FnOk P w K mg base CX0 2 a4 l4 ["_law_found", "_law_due"] (spSame K 2) := ok_same L.F4 L.b4 L.m4 B 2
  refine F.ok sc__law_flags_right (fun vs H Q E h => ?_) (fun cdv A outer s H vs Q E hr h => ?_)
  · obtain ⟨b, c, rfl, _⟩ := h
    rfl
  obtain ⟨b, c, rfl, hB, hc, q⟩ := h
  have hr1 : Room 1 _ := hr.mono (by decide)
  refine ⟨_, (pss_cons (ps_set (i := 1) sc__law_flags_right.nd rfl (.inr rfl) (pe_tup (pa_cons pe_str (pa_cons pe_str (pa_cons pe_str (pa_cons pe_str (pa_cons pe_str pa_nil)))))))
    (pss_cons (ps_if (pt_not (pt_val (pe_call G4 hr (by rfl) L.m4 L.F4.kp L.b4 .nil pass0 (pa_cons (pe_glob (v := .ref fa) rfl T.mgF rfl) (pa_cons (pv 1) pa_nil))))) (pss_one (ps_ret pe_bl)) pss_nil)
    (pss_cons (ps_for PassesOwn.never rfl (pi_range1 (by rfl) B.range (pa_cons pe_int pa_nil)) (pg_name (i := 2) sc__law_flags_right.nd rfl (.inl rfl)) (pss_cons (ps_set (i := 3) sc__law_flags_right.nd rfl (.inr rfl) (pe_lc (own := [("_law_side", 6)]) (by rfl) sc__law_flags_right.nd (pi_range1 (by rfl) B.range (pa_cons pe_int pa_nil)) (blkOk_by (own := [("_law_side", 6)]) (N := ["_law_box_here", "_law_every", "_law_turn", "_law_some", "_law_due", "_law_told", "_law_side", "_law_flag"]) (sc := defScope s__law_flags_right) (by decide +kernel)) (fun _ _ _ _ _ => pg_name (i := 6) sc__law_flags_right.nd rfl (Or.inl rfl)) (fun _ _ _ _ _ => pts_nil) (fun _ _ _ _ _ => (pe_callTy (call_tuple_ofK (K := K)) (by rfl) B.tuple PyProof.Rows.boot_tuple (pa_cons (pe_lc (own := [("_law_flag", 7)]) (by rfl) sc__law_flags_right.nd (pi_tupK (K := K) (pv 1)) (blkOk_by (own := [("_law_flag", 7)]) (N := ["_law_box_here", "_law_every", "_law_turn", "_law_some", "_law_due", "_law_told", "_law_side", "_law_flag"]) (sc := ({ kind := .function, names := [(".0", .local), ("_law_side", .local), ("tuple", .globalImplicit), ("_law_box_here", .cell), ("_law_every", .cell)], isGenerator := false, isCoroutine := false, more := [] } : Scope)) (by decide +kernel)) (fun _ _ _ _ _ => pg_name (i := 7) sc__law_flags_right.nd rfl (Or.inl rfl)) (fun _ _ _ _ _ => pts_one (pt_cmpR op_eq (pe_call G3 hr1 (by rfl) L.m3 L.F3.kp L.b3 .nil pass0 (pa_cons (pv 0) (pa_cons pe_int pa_nil))) pe_int (nomark _))) (fun _ _ _ _ _ => (pv 7))) pa_nil)))))
    (pss_cons (ps_set (i := 4) sc__law_flags_right.nd rfl (.inl rfl) (pe_callTy call_tuple_of (by rfl) B.tuple PyProof.Rows.boot_tuple (pa_cons (pe_lc (own := [("_law_flag", 7)]) (by rfl) sc__law_flags_right.nd (pi_tupK (K := K) (pv 1)) (blkOk_by (own := [("_law_flag", 7)]) (N := ["_law_box_here", "_law_every", "_law_turn", "_law_some", "_law_due", "_law_told", "_law_side", "_law_flag"]) (sc := defScope s__law_flags_right) (by decide +kernel)) (fun _ _ _ _ _ => pg_name (i := 7) sc__law_flags_right.nd rfl (Or.inl rfl)) (fun _ _ _ _ _ => pts_one (pt_cmpR (op_in_seqK (K := K)) (pv 7) (pe_op (op_catAK (K := K)) (pe_ix (ix_listK (K := K)) (pv 3) pe_int (fun _ _ => rfl)) (pe_ix (ix_listK (K := K)) (pv 3) pe_int (fun _ _ => rfl))) (by rfl))) (fun _ _ _ _ _ => (pv 7))) pa_nil)))
    (pss_cons (ps_set (i := 5) sc__law_flags_right.nd rfl (.inl rfl) (pe_call G1 hr (by rfl) L.m1 L.F1.kp L.b1 .nil pass0 (pa_cons (pe_ix ix_list (pv 3) pe_int (fun _ _ => rfl)) (pa_cons (pe_ix ix_list (pv 3) pe_int (fun _ _ => rfl)) pa_nil))))
    (pss_cons (ps_if (PW.pt (pw_or (pt_not (pt_val (pe_call G4 hr (by rfl) L.m4 L.F4.kp L.b4 .nil pass0 (pa_cons (pv 5) (pa_cons (pv 4) pa_nil))))) (pw_or1 (pt_not (pt_val (pe_call G4 hr (by rfl) L.m4 L.F4.kp L.b4 .nil pass0 (pa_cons (pe_call G1 hr (by rfl) L.m1 L.F1.kp L.b1 .nil pass0 (pa_cons (pe_ix ix_list (pv 3) pe_int (fun _ _ => rfl)) (pa_cons (pe_ix ix_list (pv 3) pe_int (fun _ _ => rfl)) pa_nil))) (pa_cons (pv 4) pa_nil)))))))) (pss_one (ps_ret pe_bl)) pss_nil)
    (pss_one (ps_if (PW.pt (pw_or (pt_not (pt_val (pe_call G4 hr (by rfl) L.m4 L.F4.kp L.b4 .nil pass0 (pa_cons (pe_call G1 hr (by rfl) L.m1 L.F1.kp L.b1 .nil pass0 (pa_cons (pv 5) (pa_cons (pe_ix ix_list (pv 3) pe_int (fun _ _ => rfl)) pa_nil))) (pa_cons (pv 4) pa_nil))))) (pw_or1 (pt_not (pt_val (pe_call G4 hr (by rfl) L.m4 L.F4.kp L.b4 .nil pass0 (pa_cons (pe_call G1 hr (by rfl) L.m1 L.F1.kp L.b1 .nil pass0 (pa_cons (pe_tup pa_nil) (pa_cons (pe_ix ix_list (pv 3) pe_int (fun _ _ => rfl)) pa_nil))) (pa_cons (pe_ix ix_list (pv 3) pe_int (fun _ _ => rfl)) pa_nil)))))))) (pss_one (ps_ret pe_bl)) pss_nil)))))))
    (pss_one (ps_ret pe_bl))))), ?_⟩
  refine ⟨(by show 5 ≤ sizeLine; decide), fun ev nev => ?_⟩
  have t1 := same_upd (o := .tup (FL.map V.str)) nev
  refine ⟨_, rfl, _, _, .tuple (FL.map PyData.str), 1, rfl, rfl, lv_strs FL (by decide), .tup (T.sq _) (dp_strs FL), .tup (.inl (.inl upd_same)) (dp_strs FL), fun H2 s2 => ?_⟩
  refine ⟨_, rfl, iteF ?_⟩
  have nevb : ev ≠ b := (hB.ne nev).symm
  have eev : H2 ev = some (.tup (FL.map V.str)) := s2 _ _ upd_same
  have B2 := (hB.same t1).same s2
  have k2 : Keep b H H2 := (Keep.ofSame t1).trans (Keep.ofSame s2)
  refine ⟨6, rfl, by decide, by decide, for_range (n := 6) (fun i σ H3 => ∃ (y2 y3 y4 y5 : Option V), σ = [some (.ref b), some (.ref ev), y2, y3, y4, y5, none, none] ∧ BoxAt (c + 12 * i) H3 b ∧ Keep b H2 H3)
    ⟨none, none, none, none, rfl, B2.mono (by omega), Keep.refl _ _⟩ ?_ ?_⟩
  · rintro i σ H3 hi ⟨y2, y3, y4, y5, rfl, B3, k3⟩
    have eev3 := k3 _ _ eev nevb
    -- some
    refine ⟨2, rfl, by decide, by decide, fun D nD => ?_⟩
    have nDb : D ≠ b := (B3.ne nD).symm
    refine lc_range (n := 2) (fun j H4 => ∃ ps : List (Addr × (Str → Bool)), ps.length = j ∧ H4 D = some (.lst (ps.map fun p => .ref p.1)) ∧ (∀ p ∈ ps, H4 p.1 = some (.tup (fl p.2)) ∧ p.1 ≠ b ∧ p.1 ≠ D) ∧ BoxAt (c + 12 * i + 6 * j) H4 b ∧ Keep b H3 H4)
      ⟨[], rfl, upd_same, (fun _ h => nomatch h), (B3.same (same_upd nD)).mono (by omega), Keep.new nD⟩ ?_ ?_
    · rintro j H4 hj ⟨ps, hps, eD, hall, B4, k4⟩
      have eev4 := k4 _ _ eev3 nevb
      refine ⟨rfl, yesT ?_⟩
      refine ⟨_, rfl, ev, rfl, ⟨_, .inl (.inl eev4)⟩, fun D2 nD2 => ?_⟩
      have nD2b : D2 ≠ b := (B4.ne nD2).symm
      refine lc_it (walk_tup (K := K) (a := ev) (xs := FL.map V.str)) (fun m H5 => ∃ qf : Str → Bool, H5 D2 = some (.lst (flT qf m)) ∧ BoxAt (c + 12 * i + 6 * j + m) H5 b ∧ Keep b H4 H5)
        ⟨fun _ => false, upd_same, (B4.same (same_upd nD2)).mono (by omega), Keep.new nD2⟩ (fun m H5 _ ⟨_, _, _, k5⟩ => .inl (.inl (k5 _ _ eev4 nevb))) ?_ ?_
      · rintro m x H5 H6 hm ⟨qf, eD2, B5, k5⟩ ⟨rfl, hx⟩
        obtain ⟨g, hg, rfl⟩ : ∃ g, FL[m]? = some g ∧ x = .str g := by
          rw [List.getElem?_map] at hx
          cases e : FL[m]? with
          | none => rw [e] at hx; cases hx
          | some z => rw [e] at hx; exact ⟨z, rfl, (Option.some.inj hx).symm⟩
        have hm5 : m < 5 := hm
        refine ⟨rfl, ?_⟩
        refine ⟨_, rfl, b, _, _, rfl, B5, (by decide), (by decide), (by decide), (by omega), (by decide), fun r H7 r0 r1 B7 k7 => ?_⟩
        replace B7 := bx1 B7
        refine ⟨rfl, _, rfl, ?_⟩
        obtain ⟨q', hq'⟩ := flT_ext qf hg (decide (V.int r = V.int 0))
        refine ite2 (fun c1 => ?_) (fun c1 => ?_)
        · rw [if_pos c1] at hq'
          refine ⟨_, rfl, _, k7 _ _ eD2 nD2b, Nat.lt_of_le_of_lt (flT_len _ _) (by decide), q', ?_, BoxAt.mono (B7.at (upd_ne nD2b.symm)) (by omega), fun x u e n => ?_⟩
          · rw [upd_same, hq']
          · rw [upd_ne (ne_of_none e nD2)]
            exact k7 _ _ (k5 _ _ e n) n
        · rw [if_neg c1] at hq'
          refine ⟨q', ?_, B7.mono (by omega), k5.trans k7⟩
          rw [hq']
          exact k7 _ _ eD2 nD2b
      · rintro H5 ⟨qf, eD2, B5, k5⟩
        refine ⟨D2, _, rfl, .inl ⟨SqL.of eD2, fun t nt => ?_⟩⟩
        have st := same_upd (o := .tup (flT qf 5)) nt
        have ntb : t ≠ b := (B5.ne nt).symm
        have eD5 := k5 _ _ eD nDb
        have ntD : t ≠ D := (ne_of_none eD5 nt).symm
        refine ⟨_, st _ _ eD5, ?_, ps ++ [(t, qf)], ?_, ?_, fun p hp => ?_, BoxAt.mono ((B5.same st).at (upd_ne nDb.symm)) (by show _ ≤ c + 12 * (i : Int) + 6 * ((j + 1 : Nat) : Int); have : ((FL.map V.str).length : Int) = 5 := rfl; omega), fun x u e n => ?_⟩
        · rw [List.length_map, hps]
          exact small1000 (by omega)
        · rw [List.length_append, hps]
          rfl
        · rw [upd_same, List.map_append]
          rfl
        · rcases List.mem_append.mp hp with h | h
          · obtain ⟨x1, x2, x3⟩ := hall p h
            exact ⟨by rw [upd_ne x3]; exact st _ _ (k5 _ _ x1 x2), x2, x3⟩
          · rw [List.mem_singleton] at h
            subst h
            exact ⟨by rw [upd_ne ntD]; exact upd_same, ntb, ntD⟩
        · rw [upd_ne (ne_of_none e nD)]
          exact st _ _ (k5 _ _ (k4 _ _ e n) n)
    rintro H4 ⟨ps, hps, eD, hall, B4, k4⟩
    obtain ⟨t0, q0, t1, r0, rfl⟩ : ∃ t0 q0 t1 r0, ps = [(t0, q0), (t1, r0)] := by
      match ps, hps with
      | [(t0, q0), (t1, r0)], _ => exact ⟨t0, q0, t1, r0, rfl⟩
    obtain ⟨et0, nt0, _⟩ := hall (t0, q0) List.mem_cons_self
    obtain ⟨et1, nt1, _⟩ := hall (t1, r0) (List.mem_cons_of_mem _ List.mem_cons_self)
    replace eD : H4 D = some (.lst [.ref t0, .ref t1]) := eD
    have eev4 := k4 _ _ eev3 nevb
    -- due
    refine ⟨_, rfl, ev, rfl, ⟨_, .inl (.inl eev4)⟩, fun D2 nD2 => ?_⟩
    refine lc_it (walk_tup (K := K) (a := ev) (xs := FL.map V.str)) (fun m H5 => Same H4 H5 ∧ H5 D2 = some (.lst (flT (fun f => q0 f || r0 f) m))) ⟨same_upd nD2, upd_same⟩ (fun m H5 _ ⟨s5, _⟩ => .inl (.inl (s5 _ _ eev4))) ?_ ?_
    · rintro m x H5 H6 hm ⟨s5, eD2⟩ ⟨rfl, hx⟩
      obtain ⟨g, hg, rfl⟩ : ∃ g, FL[m]? = some g ∧ x = .str g := by
        rw [List.getElem?_map] at hx
        cases e : FL[m]? with
        | none => rw [e] at hx; cases hx
        | some z => rw [e] at hx; exact ⟨z, rfl, (Option.some.inj hx).symm⟩
      have gm : g ∈ FL := List.mem_of_getElem? hg
      have st := flT_step (fun f => q0 f || r0 f) hg
      refine ⟨rfl, ?_⟩
      have flat2 : (fl q0 ++ fl r0).all flatV = true := by rw [List.all_append, fl_flat, fl_flat]; rfl
      have w0 : SqT K H6 t0 (fl q0) := .inl (.inl (s5 _ _ et0))
      have w1 : SqT K H6 t1 (fl r0) := .inl (.inl (s5 _ _ et1))
      have wD := s5 _ _ eD
      refine ⟨_, rfl, _, rfl, D, _, _, _, rfl, rfl, SqL.of wD, rfl, _, rfl, D, _, _, _, rfl, rfl, SqL.of wD, rfl, t0, t1, _, _, rfl, rfl, w0, w1, ?_, fun h => ?_, fun h1 h2 => ?_, fun h1 h2 z nz => ?_⟩
      · have l1 := fl_len q0
        have l2 := fl_len r0
        exact Nat.le_of_lt (small1000 (by omega))
      · have hz : SqT K H6 t1 (fl q0 ++ fl r0) := by rw [h]; exact w1
        refine ⟨t1, _, rfl, .inr hz, rfl, flat2, ?_⟩
        show ∃ k, V.bl (inV (.str g) (fl q0 ++ fl r0)) = .bl k ∧ _
        rw [inV_two gm]
        refine ⟨_, rfl, ite2 (fun c1 => ?_) (fun c1 => ?_)⟩
        · refine ⟨_, rfl, _, (Same.refl _) _ _ eD2, Nat.lt_of_le_of_lt (flT_len _ _) (by decide), fun x u e => ?_, ?_⟩
          · rw [upd_ne (ne_of_none e nD2)]
            exact (Same.refl _) _ _ (s5 _ _ e)
          · rw [upd_same, st, if_pos c1]
        · refine ⟨s5.trans (Same.refl _), ?_⟩
          rw [st, if_neg c1]
          exact (Same.refl _) _ _ eD2
      · have hz : SqT K H6 t0 (fl q0 ++ fl r0) := by rw [h2, List.append_nil]; exact w0
        refine ⟨t0, _, rfl, .inr hz, rfl, flat2, ?_⟩
        show ∃ k, V.bl (inV (.str g) (fl q0 ++ fl r0)) = .bl k ∧ _
        rw [inV_two gm]
        refine ⟨_, rfl, ite2 (fun c1 => ?_) (fun c1 => ?_)⟩
        · refine ⟨_, rfl, _, (Same.refl _) _ _ eD2, Nat.lt_of_le_of_lt (flT_len _ _) (by decide), fun x u e => ?_, ?_⟩
          · rw [upd_ne (ne_of_none e nD2)]
            exact (Same.refl _) _ _ (s5 _ _ e)
          · rw [upd_same, st, if_pos c1]
        · refine ⟨s5.trans (Same.refl _), ?_⟩
          rw [st, if_neg c1]
          exact (Same.refl _) _ _ eD2
      · have sz := same_upd (o := .tup (fl q0 ++ fl r0)) nz
        have hz : SqT K (upd H6 z (.tup (fl q0 ++ fl r0))) z (fl q0 ++ fl r0) := .inl (.inl upd_same)
        refine ⟨z, _, rfl, .inr hz, rfl, flat2, ?_⟩
        show ∃ k, V.bl (inV (.str g) (fl q0 ++ fl r0)) = .bl k ∧ _
        rw [inV_two gm]
        refine ⟨_, rfl, ite2 (fun c1 => ?_) (fun c1 => ?_)⟩
        · refine ⟨_, rfl, _, sz _ _ eD2, Nat.lt_of_le_of_lt (flT_len _ _) (by decide), fun x u e => ?_, ?_⟩
          · rw [upd_ne (ne_of_none e nD2)]
            exact sz _ _ (s5 _ _ e)
          · rw [upd_same, st, if_pos c1]
        · refine ⟨s5.trans sz, ?_⟩
          rw [st, if_neg c1]
          exact sz _ _ eD2
    rintro H5 ⟨s5, eD2⟩
    refine ⟨D2, _, rfl, .inl ⟨SqL.of eD2, fun du ndu => ?_⟩⟩
    have su := same_upd (o := .tup (fl fun f => q0 f || r0 f)) ndu
    have s6 : Same H4 (upd H5 du (.tup (fl fun f => q0 f || r0 f))) := s5.trans su
    have edu : (upd H5 du (.tup (fl fun f => q0 f || r0 f))) du = some (.tup (fl fun f => q0 f || r0 f)) := upd_same
    show tSeq _ _ _ _ (upd H5 du (.tup (fl fun f => q0 f || r0 f)))
    generalize (upd H5 du (.tup (fl fun f => q0 f || r0 f))) = H6 at s6 edu ⊢
    -- told
    refine ⟨_, rfl, D, _, _, _, rfl, rfl, SqL.of (s6 _ _ eD), rfl, _, rfl, D, _, _, _, rfl, rfl, SqL.of (s6 _ _ eD), rfl, t0, t1, q0, r0, rfl, .inl (.inl (s6 _ _ et0)), .inl (.inl (s6 _ _ et1)), fun to H7 s7 eto => ?_⟩
    have s47 := s6.trans s7
    refine ⟨_, rfl, _, rfl, _, _, _, 1, rfl, rfl, lv_strs _ (FL_len _), dp_fl (.inl (.inl eto)), dp_fl (.inl (.inl (s7 _ _ edu))), fun H8 s8 => ?_⟩
    refine ⟨_, rfl, iteF ?_⟩
    have s48 := s47.trans s8
    refine ⟨_, rfl, D, _, _, _, rfl, rfl, SqL.of (s48 _ _ eD), rfl, _, rfl, D, _, _, _, rfl, rfl, SqL.of (s48 _ _ eD), rfl, t1, t0, r0, q0, rfl, .inl (.inl (s48 _ _ et1)), .inl (.inl (s48 _ _ et0)), fun p2 H9 s9 e9 => ?_⟩
    rw [show (fun f => r0 f || q0 f) = (fun f => q0 f || r0 f) from funext fun f => Bool.or_comm _ _] at e9
    have edu9 := s9 _ _ (s8 _ _ (s7 _ _ edu))
    refine ⟨_, rfl, _, _, _, 1, rfl, rfl, lv_strs _ (FL_len _), dp_fl (.inl (.inl e9)), dp_fl (.inl (.inl edu9)), fun H10 s10 => ?_⟩
    refine ⟨_, rfl, iteF ?_⟩
    have s410 := s48.trans (s9.trans s10)
    have eto10 := s10 _ _ (s9 _ _ (s8 _ _ eto))
    refine ⟨_, rfl, _, rfl, D, _, _, _, rfl, rfl, SqL.of (s410 _ _ eD), rfl, to, t0, _, q0, rfl, .inl (.inl eto10), .inl (.inl (s410 _ _ et0)), fun p3 H11 s11 e11 => ?_⟩
    rw [show (fun f => (q0 f || r0 f) || q0 f) = (fun f => q0 f || r0 f) from funext fun f => by cases q0 f <;> cases r0 f <;> rfl] at e11
    have edu11 := s11 _ _ (s10 _ _ edu9)
    refine ⟨_, rfl, _, _, _, 1, rfl, rfl, lv_strs _ (FL_len _), dp_fl (.inl (.inl e11)), dp_fl (.inl (.inl edu11)), fun H12 s12 => ?_⟩
    refine ⟨_, rfl, iteF ?_⟩
    have s412 := s410.trans (s11.trans s12)
    -- with none
    refine ⟨Nat.zero_le _, fun em nem => ?_⟩
    have sem := same_upd (o := .tup []) nem
    have s413 := s412.trans sem
    refine ⟨_, rfl, D, _, _, _, rfl, rfl, SqL.of (s413 _ _ eD), rfl, em, t0, fun _ => false, q0, rfl, .inl (.inl upd_same), .inl (.inl (s413 _ _ et0)), fun p4 H14 s14 e14 => ?_⟩
    rw [show (fun f => false || q0 f) = q0 from funext fun f => Bool.false_or _] at e14
    have s414 := s413.trans s14
    refine ⟨_, rfl, D, _, _, _, rfl, rfl, SqL.of (s414 _ _ eD), rfl, _, _, _, 1, rfl, rfl, lv_strs _ (FL_len _), dp_fl (.inl (.inl e14)), dp_fl (.inl (.inl (s414 _ _ et0))), fun H15 s15 => ?_⟩
    refine ⟨_, rfl, iteF ?_⟩
    have s415 := s414.trans s15
    exact ⟨_, _, _, _, rfl, BoxAt.mono (B4.same s415) (by omega), (k3.trans k4).trans (Keep.ofSame s415)⟩
  · rintro σ H3 ⟨y2, y3, y4, y5, rfl, B3, k3⟩
    exact q _ (B3.mono (by omega)) (k2.trans k3)
end
section
variable {P : Program} {w : World} {K : PySem.W.Frag} {mg : Str → Option Value} {base : Heap} {fa : Addr}
variable {a1 a2 a3 a4 a5 : Addr} {l1 l2 l3 l4 l5 : FuncData}
theorem divp_wide {i j : Int} (h0 : 0 < j) (h1 : j.natAbs.log2 < 8000) : CDivP i j := by
  refine ⟨h0, ?_⟩
  show (decide ((if j == 0 then 0 else j.natAbs.log2 / 30 + 1) > 300) && _) = false
  rw [if_neg (show ¬ (j == 0) = true by simpa using (show j ≠ 0 by omega))]
  rw [decide_eq_false (show ¬ (j.natAbs.log2 / 30 + 1 > 300) by omega), Bool.false_and]
theorem log2_pow (k : Nat) : ((2 : Int) ^ k).natAbs.log2 = k := by
  have e : ((2 ^ k : Nat) : Int) = (2 : Int) ^ k := PySem.W.kbt_cast _
  rw [← e, Int.natAbs_natCast, Nat.log2_two_pow]
theorem dp_ib {H : Hp} {p : Addr} {x : Int} {b : Bool} (h : H p = some (.tup [.int x, .bl b])) : Dp K H (.ref p) (.tuple [.int x, .bool b]) := .tup (.inl (.inl h)) (.cons (.int x) (.cons (.bl b) .nil))
theorem lv_ib (x : Int) (b : Bool) : Lv 1 (.tuple [.int x, .bool b]) := by
  refine ⟨Nat.le_of_ble_eq_true rfl, fun d hd => ?_⟩
  simp only [List.mem_cons, List.not_mem_nil, or_false] at hd
  rcases hd with z | z <;> subst z <;> trivial
theorem if_or {ta tb : TE} {σ : L2.St} {H : Hp} {Q : VK} (z : Bool) (h : ∀ Q : VK, Q (.bl z) H → tOrV ta tb σ H Q) (q : Q (.bl z) H) : tOrV ta tb σ H Q := h Q q
theorem ok_cutR {f : Addr} {fd : FuncData} (F : Fun K "_law_cut_right" "_law_cut_right" s__law_cut_right f fd) (B : Bl mg) (L : L8 K mg a1 a2 a3 a4 a5 l1 l2 l3 l4 l5) : FnOk P w K mg base CX0 4 f fd ["_law_box_here"] spFlags := by
  have G2 : FnOk P w K mg base CX0 3 a2 l2 ["number", "by"] spCut := ok_cut L.F2
  have G3 : FnOk P w K mg base CX0 1 a3 l3 ["_law_box_here", "_law_size"] (spTake 1) := ok_take L.F3 L.b3 L.m3 B 1
  have G4 : FnOk P w K mg base CX0 2 a4 l4 ["_law_found", "_law_due"] (spSame K 2) := ok_same L.F4 L.b4 L.m4 B 2
  have G5 : FnOk P w K mg base CX0 3 a5 l5 ["_law_box_here", "_law_bits"] spLong := ok_long L.F5 L.F3 L.b3 L.m3 B
  refine F.ok sc__law_cut_right (fun vs H Q E h => ?_) (fun cdv A outer s H vs Q E hr h => ?_)
  · obtain ⟨b, c, rfl, _⟩ := h
    rfl
  obtain ⟨b, c, rfl, hB, hc, q⟩ := h
  have hr1 : Room 1 _ := hr.mono (by decide)
  have hr2 : Room 2 _ := hr.mono (by decide)
  refine ⟨_, (pss_cons (ps_set (i := 1) sc__law_cut_right.nd rfl (.inl rfl) (pe_ix ix_list (pe_lst (pa_cons (pe_call G3 hr1 (by rfl) L.m3 L.F3.kp L.b3 .nil pass0 (pa_cons (pv 0) (pa_cons pe_int pa_nil))) (pa_cons (pe_call G3 hr1 (by rfl) L.m3 L.F3.kp L.b3 .nil pass0 (pa_cons (pv 0) (pa_cons pe_int pa_nil))) pa_nil))) (pe_call G3 hr1 (by rfl) L.m3 L.F3.kp L.b3 .nil pass0 (pa_cons (pv 0) (pa_cons pe_int pa_nil))) (fun _ _ => rfl)))
    (pss_cons (ps_set (i := 2) sc__law_cut_right.nd rfl (.inl rfl) (pe_call G3 hr1 (by rfl) L.m3 L.F3.kp L.b3 .nil pass0 (pa_cons (pv 0) (pa_cons (pe_op op_add (pv 1) pe_int) pa_nil))))
    (pss_cons (ps_set (i := 3) sc__law_cut_right.nd rfl (.inl rfl) (pe_call G5 hr (by rfl) L.m5 L.F5.kp L.b5 .nil pass0 (pa_cons (pv 0) (pa_cons (pv 1) pa_nil))))
    (pss_cons (ps_set (i := 3) sc__law_cut_right.nd rfl (.inl rfl) (pe_ix ix_list (pe_lst (pa_cons (pv 3) (pa_cons (pe_op op_shlN (pe_op op_shrN (pv 3) (pv 2)) (pv 2)) (pa_cons (pe_op op_sub (pe_op op_oneShl pe_int (pv 1)) pe_int) (pa_cons (pe_op op_oneShl pe_int (pe_callB (call_max2 rfl) (by rfl) B.max boot_max (pa_cons pe_int (pa_cons (pe_op op_sub (pv 1) pe_int) pa_nil)))) pa_nil))))) (pe_call G3 hr1 (by rfl) L.m3 L.F3.kp L.b3 .nil pass0 (pa_cons (pv 0) (pa_cons pe_int pa_nil))) (fun _ _ => rfl)))
    (pss_cons (ps_set (i := 4) sc__law_cut_right.nd rfl (.inl rfl) (pe_ix ix_list (pe_lst (pa_cons pe_int (pa_cons pe_int (pa_cons (pv 2) (pa_cons (pe_callB (call_max2 rfl) (by rfl) B.max boot_max (pa_cons pe_int (pa_cons (pe_op op_sub (pv 1) pe_int) pa_nil))) (pa_cons (pv 1) (pa_cons (pe_op op_add (pv 1) pe_int) (pa_cons (pe_call G3 hr1 (by rfl) L.m3 L.F3.kp L.b3 .nil pass0 (pa_cons (pv 0) (pa_cons pe_int pa_nil))) pa_nil)))))))) (pe_call G3 hr1 (by rfl) L.m3 L.F3.kp L.b3 .nil pass0 (pa_cons (pv 0) (pa_cons pe_int pa_nil))) (fun _ _ => rfl)))
    (pss_cons (ps_asg (pe_callB call_divmodW (by rfl) B.divmod boot_divmod (pa_cons (pv 3) (pa_cons (pe_op op_oneShl pe_int (pv 4)) pa_nil))) (pg_tup (by rfl) (pgs_cons (pg_name (i := 5) sc__law_cut_right.nd rfl (.inl rfl)) (pgs_cons (pg_name (i := 6) sc__law_cut_right.nd rfl (.inl rfl)) pgs_nil))))
    (pss_cons (ps_if (pt_not (pt_val (pe_call G4 hr2 (by rfl) L.m4 L.F4.kp L.b4 .nil pass0 (pa_cons (pe_call G2 hr (by rfl) L.m2 L.F2.kp L.b2 .nil pass0 (pa_cons (pv 3) (pa_cons (pv 4) pa_nil))) (pa_cons (pe_tup (pa_cons (pv 5) (pa_cons (pe_cmpR op_gt (pv 6) pe_int (nomark _)) pa_nil))) pa_nil))))) (pss_one (ps_ret pe_bl)) pss_nil)
    (pss_cons (ps_set (i := 7) sc__law_cut_right.nd rfl (.inl rfl) (pe_call G3 hr1 (by rfl) L.m3 L.F3.kp L.b3 .nil pass0 (pa_cons (pv 0) (pa_cons (pe_op op_add (pv 4) pe_int) pa_nil))))
    (pss_cons (ps_set (i := 8) sc__law_cut_right.nd rfl (.inl rfl) (pe_call G2 hr (by rfl) L.m2 L.F2.kp L.b2 .nil pass0 (pa_cons (pv 3) (pa_cons (pv 7) pa_nil))))
    (pss_cons (ps_set (i := 9) sc__law_cut_right.nd rfl (.inl rfl) (pe_call G2 hr (by rfl) L.m2 L.F2.kp L.b2 .nil pass0 (pa_cons (pe_ix ix_tup (pv 8) pe_int (fun _ _ => rfl)) (pa_cons (pe_op op_sub (pv 4) (pv 7)) pa_nil))))
    (pss_one (ps_ret (pe_call G4 hr2 (by rfl) L.m4 L.F4.kp L.b4 .nil pass0 (pa_cons (pe_tup (pa_cons (pe_ix ix_tup (pv 9) pe_int (fun _ _ => rfl)) (pa_cons (pe_or (pe_ix ix_tup (pv 8) pe_int (fun _ _ => rfl)) (pe_one (pe_ix ix_tup (pv 9) pe_int (fun _ _ => rfl)))) pa_nil))) (pa_cons (pe_tup (pa_cons (pv 5) (pa_cons (pe_cmpR op_gt (pv 6) pe_int (nomark _)) pa_nil))) pa_nil))))))))))))))), ?_⟩
  refine ⟨_, rfl, b, _, _, rfl, hB, (by decide), (by decide), (by decide), (by omega), (by decide), fun r1 H1 u1 v1 B1 k1 => ?_⟩
  replace B1 := bx1 B1
  refine ⟨_, rfl, b, _, _, rfl, B1, (by decide), (by decide), (by decide), (by omega), (by decide), fun r2 H2 u2 v2 B2 k2 => ?_⟩
  replace B2 := bx1 B2
  refine ⟨(by show 2 ≤ sizeLine; decide), fun m nm => ?_⟩
  have nmb : m ≠ b := (B2.ne nm).symm
  refine ⟨_, rfl, b, _, _, rfl, B2.same (same_upd nm), (by decide), (by decide), (by decide), (by omega), (by decide), fun r3 H3 u3 v3 B3 k3 => ?_⟩
  replace B3 := bx1 B3
  have em := k3 _ _ upd_same nmb
  obtain ⟨nb, hnb, hnb200⟩ : ∃ nb : Nat, atI ([.int r1, .int r2] : List V) r3 = some (.int (nb : Int)) ∧ nb ≤ 200 := by
    have c3 : r3 = 0 ∨ r3 = 1 := by omega
    rcases c3 with z | z <;> subst z
    · exact ⟨r1.toNat, by rw [Int.toNat_of_nonneg u1]; rfl, by omega⟩
    · exact ⟨r2.toNat, by rw [Int.toNat_of_nonneg u2]; rfl, by omega⟩
  refine ⟨m, _, _, _, rfl, rfl, SqL.of em, hnb, ?_⟩
  have kA : Keep b H H3 := (k1.trans k2).trans ((Keep.new nm).trans k3)
  -- low
  refine ⟨_, rfl, _, rfl, _, _, rfl, rfl, b, _, _, rfl, B3, (by omega), (by rw [Int.pow_one]; omega), (by omega), (by omega), (by decide), fun r4 H4 u4 v4 B4 k4 => ?_⟩
  replace B4 := bx1 B4
  obtain ⟨lo, rfl⟩ : ∃ lo : Nat, r4 = (lo : Int) := ⟨r4.toNat, by omega⟩
  -- number
  refine ⟨_, rfl, _, rfl, b, nb, _, rfl, hnb200, B4, by omega, fun nn H5 n0 n1 B5 k5 => ?_⟩
  have pb := GM.pow_pos' nb
  have pl := GM.pow_pos' lo
  have pb200 : (2 : Int) ^ nb ≤ 2 ^ 200 := GM.pow_le' hnb200
  have c200 : ((2 ^ 200 : Nat) : Int) = (2 : Int) ^ 200 := PySem.W.kbt_cast _
  have nd0 : 0 ≤ nn / 2 ^ lo := Int.ediv_nonneg n0 (by omega)
  have nd1 : nn / 2 ^ lo ≤ nn := Int.ediv_le_self _ n0
  have nm1 : nn / 2 ^ lo * 2 ^ lo ≤ nn := Int.ediv_mul_le nn (by omega)
  have nm0 : 0 ≤ nn / 2 ^ lo * 2 ^ lo := Int.mul_nonneg nd0 (by omega)
  obtain ⟨mx, emx, hmx⟩ : ∃ mx : Nat, (if (nb : Int) - 1 > 0 then (nb : Int) - 1 else 0) = (mx : Int) ∧ mx ≤ 200 := by
    split
    · exact ⟨nb - 1, by omega, by omega⟩
    · exact ⟨0, rfl, by omega⟩
  have pm := GM.pow_pos' mx
  have pm200 : (2 : Int) ^ mx ≤ 2 ^ 200 := GM.pow_le' hmx
  refine ⟨_, rfl, _, rfl, _, rfl, _, lo, rfl, rfl, _, rfl, _, lo, rfl, rfl, shl_ok (n := 200) (by omega) (by omega), _, rfl, nb, rfl, rfl, by omega, _, _, rfl, rfl, _, rfl, _, _, rfl, rfl, _, _, rfl, mx, rfl, congrArg V.int emx, by omega, (by show 4 ≤ sizeLine; decide), fun m2 nm2 => ?_⟩
  have nm2b : m2 ≠ b := (B5.ne nm2).symm
  refine ⟨_, rfl, b, _, _, rfl, B5.same (same_upd nm2), (by decide), (by decide), (by decide), (by omega), (by decide), fun r5 H6 u5 v5 B6 k6 => ?_⟩
  replace B6 := bx1 B6
  have em2 := k6 _ _ upd_same nm2b
  obtain ⟨N, hN, hN0, hN1⟩ : ∃ N : Int, atI ([.int nn, .int (nn / 2 ^ lo * 2 ^ lo), .int (2 ^ nb - 1), .int (2 ^ mx)] : List V) r5 = some (.int N) ∧ 0 ≤ N ∧ N ≤ 2 ^ 200 := by
    have c3 : r5 = 0 ∨ r5 = 1 ∨ r5 = 2 ∨ r5 = 3 := by omega
    rcases c3 with z | z | z | z <;> subst z
    · exact ⟨_, rfl, by omega, by omega⟩
    · exact ⟨_, rfl, by omega, by omega⟩
    · exact ⟨_, rfl, by omega, by omega⟩
    · exact ⟨_, rfl, by omega, by omega⟩
  refine ⟨m2, _, _, _, rfl, rfl, SqL.of em2, hN, ?_⟩
  have kB : Keep b H H6 := ((kA.trans k4).trans k5).trans ((Keep.new nm2).trans k6)
  -- by
  refine ⟨_, rfl, _, rfl, _, _, rfl, rfl, _, _, rfl, _, rfl, _, rfl, _, _, rfl, rfl, _, rfl, b, _, _, rfl, B6, (by decide), (by decide), (by decide), (by omega), (by decide), fun r6 H7 u6 v6 B7 k7 => ?_⟩
  replace B7 := bx1 B7
  refine ⟨(by show 7 ≤ sizeLine; decide), fun m3 nm3 => ?_⟩
  have nm3b : m3 ≠ b := (B7.ne nm3).symm
  refine ⟨_, rfl, b, _, _, rfl, B7.same (same_upd nm3), (by decide), (by decide), (by decide), (by omega), (by decide), fun r7 H8 u7 v7 B8 k8 => ?_⟩
  replace B8 := bx1 B8
  have em3 := k8 _ _ upd_same nm3b
  obtain ⟨k, hk, hk400⟩ : ∃ k : Nat, atI ([.int 0, .int 1, .int (lo : Int), .int (if (nb : Int) - 1 > 0 then (nb : Int) - 1 else 0), .int (nb : Int), .int ((nb : Int) + 1), .int r6] : List V) r7 = some (.int (k : Int)) ∧ k ≤ 400 := by
    have c3 : r7 = 0 ∨ r7 = 1 ∨ r7 = 2 ∨ r7 = 3 ∨ r7 = 4 ∨ r7 = 5 ∨ r7 = 6 := by omega
    rcases c3 with z | z | z | z | z | z | z <;> subst z
    · exact ⟨0, rfl, by omega⟩
    · exact ⟨1, rfl, by omega⟩
    · exact ⟨lo, rfl, by omega⟩
    · exact ⟨mx, by rw [emx]; rfl, by omega⟩
    · exact ⟨nb, rfl, by omega⟩
    · exact ⟨nb + 1, rfl, by omega⟩
    · exact ⟨r6.toNat, by rw [Int.toNat_of_nonneg u6]; rfl, by omega⟩
  refine ⟨m3, _, _, _, rfl, rfl, SqL.of em3, hk, ?_⟩
  have kC : Keep b H H8 := (kB.trans k7).trans ((Keep.new nm3).trans k8)
  -- divmod
  have pk := GM.pow_pos' k
  have hN300 : N < 2 ^ 300 := by
    have : (2 : Int) ^ 201 ≤ 2 ^ 300 := GM.pow_le' (by decide)
    have : (2 : Int) ^ 201 = 2 ^ 200 * 2 := GM.pow_s 200
    omega
  refine ⟨_, rfl, _, rfl, k, rfl, rfl, by omega, _, _, rfl, divp_wide pk (by rw [log2_pow]; omega), fun t1 nt1 => ?_⟩
  have s1 := same_upd (o := .tup [.int (N / 2 ^ k), .int (N % 2 ^ k)]) nt1
  refine ⟨t1, _, rfl, .inl (.inl upd_same), rfl, _, _, rfl, _, _, rfl, rfl, ?_⟩
  -- cut at once
  refine ⟨_, rfl, _, rfl, N, k, rfl, hN0, hN300, by omega, fun t2 nt2 => ?_⟩
  have s2 := same_upd (o := .tup [.int (N / 2 ^ k), .bl (rst N k)]) nt2
  refine ⟨_, rfl, _, rfl, _, _, rfl, rfl, (by show 2 ≤ sizeLine; decide), fun t3 nt3 => ?_⟩
  have s3 := same_upd (o := .tup [.int (N / 2 ^ k), .bl (rst N k)]) nt3
  refine ⟨_, _, _, 1, rfl, rfl, lv_ib (N / 2 ^ k) (rst N k), dp_ib (s3 _ _ upd_same), dp_ib upd_same, fun H9 s9 => ?_⟩
  refine ⟨_, rfl, iteF ?_⟩
  have sA := s1.trans (s2.trans (s3.trans s9))
  have B9 := B8.same sA
  have kD := kC.trans (Keep.ofSame sA)
  -- in two goes
  refine ⟨_, rfl, _, rfl, _, _, rfl, rfl, b, _, _, rfl, B9, (by omega), (by rw [Int.pow_one]; omega), (by omega), (by omega), (by decide), fun r8 H10 u8 v8 B10 k10 => ?_⟩
  replace B10 := bx1 B10
  obtain ⟨fi, rfl⟩ : ∃ fi : Nat, r8 = (fi : Int) := ⟨r8.toNat, by omega⟩
  obtain ⟨rs, rfl⟩ : ∃ rs : Nat, k = fi + rs := ⟨k - fi, by omega⟩
  have pf := GM.pow_pos' fi
  refine ⟨_, rfl, _, rfl, N, fi, rfl, hN0, hN300, by omega, fun t4 nt4 => ?_⟩
  have s4 := same_upd (o := .tup [.int (N / 2 ^ fi), .bl (rst N fi)]) nt4
  have d0 : 0 ≤ N / 2 ^ fi := Int.ediv_nonneg hN0 (by omega)
  have d1 : N / 2 ^ fi ≤ N := Int.ediv_le_self _ hN0
  refine ⟨_, rfl, t4, _, _, _, rfl, rfl, .inl (.inl upd_same), rfl, _, rfl, _, rfl, _, _, rfl, rfl, N / 2 ^ fi, rs, ?_, d0, by omega, by omega, fun t5 nt5 => ?_⟩
  · show [V.int (N / 2 ^ fi), V.int (((fi + rs : Nat) : Int) - (fi : Int))] = _
    rw [show ((fi + rs : Nat) : Int) - (fi : Int) = (rs : Int) by omega]
  have s5 := same_upd (o := .tup [.int (N / 2 ^ fi / 2 ^ rs), .bl (rst (N / 2 ^ fi) rs)]) nt5
  have et4 := s5 _ _ (show (upd H10 t4 (.tup [.int (N / 2 ^ fi), .bl (rst N fi)])) t4 = some (.tup [.int (N / 2 ^ fi), .bl (rst N fi)]) from upd_same)
  have et5 : (upd (upd H10 t4 (.tup [.int (N / 2 ^ fi), .bl (rst N fi)])) t5 (.tup [.int (N / 2 ^ fi / 2 ^ rs), .bl (rst (N / 2 ^ fi) rs)])) t5 = some (.tup [.int (N / 2 ^ fi / 2 ^ rs), .bl (rst (N / 2 ^ fi) rs)]) := upd_same
  have s45 := s4.trans s5
  generalize (upd (upd H10 t4 (.tup [.int (N / 2 ^ fi), .bl (rst N fi)])) t5 (.tup [.int (N / 2 ^ fi / 2 ^ rs), .bl (rst (N / 2 ^ fi) rs)])) = H12 at et4 et5 s45 ⊢
  have two := cut_two hN0 (a := fi) (b := rs)
  refine ⟨_, rfl, t5, _, _, _, rfl, rfl, .inl (.inl et5), rfl, ?_⟩
  refine if_or (rst N fi || rst (N / 2 ^ fi) rs) ?_ ?_
  · intro Q' q'
    refine ⟨_, rfl, t4, _, _, _, rfl, rfl, .inl (.inl et4), rfl, _, rfl, ite2 (fun c1 => ?_) (fun c1 => ?_)⟩
    · rw [c1, Bool.true_or] at q'
      exact q'
    · rw [Bool.eq_false_iff.mpr c1, Bool.false_or] at q'
      exact ⟨_, rfl, t5, _, _, _, rfl, rfl, .inl (.inl et5), rfl, q'⟩
  rw [two.1, two.2]
  refine ⟨(by show 2 ≤ sizeLine; decide), fun t6 nt6 => ?_⟩
  have s6 := same_upd (o := .tup [.int (N / 2 ^ (fi + rs)), .bl (rst N (fi + rs))]) nt6
  refine ⟨_, rfl, _, rfl, _, _, rfl, rfl, (by show 2 ≤ sizeLine; decide), fun t7 nt7 => ?_⟩
  have s7 := same_upd (o := .tup [.int (N / 2 ^ (fi + rs)), .bl (rst N (fi + rs))]) nt7
  refine ⟨_, _, _, 1, rfl, rfl, lv_ib (N / 2 ^ (fi + rs)) (rst N (fi + rs)), dp_ib (s7 _ _ upd_same), dp_ib upd_same, fun H11 s11 => ?_⟩
  have sB := s45.trans (s6.trans (s7.trans s11))
  exact q _ ((B10.same sB).mono (by omega)) ((kD.trans k10).trans (Keep.ofSame sB))
end
section
variable {P : Program} {w : World} {K : PySem.W.Frag} {mg : Str → Option Value} {base : Heap}
def spLaw (K : PySem.W.Frag) : Sp := fun vs H Q _ => ∃ (a : Addr) (ns : List Int), vs = [.ref a] ∧ SqL K H a (ns.map V.int) ∧ ns.length ≤ 63 ∧ ∀ H', Q (.bl true) H'
theorem ok_law {f e1 e2 e3 e4 : Addr} {fd k1 k2 k3 k4 : FuncData} (F : Fun K "law" "law" s_law f fd) (B : Bl mg)
    (F1 : Fun K "_law_folded" "_law_folded" sFolded e1 k1) (b1 : Binds K k1 ["_law_script", "_law_size"] []) (m1 : mg "_law_folded" = some (.ref e1))
    (F2 : Fun K "_law_box" "_law_box" sBox e2 k2) (b2 : Binds K k2 ["_law_script", "_law_k"] []) (m2 : mg "_law_box" = some (.ref e2))
    (F3 : Fun K "_law_flags_right" "_law_flags_right" s__law_flags_right e3 k3) (b3 : Binds K k3 ["_law_box_here"] []) (m3 : mg "_law_flags_right" = some (.ref e3)) (G3 : FnOk P w K mg base CX0 3 e3 k3 ["_law_box_here"] spFlags)
    (F4 : Fun K "_law_cut_right" "_law_cut_right" s__law_cut_right e4 k4) (b4 : Binds K k4 ["_law_box_here"] []) (m4 : mg "_law_cut_right" = some (.ref e4)) (G4 : FnOk P w K mg base CX0 4 e4 k4 ["_law_box_here"] spFlags) :
    FnOk P w K mg base CX0 5 f fd ["_law_script"] (spLaw K) := by
  have G1 : FnOk P w K mg base CX0 4 e1 k1 ["_law_script", "_law_size"] (spFolded K) := ok_folded F1 B
  have G2 : FnOk P w K mg base CX0 4 e2 k2 ["_law_script", "_law_k"] (spBox K) := ok_box F2 B
  refine F.ok sc_law (fun vs H Q E h => ?_) (fun cdv A outer s H vs Q E hr h => ?_)
  · obtain ⟨a, ns, rfl, _⟩ := h
    rfl
  obtain ⟨a, ns, rfl, hS, h63, q⟩ := h
  have hr3 : Room 3 _ := hr.mono (by decide)
  refine ⟨_, (pss_cons (ps_set (i := 1) sc_law.nd rfl (.inl rfl) (pe_call G1 hr (by rfl) m1 F1.kp b1 .nil pass0 (pa_cons (pv 0) (pa_cons pe_int pa_nil))))
    (pss_cons (ps_for PassesOwn.never rfl (pi_range1 (by rfl) B.range (pa_cons (pe_callB (call_max2 rfl) (by rfl) B.max boot_max (pa_cons pe_int (pa_cons (pe_callB call_len_seq (by rfl) B.len PySem.boot_len (pa_cons (pv 1) pa_nil)) pa_nil))) pa_nil)) (pg_name (i := 2) sc_law.nd rfl (.inl rfl)) (pss_cons (ps_set (i := 3) sc_law.nd rfl (.inr rfl) (pe_call G2 hr (by rfl) m2 F2.kp b2 .nil pass0 (pa_cons (pv 1) (pa_cons (pv 2) pa_nil))))
    (pss_one (ps_if (PW.pt (pw_or (pt_not (pt_val (pe_call G3 hr3 (by rfl) m3 F3.kp b3 .nil pass0 (pa_cons (pv 3) pa_nil)))) (pw_or1 (pt_not (pt_val (pe_callB (cr_all rfl) (by rfl) B.all boot_all (pa_cons (pe_lc (own := [("_law_turn", 4)]) (by rfl) sc_law.nd (pi_range1 (by rfl) B.range (pa_cons pe_int pa_nil)) (blkOk_by (own := [("_law_turn", 4)]) (N := ["_law_script", "_law_cells", "_law_k", "_law_box_here", "_law_turn"]) (sc := defScope s_law) (by decide +kernel)) (fun _ _ _ _ _ => pg_name (i := 4) sc_law.nd rfl (Or.inl rfl)) (fun _ _ _ _ _ => pts_nil) (fun _ _ _ _ _ => (pe_call G4 hr (by rfl) m4 F4.kp b4 .nil pass0 (pa_cons (pv 3) pa_nil)))) pa_nil))))))) (pss_one (ps_ret pe_bl)) pss_nil))))
    (pss_one (ps_ret pe_bl)))), ?_⟩
  refine ⟨_, rfl, a, ns, 4, rfl, hS, h63, by decide, by decide, fun p H1 zs np s1 ep lz => ?_⟩
  have lz2 : zs.length ≤ 4 := by omega
  refine ⟨_, rfl, p, _, rfl, .inl (SqL.of ep), _, _, rfl, ?_⟩
  obtain ⟨n, en, hn⟩ : ∃ n : Nat, (if (((zs.map V.int).length : Nat) : Int) > 1 then (((zs.map V.int).length : Nat) : Int) else 1) = (n : Int) ∧ n ≤ 4 := by
    rw [List.length_map]
    split
    · exact ⟨zs.length, rfl, lz2⟩
    · exact ⟨1, rfl, by decide⟩
  rw [en]
  refine ⟨_, rfl, by omega, by omega, ?_⟩
  rw [Int.toNat_natCast]
  refine for_range (n := n) (fun i σ H5 => ∃ (y2 y3 : Option V), σ = [some (.ref a), some (.ref p), y2, y3, none] ∧ Same H1 H5) ⟨none, none, rfl, Same.refl _⟩ ?_ ?_
  · rintro i σ H5 hi ⟨y2, y3, rfl, s5⟩
    refine ⟨_, rfl, _, rfl, p, zs, _, rfl, SqL.of (s5 _ _ ep), by omega, by omega, fun b H6 nb s6 B6 => ?_⟩
    refine ⟨_, rfl, b, _, rfl, B6, by decide, fun H6' B6' k6' => ?_⟩
    refine ⟨_, rfl, iteF ?_⟩
    refine ⟨12, rfl, by decide, by decide, fun D nD => ?_⟩
    have nDb : D ≠ b := (B6'.ne nD).symm
    refine lc_range (n := 12) (fun j H7 => Keep b H6 H7 ∧ BoxAt (100 + 100 * j) H7 b ∧ H7 D = some (.lst (List.replicate j (.bl true)))) ⟨k6'.trans (Keep.new nD), (B6'.same (same_upd nD)).mono (by omega), upd_same⟩ ?_ ?_
    · rintro j H7 hj ⟨k7, B7, eD⟩
      refine ⟨rfl, yesT ?_⟩
      refine ⟨_, rfl, b, _, rfl, B7, by omega, fun H8 B8 k8 => ?_⟩
      refine ⟨_, k8 _ _ eD nDb, ?_, fun x u e n => ?_, BoxAt.mono (B8.at (upd_ne nDb.symm)) (by omega), ?_⟩
      · rw [List.length_replicate]
        exact small1000 (by omega)
      · rw [upd_ne (ne_of_none (k6' _ _ e n) nD)]
        exact k8 _ _ (k7 _ _ e n) n
      · rw [upd_same, repl_snoc]
    · rintro H7 ⟨k7, B7, eD⟩
      refine ⟨D, List.replicate 12 true, rfl, .inl (.inl (by rw [List.map_replicate]; exact eD)), _, rfl, ?_⟩
      refine iteF ?_
      exact ⟨_, _, rfl, fun x u e => k7 _ _ (s6 _ _ (s5 _ _ e)) (ne_of_none (s5 _ _ e) nb)⟩
  · rintro σ H5 ⟨y2, y3, rfl, s5⟩
    exact q _
end
theorem all_mk {l : PySem.W.OpenLaw} {w : World} {K : PySem.W.Frag} {h : Heap} {mg : Str → Option Value} {fa f1 f2 f3 f4 f5 f6 f7 f8 f9 f10  : Addr} (X : K.In h) (G : h.Ns mainGlobals mg) (hfa : mg "law" = some (.ref fa))
    {od1 an1 od2 an2 od3 an3 od4 an4 od5 an5 od6 an6 od7 an7 od8 an8 od9 an9 od10 an10 : Option Addr} {sl1 sl2 sl3 sl4 sl5 sl6 sl7 sl8 sl9 sl10 : Array (Option Value)} {oc1 kV1 dc1 pm1 cd1 ct1 oc2 kV2 dc2 pm2 cd2 ct2 oc3 kV3 dc3 pm3 cd3 ct3 oc4 kV4 dc4 pm4 cd4 ct4 oc5 kV5 dc5 pm5 cd5 ct5 oc6 kV6 dc6 pm6 cd6 ct6 oc7 kV7 dc7 pm7 cd7 ct7 oc8 kV8 dc8 pm8 cd8 ct8 oc9 kV9 dc9 pm9 cd9 ct9 oc10 kV10 dc10 pm10 cd10 ct10 : Value}
    {fF : Addr} {odF : Option Addr} {slF : Array (Option Value)} {nF : Nat} {u1 u2 u3 u4 u5 : Tok}
    (a1 : PySem.W.nsIn K mainGlobals "flags_together" = some (some (.ref f1))) (l1 : K.lookup f1 = some ⟨oc1, od1, .func (PySem.W.fnOf "flags_together" "flags_together" (defArgs s_flags_together) (defBody s_flags_together) (defScope s_flags_together) .none kV1 dc1 pm1 an1 cd1 ct1), sl1⟩) (c1 : PySem.W.codeIn K cd1 "flags_together" = true) (k1 : PySem.W.keepIn K (.ref f1) = true)
    (a2 : PySem.W.nsIn K mainGlobals "cut_off" = some (some (.ref f2))) (l2 : K.lookup f2 = some ⟨oc2, od2, .func (PySem.W.fnOf "cut_off" "cut_off" (defArgs s_cut_off) (defBody s_cut_off) (defScope s_cut_off) .none kV2 dc2 pm2 an2 cd2 ct2), sl2⟩) (c2 : PySem.W.codeIn K cd2 "cut_off" = true) (k2 : PySem.W.keepIn K (.ref f2) = true)
    (a3 : PySem.W.nsIn K mainGlobals "_law_box" = some (some (.ref f3))) (l3 : K.lookup f3 = some ⟨oc3, od3, .func (PySem.W.fnOf "_law_box" "_law_box" (defArgs sBox) (defBody sBox) (defScope sBox) .none kV3 dc3 pm3 an3 cd3 ct3), sl3⟩) (c3 : PySem.W.codeIn K cd3 "_law_box" = true) (k3 : PySem.W.keepIn K (.ref f3) = true)
    (a4 : PySem.W.nsIn K mainGlobals "_law_take" = some (some (.ref f4))) (l4 : K.lookup f4 = some ⟨oc4, od4, .func (PySem.W.fnOf "_law_take" "_law_take" (defArgs sTake) (defBody sTake) (defScope sTake) .none kV4 dc4 pm4 an4 cd4 ct4), sl4⟩) (c4 : PySem.W.codeIn K cd4 "_law_take" = true) (k4 : PySem.W.keepIn K (.ref f4) = true)
    (a5 : PySem.W.nsIn K mainGlobals "_law_folded" = some (some (.ref f5))) (l5 : K.lookup f5 = some ⟨oc5, od5, .func (PySem.W.fnOf "_law_folded" "_law_folded" (defArgs sFolded) (defBody sFolded) (defScope sFolded) .none kV5 dc5 pm5 an5 cd5 ct5), sl5⟩) (c5 : PySem.W.codeIn K cd5 "_law_folded" = true) (k5 : PySem.W.keepIn K (.ref f5) = true)
    (a6 : PySem.W.nsIn K mainGlobals "_law_same" = some (some (.ref f6))) (l6 : K.lookup f6 = some ⟨oc6, od6, .func (PySem.W.fnOf "_law_same" "_law_same" (defArgs sSame) (defBody sSame) (defScope sSame) .none kV6 dc6 pm6 an6 cd6 ct6), sl6⟩) (c6 : PySem.W.codeIn K cd6 "_law_same" = true) (k6 : PySem.W.keepIn K (.ref f6) = true)
    (a7 : PySem.W.nsIn K mainGlobals "_law_long" = some (some (.ref f7))) (l7 : K.lookup f7 = some ⟨oc7, od7, .func (PySem.W.fnOf "_law_long" "_law_long" (defArgs s__law_long) (defBody s__law_long) (defScope s__law_long) .none kV7 dc7 pm7 an7 cd7 ct7), sl7⟩) (c7 : PySem.W.codeIn K cd7 "_law_long" = true) (k7 : PySem.W.keepIn K (.ref f7) = true)
    (a8 : PySem.W.nsIn K mainGlobals "_law_flags_right" = some (some (.ref f8))) (l8 : K.lookup f8 = some ⟨oc8, od8, .func (PySem.W.fnOf "_law_flags_right" "_law_flags_right" (defArgs s__law_flags_right) (defBody s__law_flags_right) (defScope s__law_flags_right) .none kV8 dc8 pm8 an8 cd8 ct8), sl8⟩) (c8 : PySem.W.codeIn K cd8 "_law_flags_right" = true) (k8 : PySem.W.keepIn K (.ref f8) = true)
    (a9 : PySem.W.nsIn K mainGlobals "_law_cut_right" = some (some (.ref f9))) (l9 : K.lookup f9 = some ⟨oc9, od9, .func (PySem.W.fnOf "_law_cut_right" "_law_cut_right" (defArgs s__law_cut_right) (defBody s__law_cut_right) (defScope s__law_cut_right) .none kV9 dc9 pm9 an9 cd9 ct9), sl9⟩) (c9 : PySem.W.codeIn K cd9 "_law_cut_right" = true) (k9 : PySem.W.keepIn K (.ref f9) = true)
    (a10 : PySem.W.nsIn K mainGlobals "law" = some (some (.ref f10))) (l10 : K.lookup f10 = some ⟨oc10, od10, .func (PySem.W.fnOf "law" "law" (defArgs s_law) (defBody s_law) (defScope s_law) .none kV10 dc10 pm10 an10 cd10 ct10), sl10⟩) (c10 : PySem.W.codeIn K cd10 "law" = true) (k10 : PySem.W.keepIn K (.ref f10) = true)
    (z1 : PySem.W.nsIn K mainGlobals "len" = some none)
    (z2 : PySem.W.nsIn K mainGlobals "abs" = some none)
    (z3 : PySem.W.nsIn K mainGlobals "int" = some none)
    (z4 : PySem.W.nsIn K mainGlobals "divmod" = some none)
    (z5 : PySem.W.nsIn K mainGlobals "list" = some none)
    (z6 : PySem.W.nsIn K mainGlobals "enumerate" = some none)
    (z7 : PySem.W.nsIn K mainGlobals "isinstance" = some none)
    (z8 : PySem.W.nsIn K mainGlobals "tuple" = some none)
    (z9 : PySem.W.nsIn K mainGlobals "str" = some none)
    (z10 : PySem.W.nsIn K mainGlobals "bool" = some none)
    (z11 : PySem.W.nsIn K mainGlobals "zip" = some none)
    (z12 : PySem.W.nsIn K mainGlobals "all" = some none)
    (z13 : PySem.W.nsIn K mainGlobals "range" = some none)
    (z14 : PySem.W.nsIn K mainGlobals "max" = some none)
    (z15 : PySem.W.nsIn K mainGlobals "any" = some none)
    (z16 : PySem.W.nsIn K mainGlobals "min" = some none)
    (z17 : PySem.W.nsIn K mainGlobals "sum" = some none)
    (aF : PySem.W.nsIn K mainGlobals "FLAGS" = some (some (.ref fF)))
    (lF : K.lookup fF = some ⟨.type "tuple", odF, .seq #[.str "bad" u1, .str "bynought" u2, .str "over" u3, .str "under" u4, .str "rounded" u5] nF, slF⟩)
    : ∃ fd : FuncData, (∀ (s : Shared) (v : Value), BindsTo s fd ⟨[v], []⟩ [("_law_script", v)]) ∧ ∀ base : Heap, K.In base → base.Ns mainGlobals mg → FnOk l.prog w K mg base CX0 5 fa fd ["_law_script"] (spLaw K) := by
  have e := hfa.symm.trans (PySem.W.mg_of X G a10)
  cases e
  have F1 := fun_mk (st := s_flags_together) l1 c1 k1
  have b1 := F1.binds (ps := ["one", "other"]) fun _ _ _ _ _ _ us hl => match us, hl with | [_, _], _ => rfl
  have m1 := PySem.W.mg_of X G a1
  have F2 := fun_mk (st := s_cut_off) l2 c2 k2
  have b2 := F2.binds (ps := ["number", "by"]) fun _ _ _ _ _ _ us hl => match us, hl with | [_, _], _ => rfl
  have m2 := PySem.W.mg_of X G a2
  have F3 := fun_mk (st := sBox) l3 c3 k3
  have b3 := F3.binds (ps := ["_law_script", "_law_k"]) fun _ _ _ _ _ _ us hl => match us, hl with | [_, _], _ => rfl
  have m3 := PySem.W.mg_of X G a3
  have F4 := fun_mk (st := sTake) l4 c4 k4
  have b4 := F4.binds (ps := ["_law_box_here", "_law_size"]) fun _ _ _ _ _ _ us hl => match us, hl with | [_, _], _ => rfl
  have m4 := PySem.W.mg_of X G a4
  have F5 := fun_mk (st := sFolded) l5 c5 k5
  have b5 := F5.binds (ps := ["_law_script", "_law_size"]) fun _ _ _ _ _ _ us hl => match us, hl with | [_, _], _ => rfl
  have m5 := PySem.W.mg_of X G a5
  have F6 := fun_mk (st := sSame) l6 c6 k6
  have b6 := F6.binds (ps := ["_law_found", "_law_due"]) fun _ _ _ _ _ _ us hl => match us, hl with | [_, _], _ => rfl
  have m6 := PySem.W.mg_of X G a6
  have F7 := fun_mk (st := s__law_long) l7 c7 k7
  have b7 := F7.binds (ps := ["_law_box_here", "_law_bits"]) fun _ _ _ _ _ _ us hl => match us, hl with | [_, _], _ => rfl
  have m7 := PySem.W.mg_of X G a7
  have F8 := fun_mk (st := s__law_flags_right) l8 c8 k8
  have b8 := F8.binds (ps := ["_law_box_here"]) fun _ _ _ _ _ _ us hl => match us, hl with | [_], _ => rfl
  have m8 := PySem.W.mg_of X G a8
  have F9 := fun_mk (st := s__law_cut_right) l9 c9 k9
  have b9 := F9.binds (ps := ["_law_box_here"]) fun _ _ _ _ _ _ us hl => match us, hl with | [_], _ => rfl
  have m9 := PySem.W.mg_of X G a9
  have F10 := fun_mk (st := s_law) l10 c10 k10
  have B : Bl mg := ⟨PySem.W.mg_none_of X G z1, PySem.W.mg_none_of X G z2, PySem.W.mg_none_of X G z3, PySem.W.mg_none_of X G z4, PySem.W.mg_none_of X G z5, PySem.W.mg_none_of X G z6, PySem.W.mg_none_of X G z7, PySem.W.mg_none_of X G z8, PySem.W.mg_none_of X G z9, PySem.W.mg_none_of X G z10, PySem.W.mg_none_of X G z11, PySem.W.mg_none_of X G z12, PySem.W.mg_none_of X G z13, PySem.W.mg_none_of X G z14, PySem.W.mg_none_of X G z15, PySem.W.mg_none_of X G z16, PySem.W.mg_none_of X G z17⟩
  refine ⟨PySem.W.fnOf "law" "law" (defArgs s_law) (defBody s_law) (defScope s_law) .none kV10 dc10 pm10 an10 cd10 ct10, fun s v => .of_eq rfl, fun base _ _ => ?_⟩
  have T : FG K mg fF := ⟨PySem.W.mg_of X G aF, fun H => .inr ⟨_, _, _, lF, rfl, rfl, (by show 5 ≤ sizeLine; decide), .cons ⟨_, rfl⟩ (.cons ⟨_, rfl⟩ (.cons ⟨_, rfl⟩ (.cons ⟨_, rfl⟩ (.cons ⟨_, rfl⟩ .nil))))⟩⟩
  have L : L8 K mg f1 f2 f4 f6 f7 _ _ _ _ _ := ⟨F1, b1, m1, F2, b2, m2, F4, b4, m4, F6, b6, m6, F7, b7, m7⟩
  exact ok_law F10 B F5 b5 m5 F3 b3 m3 F8 b8 m8 (ok_flags F8 T B L) F9 b9 m9 (ok_cutR F9 B L)
end GZ
open PySem PySem.W PyProof.Rows
set_option maxRecDepth 100000 in
set_option maxHeartbeats 0 in
theorem PySem.Challenge.cw_guessedzeros_k08_flags_together_and_cuts_holds : PySem.Challenge.rw_guessedzeros_k08_flags_together_and_cuts.Holds := by
  w_on; o_law; k_head; (case hw => w_witness2)
  k_fill
  refine L2.walk_of (l := PySem.Challenge.rw_guessedzeros_k08_flags_together_and_cuts) (n := 63) (k := 5) (x := "_law_script") (CX := fun _ => L2.CX0) (sp := fun w => GZ.spLaw _) rfl (by decide) rfl ⟨rfl, by decide, by decide⟩ (fun w h Y => PySem.W.kIn_of Y) ?F (fun _ _ a ns hl _ hS => ⟨a, ns, rfl, hS, hl, fun _ => rfl⟩) (fun _ _ _ _ _ h => h)
  case F =>
    intro w mg fa h KX G hmg
    refine' GZ.all_mk KX G hmg ?a1 ?l1 ?c1 ?k1 ?a2 ?l2 ?c2 ?k2 ?a3 ?l3 ?c3 ?k3 ?a4 ?l4 ?c4 ?k4 ?a5 ?l5 ?c5 ?k5 ?a6 ?l6 ?c6 ?k6 ?a7 ?l7 ?c7 ?k7 ?a8 ?l8 ?c8 ?k8 ?a9 ?l9 ?c9 ?k9 ?a10 ?l10 ?c10 ?k10 ?z1 ?z2 ?z3 ?z4 ?z5 ?z6 ?z7 ?z8 ?z9 ?z10 ?z11 ?z12 ?z13 ?z14 ?z15 ?z16 ?z17 ?aF ?lF
    (case a1 => k_is)
    (case l1 => k_is)
    (case c1 => k_is)
    (case k1 => k_is)
    (case a2 => k_is)
    (case l2 => k_is)
    (case c2 => k_is)
    (case k2 => k_is)
    (case a3 => k_is)
    (case l3 => k_is)
    (case c3 => k_is)
    (case k3 => k_is)
    (case a4 => k_is)
    (case l4 => k_is)
    (case c4 => k_is)
    (case k4 => k_is)
    (case a5 => k_is)
    (case l5 => k_is)
    (case c5 => k_is)
    (case k5 => k_is)
    (case a6 => k_is)
    (case l6 => k_is)
    (case c6 => k_is)
    (case k6 => k_is)
    (case a7 => k_is)
    (case l7 => k_is)
    (case c7 => k_is)
    (case k7 => k_is)
    (case a8 => k_is)
    (case l8 => k_is)
    (case c8 => k_is)
    (case k8 => k_is)
    (case a9 => k_is)
    (case l9 => k_is)
    (case c9 => k_is)
    (case k9 => k_is)
    (case a10 => k_is)
    (case l10 => k_is)
    (case c10 => k_is)
    (case k10 => k_is)
    (case z1 => k_is)
    (case z2 => k_is)
    (case z3 => k_is)
    (case z4 => k_is)
    (case z5 => k_is)
    (case z6 => k_is)
    (case z7 => k_is)
    (case z8 => k_is)
    (case z9 => k_is)
    (case z10 => k_is)
    (case z11 => k_is)
    (case z12 => k_is)
    (case z13 => k_is)
    (case z14 => k_is)
    (case z15 => k_is)
    (case z16 => k_is)
    (case z17 => k_is)
    (case aF => k_is)
    (case lF => k_is)

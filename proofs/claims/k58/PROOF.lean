import PyProof.Rows.All
import Wide.All
import OpenK.AllK
import Wide.FinOn
import HandS.ForMost
import HandS.Walk
import HandS.Zip
import HandS.WideBits
import HandS.IsInst
import OpenK.KEqL
import HandS.More
import HandS.Flow
import HandS.Text
import HandS.Style
import HandS.NoneIn
import HandS.Wide
import HandS.Codes
import HandS.Iter
import HandS.FStr
import KE.GoesZip
import KE.GoesMore
import KE.GoesEnum
import HandS.Defaults
import HandS.Star
import HandS.MakeKwOnly
import HandS.ExcIs
import KE.KExcInit
import KE.KExcIs
import KE.KTryMore
import HandS.Exc
import HandS.ExcInit
import HandS.WordsExc
import HandS.ExcValue
import HandS.ExcOwn
import HandS.IsInst
import HandS.ForSpec
import PySem.Challenge.RW_guessedzeros_k58_cubes_split
set_option Elab.async false
set_option linter.all false
set_option maxRecDepth 100000
set_option maxHeartbeats 40000000
namespace GZ
open PySem PySem.Spec PyProof.Rows L2
/-! ### the text by places -/
def topS (i : Nat) : Stmt := PySem.Challenge.pw_guessedzeros_k58_cubes_split.main.body.getD i (.Pass ⟨0, 0, 0, 0⟩)
abbrev s_BadRow___init__ : Stmt := inClass (topS 1) 0
theorem sc_BadRow___init__ : FnScope ["self", "what"] ["self", "what"] (defScope s_BadRow___init__) := ⟨rfl, rfl, rfl, by decide +kernel, rfl, by decide +kernel, by decide +kernel⟩
abbrev s_Unfit___init__ : Stmt := inClass (topS 2) 0
theorem sc_Unfit___init__ : FnScope ["self", "what"] ["self", "what"] (defScope s_Unfit___init__) := ⟨rfl, rfl, rfl, by decide +kernel, rfl, by decide +kernel, by decide +kernel⟩
abbrev s_NoWire___init__ : Stmt := inClass (topS 3) 0
theorem sc_NoWire___init__ : FnScope ["self", "what"] ["self", "what"] (defScope s_NoWire___init__) := ⟨rfl, rfl, rfl, by decide +kernel, rfl, by decide +kernel, by decide +kernel⟩
abbrev s_NoPlace___init__ : Stmt := inClass (topS 4) 0
theorem sc_NoPlace___init__ : FnScope ["self", "what"] ["self", "what"] (defScope s_NoPlace___init__) := ⟨rfl, rfl, rfl, by decide +kernel, rfl, by decide +kernel, by decide +kernel⟩
abbrev s_NoDeed___init__ : Stmt := inClass (topS 5) 0
theorem sc_NoDeed___init__ : FnScope ["self", "what"] ["self", "what"] (defScope s_NoDeed___init__) := ⟨rfl, rfl, rfl, by decide +kernel, rfl, by decide +kernel, by decide +kernel⟩
abbrev s_TooMuch___init__ : Stmt := inClass (topS 6) 0
theorem sc_TooMuch___init__ : FnScope ["self", "what"] ["self", "what"] (defScope s_TooMuch___init__) := ⟨rfl, rfl, rfl, by decide +kernel, rfl, by decide +kernel, by decide +kernel⟩
abbrev s_lies_in : Stmt := topS 8
theorem sc_lies_in : FnScope ["bits", "cube"] ["bits", "cube"] (defScope s_lies_in) := ⟨rfl, rfl, rfl, by decide +kernel, rfl, by decide +kernel, by decide +kernel⟩
abbrev s_common : Stmt := topS 9
theorem sc_common : FnScope ["one", "other", "signs", "sign", "other_sign"] ["one", "other"] (defScope s_common) := ⟨rfl, rfl, rfl, by decide +kernel, rfl, by decide +kernel, by decide +kernel⟩
abbrev s_common_sign : Stmt := topS 10
theorem sc_common_sign : FnScope ["sign", "other_sign"] ["sign", "other_sign"] (defScope s_common_sign) := ⟨rfl, rfl, rfl, by decide +kernel, rfl, by decide +kernel, by decide +kernel⟩
abbrev s_split : Stmt := topS 11
theorem sc_split : FnScope ["cube", "place", "ahead", "behind"] ["cube", "place"] (defScope s_split) := ⟨rfl, rfl, rfl, by decide +kernel, rfl, by decide +kernel, by decide +kernel⟩
abbrev sBox : Stmt := topS 13
abbrev sTake : Stmt := topS 14
abbrev sFolded : Stmt := topS 15
abbrev sSame : Stmt := topS 16
abbrev s__law_told : Stmt := topS 17
theorem sc__law_told : FnScope ["_law_cube", "_law_place", "_law_found", "_law_caught", "error", "_law_fine"] ["_law_cube", "_law_place"] (defScope s__law_told) := ⟨rfl, rfl, rfl, by decide +kernel, rfl, by decide +kernel, by decide +kernel⟩
abbrev s__law_parted : Stmt := topS 18
theorem sc__law_parted : FnScope ["_law_box_here", "_law_cube", "_law_most", "_law_found", "_law_turn", "_law_at", "_law_spots", "_law_place", "_law_sign"] ["_law_box_here", "_law_cube", "_law_most"] (defScope s__law_parted) := ⟨rfl, rfl, rfl, by decide +kernel, rfl, by decide +kernel, by decide +kernel⟩
abbrev s__law_right : Stmt := topS 19
theorem sc__law_right : FnScope ["_law_box_here", "_law_many", "_law_cube", "_law_place", "_law_due", "_law_parts", "_law_at", "_law_one", "_law_bits", "_law_turn", "_law_other", "_law_sign"] ["_law_box_here"] (defScope s__law_right) := ⟨rfl, rfl, rfl, by decide +kernel, rfl, by decide +kernel, by decide +kernel⟩
abbrev s_law : Stmt := topS 20
theorem sc_law : FnScope ["_law_script", "_law_cells", "_law_k", "_law_box_here", "_law_turn"] ["_law_script"] (defScope s_law) := ⟨rfl, rfl, rfl, by decide +kernel, rfl, by decide +kernel, by decide +kernel⟩
/-! ### built-in names that the text leaves alone -/
structure Bl (mg : Str → Option Value) : Prop where
  len : mg "len" = none
  abs : mg "abs" = none
  int : mg "int" = none
  divmod : mg "divmod" = none
  list : mg "list" = none
  enumerate : mg "enumerate" = none
  isinstance : mg "isinstance" = none
  tuple : mg "tuple" = none
  str : mg "str" = none
  bool : mg "bool" = none
  zip : mg "zip" = none
  all : mg "all" = none
  range : mg "range" = none
  max : mg "max" = none
  any : mg "any" = none
  min : mg "min" = none
  sum : mg "sum" = none
/-! ### rules with the written part told (for the blocks of comprehensions) -/
section
variable {X : Cx} {K : PySem.W.Frag}
theorem call_len_seqK (h : X.K = K := by rfl) : CallR X (.builtin "len") (fun xs H Q => ∃ p ys, xs = [.ref p] ∧ (SqL K H p ys ∨ SqT K H p ys) ∧ Q (.int ys.length) H) := by subst h; exact call_len_seq
theorem call_list_ofK (h : X.K = K := by rfl) : CallR X (.type "list") (fun xs H Q => ∃ p ys, xs = [.ref p] ∧ (SqL K H p ys ∨ SqT K H p ys) ∧ ∀ l, H l = none → Q (.ref l) (upd H l (.lst ys))) := by subst h; exact call_list_of
theorem call_tuple_ofK (h : X.K = K := by rfl) : CallR X (.type "tuple") (fun xs H Q => ∃ p ys, xs = [.ref p] ∧ ((SqL K H p ys ∧ ∀ l, H l = none → Q (.ref l) (upd H l (.tup ys))) ∨ (SqT K H p ys ∧ Q (.ref p) H))) := by subst h; exact call_tuple_of
theorem ix_listK (h : X.K = K := by rfl) : IxR X (rIxL K) := by subst h; exact ix_list
theorem ix_tupK (h : X.K = K := by rfl) : IxR X (rIxT K) := by subst h; exact ix_tup
theorem ix_seqK (h : X.K = K := by rfl) : IxR X (rIx K) := by subst h; exact ix_seq
theorem op_in_seqK (h : X.K = K := by rfl) : OpR X (compareOp .In) (rIn K false) := by subst h; exact op_in_seq
theorem op_notIn_seqK (h : X.K = K := by rfl) : OpR X (compareOp .NotIn) (rIn K true) := by subst h; exact op_notIn_seq
theorem sl_listK (h : X.K = K := by rfl) : SlR X (rSlL K) := by subst h; exact sl_list
theorem cr_sumK (hc : X.calm = true) (h : X.K = K := by rfl) : CallR X (.builtin "sum") (rSum K) := by subst h; exact cr_sum hc
theorem cr_allK (hc : X.calm = true) (h : X.K = K := by rfl) : CallR X (.builtin "all") (rAll K) := by subst h; exact cr_all hc
theorem cr_anyK (hc : X.calm = true) (h : X.K = K := by rfl) : CallR X (.builtin "any") (rAny K) := by subst h; exact cr_any hc
theorem call_isiK' (h : X.K = K := by rfl) : CallR X (.builtin "isinstance") (rIsi K) := by subst h; exact call_isi
theorem pi_listK {tg l : Expr} {tl : TE} (hl : PE X l tl) (h : X.K = K := by rfl) : PI X tg l (iList K tl) := by subst h; exact pi_list hl
theorem pi_tupK {tg l : Expr} {tl : TE} (hl : PE X l tl) (h : X.K = K := by rfl) : PI X tg l (iTup K tl) := by subst h; exact pi_tup hl
theorem pe_fldK {e : Expr} {ta : TE} {f : Str} {pos : Pos} (he : PE X e ta) (hb : attributeBase e f X.env (eval e X.env) = eval e X.env) (h : X.K = K := by rfl) : PE X (.Attribute e f pos) (tFld K ta f) := by subst h; exact pe_fld he hb
end
/-! ### heaps -/
theorem same_upd {H : Hp} {p : Addr} {o : HO} (h : H p = none) : Same H (upd H p o) := fun b x e => by
  rw [upd_ne (ne_of_none e h)]
  exact e
/-- all but what stands at b is as it was -/
def Keep (b : Addr) (H H' : Hp) : Prop := ∀ p o, H p = some o → p ≠ b → H' p = some o
theorem Keep.refl (b : Addr) (H : Hp) : Keep b H H := fun _ _ h _ => h
theorem Keep.trans {b : Addr} {H H1 H2 : Hp} (x : Keep b H H1) (y : Keep b H1 H2) : Keep b H H2 := fun p o h n => y p o (x p o h n) n
theorem Keep.ofSame {b : Addr} {H H1 : Hp} (x : Same H H1) : Keep b H H1 := fun p o h _ => x p o h
theorem Keep.upd {b : Addr} {H : Hp} {o : HO} : Keep b H (upd H b o) := fun p x h n => by
  rw [upd_ne n]
  exact h
theorem Keep.new {b p : Addr} {H : Hp} {o : HO} (h : H p = none) : Keep b H (L2.upd H p o) := .ofSame (same_upd h)
theorem Keep.seq {K : PySem.W.Frag} {b a : Addr} {H H' : Hp} {xs : List V} (e : Keep b H H') (n : a ≠ b) (h : SqL K H a xs) : SqL K H' a xs := by
  rcases h with (h | ⟨o, h⟩) | h
  · exact .inl (.inl (e _ _ h n))
  · exact .inl (.inr ⟨o, e _ _ h n⟩)
  · exact .inr h
theorem Keep.seqT {K : PySem.W.Frag} {b a : Addr} {H H' : Hp} {xs : List V} (e : Keep b H H') (n : a ≠ b) (h : SqT K H a xs) : SqT K H' a xs := by
  rcases h with (h | ⟨o, h⟩) | h
  · exact .inl (.inl (e _ _ h n))
  · exact .inl (.inr ⟨o, e _ _ h n⟩)
  · exact .inr h
theorem Same.seqT {K : PySem.W.Frag} {a : Addr} {H H' : Hp} {xs : List V} (e : Same H H') (h : SqT K H a xs) : SqT K H' a xs := by
  rcases h with (h | ⟨o, h⟩) | h
  · exact .inl (.inl (e _ _ h))
  · exact .inl (.inr ⟨o, e _ _ h⟩)
  · exact .inr h
/-- a drawing box: three ints, the last at most c -/
def BoxAt (c : Int) (H : Hp) (b : Addr) : Prop := ∃ x0 x1 x2 : Int, H b = some (.lst [.int x0, .int x1, .int x2]) ∧ 0 ≤ x0 ∧ 0 ≤ x1 ∧ x1 < 2147483647 ∧ 0 ≤ x2 ∧ x2 ≤ c
theorem BoxAt.mono {c d : Int} {H : Hp} {b : Addr} (h : BoxAt c H b) (l : c ≤ d) : BoxAt d H b := by
  obtain ⟨x0, x1, x2, e, a1, a2, a3, a4, a5⟩ := h
  exact ⟨x0, x1, x2, e, a1, a2, a3, a4, by omega⟩
theorem BoxAt.same {c : Int} {H H' : Hp} {b : Addr} (h : BoxAt c H b) (s : Same H H') : BoxAt c H' b := by
  obtain ⟨x0, x1, x2, e, r⟩ := h
  exact ⟨x0, x1, x2, s _ _ e, r⟩
theorem BoxAt.at {c : Int} {H H' : Hp} {b : Addr} (h : BoxAt c H b) (s : H' b = H b) : BoxAt c H' b := by
  obtain ⟨x0, x1, x2, e, r⟩ := h
  exact ⟨x0, x1, x2, by rw [s]; exact e, r⟩
theorem BoxAt.ne {c : Int} {H : Hp} {b p : Addr} (h : BoxAt c H b) (n : H p = none) : b ≠ p := by
  obtain ⟨x0, x1, x2, e, r⟩ := h
  exact ne_of_none e n
theorem e7 : (10 : Int) ^ ((7 : Int).toNat) = 10000000 := by decide
theorem e18 : (10 : Int) ^ ((18 : Int).toNat) = 1000000000000000000 := by decide
theorem divp_small {i j : Int} (h0 : 0 < j) (h1 : j < 2 ^ 250) : CDivP i j := by
  refine ⟨h0, ?_⟩
  show (decide ((if j == 0 then 0 else j.natAbs.log2 / 30 + 1) > 300) && _) = false
  rw [if_neg (show ¬ (j == 0) = true by simpa using (show j ≠ 0 by omega))]
  have hl : j.natAbs.log2 < 250 := PySem.Flt.log2_lt_of (by decide) (by omega)
  rw [decide_eq_false (show ¬ (j.natAbs.log2 / 30 + 1 > 300) by omega), Bool.false_and]
section
variable {P : Program} {w : World} {K : PySem.W.Frag} {mg : Str → Option Value} {base : Heap}
/-! ### _law_take -/
theorem scTake : FnScope ["_law_box_here", "_law_size", "_law_found", "_law_step", "_law_once", "_law_twice"] ["_law_box_here", "_law_size"] (defScope sTake) := ⟨rfl, rfl, rfl, by decide +kernel, rfl, by decide +kernel, by decide +kernel⟩
def spTake (k : Nat) : Sp := fun vs H Q _ => ∃ (b : Addr) (n c : Int), vs = [.ref b, .int n] ∧ BoxAt c H b ∧ 1 ≤ n ∧ n ≤ 10000000 ^ k ∧ n < 2 ^ 250 ∧ c + 2 ^ k ≤ 1000000000 ∧ 0 < k ∧
  ∀ (r : Int) (H' : Hp), 0 ≤ r → r < n → BoxAt (c + 2 ^ (k - 1)) H' b → Keep b H H' → Q (.int r) H'
theorem take_none {f : Addr} {fd : FuncData} : FnOk P w K mg base CX0 0 f fd ["_law_box_here", "_law_size"] (spTake 0) := by
  have no : ∀ vs H Q E, ¬ spTake 0 vs H Q E := fun vs H Q E h => by
    obtain ⟨b, n, c, _, _, _, _, _, _, h0, _⟩ := h
    omega
  exact ⟨fun vs H Q E h => absurd h (no vs H Q E), fun A outer s H args us vs Q E _ _ _ _ h => absurd h (no vs H Q E)⟩
theorem ok_take1 {f : Addr} {fd : FuncData} {k : Nat} (F : Fun K "_law_take" "_law_take" sTake f fd) (G : FnOk P w K mg base CX0 k f fd ["_law_box_here", "_law_size"] (spTake k)) (bf : Binds K fd ["_law_box_here", "_law_size"] []) (mf : mg "_law_take" = some (.ref f)) (B : Bl mg) :
    FnOk P w K mg base CX0 (k + 1) f fd ["_law_box_here", "_law_size"] (spTake (k + 1)) := by
  refine F.ok scTake (fun vs H Q E h => ?_) (fun cdv A outer s H vs Q E hr h => ?_)
  · obtain ⟨b, n, c, rfl, _⟩ := h
    rfl
  obtain ⟨b, n, c, rfl, hB, hn1, hnk, hn60, hc, _, q⟩ := h
  obtain ⟨x0, x1, x2, hb, h0, h1, h1', h2, h2'⟩ := hB
  have hp : (0 : Int) < 2 ^ k := Int.pow_pos (by decide)
  have hk2 : (2 : Int) ^ (k + 1) = 2 ^ k * 2 := Int.pow_succ 2 k
  refine ⟨_, pss_cons (ps_if (pt_cmpR op_gt (pe_ix ix_list (pv 0) pe_int (fun _ _ => rfl)) pe_int (nomark _))
      (pss_cons (ps_asg (pe_callB call_divmodW (by rfl) B.divmod boot_divmod (pa_cons (pe_ix ix_list (pv 0) pe_int (fun _ _ => rfl)) (pa_cons (pv 1) pa_nil)))
          (pg_tup (by rfl) (pgs_cons (pg_sub (pv 0) pe_int set_list) (pgs_cons (pg_name (i := 2) scTake.nd rfl (.inl rfl)) pgs_nil))))
        (pss_one (ps_ret (pv 2)))) pss_nil)
    (pss_cons (ps_if (pt_cmpR op_gt (pv 1) (pe_op op_pow pe_int pe_int) (nomark _))
      (pss_one (ps_ret (pe_op op_mod (pe_op op_add (pe_call G hr (by rfl) mf F.kp bf .nil pass0 (pa_cons (pv 0) (pa_cons (pe_op op_pow pe_int pe_int) pa_nil)))
          (pe_op op_mul (pe_op op_pow pe_int pe_int) (pe_call G hr (by rfl) mf F.kp bf .nil pass0 (pa_cons (pv 0) (pa_cons (pe_op op_add (pe_op op_fdiv (pe_op op_sub (pv 1) pe_int) (pe_op op_pow pe_int pe_int)) pe_int) pa_nil))))) (pv 1)))) pss_nil)
    (pss_cons (ps_asg (pe_op op_add (pe_ix ix_list (pv 0) pe_int (fun _ _ => rfl)) pe_int) (pg_sub (pv 0) pe_int set_list))
    (pss_cons (ps_set (i := 3) scTake.nd rfl (.inl rfl) (pe_op op_add pe_int (pe_op op_mul (pe_ix ix_list (pv 0) pe_int (fun _ _ => rfl)) (pe_ix ix_list (pv 0) pe_int (fun _ _ => rfl)))))
    (pss_cons (ps_set (i := 4) scTake.nd rfl (.inl rfl) (pe_op op_mod (pe_op op_mul (pe_op op_add (pe_ix ix_list (pv 0) pe_int (fun _ _ => rfl)) (pe_op op_mul pe_int (pe_ix ix_list (pv 0) pe_int (fun _ _ => rfl)))) (pv 3)) pe_int))
    (pss_cons (ps_set (i := 5) scTake.nd rfl (.inl rfl) (pe_op op_mod (pe_op op_add (pe_op op_mul (pv 4) (pe_op op_add (pe_op op_mod (pv 4) pe_int) pe_int)) (pe_ix ix_list (pv 0) pe_int (fun _ _ => rfl))) pe_int))
    (pss_one (ps_ret (pe_op op_mod (pe_op op_fdiv (pe_op op_mod (pe_op op_mul (pv 5) (pe_op op_add (pe_op op_mod (pv 5) pe_int) pe_int)) pe_int) pe_int) (pv 1))))))))), ?_⟩
  refine ⟨_, rfl, b, _, _, _, rfl, rfl, SqL.of hb, rfl, _, _, rfl, rfl, _, rfl, ite2 (fun cc => ?_) (fun cc => ?_)⟩
  · -- the great number's own digits
    refine ⟨_, rfl, b, _, _, _, rfl, rfl, SqL.of hb, rfl, _, rfl, _, _, rfl, divp_small (by omega) (by omega), fun p np => ?_⟩
    have nbp : b ≠ p := ne_of_none hb np
    refine ⟨p, _, rfl, .inl (.inl upd_same), rfl, _, _, rfl, _, rfl, b, _, _, 0, rfl, rfl, (by rw [upd_ne nbp]; exact hb), rfl, _, _, rfl, rfl, _, rfl, ?_⟩
    refine q _ _ (Int.emod_nonneg _ (by omega)) (Int.emod_lt_of_pos _ (by omega)) ⟨x0 / n, x1, x2, upd_same, Int.ediv_nonneg h0 (by omega), h1, h1', h2, by show x2 ≤ c + 2 ^ k; omega⟩ ?_
    exact Keep.trans (Keep.new np) Keep.upd
  · refine ⟨_, rfl, _, _, rfl, rfl, ⟨by decide, by decide, by decide⟩, _, _, rfl, rfl, _, rfl, ite2 (fun c2 => ?_) (fun c2 => ?_)⟩
    · -- two lesser draws
      have c3 : (10 : Int) ^ ((7 : Int).toNat) < n := of_decide_eq_true c2
      rw [e7] at c3
      have hk : 0 < k := by
        rcases Nat.eq_zero_or_pos k with z | z
        · subst z
          rw [show (10000000 : Int) ^ (0 + 1) = 10000000 by decide] at hnk
          omega
        · exact z
      obtain ⟨j, rfl⟩ : ∃ j, k = j + 1 := ⟨k - 1, by omega⟩
      have hj2 : (2 : Int) ^ (j + 1) = 2 ^ j * 2 := Int.pow_succ 2 j
      have hjp : (0 : Int) < 2 ^ j := Int.pow_pos (by decide)
      have h10 : (10000000 : Int) ≤ 10000000 ^ (j + 1) := by
        rw [Int.pow_succ]
        have : (0 : Int) < 10000000 ^ j := Int.pow_pos (by decide)
        omega
      have hdiv : (n - 1) / 10000000 + 1 ≤ 10000000 ^ (j + 1) := by
        rw [Int.pow_succ] at hnk
        have : n - 1 < 10000000 ^ (j + 1) * 10000000 := by omega
        have := Int.ediv_lt_of_lt_mul (by decide) this
        omega
      refine ⟨_, rfl, _, _, rfl, rfl, ⟨by decide, by decide, by decide⟩, b, _, c, rfl, ⟨x0, x1, x2, hb, h0, h1, h1', h2, h2'⟩, (by rw [e7]; decide), (by rw [e7]; exact h10), (by rw [e7]; decide), by omega, by omega, fun r1 H1 a1 a2 B1 k1 => ?_⟩
      refine ⟨_, _, rfl, rfl, ⟨by decide, by decide, by decide⟩, _, rfl, _, rfl, _, _, rfl, rfl, _, _, rfl, rfl, ⟨by decide, by decide, by decide⟩, _, _, rfl, rfl, (by rw [e7]; exact ⟨by decide, by decide⟩), _, _, rfl, rfl, ?_⟩
      rw [e7]
      refine ⟨b, _, c + 2 ^ j, rfl, B1, by omega, hdiv, by omega, by omega, by omega, fun r2 H2 a3 a4 B2 k2 => ?_⟩
      refine ⟨_, _, rfl, rfl, .inl ⟨by decide, by decide⟩, _, _, rfl, rfl, _, rfl, _, _, rfl, rfl, (by show (0 : Int) < n; omega), ?_⟩
      refine q _ _ (Int.emod_nonneg _ (by omega)) (Int.emod_lt_of_pos _ (by omega)) (B2.mono ?_) (k1.trans k2)
      show c + 2 ^ j + 2 ^ j ≤ c + 2 ^ (j + 1)
      omega
    · -- a turn of the wheel
      refine ⟨_, rfl, b, _, _, _, rfl, rfl, SqL.of hb, rfl, _, _, rfl, rfl, _, rfl, b, _, _, 2, rfl, rfl, hb, rfl, ?_⟩
      have hb2 : (upd H b (.lst [.int x0, .int x1, .int (x2 + 1)])) b = some (.lst [.int x0, .int x1, .int (x2 + 1)]) := upd_same
      refine ⟨_, rfl, b, _, _, _, rfl, rfl, SqL.of hb2, rfl, _, rfl, b, _, _, _, rfl, rfl, SqL.of hb2, rfl, _, _, rfl, rfl, .inl ⟨by omega, by omega⟩, _, _, rfl, rfl, ?_⟩
      refine ⟨_, rfl, b, _, _, _, rfl, rfl, SqL.of hb2, rfl, _, rfl, b, _, _, _, rfl, rfl, SqL.of hb2, rfl, _, _, rfl, rfl, .inl ⟨by omega, by omega⟩, _, _, rfl, rfl, _, rfl, _, _, rfl, rfl, .inl ⟨by omega, by omega⟩, _, _, rfl, rfl, (by show (0 : Int) < 2147483587; decide), ?_⟩
      generalize (x1 + 39373 * (x2 + 1)) * (69621 + (x2 + 1) * (x2 + 1)) = y
      have y1 := Int.emod_nonneg y (show (2147483587 : Int) ≠ 0 by decide)
      have y2 := Int.emod_lt_of_pos y (show (0 : Int) < 2147483587 by decide)
      refine ⟨_, rfl, _, rfl, _, _, rfl, rfl, (by show (0 : Int) < 30011; decide), _, _, rfl, rfl, _, _, rfl, rfl, .inl ⟨by omega, by omega⟩, _, rfl, b, _, _, _, rfl, rfl, SqL.of hb2, rfl, _, _, rfl, rfl, _, _, rfl, rfl, (by show (0 : Int) < 2147483563; decide), ?_⟩
      generalize (y % 2147483587 * (y % 2147483587 % 30011 + 5) + (x2 + 1)) = z
      have z1 := Int.emod_nonneg z (show (2147483563 : Int) ≠ 0 by decide)
      have z2 := Int.emod_lt_of_pos z (show (0 : Int) < 2147483563 by decide)
      refine ⟨_, rfl, _, rfl, _, _, rfl, rfl, (by show (0 : Int) < 1013; decide), _, _, rfl, rfl, _, _, rfl, rfl, .inl ⟨by omega, by omega⟩, _, _, rfl, rfl, (by show (0 : Int) < 998244353; decide), _, _, rfl, rfl, ⟨by decide, by decide⟩, _, rfl, _, _, rfl, rfl, (by show (0 : Int) < n; omega), ?_⟩
      refine q _ _ (Int.emod_nonneg _ (by omega)) (Int.emod_lt_of_pos _ (by omega)) ⟨x0, x1, x2 + 1, hb2, h0, h1, h1', by omega, by show x2 + 1 ≤ c + 2 ^ k; omega⟩ Keep.upd
theorem ok_take {f : Addr} {fd : FuncData} (F : Fun K "_law_take" "_law_take" sTake f fd) (bf : Binds K fd ["_law_box_here", "_law_size"] []) (mf : mg "_law_take" = some (.ref f)) (B : Bl mg) : ∀ k : Nat, FnOk P w K mg base CX0 k f fd ["_law_box_here", "_law_size"] (spTake k)
  | 0 => take_none
  | k + 1 => ok_take1 F (ok_take F bf mf B k) bf mf B
/-! ### _law_box -/
theorem scBox : FnScope ["_law_script", "_law_k", "_law_cell"] ["_law_script", "_law_k"] (defScope sBox) := ⟨rfl, rfl, rfl, by decide +kernel, rfl, by decide +kernel, by decide +kernel⟩
def spBox (K : PySem.W.Frag) : Sp := fun vs H Q _ => ∃ (a : Addr) (zs : List Int) (k : Int), vs = [.ref a, .int k] ∧ SqL K H a (zs.map V.int) ∧ 0 ≤ k ∧ k ≤ 1000 ∧
  ∀ (p : Addr) (H' : Hp), H p = none → Same H H' → BoxAt 0 H' p → Q (.ref p) H'
theorem b01 (b : Bool) : (-(2 ^ 64) < (if b = true then (1 : Int) else 0)) ∧ (if b = true then (1 : Int) else 0) < 2 ^ 64 := by cases b <;> decide
theorem b01n (b : Bool) : 0 ≤ (if b = true then (1 : Int) else 0) := by cases b <;> decide
theorem abs_nn (i : Int) : 0 ≤ (if i < 0 then -i else i) := by
  split <;> omega
theorem at_int {zs : List Int} {k : Int} (h0 : 0 ≤ k) (h : k < (zs.length : Int)) : ∃ v : Int, atI (zs.map V.int) k = some (.int v) ∧ zs[k.toNat]? = some v := by
  have hk : k.toNat < zs.length := by omega
  have ek : k = ((k.toNat : Nat) : Int) := by omega
  have q : atI (zs.map V.int) ((k.toNat : Nat) : Int) = some (.int zs[k.toNat]) := atI_nat (by rw [List.getElem?_map, List.getElem?_eq_getElem hk] <;> rfl)
  rw [← ek] at q
  exact ⟨zs[k.toNat], q, List.getElem?_eq_getElem hk⟩
theorem ok_box {f : Addr} {fd : FuncData} {k : Nat} (F : Fun K "_law_box" "_law_box" sBox f fd) (B : Bl mg) : FnOk P w K mg base CX0 (k + 1) f fd ["_law_script", "_law_k"] (spBox K) := by
  refine F.ok scBox (fun vs H Q E h => ?_) (fun cdv A outer s H vs Q E hr h => ?_)
  · obtain ⟨a, zs, k, rfl, _⟩ := h
    rfl
  obtain ⟨a, zs, k, rfl, hS, h0, h1, q⟩ := h
  refine ⟨_, pss_cons (ps_set (i := 2) scBox.nd rfl (.inl rfl) (pe_ifExp (pt_cmpR op_lt (pv 1) (pe_callB call_len_seq (by rfl) B.len PySem.boot_len (pa_cons (pv 0) pa_nil)) (nomark _)) (pe_ix ix_list (pv 0) (pv 1) (fun _ _ => rfl)) pe_int))
    (pss_one (ps_ret (pe_lst (pa_cons (pe_op op_mul (pe_callB call_abs (by rfl) B.abs boot_abs (pa_cons (pv 2) pa_nil)) (pe_callTy call_int1 (by rfl) B.int PyProof.Rows.boot_int (pa_cons (pe_cmpR op_ge (pe_callB call_abs (by rfl) B.abs boot_abs (pa_cons (pv 2) pa_nil)) (pe_op op_pow pe_int pe_int) (nomark _)) pa_nil)))
      (pa_cons (pe_op op_mod (pe_op op_mul (pe_op op_add (pe_op op_add (pe_op op_mod (pv 2) pe_int) (pe_op op_mul pe_int (pv 1))) pe_int) pe_int) pe_int) (pa_cons pe_int pa_nil)))))), ?_⟩
  refine ⟨_, rfl, _, rfl, a, _, rfl, .inl hS, _, _, rfl, rfl, _, rfl, ite2 (fun cc => ?_) (fun cc => ?_)⟩
  · have c1 : k < (((zs.map V.int).length : Nat) : Int) := of_decide_eq_true cc
    rw [List.length_map] at c1
    obtain ⟨v, hv, _⟩ := at_int h0 c1
    refine ⟨_, rfl, _, rfl, a, _, _, _, rfl, rfl, hS, hv, ?_⟩
    refine ⟨_, rfl, _, rfl, _, rfl, _, rfl, _, _, rfl, rfl, ⟨by decide, by decide, by decide⟩, _, _, rfl, rfl, .inr ⟨_, rfl, ?_⟩⟩
    refine ⟨_, _, rfl, rfl, .inr (b01 _), _, rfl, _, _, rfl, rfl, (by show (0 : Int) < 2147483629; decide), _, rfl, _, _, rfl, rfl, .inl ⟨by decide, by decide⟩, _, _, rfl, rfl, _, _, rfl, rfl, _, _, rfl, rfl, .inr ⟨by decide, by decide⟩, _, _, rfl, rfl, (by show (0 : Int) < 2147483647; decide), (by show 3 ≤ sizeLine; decide), fun p np => ?_⟩
    refine q p _ np (same_upd np) ⟨_, _, _, upd_same, Int.mul_nonneg (abs_nn v) (b01n _), Int.emod_nonneg _ (by decide), Int.emod_lt_of_pos _ (by decide), by decide, by decide⟩
  · refine ⟨_, rfl, _, rfl, _, rfl, _, rfl, _, _, rfl, rfl, ⟨by decide, by decide, by decide⟩, _, _, rfl, rfl, .inr ⟨_, rfl, ?_⟩⟩
    refine ⟨_, _, rfl, rfl, .inr (b01 _), _, rfl, _, _, rfl, rfl, (by show (0 : Int) < 2147483629; decide), _, rfl, _, _, rfl, rfl, .inl ⟨by decide, by decide⟩, _, _, rfl, rfl, _, _, rfl, rfl, _, _, rfl, rfl, .inr ⟨by decide, by decide⟩, _, _, rfl, rfl, (by show (0 : Int) < 2147483647; decide), (by show 3 ≤ sizeLine; decide), fun p np => ?_⟩
    refine q p _ np (same_upd np) ⟨_, _, _, upd_same, Int.mul_nonneg (abs_nn 0) (b01n _), Int.emod_nonneg _ (by decide), Int.emod_lt_of_pos _ (by decide), by decide, by decide⟩
/-! ### _law_folded -/
theorem scFolded : FnScope ["_law_script", "_law_size", "_law_cells", "_law_k", "_law_cell"] ["_law_script", "_law_size"] (defScope sFolded) := ⟨rfl, rfl, rfl, by decide +kernel, rfl, by decide +kernel, by decide +kernel⟩
def spFolded (K : PySem.W.Frag) : Sp := fun vs H Q _ => ∃ (a : Addr) (ns : List Int) (m : Nat), vs = [.ref a, .int (m : Int)] ∧ SqL K H a (ns.map V.int) ∧ ns.length ≤ 63 ∧ 1 ≤ m ∧ m ≤ 63 ∧
  ∀ (p : Addr) (H' : Hp) (zs : List Int), H p = none → Same H H' → H' p = some (.lst (zs.map V.int)) → zs.length = min ns.length m → Q (.ref p) H'
theorem cut_lo (ns : List Int) (m : Nat) : cutV (ns.map V.int) none (some (m : Int)) = (ns.take m).map V.int := by
  unfold cutV
  rw [HT.sIx_none, HT.sIx_nat, List.drop_zero, Nat.sub_zero, List.length_map, ← List.map_take]
  congr 1
  rw [List.take_eq_take_iff]
  omega
theorem cut_mid (ns : List Int) (m j : Nat) : ∃ ws : List Int, cutV (ns.map V.int) (some (m : Int)) (some (j : Int)) = ws.map V.int ∧ ws.length ≤ ns.length - m := by
  unfold cutV
  rw [HT.sIx_nat, HT.sIx_nat, List.length_map, ← List.map_drop, ← List.map_take]
  refine ⟨_, rfl, ?_⟩
  rw [List.length_take, List.length_drop]
  omega
theorem int_at {ws : List Int} {i : Nat} {x : V} (h : (ws.map V.int)[i]? = some x) : ∃ z, ws[i]? = some z ∧ x = .int z := by
  rw [List.getElem?_map] at h
  cases e : ws[i]? with
  | none =>
    rw [e] at h
    cases h
  | some z =>
    rw [e] at h
    exact ⟨z, rfl, (Option.some.inj h).symm⟩
theorem map_set (zs : List Int) (j : Nat) (v : Int) : (zs.map V.int).set j (.int v) = (zs.set j v).map V.int := List.map_set.symm
theorem ixN_nat {n j : Nat} (h : j < n) : ixN n (j : Int) = some j := by
  unfold ixN
  rw [if_pos (Int.natCast_nonneg j), if_pos (by omega), Int.toNat_natCast]
theorem ok_folded {f : Addr} {fd : FuncData} {k : Nat} (F : Fun K "_law_folded" "_law_folded" sFolded f fd) (B : Bl mg) : FnOk P w K mg base CX0 (k + 1) f fd ["_law_script", "_law_size"] (spFolded K) := by
  refine F.ok scFolded (fun vs H Q E h => ?_) (fun cdv A outer s H vs Q E hr h => ?_)
  · obtain ⟨a, ns, m, rfl, _⟩ := h
    rfl
  obtain ⟨a, ns, m, rfl, hS, h63, hm1, hm2, q⟩ := h
  refine ⟨_, pss_cons (ps_set (i := 2) scFolded.nd rfl (.inl rfl) (pe_callTy call_list_of (by rfl) B.list PyProof.Rows.boot_list (pa_cons (pe_slice sl_list (pv 0) po_none (po_some (pv 1))) pa_nil)))
    (pss_cons (ps_for PassesOwn.never rfl (pi_enum (by rfl) B.enumerate (pa_cons (pe_slice sl_list (pv 0) (po_some (pv 1)) (po_some pe_int)) pa_nil))
        (pg_tup rfl (pgs_cons (pg_name (i := 3) scFolded.nd rfl (.inl rfl)) (pgs_cons (pg_name (i := 4) scFolded.nd rfl (.inl rfl)) pgs_nil)))
      (pss_one (ps_asg (pe_op op_add (pe_ix ix_list (pv 2) (pe_op op_mod (pv 3) (pv 1)) (fun _ _ => rfl)) (pe_op op_mul (pv 4) (pe_op op_add (pv 3) pe_int))) (pg_sub (pv 2) (pe_op op_mod (pv 3) (pv 1)) set_list))))
    (pss_one (ps_ret (pv 2)))), ?_⟩
  refine ⟨_, rfl, _, rfl, _, rfl, a, _, rfl, hS, fun c0 nc0 => ?_⟩
  rw [cut_lo]
  have s0 : Same H (upd H c0 (.lst ((ns.take m).map V.int))) := same_upd nc0
  refine ⟨c0, _, rfl, .inl (.inl (.inl upd_same)), fun p np => ?_⟩
  have npH : H p = none := s0.free np
  have ne0 : c0 ≠ p := fun e => by
    subst e
    rw [upd_same] at np
    cases np
  have s1 := s0.trans (same_upd (o := .lst ((ns.take m).map V.int)) np)
  refine ⟨_, rfl, _, rfl, _, rfl, _, rfl, a, _, rfl, s1.seq hS, fun c nc => ?_⟩
  obtain ⟨ws, ew, lw⟩ := cut_mid ns m 63
  rw [show ((63 : Nat) : Int) = (63 : Int) from rfl] at ew
  rw [ew]
  have s2 := s1.trans (same_upd (o := .lst (ws.map V.int)) nc)
  have nec : c ≠ p := fun e => by
    subst e
    rw [upd_same] at nc
    cases nc
  refine ⟨c, _, rfl, .inl (.inl upd_same), ?_⟩
  refine for_it (walk_enum (K := K) (a := c) (xs := ws.map V.int)) (fun i σ H3 => ∃ (y3 y4 : Option V) (zs : List Int), σ = [some (.ref a), some (.int (m : Int)), some (.ref p), y3, y4] ∧ Same H H3 ∧ H3 c = some (.lst (ws.map V.int)) ∧ H3 p = some (.lst (zs.map V.int)) ∧ zs.length = min ns.length m)
    ⟨none, none, ns.take m, rfl, s2, upd_same, ?_, ?_⟩ (fun i σ H3 _ ⟨_, _, _, _, _, e, _⟩ => .inl (.inl e)) ?_ ?_
  · rw [upd_ne nec.symm]
    exact upd_same
  · rw [List.length_take, Nat.min_comm]
  · rintro i v σ H3 H4 hi ⟨y3, y4, zs, rfl, s3, ec, ep, el⟩ ⟨T, x, y, rfl, nT, rfl, e1, e2⟩
    cases e1
    obtain ⟨z, _, rfl⟩ := int_at e2
    rw [List.length_map] at hi
    have npT : p ≠ T := ne_of_none ep nT
    have ncT : c ≠ T := ne_of_none ec nT
    have sT : Same H3 (upd H3 T (.tup [.int (i : Nat), .int z])) := same_upd nT
    refine ⟨T, _, rfl, .inl (.inl upd_same), rfl, _, _, rfl, _, _, rfl, rfl, ?_⟩
    have lm : (i : Int) % (m : Int) = ((i % m : Nat) : Int) := rfl
    have hl : i % m < zs.length := by
      have := Nat.mod_lt i (show 0 < m by omega)
      omega
    have ev : (zs.map V.int)[i % m]? = some (.int zs[i % m]) := by
      rw [List.getElem?_map, List.getElem?_eq_getElem hl]
      rfl
    refine ⟨_, rfl, _, rfl, _, rfl, _, _, rfl, rfl, (by show (0 : Int) < (m : Int); omega), p, _, _, _, rfl, rfl, SqL.of (sT _ _ ep), (by rw [lm]; exact atI_nat ev), _, rfl, _, rfl, _, _, rfl, rfl, _, _, rfl, rfl, .inr ⟨by omega, by omega⟩, _, _, rfl, rfl, ?_⟩
    refine ⟨_, rfl, _, rfl, _, rfl, _, _, rfl, rfl, (by show (0 : Int) < (m : Int); omega), p, _, _, i % m, rfl, rfl, sT _ _ ep, (by rw [lm, List.length_map]; exact ixN_nat hl), ?_⟩
    refine ⟨_, _, zs.set (i % m) (zs[i % m] + z * ((i : Int) + 2)), rfl, fun b o e => ?_, ?_, ?_, ?_⟩
    · rw [upd_ne (ne_of_none e npH)]
      exact sT _ _ (s3 _ _ e)
    · rw [upd_ne nec]
      exact sT _ _ ec
    · rw [upd_same, map_set]
    · rw [List.length_set]
      exact el
  · rintro σ H3 ⟨y3, y4, zs, rfl, s3, ec, ep, el⟩
    exact ⟨_, rfl, q p H3 zs npH s3 ep el⟩
/-! ### _law_same: of two things of one kind and worth -/
theorem scSame : FnScope ["_law_found", "_law_due", "_law_one", "_law_other"] ["_law_found", "_law_due"] (defScope sSame) := ⟨rfl, rfl, rfl, by decide +kernel, rfl, by decide +kernel, by decide +kernel⟩
def Lv : Nat → PyData → Prop
  | _, .none => True
  | _, .bool _ => True
  | _, .int _ => True
  | _, .str _ => True
  | n + 1, .list ds => ds.length ≤ 1000000 ∧ ∀ d ∈ ds, Lv n d
  | n + 1, .tuple ds => ds.length ≤ 1000000 ∧ ∀ d ∈ ds, Lv n d
  | _, _ => False
mutual
theorem Dp.same {H H' : Hp} (s : Same H H') : ∀ (d : PyData) (v : V), Dp K H v d → Dp K H' v d
  | .none, _, h => by
    cases h
    exact .non
  | .bool b, _, h => by
    cases h
    exact .bl b
  | .int i, _, h => by
    cases h
    exact .int i
  | .str x, _, h => by
    cases h
    exact .str x
  | .list ds, _, h => by
    cases h with
    | lst hs ha => exact .lst (s.seq hs) (Dp.sameAll s ds _ ha)
  | .tuple ds, _, h => by
    cases h with
    | tup hs ha => exact .tup (Same.seqT s hs) (Dp.sameAll s ds _ ha)
  | .dict _, _, h => by cases h
theorem Dp.sameAll {H H' : Hp} (s : Same H H') : ∀ (ds : List PyData) (vs : List V), DpAll K H vs ds → DpAll K H' vs ds
  | [], _, h => by
    cases h
    exact .nil
  | d :: ds, _, h => by
    cases h with
    | cons h1 h2 => exact .cons (Dp.same s d _ h1) (Dp.sameAll s ds _ h2)
end
theorem DpAll.len {H : Hp} : ∀ {ds : List PyData} {vs : List V}, DpAll K H vs ds → vs.length = ds.length
  | [], _, h => by
    cases h
    rfl
  | d :: ds, _, h => by
    cases h with
    | cons h1 h2 => rw [List.length_cons, List.length_cons, DpAll.len h2]
theorem DpAll.get {H : Hp} : ∀ {ds : List PyData} {vs : List V} {i : Nat} {x : V}, DpAll K H vs ds → vs[i]? = some x → ∃ d, ds[i]? = some d ∧ Dp K H x d
  | [], _, i, x, h, e => by
    cases h
    cases e
  | d :: ds, _, 0, x, h, e => by
    cases h with
    | cons h1 h2 =>
      cases e
      exact ⟨d, rfl, h1⟩
  | d :: ds, _, i + 1, x, h, e => by
    cases h with
    | @cons _ vs _ _ h1 h2 => exact DpAll.get (ds := ds) (vs := vs) h2 (show vs[i]? = some x from e)
theorem walk_zipT {a b : Addr} {xs ys : List V} {n : Nat} (hn : n = min xs.length ys.length) : Walk (RZ.ItzT K a b) n (fun H => SqT K H a xs ∧ SqT K H b ys) (YPair (fun i => xs[i]?) (fun i => ys[i]?)) := by
  subst hn
  refine ⟨fun i _ hi q => ?_, fun _ q => ⟨xs, ys, q.1, q.2, by omega⟩, fun i H v H' _ q y => ?_⟩
  · have h1 : i < xs.length := by omega
    have h2 : i < ys.length := by omega
    exact ⟨xs, ys, xs[i], ys[i], q.1, q.2, by simp [h1], by simp [h2]⟩
  · obtain ⟨T, x, z, h1, h2, h3, h4, h5⟩ := y
    exact ⟨T, x, z, h1, h2, h3, h4 xs q.1, h5 ys q.2⟩
theorem ty_lst {H : Hp} {a : Addr} {xs : List V} (h : SqL K H a xs) : TyX K H (.ref a) (.type "list") := by
  rcases h with (h | ⟨o, h⟩) | ⟨o, its, n, h1, h2, _⟩
  · exact .base (.lst h)
  · exact .base (.frz h)
  · exact .kList h1 h2
theorem ty_tup {H : Hp} {a : Addr} {xs : List V} (h : SqT K H a xs) : TyX K H (.ref a) (.type "tuple") := by
  rcases h with (h | ⟨o, h⟩) | ⟨o, its, n, h1, h2, _⟩
  · exact .base (.tup h)
  · exact .fTuple h
  · exact .kTuple h1 h2
def spSame (K : PySem.W.Frag) (k : Nat) : Sp := fun vs H Q _ => ∃ (x y : V) (d : PyData) (j : Nat), vs = [x, y] ∧ k = j + 1 ∧ Lv j d ∧ Dp K H x d ∧ Dp K H y d ∧ ∀ H', Same H H' → Q (.bl true) H'
theorem same_none {f : Addr} {fd : FuncData} : FnOk P w K mg base CX0 0 f fd ["_law_found", "_law_due"] (spSame K 0) := by
  have no : ∀ vs H Q E, ¬ spSame K 0 vs H Q E := fun vs H Q E h => by
    obtain ⟨x, y, d, j, _, h0, _⟩ := h
    omega
  exact ⟨fun vs H Q E h => absurd h (no vs H Q E), fun A outer s H args us vs Q E _ _ _ _ h => absurd h (no vs H Q E)⟩
theorem yesT {σ : L2.St} {H : Hp} {R S : Hp → Prop} (h : R H) : tYes σ H fun b H3 => if b = true then R H3 else S H3 := h
theorem repl_snoc {α : Type} (i : Nat) (x : α) : List.replicate i x ++ [x] = List.replicate (i + 1) x := List.replicate_succ'.symm
theorem all_repl (n : Nat) : (List.replicate n true).all id = true := by
  rw [List.all_eq_true]
  intro x hx
  rw [List.eq_of_mem_replicate hx]
  rfl
theorem kitLT {t : String} {r1 r2 : Bool} (h1 : kitB t "list" = some r1) (h2 : kitB t "tuple" = some r2) : PySem.W.kitAny K (.type t) [.type "list", .type "tuple"] = some (r1 || r2) := by
  refine kitAny_cons (kit_ty h1) (fun e => ?_) (fun e => by rw [e]; rfl)
  rw [e, Bool.false_or]
  refine kitAny_cons (kit_ty h2) (fun e => ?_) (fun e => e)
  rw [e]
  rfl
theorem ok_same1 {f : Addr} {fd : FuncData} {k : Nat} (F : Fun K "_law_same" "_law_same" sSame f fd) (G : FnOk P w K mg base CX0 k f fd ["_law_found", "_law_due"] (spSame K k)) (bf : Binds K fd ["_law_found", "_law_due"] []) (mf : mg "_law_same" = some (.ref f)) (B : Bl mg) :
    FnOk P w K mg base CX0 (k + 1) f fd ["_law_found", "_law_due"] (spSame K (k + 1)) := by
  refine F.ok scSame (fun vs H Q E h => ?_) (fun cdv A outer s H vs Q E hr h => ?_)
  · obtain ⟨x, y, d, j, rfl, _⟩ := h
    rfl
  obtain ⟨x, y, d, j, rfl, ej, lv, dx, dy, q⟩ := h
  obtain rfl : k = j := by omega
  refine ⟨_, pss_cons (ps_if (pt_val (pe_callB call_isiT (by rfl) B.isinstance boot_isinstance (pa_cons (pv 1) (pa_cons (pe_tup (pa_cons (pe_bltn (v := .ty "list") (by rfl) B.list PyProof.Rows.boot_list rfl) (pa_cons (pe_bltn (v := .ty "tuple") (by rfl) B.tuple PyProof.Rows.boot_tuple rfl) pa_nil))) pa_nil))))
      (pss_cons (ps_if (PW.pt (pw_or (pt_cmpR op_ne (pe_callB call_isi (by rfl) B.isinstance boot_isinstance (pa_cons (pv 0) (pa_cons (pe_bltn (v := .ty "list") (by rfl) B.list PyProof.Rows.boot_list rfl) pa_nil))) (pe_callB call_isi (by rfl) B.isinstance boot_isinstance (pa_cons (pv 1) (pa_cons (pe_bltn (v := .ty "list") (by rfl) B.list PyProof.Rows.boot_list rfl) pa_nil))) (nomark _))
          (pw_or1 (pt_cmpR op_ne (pe_callB call_isi (by rfl) B.isinstance boot_isinstance (pa_cons (pv 0) (pa_cons (pe_bltn (v := .ty "tuple") (by rfl) B.tuple PyProof.Rows.boot_tuple rfl) pa_nil))) (pe_callB call_isi (by rfl) B.isinstance boot_isinstance (pa_cons (pv 1) (pa_cons (pe_bltn (v := .ty "tuple") (by rfl) B.tuple PyProof.Rows.boot_tuple rfl) pa_nil))) (nomark _)))))
          (pss_one (ps_ret pe_bl)) pss_nil)
        (pss_one (ps_ret (pe_and (pe_cmpR op_eq (pe_callB call_len_seq (by rfl) B.len PySem.boot_len (pa_cons (pv 0) pa_nil)) (pe_callB call_len_seq (by rfl) B.len PySem.boot_len (pa_cons (pv 1) pa_nil)) (nomark _))
          (pe_one (pe_callB (cr_all rfl) (by rfl) B.all boot_all (pa_cons (pe_lc (own := [("_law_one", 2), ("_law_other", 3)]) (g := gTup K 2 (gCons (gName 2) (gCons (gName 3) gNil))) (by rfl) scSame.nd (RZ.pi_zipA (by rfl) B.zip (pa_cons (pv 0) (pa_cons (pv 1) pa_nil)))
            (blkOk_by (own := [("_law_one", 2), ("_law_other", 3)]) (N := ["_law_found", "_law_due", "_law_one", "_law_other"]) (sc := defScope sSame) (by decide +kernel))
            (fun _ _ _ _ _ => pg_tup rfl (pgs_cons (pg_name (i := 2) scSame.nd rfl (Or.inl rfl) (.inr rfl)) (pgs_cons (pg_name (i := 3) scSame.nd rfl (Or.inl rfl) (.inr rfl)) pgs_nil))) (fun _ _ _ _ _ => pts_nil)
            (fun _ _ _ _ _ => pe_call G hr (by rfl) mf F.kp bf .nil pass0 (pa_cons (pv 2) (pa_cons (pv 3) pa_nil)))) pa_nil))))))) pss_nil)
    (pss_cons (ps_if (PW.pt (pw_or (pt_cmpR op_isN (pv 1) pe_non (nomark _)) (pw_or1 (pt_val (pe_callB call_isi (by rfl) B.isinstance boot_isinstance (pa_cons (pv 1) (pa_cons (pe_bltn (v := .ty "str") (by rfl) B.str PyProof.Rows.boot_str rfl) pa_nil)))))))
      (pss_one (ps_ret (pe_and (pe_cmpR op_eq (pv 0) (pv 1) (nomark _)) (pe_one (pe_cmpR op_eq (pe_callB call_isi (by rfl) B.isinstance boot_isinstance (pa_cons (pv 0) (pa_cons (pe_bltn (v := .ty "str") (by rfl) B.str PyProof.Rows.boot_str rfl) pa_nil))) (pe_callB call_isi (by rfl) B.isinstance boot_isinstance (pa_cons (pv 1) (pa_cons (pe_bltn (v := .ty "str") (by rfl) B.str PyProof.Rows.boot_str rfl) pa_nil))) (nomark _)))))) pss_nil)
    (pss_one (ps_ret (pe_and (pe_callB call_isi (by rfl) B.isinstance boot_isinstance (pa_cons (pv 0) (pa_cons (pe_bltn (v := .ty "int") (by rfl) B.int PyProof.Rows.boot_int rfl) pa_nil))) (pe_and (pe_cmpR op_eq (pe_callB call_isi (by rfl) B.isinstance boot_isinstance (pa_cons (pv 0) (pa_cons (pe_bltn (v := .ty "bool") (by rfl) B.bool PyProof.Rows.boot_bool rfl) pa_nil))) (pe_callB call_isi (by rfl) B.isinstance boot_isinstance (pa_cons (pv 1) (pa_cons (pe_bltn (v := .ty "bool") (by rfl) B.bool PyProof.Rows.boot_bool rfl) pa_nil))) (nomark _))
      (pe_one (pe_cmpR op_eq (pv 0) (pv 1) (nomark _)))))))), ?_⟩
  have pr : Paired ClsV [.ty "list", .ty "tuple"] [.type "list", .type "tuple"] := .cons (.ty _) (.cons (.ty _) .nil)
  refine ⟨_, rfl, (by show 2 ≤ sizeLine; decide), fun tp ntp => ?_⟩
  have s0 : Same H (upd H tp (.tup [.ty "list", .ty "tuple"])) := same_upd ntp
  cases d with
  | none =>
    cases dx
    cases dy
    refine ⟨_, tp, _, _, _, _, rfl, upd_same, pr, .base .non, kitLT (t := "NoneType") (r1 := false) (r2 := false) (by decide +kernel) (by decide +kernel), _, rfl, iteF ?_⟩
    refine ⟨_, rfl, rfl, _, rfl, iteT (iteT ?_)⟩
    refine ⟨_, rfl, _, rfl, rfl, _, rfl, iteT ?_⟩
    refine ⟨_, rfl, _, _, _, _, _, rfl, .ty _, .base .non, kit_ty (by decide +kernel : kitB "NoneType" "str" = some false), _, rfl, _, _, _, _, _, rfl, .ty _, .base .non, kit_ty (by decide +kernel : kitB "NoneType" "str" = some false), rfl, q _ s0⟩
  | bool b =>
    cases dx
    cases dy
    refine ⟨_, tp, _, _, _, _, rfl, upd_same, pr, .base (.bl _), kitLT (t := "bool") (r1 := false) (r2 := false) (by decide +kernel) (by decide +kernel), _, rfl, iteF ?_⟩
    refine ⟨_, rfl, rfl, _, rfl, iteF ?_⟩
    refine ⟨_, rfl, _, _, _, _, _, rfl, .ty _, .base (.bl _), kit_ty (by decide +kernel : kitB "bool" "str" = some false), _, rfl, iteF ?_⟩
    refine ⟨_, rfl, _, _, _, _, _, rfl, .ty _, .base (.bl _), kit_ty (by decide +kernel : kitB "bool" "int" = some true), _, rfl, iteT ?_⟩
    refine ⟨_, rfl, _, _, _, _, _, rfl, .ty _, .base (.bl _), kit_ty (by decide +kernel : kitB "bool" "bool" = some true), _, rfl, _, _, _, _, _, rfl, .ty _, .base (.bl _), kit_ty (by decide +kernel : kitB "bool" "bool" = some true), rfl, _, rfl, iteT ?_⟩
    refine ⟨_, rfl, _, rfl, rfl, ?_⟩
    rw [decide_eq_true rfl]
    exact q _ s0
  | int i =>
    cases dx
    cases dy
    refine ⟨_, tp, _, _, _, _, rfl, upd_same, pr, .base (.int _), kitLT (t := "int") (r1 := false) (r2 := false) (by decide +kernel) (by decide +kernel), _, rfl, iteF ?_⟩
    refine ⟨_, rfl, rfl, _, rfl, iteF ?_⟩
    refine ⟨_, rfl, _, _, _, _, _, rfl, .ty _, .base (.int _), kit_ty (by decide +kernel : kitB "int" "str" = some false), _, rfl, iteF ?_⟩
    refine ⟨_, rfl, _, _, _, _, _, rfl, .ty _, .base (.int _), kit_ty (by decide +kernel : kitB "int" "int" = some true), _, rfl, iteT ?_⟩
    refine ⟨_, rfl, _, _, _, _, _, rfl, .ty _, .base (.int _), kit_ty (by decide +kernel : kitB "int" "bool" = some false), _, rfl, _, _, _, _, _, rfl, .ty _, .base (.int _), kit_ty (by decide +kernel : kitB "int" "bool" = some false), rfl, _, rfl, iteT ?_⟩
    refine ⟨_, rfl, _, rfl, rfl, ?_⟩
    rw [decide_eq_true rfl]
    exact q _ s0
  | str z =>
    cases dx
    cases dy
    refine ⟨_, tp, _, _, _, _, rfl, upd_same, pr, .base (.str _), kitLT (t := "str") (r1 := false) (r2 := false) (by decide +kernel) (by decide +kernel), _, rfl, iteF ?_⟩
    refine ⟨_, rfl, rfl, _, rfl, iteF ?_⟩
    refine ⟨_, rfl, _, _, _, _, _, rfl, .ty _, .base (.str _), kit_ty (by decide +kernel : kitB "str" "str" = some true), _, rfl, iteT ?_⟩
    refine ⟨_, rfl, _, rfl, rfl, ?_⟩
    rw [decide_eq_true rfl]
    refine ⟨_, rfl, iteT ?_⟩
    exact ⟨_, rfl, _, _, _, _, _, rfl, .ty _, .base (.str _), kit_ty (by decide +kernel : kitB "str" "str" = some true), _, rfl, _, _, _, _, _, rfl, .ty _, .base (.str _), kit_ty (by decide +kernel : kitB "str" "str" = some true), rfl, q _ s0⟩
  | list ds =>
    cases dx with
    | @lst a xs _ hx ax =>
    cases dy with
    | @lst b ys _ hy ay =>
    obtain ⟨i, rfl⟩ : ∃ i, k = i + 1 := by
      cases k with
      | zero => exact absurd lv id
      | succ i => exact ⟨i, rfl⟩
    have lx := DpAll.len ax
    have ly := DpAll.len ay
    have hx1 := s0.seq hx
    have hy1 := s0.seq hy
    refine ⟨_, tp, _, _, _, _, rfl, upd_same, pr, ty_lst hy1, kitLT (t := "list") (r1 := true) (r2 := false) (by decide +kernel) (by decide +kernel), _, rfl, iteT ?_⟩
    refine ⟨_, rfl, _, _, _, _, _, rfl, .ty _, ty_lst hx1, kit_ty (by decide +kernel : kitB "list" "list" = some true), _, rfl, _, _, _, _, _, rfl, .ty _, ty_lst hy1, kit_ty (by decide +kernel : kitB "list" "list" = some true), rfl, _, rfl, iteF ?_⟩
    refine ⟨_, rfl, _, _, _, _, _, rfl, .ty _, ty_lst hx1, kit_ty (by decide +kernel : kitB "list" "tuple" = some false), _, rfl, _, _, _, _, _, rfl, .ty _, ty_lst hy1, kit_ty (by decide +kernel : kitB "list" "tuple" = some false), rfl, _, rfl, iteF ?_⟩
    refine ⟨_, rfl, a, _, rfl, .inl hx1, _, rfl, b, _, rfl, .inl hy1, rfl, ?_⟩
    rw [decide_eq_true (by rw [lx, ly])]
    refine ⟨_, rfl, iteT ?_⟩
    refine ⟨_, rfl, _, rfl, a, b, xs, ys, rfl, .inl ⟨hx1, hy1, fun D nD => ?_⟩⟩
    have sD := s0.trans (same_upd (o := .lst []) nD)
    refine lc_it (walk_zip (K := K) (a := a) (b := b) (xs := xs) (ys := ys) rfl) (fun i H3 => Same H H3 ∧ H3 D = some (.lst (List.replicate i (.bl true)))) ⟨sD, upd_same⟩ (fun i H3 _ ⟨s3, _⟩ => ⟨s3.seq hx, s3.seq hy⟩) ?_ ?_
    · rintro i v H3 H4 hi ⟨s3, eD⟩ ⟨T, x, y, rfl, nT, rfl, e1, e2⟩
      obtain ⟨d1, g1, p1⟩ := DpAll.get ax e1
      obtain ⟨d2, g2, p2⟩ := DpAll.get ay e2
      obtain rfl : d1 = d2 := Option.some.inj (g1.symm.trans g2)
      have s4 := s3.trans (same_upd (o := .tup [x, y]) nT)
      refine ⟨T, _, rfl, .inl (.inl upd_same), rfl, _, _, rfl, _, _, rfl, rfl, rfl, ?_⟩
      refine yesT ?_
      refine ⟨_, rfl, _, rfl, x, y, d1, _, rfl, rfl, lv.2 d1 (List.mem_of_getElem? g1), Dp.same s4 _ _ p1, Dp.same s4 _ _ p2, fun H5 s5 => ?_⟩
      refine ⟨_, s5 _ _ (by rw [upd_ne (ne_of_none eD nT)]; exact eD), ?_, fun p o e => ?_, ?_⟩
      · rw [List.length_replicate]
        have := lv.1
        refine Nat.lt_of_lt_of_le (show i < 1000000 by omega) (by decide)
      · rw [upd_ne (ne_of_none e (s0.free nD))]
        exact s5 _ _ (s4 _ _ e)
      · rw [upd_same, repl_snoc]
    · rintro H3 ⟨s3, eD⟩
      refine ⟨D, List.replicate (min xs.length ys.length) true, rfl, .inl (.inl (by rw [List.map_replicate]; exact eD)), ?_⟩
      rw [all_repl]
      exact q _ s3
  | tuple ds =>
    cases dx with
    | @tup a xs _ hx ax =>
    cases dy with
    | @tup b ys _ hy ay =>
    obtain ⟨i, rfl⟩ : ∃ i, k = i + 1 := by
      cases k with
      | zero => exact absurd lv id
      | succ i => exact ⟨i, rfl⟩
    have lx := DpAll.len ax
    have ly := DpAll.len ay
    have hx1 := Same.seqT s0 hx
    have hy1 := Same.seqT s0 hy
    refine ⟨_, tp, _, _, _, _, rfl, upd_same, pr, ty_tup hy1, kitLT (t := "tuple") (r1 := false) (r2 := true) (by decide +kernel) (by decide +kernel), _, rfl, iteT ?_⟩
    refine ⟨_, rfl, _, _, _, _, _, rfl, .ty _, ty_tup hx1, kit_ty (by decide +kernel : kitB "tuple" "list" = some false), _, rfl, _, _, _, _, _, rfl, .ty _, ty_tup hy1, kit_ty (by decide +kernel : kitB "tuple" "list" = some false), rfl, _, rfl, iteF ?_⟩
    refine ⟨_, rfl, _, _, _, _, _, rfl, .ty _, ty_tup hx1, kit_ty (by decide +kernel : kitB "tuple" "tuple" = some true), _, rfl, _, _, _, _, _, rfl, .ty _, ty_tup hy1, kit_ty (by decide +kernel : kitB "tuple" "tuple" = some true), rfl, _, rfl, iteF ?_⟩
    refine ⟨_, rfl, a, _, rfl, .inr hx1, _, rfl, b, _, rfl, .inr hy1, rfl, ?_⟩
    rw [decide_eq_true (by rw [lx, ly])]
    refine ⟨_, rfl, iteT ?_⟩
    refine ⟨_, rfl, _, rfl, a, b, xs, ys, rfl, .inr ⟨hx1, hy1, fun D nD => ?_⟩⟩
    have sD := s0.trans (same_upd (o := .lst []) nD)
    refine lc_it (walk_zipT (K := K) (a := a) (b := b) (xs := xs) (ys := ys) rfl) (fun i H3 => Same H H3 ∧ H3 D = some (.lst (List.replicate i (.bl true)))) ⟨sD, upd_same⟩ (fun i H3 _ ⟨s3, _⟩ => ⟨Same.seqT s3 hx, Same.seqT s3 hy⟩) ?_ ?_
    · rintro i v H3 H4 hi ⟨s3, eD⟩ ⟨T, x, y, rfl, nT, rfl, e1, e2⟩
      obtain ⟨d1, g1, p1⟩ := DpAll.get ax e1
      obtain ⟨d2, g2, p2⟩ := DpAll.get ay e2
      obtain rfl : d1 = d2 := Option.some.inj (g1.symm.trans g2)
      have s4 := s3.trans (same_upd (o := .tup [x, y]) nT)
      refine ⟨T, _, rfl, .inl (.inl upd_same), rfl, _, _, rfl, _, _, rfl, rfl, rfl, ?_⟩
      refine yesT ?_
      refine ⟨_, rfl, _, rfl, x, y, d1, _, rfl, rfl, lv.2 d1 (List.mem_of_getElem? g1), Dp.same s4 _ _ p1, Dp.same s4 _ _ p2, fun H5 s5 => ?_⟩
      refine ⟨_, s5 _ _ (by rw [upd_ne (ne_of_none eD nT)]; exact eD), ?_, fun p o e => ?_, ?_⟩
      · rw [List.length_replicate]
        have := lv.1
        refine Nat.lt_of_lt_of_le (show i < 1000000 by omega) (by decide)
      · rw [upd_ne (ne_of_none e (s0.free nD))]
        exact s5 _ _ (s4 _ _ e)
      · rw [upd_same, repl_snoc]
    · rintro H3 ⟨s3, eD⟩
      refine ⟨D, List.replicate (min xs.length ys.length) true, rfl, .inl (.inl (by rw [List.map_replicate]; exact eD)), ?_⟩
      rw [all_repl]
      exact q _ s3
  | dict _ => cases dx
theorem ok_same {f : Addr} {fd : FuncData} (F : Fun K "_law_same" "_law_same" sSame f fd) (bf : Binds K fd ["_law_found", "_law_due"] []) (mf : mg "_law_same" = some (.ref f)) (B : Bl mg) : ∀ k : Nat, FnOk P w K mg base CX0 k f fd ["_law_found", "_law_due"] (spSame K k)
  | 0 => same_none
  | k + 1 => ok_same1 F (ok_same F bf mf B k) bf mf B
end
end GZ
namespace GM
theorem pow_pos' (n : Nat) : (0 : Int) < 2 ^ n := Int.pow_pos (by decide)
theorem pow_s (n : Nat) : (2 : Int) ^ (n + 1) = 2 ^ n * 2 := Int.pow_succ 2 n
theorem pow_le' {m n : Nat} (h : m ≤ n) : (2 : Int) ^ m ≤ 2 ^ n := by
  induction n with
  | zero =>
    have : m = 0 := by omega
    rw [this]
    exact Int.le_refl _
  | succ n ih =>
    by_cases e : m = n + 1
    · rw [e]
      exact Int.le_refl _
    · have := ih (by omega)
      have := pow_s n
      have := pow_pos' n
      omega
theorem pow_add' (m n : Nat) : (2 : Int) ^ (m + n) = 2 ^ m * 2 ^ n := Int.pow_add 2 m n
theorem bits_pow {x : Nat} {e : Nat} (h : x < 2 ^ e) : PySem.Builtin.Int.intBits (x : Int) ≤ e := PyProof.Rows.intBits_le (by rw [Int.natAbs_natCast]; exact h)
theorem bits_le_pow {x : Nat} {e : Nat} (h : 2 ^ e ≤ x) : e + 1 ≤ PySem.Builtin.Int.intBits (x : Int) := by
  have hx : x ≠ 0 := by
    have := Nat.two_pow_pos e
    omega
  unfold PySem.Builtin.Int.intBits
  rw [if_neg (by simpa using hx), Int.natAbs_natCast]
  have := (Nat.le_log2 hx).mpr h
  omega
theorem bits_unique {x e : Nat} (h1 : 2 ^ e ≤ x) (h2 : x < 2 ^ (e + 1)) : PySem.Builtin.Int.intBits (x : Int) = e + 1 := by
  have := bits_pow h2
  have := bits_le_pow h1
  omega
theorem bits_ex {x : Nat} (h : 0 < x) : ∃ e, 2 ^ e ≤ x ∧ x < 2 ^ (e + 1) := ⟨x.log2, Nat.log2_self_le (by omega), Nat.lt_log2_self⟩
theorem bits_half {x : Nat} (h : 0 < x) : PySem.Builtin.Int.intBits (x : Int) = PySem.Builtin.Int.intBits ((x / 2 : Nat) : Int) + 1 := by
  obtain ⟨e, h1, h2⟩ := bits_ex h
  rw [bits_unique h1 h2]
  cases e with
  | zero =>
    have : x = 1 := by
      simp at h1 h2
      omega
    rw [this]
    rfl
  | succ e =>
    rw [bits_unique (x := x / 2) (e := e)]
    · rw [Nat.pow_succ] at h1
      omega
    · rw [Nat.pow_succ] at h2
      omega
theorem bits_double {x m : Nat} (h : 0 < x) (hm : m ≤ 1) : PySem.Builtin.Int.intBits ((2 * x + m : Nat) : Int) = PySem.Builtin.Int.intBits (x : Int) + 1 := by
  rw [bits_half (x := 2 * x + m) (by omega), show (2 * x + m) / 2 = x by omega]
theorem shr_lt {x : Int} {a b : Nat} (h0 : 0 ≤ x) (h : x < 2 ^ (a + b)) : 0 ≤ x / 2 ^ b ∧ x / 2 ^ b < 2 ^ a := by
  have hb := pow_pos' b
  refine ⟨Int.ediv_nonneg h0 (by omega), ?_⟩
  rw [pow_add'] at h
  exact Int.ediv_lt_of_lt_mul hb h
end GM
namespace GM
/-! ### words: a sign, a scale of m bits, a tail of t bits -/
def bit (a : Int) (n : Nat) : Int := a / 2 ^ n % 2
def blr (a : Int) : Nat → List Int
  | 0 => []
  | n + 1 => bit a n :: blr a n
def wv : List Int → Int
  | [] => 0
  | d :: r => d * 2 ^ r.length + wv r
theorem blr_len (a : Int) : ∀ n, (blr a n).length = n
  | 0 => rfl
  | n + 1 => by
    show (blr a n).length + 1 = n + 1
    rw [blr_len a n]
theorem div_div (w : Int) (t m : Nat) : w / 2 ^ t / 2 ^ m = w / 2 ^ (t + m) := by
  rw [pow_add', Int.ediv_ediv_of_nonneg (Int.le_of_lt (pow_pos' t))]
theorem bit_div (w : Int) (t m : Nat) : bit (w / 2 ^ t) m = bit w (m + t) := by
  unfold bit
  rw [div_div, Nat.add_comm t m]
theorem blr_take (w : Int) (t : Nat) : ∀ m, (blr w (m + t)).take m = blr (w / 2 ^ t) m
  | 0 => rfl
  | m + 1 => by
    show (blr w ((m + 1) + t)).take (m + 1) = bit (w / 2 ^ t) m :: blr (w / 2 ^ t) m
    rw [show m + 1 + t = (m + t) + 1 by omega]
    show bit w (m + t) :: (blr w (m + t)).take m = _
    rw [blr_take w t m, bit_div]
theorem blr_drop (w : Int) (t : Nat) : ∀ m, (blr w (m + t)).drop m = blr w t
  | 0 => by rw [Nat.zero_add]; rfl
  | m + 1 => by
    rw [show m + 1 + t = (m + t) + 1 by omega]
    show (blr w (m + t)).drop m = _
    exact blr_drop w t m
theorem mod_step (a : Int) (n : Nat) : bit a n * 2 ^ n + a % 2 ^ n = a % 2 ^ (n + 1) := by
  unfold bit
  have hp := pow_pos' n
  have e1 := Int.emod_add_mul_ediv a (2 ^ n)
  have e2 := Int.emod_add_mul_ediv (a / 2 ^ n) 2
  have h1 := Int.emod_nonneg a (show (2 : Int) ^ n ≠ 0 by omega)
  have h2 := Int.emod_lt_of_pos a hp
  have e3 : 2 ^ n * (a / 2 ^ n) = a / 2 ^ n % 2 * 2 ^ n + a / 2 ^ n / 2 * (2 ^ n * 2) := by
    conv => lhs; rw [← e2]
    rw [Int.mul_add, Int.mul_comm (2 ^ n) (a / 2 ^ n % 2), ← Int.mul_assoc, Int.mul_comm (2 ^ n * 2) _]
  have key : (a / 2 ^ n % 2 * 2 ^ n + a % 2 ^ n) + a / 2 ^ n / 2 * 2 ^ (n + 1) = a := by
    rw [pow_s]
    omega
  have hb : 0 ≤ a / 2 ^ n % 2 * 2 ^ n + a % 2 ^ n ∧ a / 2 ^ n % 2 * 2 ^ n + a % 2 ^ n < 2 ^ (n + 1) := by
    rw [pow_s]
    have : a / 2 ^ n % 2 = 0 ∨ a / 2 ^ n % 2 = 1 := by omega
    rcases this with z | z <;> rw [z] <;> omega
  have em := Int.add_mul_emod_self_right (a / 2 ^ n % 2 * 2 ^ n + a % 2 ^ n) (a / 2 ^ n / 2) (2 ^ (n + 1))
  rw [key, Int.emod_eq_of_lt hb.1 hb.2] at em
  exact em.symm
theorem wv_blr (a : Int) : ∀ n, wv (blr a n) = a % 2 ^ n
  | 0 => by
    show (0 : Int) = a % 1
    omega
  | n + 1 => by
    show bit a n * 2 ^ (blr a n).length + wv (blr a n) = _
    rw [blr_len, wv_blr a n, ← mod_step a n]
theorem fold2 : ∀ (ds : List Int) (w : Int), ds.foldl (fun a b => a * 2 + b) w = w * 2 ^ ds.length + wv ds
  | [], w => by
    show w = w * 2 ^ 0 + 0
    rw [Int.pow_zero]
    omega
  | d :: r, w => by
    show r.foldl (fun a b => a * 2 + b) (w * 2 + d) = w * 2 ^ (r.length + 1) + (d * 2 ^ r.length + wv r)
    rw [fold2 r, pow_s, Int.add_mul, Int.mul_assoc, Int.mul_comm 2 (2 ^ r.length)]
    omega
theorem wv_ones : ∀ k, wv (List.replicate k 1) = 2 ^ k - 1
  | 0 => rfl
  | k + 1 => by
    rw [List.replicate_succ]
    show 1 * 2 ^ (List.replicate k (1 : Int)).length + wv (List.replicate k 1) = _
    rw [List.length_replicate, wv_ones k, pow_s]
    omega
/-- sign, scale, tail of a word -/
def sgn (m t : Nat) (w : Int) : Int := w / 2 ^ (m + t) % 2
def scl (m t : Nat) (w : Int) : Int := w / 2 ^ t % 2 ^ m
def tlp (t : Nat) (w : Int) : Int := w % 2 ^ t
theorem scl_tlp (m t : Nat) (w : Int) : scl m t w * 2 ^ t + tlp t w = w % 2 ^ (m + t) := by
  induction m with
  | zero =>
    unfold scl tlp
    rw [Int.pow_zero, Int.emod_one, Int.zero_mul, Int.zero_add, Nat.zero_add]
  | succ m ih =>
    have e := mod_step (w / 2 ^ t) m
    have e2 := mod_step w (m + t)
    rw [bit_div] at e
    unfold scl at ih ⊢
    rw [← e, Int.add_mul, show m + 1 + t = (m + t) + 1 by omega, ← e2, ← ih, Int.mul_assoc, ← pow_add']
    omega
theorem sgn_01 {m t : Nat} {w : Int} : sgn m t w = 0 ∨ sgn m t w = 1 := by
  unfold sgn
  omega
theorem word_eq {m t : Nat} {w : Int} (h0 : 0 ≤ w) (h1 : w < 2 ^ (1 + m + t)) : sgn m t w * 2 ^ (m + t) + w % 2 ^ (m + t) = w := by
  have e := mod_step w (m + t)
  rw [show m + t + 1 = 1 + m + t by omega, Int.emod_eq_of_lt h0 h1] at e
  exact e
theorem scl_nn (m t : Nat) (w : Int) : 0 ≤ scl m t w ∧ scl m t w < 2 ^ m := ⟨Int.emod_nonneg _ (by have := pow_pos' m; omega), Int.emod_lt_of_pos _ (pow_pos' m)⟩
theorem tlp_nn (t : Nat) (w : Int) : 0 ≤ tlp t w ∧ tlp t w < 2 ^ t := ⟨Int.emod_nonneg _ (by have := pow_pos' t; omega), Int.emod_lt_of_pos _ (pow_pos' t)⟩
/-- with the other sign -/
def trn (m t : Nat) (w : Int) : Int := (1 - sgn m t w) * 2 ^ (m + t) + w % 2 ^ (m + t)
theorem mk_parts {m t : Nat} {s r : Int} (hs : s = 0 ∨ s = 1) (h0 : 0 ≤ r) (h1 : r < 2 ^ (m + t)) : 0 ≤ s * 2 ^ (m + t) + r ∧ s * 2 ^ (m + t) + r < 2 ^ (1 + m + t) ∧ sgn m t (s * 2 ^ (m + t) + r) = s ∧ (s * 2 ^ (m + t) + r) % 2 ^ (m + t) = r := by
  have hp := pow_pos' (m + t)
  have e : (2 : Int) ^ (1 + m + t) = 2 ^ (m + t) * 2 := by rw [← pow_s]; congr 1; omega
  have em : (s * 2 ^ (m + t) + r) % 2 ^ (m + t) = r := by
    rw [Int.add_comm, Int.add_mul_emod_self_right, Int.emod_eq_of_lt h0 h1]
  have ed : (s * 2 ^ (m + t) + r) / 2 ^ (m + t) = s := by
    rw [Int.add_comm, Int.add_mul_ediv_right _ _ (by omega), Int.ediv_eq_zero_of_lt h0 h1, Int.zero_add]
  refine ⟨?_, ?_, ?_, em⟩
  · rcases hs with z | z <;> subst z <;> omega
  · rw [e]
    rcases hs with z | z <;> subst z <;> omega
  · unfold sgn
    rw [ed]
    omega
theorem trn_trn {m t : Nat} {w : Int} (h0 : 0 ≤ w) (h1 : w < 2 ^ (1 + m + t)) : trn m t (trn m t w) = w ∧ 0 ≤ trn m t w ∧ trn m t w < 2 ^ (1 + m + t) := by
  have hp := pow_pos' (m + t)
  have hs : 1 - sgn m t w = 0 ∨ 1 - sgn m t w = 1 := by
    have := sgn_01 (m := m) (t := t) (w := w)
    omega
  obtain ⟨a, b, c, d⟩ := mk_parts (m := m) (t := t) hs (Int.emod_nonneg w (show (2 : Int) ^ (m + t) ≠ 0 by omega)) (Int.emod_lt_of_pos w hp)
  refine ⟨?_, a, b⟩
  show (1 - sgn m t (trn m t w)) * 2 ^ (m + t) + trn m t w % 2 ^ (m + t) = w
  rw [show sgn m t (trn m t w) = 1 - sgn m t w from c, show trn m t w % 2 ^ (m + t) = w % 2 ^ (m + t) from d, show 1 - (1 - sgn m t w) = sgn m t w by omega]
  exact word_eq h0 h1
end GM
namespace GZ
open PySem PySem.Spec PyProof.Rows L2
end GZ
namespace PySem
namespace WhX
open PySem.W PySem.Calls PyProof.Rows PySem.HandSPX
/-! ### an own error over any base, whose __init__ keeps its one argument as what -/
def whA (p1 p2 : Pos) : Arguments := { posonlyargs := [], args := [{ arg := "self", annotation := none, pos := p1 }, { arg := "what", annotation := none, pos := p2 }], vararg := none, kwonlyargs := [], kw_defaults := [], kwarg := none, defaults := [] }
def whB (q1 q2 q3 q4 : Pos) : List Stmt := [.Assign [.Attribute (.Name "self" q1) "what" q2] (.Name "what" q3) q4]
def whS : Scope := { kind := .function, names := [(PySem.Str.ofString "self", .local), (PySem.Str.ofString "what", .local)], isGenerator := false, isCoroutine := false, more := [] }
/-- what the written part says of an error's class, at C -/
structure ErrC (K : Frag) (C : Addr) : Prop where
  ga : findIn K (.ref C) "__getattribute__" = some (some (.builtin "BaseException.__getattribute__"))
  gg : findIn K (.ref C) "__getattr__" = some none
  noN : findIn K (.ref C) "what" = some none
  kC : keepIn K (.ref C) = true
  exC : subIn K (.ref C) (.type "BaseException") = some true
  tyC : typeIn K (.ref C) = some (.type "type")
  hdC : hasDictIn K C = true
  cl : findIn K (.ref C) "__class__" = some (some (.builtin "object.__class__"))
  sp : specialIn K (.builtin "object.__class__") "__get__" = some (some (.builtin "getset_descriptor.__get__"))
  tk : takesIn K (.builtin "object.__class__") = some true
  mr : mroIn K C (.type "object") = some true
/-- and of one that is raised, with its __init__ at fI -/
structure ErrR (K : Frag) (C fI : Addr) : Prop extends ErrC K C where
  cls : ∃ (B newId initId : String) (bm : List Value) (nm q : Str) (N : Addr) (bs : List Value) (sn : List Str) (sub : List Value) (ab : Bool) (col : Option Bool) (dd : Option Addr) (k0 k1 k2 k3 k5 : Option Value),
    ExcBaseFacts B newId initId bm ∧ K.lookup C = some (excClassObj nm q C N bs bm true sn sub ab col dd k0 k1 k2 k3 k5 newId) ∧ bm.contains (.type "object") = true ∧ ∀ self : Value, refuseLoop self "__setattr__" bm = pure ()
  sa : findIn K (.ref C) "__setattr__" = some (some (.builtin "object.__setattr__"))
  iC : findIn K (.ref C) "__init__" = some (some (.ref fI))
  tC : typeIn K (.ref fI) = some (.type "function")
  fn : ∃ (qual : Str) (oc : Value) (od : Option Addr) (doc pm : Value) (an : Option Addr) (cdv ct : Value) (osl : Array (Option Value)) (p1 p2 q1 q2 q3 q4 : Pos),
    K.lookup fI = some ⟨oc, od, .func (fnOf "__init__" qual (whA p1 p2) (whB q1 q2 q3 q4) whS .none .none doc pm an cdv ct), osl⟩ ∧ codeIn K cdv qual = true
section
open Builtin Builtin.ObjectAttr
variable {prog : Program} {w : World} {A : Around} {E : Value → Shared → Prop} {R : Result → Shared → Prop} {hp : Heap} {g : Array GenState} {dr : Drawn} {t : Nat} {os : OsState}
/-- the first field that is stored in a new error -/
theorem osaW {K : Frag} {nam : Str} {tk : Tok} {vv : Value} {x C : Addr} {fv : Array Value} {cd : ClassData} (X : K.In hp) (hx : hp.get? x = some { cls := .ref C, data := .fields fv }) (hcd : clsIn K C = some cd) (hob : cd.mro.contains (.type "object") = true) (hne : cd.mro.isEmpty = false)
    (hps : ∀ self : Value, refuseLoop self "__setattr__" cd.mro = pure ()) (hh : cd.hasDict = true) (ha : findIn K (.ref C) nam = some none)
    (hq : ∀ h' tk' dx, (∀ b o, b ≠ x → hp.get? b = some o → h'.get? b = some o) → hp.objs.size ≤ dx → dx ≠ x → h'.get? x = some { cls := .ref C, dict := some dx, data := .fields fv } → h'.Ns1 dx (fun y => if y = nam then some vv else none) → R (.ok (.ret .none)) ⟨h', g, dr, tk', os⟩) :
    codeAny (model prog w) A (.call (.builtin "object.__setattr__") ⟨[.ref x, .str nam tk, vv], []⟩) R ⟨hp, g, dr, t, os⟩ := by
  have IA : InstAt hp x { cls := .ref C, data := .fields fv } C none := ⟨hx, rfl, rfl, trivial⟩
  have nx : x ≠ hp.objs.size := Nat.ne_of_lt (Heap.lt_size hx)
  have isO : Looks (model prog w) hp (isInstance (.ref x) (.type "object")) true := IA.type.andThen (looks_mroIn X (by unfold mroIn; rw [hcd, Option.bind_some, if_neg (by rw [hne]; decide), hob]))
  have lc : Looks (model prog w) hp (classData C) cd := looks_clsIn X hcd
  refine codeAny_call_builtin F.store_object.slot.plain F.store_object.entry (@check_slot (model prog w) _ _ ⟨hp, g, dr, t, os⟩ "object.__setattr__" "object" "__setattr__" (.ref x) [.str nam tk, vv] [] _ F.store_object.kind F.store_object.split isO (F.store_object.args (.ref x) (.str nam tk) vv) ?_)
  have lm : Looks (model prog w) hp (mroOf (.ref C)) cd.mro := lc.andThen .now
  have ln : Looks (model prog w) hp (storeTaker? none) none := .now
  rw [osa_eq, refuse_eq]
  refine wpAny_bind (wpAny_bind (IA.type.at (wpAny_bind (lm.at ?_))))
  rw [hps]
  refine wpAny_pure (wpAny_bind (IA.type.at (wpAny_bind ((looks_findIn X ha).at (wpAny_bind (ln.at ?_))))))
  show wpAny _ _ (storeInOwnDict (.ref x) (.ref C) (.str nam tk) nam vv false) _ _ _
  obtain ⟨c1, c2, c3, c4, c5, c6, c7, c8, c9, c10, c11⟩ := cd
  dsimp only at hh
  subst hh
  unfold storeInOwnDict ownDictForStores
  repeat (first | with_reducible refine store_in_new ?_ ?_ | with_reducible refine wpAny_loadPart_at hx ?_ | with_reducible refine lc.at ?_ | wp_step)
  · refine ⟨_, #[], _, (Heap.get?_update_ne _ _ _ _ nx.symm).trans (Heap.get?_push_at rfl rfl), rfl, ?_, fun _ => rfl⟩
    exact fun e he => absurd he (by simp)
  · intro h' tk' hn' sb
    have hx1 : (hp.push { cls := .type "dict", data := .dict #[] }).get? x = some { cls := .ref C, data := .fields fv } := Heap.get?_push_of_some _ hx
    refine hq h' tk' hp.objs.size (fun b o nb eb => ?_) (Nat.le_refl _) nx.symm ((sb.2 x nx).trans (Heap.get?_update_self _ hx1 rfl)) hn'
    rw [sb.2 b (Nat.ne_of_lt (Heap.lt_size eb)), Heap.get?_update_ne _ _ _ _ nb]
    exact Heap.get?_push_of_some _ eb
end
section
variable {prog : Program} {w : World} {A : Around} {R : Result → Shared → Prop} {s : Shared} {K : Frag} {C fI : Addr}
theorem wone (v : Value) : [v].length ≤ sizeLine := by
  rw [sizeLine_eq]
  exact Nat.le_of_ble_eq_true rfl
theorem wld {M : Model} {u : Shared} {qn : Str} {sc : Scope} {L f : Addr} {cd : Value} {mm : Str → Option Value} {y : Str} {pos : Pos} {vv : Value} {Q : Value → Shared → Prop} {B : Around} {E : Value → Shared → Prop} (hn : u.heap.Ns L mm) (hv : mm y = some vv) (q : Q vv u) (hk : sc.kind = .function := by rfl)
    (hl : (envOfC qn sc L f cd).kindOf y = some .local := by rfl) (hd : (y == ("__debug__" : Str)) = false := by decide) : wpAny M B (eval (.Name y pos) (envOfC qn sc L f cd)) Q E u :=
  wpAny_Name (wpAny_loadName_local hk hl hn hv q) hd
/-- the class is called: a new error at e, its dict at dx holds what -/
theorem whMade (T : ErrR K C fI) {vv : Value} (X : K.In s.heap) (nl : s.heap.NoLimit) (room : A.depth + 1 < recursionLimit)
    (hq : ∀ (h' : Heap) (tk : Nat) (e dx : Addr), (∀ b o, s.heap.get? b = some o → h'.get? b = some o) → s.heap.objs.size ≤ e → s.heap.objs.size ≤ dx → dx ≠ e →
      (∃ t1 : Addr, h'.get? e = some ({ cls := .ref C, dict := some dx, data := .fields #[.ref t1, .none, .none, .none, .bool false, .none] } : Obj)) → h'.Ns1 dx (fun y => if y = "what" then some vv else none) → R (.ok (.ret (.ref e))) { s with heap := h', toks := tk }) :
    codeAny (model prog w) A (.call (.ref C) ⟨[vv], []⟩) R s := by
  obtain ⟨Bn, newId, initId, bm, nm, q, N, bs, sn, sub, ab, col, dd, k0, k1, k2, k3, k5, FB, hC, hob, hps⟩ := T.cls
  obtain ⟨qual, oc, od, doc, pm, an, cdv, ct, osl, p1, p2, q1, q2, q3, q4, ho, hcd⟩ := T.fn
  have hcl : clsIn K C = some { name := nm, bases := bs, mro := .ref C :: bm, ns := N, qualname := q, hasDict := true, slotNames := sn, subclasses := sub, abstract := ab, collection := col, hasDel := false } := by
    unfold clsIn
    rw [hC] <;> rfl
  obtain ⟨hp, g, dr, tk0, os⟩ := s
  have grow : ∀ b o, hp.get? b = some o → ((hp.push (kdv_tup [vv])).push (excO C hp.objs.size)).get? b = some o := fun b o z => Heap.get?_push_of_some _ (Heap.get?_push_of_some _ z)
  have isE : ((hp.push (kdv_tup [vv])).push (excO C hp.objs.size)).get? (hp.objs.size + 1) = some (excO C hp.objs.size) := by heap_get
  refine call_own FB (fun _ => rfl) (X _ _ hC) (looks_findIn X T.iC) (fun self => bind_fn X self T.tC) (wone vv) ?_
  -- __init__ runs
  refine Att.call_fn (binds := [("self", .ref (hp.objs.size + 1)), ("what", vv)]) (X.keeps grow) (nl.keeps grow) ho hcd room (BindsTo.of_eq (by first | rfl | with_unfolding_all rfl)) (by first | rfl | decide | with_unfolding_all rfl) (fun s1 IC => ?_) rfl rfl rfl
  obtain ⟨h1, tk1, rfl⟩ := IC.toInCall.same
  have up1 : ∀ b o, ((hp.push (kdv_tup [vv])).push (excO C hp.objs.size)).get? b = some o → h1.get? b = some o := IC.toInCall.keep
  have ns1 := IC.toInCall.ns
  have X1 : K.In h1 := (X.keeps grow).keeps up1
  have isE1 := up1 _ _ isE
  have big : hp.objs.size + 1 + 1 ≤ h1.objs.size := by
    have z : ((hp.push (kdv_tup [vv])).push (excO C hp.objs.size)).objs.size < h1.objs.size := ns1.lt
    rw [Heap.size_push, Heap.size_push] at z
    exact Nat.le_of_lt z
  show wpAny _ _ (execs _ _) _ _ _
  refine wpAny_execs_cons (plainObj_wpAny_Assign_Attribute ?_)
  refine wld (vv := vv) ns1 (by first | rfl | with_unfolding_all rfl | kernel_rfl) ?_
  refine wld (vv := .ref (hp.objs.size + 1)) ns1 (by first | rfl | with_unfolding_all rfl | kernel_rfl) ?_
  refine set_plain X1 (ox := excO C hp.objs.size) (od := none) ⟨isE1, rfl, rfl, trivial⟩ T.sa ?_
  refine osaW X1 isE1 hcl (by rw [List.contains_cons, hob, Bool.or_true]) rfl (fun self => by rw [refuseLoop_ref]; exact hps self) rfl T.noN fun h3 tk3 dx up3 dbig dne isE3 ns3 => ?_
  show wpAny _ _ (execs _ _) _ _ _
  refine wpAny_execs_nil ⟨rfl, ?_⟩
  refine hq h3 tk3 (hp.objs.size + 1) dx (fun b o z => ?_) (Nat.le_succ _) ?_ dne ⟨_, isE3⟩ ns3
  · exact up3 b o (Nat.ne_of_lt (Nat.lt_succ_of_lt (Heap.lt_size z))) (up1 b o (grow b o z))
  have z : h1.objs.size ≤ dx := dbig
  show hp.objs.size ≤ dx
  omega
end
end WhX
end PySem
namespace L2
open PySem PySem.Spec PyProof.Rows
/-- C(e), C an error's class -/
def tMkW (C : Addr) (ta : TA) : St → Hp → XK → Prop := fun σ H Q => ta σ H fun vs H1 => ∃ v, vs = [v] ∧ ∀ d, H1 d = none → Q (.ref C) (some d) (upd H1 d (.xd [(("what" : Str), v)]))
theorem relW {v : V} {u : Value} (r : RelV v u) (f : Str) : RelO (List.lookup f [(("what" : Str), v)]) (if f = "what" then some u else none) := by
  by_cases c : f = "what"
  · subst c
    rw [if_pos rfl, show List.lookup ("what" : Str) [(("what" : Str), v)] = some v by simp [List.lookup]]
    exact r
  · have c2 : (f == ("what" : Str)) = false := by simpa using c
    rw [if_neg c, show List.lookup f [(("what" : Str), v)] = none by simp [List.lookup, c2]]
    trivial
theorem pmk_what {X : Cx} {C fI : Addr} {x : Str} {a : Expr} {ta : TA} {p pos : Pos} {k : Nat} (T : PySem.WhX.ErrR X.K C fI) (hr : Room k X.A) (hk : 0 < k) (gC : X.mg x = some (.ref C)) (hg : Gl X x) (ha : PA X [a] ta) (hdb : (x == ("__debug__" : Str)) = false := by decide)
    (he : starEach (a :: []) X.env = (false, eval a X.env) :: starEach [] X.env := by rfl) (hpl : (backTo pos (starEach [] X.env)).any (·.1) = false := by rfl) : PMk X (.Call (.Name x p) [a] [] pos) (tMkW C ta) := by
  intro pz u0 τ G0 Q I h
  refine wpAny_Call_Name_kw (ld_glob I hg gC ?_ hdb)
  refine PySem.W.callWith_K (h₀ := X.base) I.ok.mod.kin T.kC (thn (ha.run pos pz u0 τ G0 _ I h) fun us s1 hh => ?_) he hpl
  obtain ⟨vs, H1, I1, r1, v, rfl, q1⟩ := hh
  refine ⟨I1.kIn, ?_⟩
  match us, r1 with
  | [vv], .cons rv .nil =>
    show wpAny _ _ (call (.ref C) [vv]) _ _ _
    have nl := I1.nolimit
    obtain ⟨hp, g, dr, tk, os⟩ := s1
    refine wpAny_call (PySem.WhX.whMade T I1.kIn nl (by have := hr.dp; omega) fun h' tk' e dx old ebig dbig dne ise ns => ?_)
    show MkP X pz τ Q (.ref e) ⟨h', g, dr, tk', os⟩
    obtain ⟨t1, ise⟩ := ise
    obtain ⟨G', g1, g2⟩ := restrict h' fun b => decide (b ≠ e)
    have gk : ∀ b, b ≠ e → G'.get? b = h'.get? b := fun b nb => g1 b (decide_eq_true nb)
    have ge : G'.get? e = none := g2 e (decide_eq_false fun z => z rfl)
    have oldG : ∀ b o, hp.get? b = some o → G'.get? b = some o := fun b o z => by
      rw [gk b (Nat.ne_of_lt (Nat.lt_of_lt_of_le (Heap.lt_size z) ebig))]
      exact old b o z
    have okd : ObjOk X.prog X.w (upd H1 dx (.xd [(("what" : Str), v)])) G' dx (.xd [(("what" : Str), v)]) := ⟨_, ns.at (fun o z => (gk dx dne).trans z), fun f => relW rv f⟩
    have J : Inv X pz τ (upd H1 dx (.xd [(("what" : Str), v)])) ⟨G', g, dr, tk', os⟩ := I1.laid (t' := tk') oldG dbig okd
    refine ⟨e, _, _, ⟨G', g, dr, tk', os⟩, _, .ref C, some dx, rfl, J, fun b o z => ?_, ge, ise, ⟨rfl, rfl⟩, rfl, rfl, ?_, rfl, I1.bare, raises_own T.exC T.tyC, q1 dx (I1.hok.fresh dbig)⟩
    · by_cases nb : b = e
      · have z' : G'.get? b = some o := z
        rw [nb, ge] at z'
        cases z'
      · exact (gk b nb).symm.trans z
    · rw [upd_ne (Ne.symm dne)]
      exact I1.hok.fresh ebig
end L2
namespace L2
open PySem PySem.Spec PyProof.Rows
/-! ### an error that was caught and is kept behind the try -/
/-- at a: an error of the class cls, its dict d -/
def Exk (a : Addr) (cls : Value) (d : Option Addr) : HO := .ext fun h => ∃ (oe : Obj) (vs : Array Value), h.get? a = some oe ∧ Zc cls d oe ∧ oe.data = .fields vs
theorem exk_ok {P : Program} {w : World} {H : Hp} {h : Heap} {a : Addr} {cls : Value} {d : Option Addr} {oe : Obj} {vs : Array Value} (e : h.get? a = some oe) (z : Zc cls d oe) (dd : oe.data = .fields vs) : ObjOk P w H h a (Exk a cls d) :=
  ⟨⟨oe, vs, e, z, dd⟩, ⟨oe, e⟩, fun _ _ ⟨o1, v1, e1, r⟩ k => ⟨o1, v1, k o1 e1, r⟩⟩
/-- a thing that was not there when the def began is told of -/
theorem Inv.track {X : Cx} {pz : List (Addr × Obj)} {τ : St} {H : Hp} {u0 : Shared} {a : Addr} {o : HO} (I : Inv X pz τ H u0) (na : H a = none) (n0 : X.s_0.heap.get? a = none) (nL : a ≠ X.env.locals) (nC : ∀ x c, X.env.cells.lookup x = some c → c ≠ a)
    (nP : ∀ p ∈ X.pn ++ pz, p.1 ≠ a) (new : ObjOk X.prog X.w (upd H a o) u0.heap a o) : Inv X pz τ (upd H a o) u0 where
  ok := I.ok
  os := I.os
  bare := I.bare
  base := {
    keep := I.base.keep
    slot := I.base.slot
    free := fun b ob q n hx => by
      rw [upd_ne (fun z => by rw [z, n0] at q; cases q)]
      exact I.base.free b ob q n hx
    there := I.base.there
    tups := fun b xs q => by
      have q2 := I.base.tups b xs q
      rw [upd_ne (ne_of_none q2 na)]
      exact q2
    frzs := fun b ob v q => by
      have q2 := I.base.frzs b ob v q
      rw [upd_ne (ne_of_none q2 na)]
      exact q2
    tbls := fun b ps q => by
      obtain ⟨more, q2⟩ := I.base.tbls b ps q
      exact ⟨more, by rw [upd_ne (ne_of_none q2 na)]; exact q2⟩ }
  loc := I.loc
  cell := I.cell
  free := by
    rw [upd_ne nL.symm]
    exact I.free
  freeC := fun x c e => by
    rw [upd_ne (nC x c e)]
    exact I.freeC x c e
  pin := fun p hp => by
    obtain ⟨z1, z2, z3⟩ := I.pin p hp
    refine ⟨z1, ?_, z3⟩
    rw [upd_ne (nP p hp)]
    exact z2
  hok := fun b ob e => by
    by_cases nb : b = a
    · subst nb
      rw [upd_same] at e
      cases e
      exact new
    · rw [upd_ne nb] at e
      exact (I.hok b ob e).stay (fun _ _ _ z => z) (fun c z => by rw [upd_ne (ne_of_none z na)]; exact z) (fun c xs z => by rw [upd_ne (ne_of_none z na)]; exact z)
  len := I.len
/-- what is wished of an error of the body: it is caught; the suite runs; the error is told of behind it -/
def wKp (K : PySem.W.Frag) (c : Value) (i : Nat) (ts : Addr → Value → Option Addr → TS) (D : Ends) : WX := fun cls d τ H => PySem.W.exmOne K cls c = some true ∧
  ∀ a, H a = none → ts a cls d { nx := fun τ' H' => D.nx (τ'.set i none) (upd H' a (Exk a cls d)), rt := fun _ _ => False, bk := fun _ _ => False, ct := fun _ _ => False } (τ.set i (some (.ref a))) H
theorem ps_try_keep {X : Cx} {x n : Str} {c : Value} {i : Nat} {body suite : List Stmt} {b0 : Stmt} {np pos pos' : Pos} {tb : WX → TS} {ts : Addr → Value → Option Addr → TS} (hs : X.stack = X.env :: X.outer) (hf : X.env.frame = some X.env.locals) (hex : X.ex = []) (hN : X.N.Nodup) (hi : X.N[i]? = some n)
    (hln : X.env.kindOf n = some .local) (hc : Names X x c)
    (hb : ∀ (W : WX) (pn : List (Addr × Obj)) (xe : Value → Shared → Prop), Takes (X.tr pn xe) W → PassesOwn (model X.prog X.w) X.A X.env xe → PSs (X.tr pn xe) body (tb W))
    (hsu : ∀ (a : Addr) (oe : Obj) (cls : Value) (d : Option Addr) (pn : List (Addr × Obj)), Zc cls d oe → (∃ vs, oe.data = .fields vs) → PSs (X.suite a ((a, oe) :: pn)) (b0 :: suite) (ts a cls d)) :
    PS X (.Try body [.ExceptHandler (some (.Name x np)) (some n) (b0 :: suite) pos'] [] [] pos) (fun D τ H => tb (wKp X.K c i ts D) D τ H) := by
  constructor
  intro pz u0 τ H D I h
  have ok := I.ok
  have frA : X.A.frames = some (X.env :: X.outer) := ok.frames.trans (congrArg some hs)
  refine wpAny_Try_except (wpAny_mono ((hb (wKp X.K c i ts D) (X.pn ++ pz) _ (fun u s1 xx => ?caught) PassesOwn.looking).run [] u0 τ H D (I.toTry _) h) (fun f s1 z => ?fine) (fun _ _ z => z))
  case fine =>
    cases f with
    | next =>
      obtain ⟨τ1, H1, J1, q1⟩ := z
      exact wpAny_execs_nil ⟨τ1, H1, J1.ofTry ok, q1⟩
    | brk =>
      obtain ⟨τ1, H1, J1, q1⟩ := z
      exact ⟨τ1, H1, J1.ofTry ok, q1⟩
    | cont =>
      obtain ⟨τ1, H1, J1, q1⟩ := z
      exact ⟨τ1, H1, J1.ofTry ok, q1⟩
    | ret v1 =>
      obtain ⟨v, τ1, H1, J1, r1, q1⟩ := z
      exact ⟨v, τ1, H1, J1.ofTry ok, r1, q1⟩
  case caught =>
    obtain ⟨a, Bh, sI, pI, τ1, H1, cls, d, rfl, J0, nb, up, sky, na, eos, bare, mt, goes⟩ := xx
    have J : Inv X pz τ1 H1 sI := J0.ofTry ok
    rw [show (X.tr (X.pn ++ pz) _).stack = X.env :: X.outer from hs] at sky
    show wpAny (model X.prog X.w) X.A (noteFrame (.ref a) X.env) _ _ _
    refine Sky.land Zc.steady frA hf sky fun h3 fl3 up3 => ?_
    have J3 : Inv X pz τ1 H1 { s1 with heap := h3 } := J.landed nb fl3.1 (up.trans up3) eos bare
    obtain ⟨oe3, vs3, at3, z3, dt3⟩ := fl3.there
    have noFr : a ∉ frs (X.env :: X.outer) := fun hm => by
      obtain ⟨_, o1, e1, n1⟩ := fl3.2.2.1.mem hm
      rw [at3] at e1
      cases e1
      exact n1 _ dt3
    have nL : a ≠ X.env.locals := fun z => noFr (List.mem_filterMap.mpr ⟨X.env, List.mem_cons_self, by rw [hf, z]⟩)
    have nF : a ∉ X.fs := fun hm => by
      obtain ⟨e1, m1, q1⟩ := List.mem_filterMap.mp hm
      exact noFr (List.mem_filterMap.mpr ⟨e1, List.mem_cons_of_mem _ m1, q1⟩)
    -- it was not there before
    have newA : sI.heap.get? a = none := by
      cases q : sI.heap.get? a with
      | none => rfl
      | some o1 =>
        have z := nb a o1 q (by rw [show frs (X.tr (X.pn ++ pz) _).stack = frs (X.env :: X.outer) from congrArg frs hs]; exact noFr)
        rw [fl3.2.1] at z
        cases z
    have new0 : X.s_0.heap.get? a = none := by
      cases q : X.s_0.heap.get? a with
      | none => rfl
      | some o1 =>
        obtain ⟨o2, z⟩ := J.base.there a o1 q (by rw [hex]; exact fun z => nomatch z)
        rw [newA] at z
        cases z
    have S3 := J3.suite at3 dt3 na nL nF
    refine wpAny_handleBy_cons (codeAny_handlers_test ?_) (by intro q; cases q)
    have isC : PySem.W.Looks (model X.prog X.w) h3 (typeOf (.ref a)) cls := fun A1 Q1 E1 s2 k2 q2 => wpAny_typeOf_ref (k2 _ _ at3) (by rw [z3.1]; exact q2)
    have meets := PySem.W.exm_one (M := model X.prog X.w) J3.kIn isC mt
    have named : ∀ {Q1 : Value → Shared → Prop} {E1 : Value → Shared → Prop}, Q1 c { s1 with heap := h3 } → wpAny (model X.prog X.w) (X.A.mark (some (.ref a))) (eval (.Name x np) X.env) Q1 E1 { s1 with heap := h3 } := fun {Q1 E1} q1 => by
      obtain ⟨g1, g2, g3 | ⟨g3, g4, g5⟩⟩ := hc
      · exact ld_glob (X := X.suite a ((a, oe3) :: (X.pn ++ pz))) S3 g1 g3 q1 g2
      · exact ld_blt (X := X.suite a ((a, oe3) :: (X.pn ++ pz))) S3 g1 g3 g4 q1 g5 g2
    refine named (meets.here (codeAny_handlers_suite_as (HandSPX.lands_againZ fl3 fun h4 fl4 up4 => ?_)))
    have J4 : Inv X pz τ1 H1 { s1 with heap := h4 } := J.landed nb fl4.1 ((up.trans up3).trans up4) eos bare
    obtain ⟨oe4, vs4, at4, z4, dt4⟩ := fl4.there
    refine store_ok (X := X.suite a ((a, oe4) :: (X.pn ++ pz))) (v := .ref a) (J4.suite at4 dt4 na nL nF) hN hi (.inl hln) rfl (fun s5 S5 => ?_) (.inr hln)
    refine wpAny_mono ((hsu a oe4 cls d (X.pn ++ pz) z4 ⟨_, dt4⟩).run [] s5 _ H1 _ S5 (goes a na)) (fun f s6 z => ?_) (fun _ _ z => z.elim)
    cases f with
    | brk => exact (z.choose_spec.choose_spec.2).elim
    | cont => exact (z.choose_spec.choose_spec.2).elim
    | ret v1 => exact (z.choose_spec.choose_spec.choose_spec.2.2).elim
    | next =>
      obtain ⟨τ6, H6, S6, q6⟩ := z
      obtain ⟨at6, na6, _⟩ := S6.pin (a, oe4) (List.mem_append_left _ List.mem_cons_self)
      have J6 : Inv X pz τ6 H6 s6 := S6.unsuite ok
      have K6 : Inv X pz τ6 (upd H6 a (Exk a cls d)) s6 := by
        refine J6.track na6 new0 nL (fun y cc e => ?_) (fun p hp => ?_) (exk_ok at6 z4 dt4)
        · obtain ⟨v, oc, hoc, _⟩ := J.cell y cc e
          exact fun z => by rw [z, newA] at hoc; cases hoc
        · obtain ⟨z1, _⟩ := J.pin p hp
          exact fun z => by rw [z, newA] at z1; cases z1
      exact gone_ok K6 hN hi hln fun s7 J7 => ⟨_, _, J7, q6⟩
end L2
namespace L2
open PySem PySem.Spec PyProof.Rows
/-- at a: a caught error of the class at C that holds what = v -/
def EkAt (H : Hp) (a C : Addr) (v : V) : Prop := ∃ dd, H a = some (Exk a (.ref C) (some dd)) ∧ H dd = some (.xd [(("what" : Str), v)])
theorem ek_inst {X : Cx} {pz : List (Addr × Obj)} {τ : St} {H : Hp} {u0 : Shared} {a C : Addr} {v : V} (I : Inv X pz τ H u0) (e : EkAt H a C v) :
    ∃ (oe od : Obj) (u : Value), PySem.W.InstAt u0.heap a oe C (some od) ∧ RelV v u ∧ PySem.W.lookIn "what" od = some (some u) := by
  obtain ⟨dd, ea, ed⟩ := e
  obtain ⟨⟨oe, vs, hget, hz, hdat⟩, _⟩ := I.hok a _ ea
  obtain ⟨mA, hns, hr⟩ := (show ObjOk X.prog X.w H u0.heap dd (.xd [(("what" : Str), v)]) from I.hok dd _ ed)
  obtain ⟨od, ho, hl⟩ := lookIn_ns hns
  obtain ⟨u, hu, ru⟩ := RelO.some_of (v := v) (o := mA "what") (by rw [← show List.lookup ("what" : Str) [(("what" : Str), v)] = some v by simp [List.lookup]]; exact hr "what")
  refine ⟨oe, od, u, ⟨hget, hz.1, by unfold PySem.W.notCls; rw [hdat] <;> rfl, by rw [hz.2]; exact ho⟩, ru, by rw [hl, hu]⟩
/-- e.what of a caught error -/
def tWhat (K : PySem.W.Frag) (te : TE) : TE := fun σ H Q => te σ H fun x H1 => ∃ (a C : Addr) (v : V), x = .ref a ∧ PySem.WhX.ErrC K C ∧ EkAt H1 a C v ∧ Q v H1
theorem pe_what {X : Cx} {e : Expr} {te : TE} {pos : Pos} (he : PE X e te) (hb : attributeBase e "what" X.env (eval e X.env) = eval e X.env := by rfl) : PE X (.Attribute e "what" pos) (tWhat X.K te) := by
  constructor
  intro pz u0 τ H Q I h
  refine attr_of hb (thn (he.run pz u0 τ H _ I h) fun u s1 hh => ?_)
  obtain ⟨x, H1, I1, rx, a, C, v, rfl, T, ek, q⟩ := hh
  obtain rfl : u = Value.ref a := rx
  obtain ⟨oe, od, u1, J, ru, hl⟩ := ek_inst I1 ek
  exact HandSPX.exc_get I1.kIn J T.ga T.gg T.exC (PySem.W.findObj_own T.hdC T.noN rfl hl) (handed_of ru) ⟨v, H1, I1.tok _, ru, q⟩
/-- isinstance of a caught error: one class; a tuple of classes -/
def rIsW (K : PySem.W.Frag) : List V → Hp → VK → Prop := fun xs H Q => ∃ (a C : Addr) (v c : V) (u : Value) (b : Bool), xs = [.ref a, c] ∧ PySem.WhX.ErrC K C ∧ EkAt H a C v ∧ ClsV c u ∧ PySem.W.kitOne K (.ref C) u = some b ∧ Q (.bl b) H
def rIsWT (K : PySem.W.Frag) : List V → Hp → VK → Prop := fun xs H Q => ∃ (a C tp : Addr) (v : V) (cs : List V) (us : List Value) (b : Bool), xs = [.ref a, .ref tp] ∧ PySem.WhX.ErrC K C ∧ EkAt H a C v ∧ H tp = some (.tup cs) ∧ Paired ClsV cs us ∧ PySem.W.kitAny K (.ref C) us = some b ∧ Q (.bl b) H
theorem has_cls {K : PySem.W.Frag} {C : Addr} (h : PySem.W.hasDictIn K C = true) : (PySem.W.clsIn K C).isSome = true := by
  obtain ⟨cd, hc, _⟩ := PySem.W.any_some h
  rw [hc]
  rfl
section
variable {X : Cx}
theorem call_isW : CallR X (.builtin "isinstance") (rIsW X.K) := by
  intro pz u0 τ H xs us Q I r h
  obtain ⟨a, C, v, c, u, b, rfl, T, ek, k, e, q⟩ := h
  obtain ⟨u1, u2, rfl, r1, r2⟩ := vals2 r
  cases (show u1 = Value.ref a from r1)
  have e2 := k.eq r2
  subst e2
  obtain ⟨oe, od, _, J, _⟩ := ek_inst I ek
  exact PySem.W.kia_one (PySem.W.kitx_exc (has_cls T.hdC) T.ga T.gg T.exC T.cl T.sp T.tk T.mr) I.kIn J e (fun z => nomatch z) fun tk => ⟨.bl b, H, I.tok tk, rfl, q⟩
theorem call_isWT : CallR X (.builtin "isinstance") (rIsWT X.K) := by
  intro pz u0 τ H xs us Q I r h
  obtain ⟨a, C, tp, v, cs, ws, b, rfl, T, ek, hT, k, e, q⟩ := h
  obtain ⟨u1, u2, rfl, r1, r2⟩ := vals2 r
  cases (show u1 = Value.ref a from r1)
  cases (show u2 = Value.ref tp from r2)
  obtain ⟨oe, od, _, J, _⟩ := ek_inst I ek
  obtain ⟨_, its, rv, o, h1, h2, n, h3⟩ := (show ObjOk X.prog X.w H u0.heap tp (.tup cs) from I.hok tp _ hT)
  have e3 := ClsV.all k rv
  subst e3
  obtain ⟨oc, od1, dt, sl⟩ := o
  simp only at h2 h3
  subst h2 h3
  exact PySem.W.kia_tup (PySem.W.kitx_exc (has_cls T.hdC) T.ga T.gg T.exC T.cl T.sp T.tk T.mr) I.kIn J h1 e (fun z => nomatch z) fun tk => ⟨.bl b, H, I.tok tk, rfl, q⟩
end
end L2
namespace L2
open PySem PySem.Spec PyProof.Rows
/-! ### a call with keywords whose errors go to a try; promises side by side -/
def tCallNS (n m : Nat) (sp : Sp) (gV : List V → List V → List V) (E : St → XK) (t tk : TA) : TE := fun σ H Q => t σ H fun vs H1 => tk σ H1 fun zs H2 => vs.length = n ∧ zs.length = m ∧ sp (gV vs zs) H2 Q (E σ)
section
variable {X : Cx} {CX : CXT} {k n : Nat} {f : Addr} {fd : FuncData} {ps ks : List Str} {sp : Sp} {E : St → XK} {x : Str} {p pos : Pos} {e : Expr} {es : List Expr} {kws : List Keyword} {t tk : TA} {g : List Value → List Value → List Value} {gV : List V → List V → List V}
theorem pe_callNS (F : FnOk X.prog X.w X.K X.mg X.base CX k f fd ps sp) (hr : Room k X.A) (hg : Gl X x) (hm : X.mg x = some (.ref f)) (hk : PySem.W.keepIn X.K (.ref f) = true) (hb : KBn X.K fd ps n ks g gV) (hx : ∀ σ, PassesAt CX X σ (E σ)) (ha : PA X (e :: es) t) (hkw : PK X kws tk)
    (hall : (backToKw pos (keywordEach kws X.env)).all (·.1.isSome) = true := by rfl) (hks : (backToKw pos (keywordEach kws X.env)).filterMap (·.1) = ks := by rfl) (hdb : (x == ("__debug__" : Str)) = false := by decide)
    (he : starEach (e :: es) X.env = (false, eval e X.env) :: starEach es X.env := by rfl) (hpl : ((backTo pos (starEach (e :: es) X.env)).any (·.1) || (backToKw pos (keywordEach kws X.env)).any (·.1.isNone)) = false := by rfl) :
    PE X (.Call (.Name x p) (e :: es) kws pos) (tCallNS n ks.length sp gV E t tk) := by
  constructor
  intro pz u0 τ H Q I h
  refine wpAny_Call_Name_kw (ld_glob I hg hm (PySem.W.callWith_KW (h₀ := X.base) I.ok.mod.kin hk hall (thn (ha.run pos pz u0 τ H _ I h) fun us s1 z => ?_) hpl he) hdb)
  obtain ⟨vs, H1, I1, r1, q1⟩ := z
  refine thn (hkw.run pos pz s1 τ H1 _ I1 q1) fun ws s2 z => ?_
  obtain ⟨zs, H2, I2, r2, l1, l2, q2⟩ := z
  refine ⟨I2.kIn, ?_⟩
  rw [hks]
  refine wpAny_call (codeAny_mono (F.run X.A X.stack s2 H2 ⟨us, ks.zip ws⟩ (g us ws) (gV vs zs) Q (E τ) hr I2.env0 (hb.to s2 us ws I2.kIn (r1.length.symm.trans l1) (r2.length.symm.trans l2)) (hb.rel r1 r2) q2) fun r s3 z => ?_)
  match r with
  | .error er => exact hx τ pz H2 s2 er s3 I2 z
  | .ok (.ret v) => exact I2.after z
  | .ok .next => exact z.elim
  | .ok .brk => exact z.elim
  | .ok .cont => exact z.elim
end
section
variable {P : Program} {w : World} {K : PySem.W.Frag} {mg : Str → Option Value} {base : Heap} {k : Nat} {f : Addr} {fd : FuncData} {ps : List Str} {sp sq : Sp}
theorem fn_lift {CX : CXT} (F : FnOk P w K mg base CX0 k f fd ps sp) : FnOk P w K mg base CX k f fd ps sp := ⟨F.len, fun A outer s H args us vs Q E hr e0 hb hv hs => codeAny_mono (F.run A outer s H args us vs Q E hr e0 hb hv hs) fun r s1 z => by
  match r with
  | .error er => exact False.elim z
  | .ok (.ret v) => exact z
  | .ok .next => exact z
  | .ok .brk => exact z
  | .ok .cont => exact z⟩
theorem fn_or {CX : CXT} (F : FnOk P w K mg base CX k f fd ps sp) (G : FnOk P w K mg base CX k f fd ps sq) : FnOk P w K mg base CX k f fd ps (fun vs H Q E => sp vs H Q E ∨ sq vs H Q E) :=
  ⟨fun vs H Q E h => h.elim (F.len vs H Q E) (G.len vs H Q E), fun A outer s H args us vs Q E hr e0 hb hv hs => hs.elim (F.run A outer s H args us vs Q E hr e0 hb hv) (G.run A outer s H args us vs Q E hr e0 hb hv)⟩
end
end L2
namespace GZ
open PySem PySem.Spec PyProof.Rows L2
theorem kit_self {K : PySem.W.Frag} {C : Addr} : PySem.W.kitOne K (.ref C) (.ref C) = some true := by
  unfold PySem.W.kitOne
  rw [if_pos (beq_self_eq_true _)]
theorem kit_own {K : PySem.W.Frag} {C D : Addr} {b : Bool} (n : (Value.ref C == Value.ref D) = false) (hd : PySem.W.hasDictIn K D = true) (ty : PySem.W.typeIn K (.ref D) = some (.type "type")) (su : PySem.W.subIn K (.ref C) (.ref D) = some b) : PySem.W.kitOne K (.ref C) (.ref D) = some b := by
  unfold PySem.W.kitOne PySem.W.kitCls
  rw [if_neg (by rw [n]; decide)]
  dsimp only
  rw [if_pos (by rw [has_cls hd, ty] <;> rfl)]
  exact su
theorem kit_bt {K : PySem.W.Frag} {C : Addr} {T : String} {b : Bool} (su : PySem.W.subIn K (.ref C) (.type T) = some b) (km : PySem.W.kitMeta T = true := by decide +kernel) : PySem.W.kitOne K (.ref C) (.type T) = some b := by
  unfold PySem.W.kitOne PySem.W.kitCls
  rw [if_neg (show ¬ ((Value.ref C == Value.type T) = true) from Bool.false_ne_true)]
  dsimp only
  rw [if_pos km]
  exact su
end GZ
namespace L2
open PySem PySem.Spec PyProof.Rows
/-! ### except (A, B, ..) as n: the error is kept behind the try -/
theorem fly_keeps {B h h' : Heap} {l : List Env} {a : Addr} {Z : Obj → Prop} (f : HandSPX.FlyingZ B l a Z h) (k : ∀ b o, h.get? b = some o → h'.get? b = some o) : HandSPX.FlyingZ B l a Z h' := by
  obtain ⟨f1, f2, f3, oe, vs, T, oT, ts, he, hz, hd, h1, hn, hT, hT2, hd2, h3⟩ := f
  exact ⟨fun b o e => k _ _ (f1 b o e), f2, f3.of_keeps (fun b o e _ => ⟨o, k _ _ e, rfl⟩), oe, vs, T, oT, ts, k _ _ he, hz, hd, h1, hn, hT, k _ _ hT2, hd2, h3⟩
theorem wp_forIn1 {M : Model} {A : Around} {β : Type} {E : Value → Shared → Prop} {s : Shared} {f : Value → β → Sem (ForInStep β)} {i0 : β} : ∀ (cs : List Value) {Q : β → Shared → Prop}, (∀ c ∈ cs, ∀ Q1 : ForInStep β → Shared → Prop, Q1 (.yield i0) s → wpAny M A (f c i0) Q1 E s) → Q i0 s → wpAny M A (forIn cs i0 f) Q E s
  | [], Q, _, q => by
    rw [List.forIn_nil]
    exact wpAny_pure q
  | c :: cs, Q, h, q => by
    rw [List.forIn_cons]
    refine wpAny_bind (h c List.mem_cons_self _ ?_)
    exact wp_forIn1 cs (fun d hd => h d (List.mem_cons_of_mem _ hd)) q
theorem wp_forIn2 {M : Model} {A : Around} {β : Type} {E : Value → Shared → Prop} {s : Shared} {f : Value → β → Sem (ForInStep β)} {i0 d0 : β} {K : PySem.W.Frag} {cls : Value}
    (h : ∀ c b, PySem.W.exmOne K cls c = some b → ∀ Q1 : ForInStep β → Shared → Prop, Q1 (if b = true then .done d0 else .yield i0) s → wpAny M A (f c i0) Q1 E s) :
    ∀ (cs : List Value) (b : Bool) {Q : β → Shared → Prop}, PySem.W.exmAny K cls cs = some b → Q (if b = true then d0 else i0) s → wpAny M A (forIn cs i0 f) Q E s
  | [], b, Q, e, q => by
    cases e
    rw [List.forIn_nil]
    exact wpAny_pure q
  | c :: cs, b, Q, e, q => by
    obtain ⟨b1, d1, e1, e2, rfl⟩ := PySem.W.exmAny_cons e
    rw [List.forIn_cons]
    refine wpAny_bind (h c b1 e1 _ ?_)
    cases b1 with
    | true => exact wpAny_pure q
    | false =>
      rw [Bool.false_or] at q
      exact wp_forIn2 h cs d1 e2 q
theorem exmAny_mem {K : PySem.W.Frag} {cls : Value} : ∀ {cs : List Value} {b : Bool}, PySem.W.exmAny K cls cs = some b → ∀ c ∈ cs, ∃ d, PySem.W.exmOne K cls c = some d
  | [], _, _, _, h => nomatch h
  | c :: cs, b, e, x, h => by
    obtain ⟨b1, d1, e1, e2, _⟩ := PySem.W.exmAny_cons e
    rcases List.mem_cons.mp h with z | z
    · subst z
      exact ⟨_, e1⟩
    · exact exmAny_mem e2 x z
theorem exm_tupL {M : Model} {K : PySem.W.Frag} {cs : List Value} {cls : Value} {tp e : Addr} {b : Bool} {h : Heap} (X : K.In h) (LT : PySem.W.Looks M h (typeOf (.ref e)) cls) (hp : h.get? tp = some { cls := .type "tuple", data := .seq cs.toArray }) (hx : PySem.W.exmAny K cls cs = some b) :
    PySem.W.Looks M h (excMatches (.ref e) (.ref tp)) b := by
  intro A Q E s k₀ q
  obtain ⟨hh, g, d, tk, os⟩ := s
  have k : ∀ b o, h.get? b = some o → hh.get? b = some o := k₀
  have LT0 : PySem.W.Looks M h (isInstance (.ref tp) (.type "tuple")) true := ((PySem.W.Looks.ld hp).andThen .now).andThen (PySem.W.Looks.of_pure isSubtype_tuple_tuple)
  have LT := LT.keeps k
  have LT0 := LT0.keeps k
  have hp' := k _ _ hp
  unfold excMatches
  refine wpAny_bind (LT0.at ?_)
  dsimp only
  rw [if_pos rfl]
  first
    | refine wpAny_bind (wpAny_seqItems hp' rfl ?_)
    | refine wpAny_bind (wpAny_bind (wpAny_seqItems hp' rfl (wpAny_pure ?_)))
  dsimp only [Option.getD_some, Option.getD]
  refine wpAny_bind (wpAny_pure ?_)
  refine wpAny_bind (wp_forIn1 cs (fun c hc Q1 q1 => ?_) ?_)
  · obtain ⟨v, hv⟩ := exmAny_mem hx c hc
    obtain ⟨e1, _⟩ := PySem.W.exm_cls (M := M) X hv
    refine wpAny_bind ((e1.keeps k).at ?_)
    exact wpAny_pure q1
  refine wpAny_bind (LT.at ?_)
  refine wpAny_bind (wp_forIn2 (K := K) (cls := cls) (d0 := ⟨some true, ⟨⟩⟩) (fun c v hv Q1 q1 => ?_) cs b hx ?_)
  · obtain ⟨_, S1⟩ := PySem.W.exm_cls (M := M) X hv
    refine wpAny_bind ((S1.keeps k).at ?_)
    cases v
    · exact wpAny_pure q1
    · exact wpAny_pure q1
  cases b
  · exact wpAny_pure q
  · exact wpAny_pure q
inductive NamesL (X : Cx) : List Expr → List Value → Prop
  | nil : NamesL X [] []
  | cons {x : Str} {c : Value} {np : Pos} {es : List Expr} {cs : List Value} (h : Names X x c) (r : NamesL X es cs) : NamesL X (.Name x np :: es) (c :: cs)
theorem NamesL.len {X : Cx} {es : List Expr} {cs : List Value} (h : NamesL X es cs) : cs.length = es.length := by
  induction h with
  | nil => rfl
  | cons _ _ ih => rw [List.length_cons, List.length_cons, ih]
/-- what is wished of an error of the body: it is one of these; the suite runs; the error is told of behind it -/
def wKpT (K : PySem.W.Frag) (cs : List Value) (i : Nat) (ts : Addr → Value → Option Addr → TS) (D : Ends) : WX := fun cls d τ H => PySem.W.exmAny K cls cs = some true ∧
  ∀ a, H a = none → ts a cls d { nx := fun τ' H' => D.nx (τ'.set i none) (upd H' a (Exk a cls d)), rt := fun _ _ => False, bk := fun _ _ => False, ct := fun _ _ => False } (τ.set i (some (.ref a))) H
theorem ps_try_keepT {X : Cx} {n : Str} {es : List Expr} {cs : List Value} {kk : Nat} {i : Nat} {body suite : List Stmt} {b0 : Stmt} {tpos pos pos' : Pos} {tb : WX → TS} {ts : Addr → Value → Option Addr → TS} (hs : X.stack = X.env :: X.outer) (hf : X.env.frame = some X.env.locals) (hex : X.ex = []) (hN : X.N.Nodup) (hi : X.N[i]? = some n)
    (hln : X.env.kindOf n = some .local) (hc : NamesL X es cs) (hle : cs.length ≤ 100)
    (hb : ∀ (W : WX) (pn : List (Addr × Obj)) (xe : Value → Shared → Prop), Takes (X.tr pn xe) W → PassesOwn (model X.prog X.w) X.A X.env xe → PSs (X.tr pn xe) body (tb W))
    (hsu : ∀ (a : Addr) (oe : Obj) (cls : Value) (d : Option Addr) (pn : List (Addr × Obj)), Zc cls d oe → (∃ vs, oe.data = .fields vs) → PSs (X.suite a ((a, oe) :: pn)) (b0 :: suite) (ts a cls d)) :
    PS X (.Try body [.ExceptHandler (some (.Tuple es kk tpos)) (some n) (b0 :: suite) pos'] [] [] pos) (fun D τ H => tb (wKpT X.K cs i ts D) D τ H) := by
  constructor
  intro pz u0 τ H D I h
  have ok := I.ok
  have frA : X.A.frames = some (X.env :: X.outer) := ok.frames.trans (congrArg some hs)
  refine wpAny_Try_except (wpAny_mono ((hb (wKpT X.K cs i ts D) (X.pn ++ pz) _ (fun u s1 xx => ?caught) PassesOwn.looking).run [] u0 τ H D (I.toTry _) h) (fun f s1 z => ?fine) (fun _ _ z => z))
  case fine =>
    cases f with
    | next =>
      obtain ⟨τ1, H1, J1, q1⟩ := z
      exact wpAny_execs_nil ⟨τ1, H1, J1.ofTry ok, q1⟩
    | brk =>
      obtain ⟨τ1, H1, J1, q1⟩ := z
      exact ⟨τ1, H1, J1.ofTry ok, q1⟩
    | cont =>
      obtain ⟨τ1, H1, J1, q1⟩ := z
      exact ⟨τ1, H1, J1.ofTry ok, q1⟩
    | ret v1 =>
      obtain ⟨v, τ1, H1, J1, r1, q1⟩ := z
      exact ⟨v, τ1, H1, J1.ofTry ok, r1, q1⟩
  case caught =>
    obtain ⟨a, Bh, sI, pI, τ1, H1, cls, d, rfl, J0, nb, up, sky, na, eos, bare, mt, goes⟩ := xx
    have J : Inv X pz τ1 H1 sI := J0.ofTry ok
    rw [show (X.tr (X.pn ++ pz) _).stack = X.env :: X.outer from hs] at sky
    show wpAny (model X.prog X.w) X.A (noteFrame (.ref a) X.env) _ _ _
    refine Sky.land Zc.steady frA hf sky fun h3 fl3 up3 => ?_
    have J3 : Inv X pz τ1 H1 { s1 with heap := h3 } := J.landed nb fl3.1 (up.trans up3) eos bare
    obtain ⟨oe3, vs3, at3, z3, dt3⟩ := fl3.there
    have noFr : a ∉ frs (X.env :: X.outer) := fun hm => by
      obtain ⟨_, o1, e1, n1⟩ := fl3.2.2.1.mem hm
      rw [at3] at e1
      cases e1
      exact n1 _ dt3
    have nL : a ≠ X.env.locals := fun z => noFr (List.mem_filterMap.mpr ⟨X.env, List.mem_cons_self, by rw [hf, z]⟩)
    have nF : a ∉ X.fs := fun hm => by
      obtain ⟨e1, m1, q1⟩ := List.mem_filterMap.mp hm
      exact noFr (List.mem_filterMap.mpr ⟨e1, List.mem_cons_of_mem _ m1, q1⟩)
    -- it was not there before
    have newA : sI.heap.get? a = none := by
      cases q : sI.heap.get? a with
      | none => rfl
      | some o1 =>
        have z := nb a o1 q (by rw [show frs (X.tr (X.pn ++ pz) _).stack = frs (X.env :: X.outer) from congrArg frs hs]; exact noFr)
        rw [fl3.2.1] at z
        cases z
    have new0 : X.s_0.heap.get? a = none := by
      cases q : X.s_0.heap.get? a with
      | none => rfl
      | some o1 =>
        obtain ⟨o2, z⟩ := J.base.there a o1 q (by rw [hex]; exact fun z => nomatch z)
        rw [newA] at z
        cases z
    have S3 := J3.suite at3 dt3 na nL nF
    refine wpAny_handleBy_cons (codeAny_handlers_test ?_) (by intro q; cases q)
    have kp : ∀ q o, h3.get? q = some o → (h3.push { cls := .type "tuple", data := .seq cs.toArray }).get? q = some o := fun _ _ z => Heap.get?_push_of_some _ z
    have isC : PySem.W.Looks (model X.prog X.w) h3 (typeOf (.ref a)) cls := fun A1 Q1 E1 s2 k2 q2 => wpAny_typeOf_ref (k2 _ _ at3) (by rw [z3.1]; exact q2)
    have meets := exm_tupL (M := model X.prog X.w) (J3.kIn.keeps kp) (isC.keeps kp) (Heap.get?_push_size h3 rfl) mt
    have named : ∀ {x : Str} {c : Value} {np : Pos}, Names X x c → ∀ {Q1 : Value → Shared → Prop} {E1 : Value → Shared → Prop}, Q1 c { s1 with heap := h3 } → wpAny (model X.prog X.w) (X.A.mark (some (.ref a))) (eval (.Name x np) X.env) Q1 E1 { s1 with heap := h3 } := fun {x c np} hc {Q1 E1} q1 => by
      obtain ⟨g1, g2, g3 | ⟨g3, g4, g5⟩⟩ := hc
      · exact ld_glob (X := X.suite a ((a, oe3) :: (X.pn ++ pz))) S3 g1 g3 q1 g2
      · exact ld_blt (X := X.suite a ((a, oe3) :: (X.pn ++ pz))) S3 g1 g3 g4 q1 g5 g2
    have items : ∀ {es : List Expr} {cs : List Value}, NamesL X es cs → ∀ {Q1 : List Value → Shared → Prop} {E1 : Value → Shared → Prop}, Q1 cs { s1 with heap := h3 } → wpAny (model X.prog X.w) (X.A.mark (some (.ref a))) (spliced (backTo tpos (starEach es X.env))) Q1 E1 { s1 with heap := h3 } := fun {es cs} hc => by
      induction hc with
      | nil =>
        intro Q1 E1 q1
        exact wpAny_items_nil q1
      | cons hx _ ih =>
        intro Q1 E1 q1
        exact wpAny_items_cons (named hx (ih q1)) (by rfl)
    refine wpAny_Tuple (items hc ⟨?_, ?_⟩)
    · rw [sizeLine_eq]
      omega
    refine meets.here (codeAny_handlers_suite_as (HandSPX.lands_againZ (fly_keeps fl3 kp) fun h4 fl4 up4 => ?_))
    have J4 : Inv X pz τ1 H1 { s1 with heap := h4 } := J.landed nb fl4.1 ((up.trans up3).trans ((Heap.UpToSlots.of_keeps kp).trans up4)) eos bare
    obtain ⟨oe4, vs4, at4, z4, dt4⟩ := fl4.there
    refine store_ok (X := X.suite a ((a, oe4) :: (X.pn ++ pz))) (v := .ref a) (J4.suite at4 dt4 na nL nF) hN hi (.inl hln) rfl (fun s5 S5 => ?_) (.inr hln)
    refine wpAny_mono ((hsu a oe4 cls d (X.pn ++ pz) z4 ⟨_, dt4⟩).run [] s5 _ H1 _ S5 (goes a na)) (fun f s6 z => ?_) (fun _ _ z => z.elim)
    cases f with
    | brk => exact (z.choose_spec.choose_spec.2).elim
    | cont => exact (z.choose_spec.choose_spec.2).elim
    | ret v1 => exact (z.choose_spec.choose_spec.choose_spec.2.2).elim
    | next =>
      obtain ⟨τ6, H6, S6, q6⟩ := z
      obtain ⟨at6, na6, _⟩ := S6.pin (a, oe4) (List.mem_append_left _ List.mem_cons_self)
      have J6 : Inv X pz τ6 H6 s6 := S6.unsuite ok
      have K6 : Inv X pz τ6 (upd H6 a (Exk a cls d)) s6 := by
        refine J6.track na6 new0 nL (fun y cc e => ?_) (fun p hp => ?_) (exk_ok at6 z4 dt4)
        · obtain ⟨v, oc, hoc, _⟩ := J.cell y cc e
          exact fun z => by rw [z, newA] at hoc; cases hoc
        · obtain ⟨z1, _⟩ := J.pin p hp
          exact fun z => by rw [z, newA] at z1; cases z1
      exact gone_ok K6 hN hi hln fun s7 J7 => ⟨_, _, J7, q6⟩
end L2
namespace L2
open PySem PySem.Spec PyProof.Rows
/-- o.m(), its error goes to a try -/
def tMeth0S (C : Addr) (m : Str) (sp : Sp) (E : St → XK) (ta : TE) : TE := fun σ H Q => ta σ H fun x H1 => ∃ a dx fs, x = .ref a ∧ H1 a = some (.ins C dx fs) ∧ fs.lookup m = none ∧ sp [x] H1 Q (E σ)
theorem pe_meth0S {X : Cx} {CX : CXT} {k : Nat} {f C : Addr} {fd : FuncData} {ps : List Str} {sp : Sp} {E : St → XK} {m : Str} {pos apos : Pos} {o : Expr} {ta : TE} {pl : Sem Bool} (he : PE X o ta) (c : Cls X.K C) (hm : Meth X.K C m f) (F : FnOk X.prog X.w X.K X.mg X.base CX k f fd ps sp) (hr : Room k X.A) (hb : Binds X.K fd ps []) (hx : ∀ σ, PassesAt CX X σ (E σ))
    (ht : eval (.Call (.Attribute o m apos) [] [] pos) X.env = (do
      let ov ← eval o X.env
      standAt apos.atName
      let (f, first) ← holding [ov] (getMethod ov m pl)
      callWith pos f first (backTo pos (starEach [] X.env)) (backToKw pos (keywordEach [] X.env))) := by rfl) :
    PE X (.Call (.Attribute o m apos) [] [] pos) (tMeth0S C m sp E ta) := by
  refine ⟨fun pins s σ H Q I h => ?_⟩
  refine PySem.W.methodCall_KW (pl := pl) (thn (he.run pins s σ H _ I h) fun u s1 ⟨x, H1, I1, rx, a, dx, fs, ex, ea, l, q⟩ => ?_) ht
  subst ex
  obtain rfl : u = Value.ref a := rx
  refine getmeth_ok I1 ea c hm l ?_
  exact PySem.W.callWith_K0 (first := [.ref a]) I1.kIn hm.kp (run_fnS (us := [.ref a]) (vs := [.ref a]) F hr hb (hx σ) I1 (.cons rfl .nil) q)
end L2
namespace GZ
open PySem PySem.Spec PyProof.Rows L2
theorem gset_if2 {i : Nat} {v : V} {σ : L2.St} {H : Hp} {c : TT} {t u r : TS} {D : Ends} (h : tIfS c t u { D with nx := r D } (σ.set i (some v)) H) : gName i v σ H ({ D with nx := tSeq (tIfS c t u) r D } : Ends).nx := h
theorem gset_if {σ : L2.St} {H : Hp} {c : TT} {t u r : TS} {D : Ends} (h : tIfS c t u { D with nx := r D } σ H) : tSeq (tIfS c t u) r D σ H := h
theorem ifS_cut {c : TT} {t u : TS} {D : Ends} {σ : L2.St} {H : Hp} (R : L2.St → Hp → Prop) (h : ∀ D' : Ends, (∀ σ' H', R σ' H' → D'.nx σ' H') → tIfS c t u D' σ H) (q : ∀ σ' H', R σ' H' → D.nx σ' H') : tIfS c t u D σ H := h D q
theorem ifS_ev {c : TT} {t u : TS} {D : Ends} {σ : L2.St} {H : Hp} (R : Bool → Hp → Prop) (h : ∀ Q : Bool → Hp → Prop, (∀ z H', R z H' → Q z H') → c σ H Q) (q1 : ∀ H', R true H' → t D σ H') (q2 : ∀ H', R false H' → u D σ H') : tIfS c t u D σ H := h _ fun z H' r => by
  cases z with
  | true => exact q1 H' r
  | false => exact q2 H' r
theorem if_ev {t : TT} {ta tb : TE} {σ : L2.St} {H : Hp} {Q : VK} (R : V → Hp → Prop) (h : ∀ Q : VK, (∀ z H', R z H' → Q z H') → tIf t ta tb σ H Q) (q : ∀ z H', R z H' → Q z H') : tIf t ta tb σ H Q := h Q q
theorem and_ev {ta tb : TE} {σ : L2.St} {H : Hp} {Q : VK} (R : V → Hp → Prop) (h : ∀ Q : VK, (∀ z H', R z H' → Q z H') → tAndV ta tb σ H Q) (q : ∀ z H', R z H' → Q z H') : tAndV ta tb σ H Q := h Q q
theorem or_ev {ta tb : TE} {σ : L2.St} {H : Hp} {Q : VK} (R : V → Hp → Prop) (h : ∀ Q : VK, (∀ z H', R z H' → Q z H') → tOrV ta tb σ H Q) (q : ∀ z H', R z H' → Q z H') : tOrV ta tb σ H Q := h Q q
theorem ifset_ev {c : TT} {e : TE} {k : Nat} {D : Ends} {σ : L2.St} {H : Hp} {old : V} (hσ : σ.set k (some old) = σ) (R : V → Hp → Prop) (h : ∀ Q : VK, (∀ z H', R z H' → Q z H') → c σ H (fun b H1 => if b = true then e σ H1 Q else Q old H1)) (q : ∀ z H', R z H' → D.nx (σ.set k (some z)) H') : tIfS c (tAsg e (gName k)) tNext D σ H := by
  have t := h (fun z H' => D.nx (σ.set k (some z)) H') q
  rw [hσ] at t
  exact t
theorem two_cut {t : TE} {g : TG} {c : TT} {a b r : TS} {D : Ends} {σ : L2.St} {H : Hp} (R : L2.St → Hp → Prop) (h : ∀ D' : Ends, (∀ σ' H', R σ' H' → D'.nx σ' H') → tSeq (tAsg t g) (tIfS c a b) D' σ H) (q : ∀ σ' H', R σ' H' → r D σ' H') : tSeq (tAsg t g) (tSeq (tIfS c a b) r) D σ H := h { D with nx := r D } q
theorem org80 {ta tb : TE} {σ : L2.St} {H : Hp} {Q : VK} {c d : Bool} (ha : ∀ Q : VK, Q (.bl c) H → ta σ H Q) (hb : ∀ Q : VK, Q (.bl d) H → tb σ H Q) (h : Q (.bl (c || d)) H) : tOrV ta tb σ H Q := by
  refine ha _ ⟨c, rfl, ?_⟩
  cases c
  · exact hb _ h
  · exact h
theorem gnext_if18 {σ : L2.St} {H : Hp} {c : TT} {t u : TS} {r : TS} {D : Ends} (h : tIfS c t u { D with nx := r D } σ H) : tNext ({ D with nx := tSeq (tIfS c t u) r D } : Ends) σ H := h
theorem ret_if18 {c : TT} {ta tb : TE} {D : Ends} {σ : L2.St} {H : Hp} (R : Bool → Hp → Prop) (h : ∀ Q : Bool → Hp → Prop, (∀ z H', R z H' → Q z H') → c σ H Q) (q1 : ∀ H', R true H' → ta σ H' D.rt) (q2 : ∀ H', R false H' → tb σ H' D.rt) : tRet (tIf c ta tb) D σ H := h _ fun z H' r => by
  cases z with
  | true => exact q1 H' r
  | false => exact q2 H' r
theorem gset_if3 {i : Nat} {v : V} {σ : L2.St} {H : Hp} {c : TT} {t u r : TS} {D : Ends} (h : tIfS c t u { D with nx := r D } (σ.set i (some v)) H) : gName i v σ H (tSeq (tIfS c t u) r D) := h
theorem asg_ev {t : TE} {i : Nat} {r : TS} {D : Ends} {σ : L2.St} {H : Hp} (R : V → Hp → Prop) (h : ∀ Q : VK, (∀ z H', R z H' → Q z H') → t σ H Q) (q : ∀ z H', R z H' → r D (σ.set i (some z)) H') : tSeq (tAsg t (gName i)) r D σ H := h _ q
/-! ### range(n) as a value, list(range(n)) -/
section
variable {X : Cx}
theorem cr_range1 : CallR X (.type "range") (fun vs H Q => ∃ i, vs = [V.int i] ∧ ∀ p, H p = none → Q (.ref p) (upd H p (.rng 0 i))) := by
  intro pins s σ H vs us Q I r h
  obtain ⟨i, rfl, q⟩ := h
  obtain ⟨u1, rfl, ri⟩ := vals1 r
  obtain ⟨t, rfl⟩ := ri
  refine call_range_1 ⟨.ref s.heap.objs.size, upd H s.heap.objs.size (.rng 0 i), I.laid (t' := s.toks + 1 + 1) (fun b o e => Heap.get?_push_of_some _ e) (Nat.le_refl _) ?_, rfl, q _ (I.hok.fresh (Nat.le_refl _))⟩
  exact ⟨s.toks, t, s.toks + 1, Heap.get?_push_size _ rfl⟩
theorem vals_rng {its : List Value} : ∀ {n k : Nat}, its.length = n → (∀ (j : Nat) v, its[j]? = some v → ∃ t, v = Value.int ((k : Int) + j) t) → Vals ((List.range' k n).map fun i : Nat => V.int (i : Int)) its := by
  induction its with
  | nil =>
    intro n k hl _
    have : n = 0 := hl.symm
    subst this
    exact .nil
  | cons v its ih =>
    intro n k hl h
    obtain ⟨m, rfl⟩ : ∃ m, n = m + 1 := ⟨its.length, hl.symm⟩
    rw [List.range'_succ]
    refine .cons ?_ (ih (by simpa using hl) fun j u hu => ?_)
    · obtain ⟨t, e⟩ := h 0 v rfl
      exact ⟨t, by rw [e]; simp⟩
    · obtain ⟨t, e⟩ := h (j + 1) u hu
      exact ⟨t, by rw [e]; congr 1; omega⟩
theorem cr_listR (hc : X.calm = true) : CallR X (.type "list") (fun xs H Q => ∃ (a : Addr) (n : Nat), xs = [.ref a] ∧ H a = some (.rng 0 (n : Int)) ∧ n ≤ 1000000 ∧ ∀ l, H l = none → Q (.ref l) (upd H l (.lst ((List.range' 0 n).map fun i : Nat => V.int (i : Int))))) := by
  intro pins s σ H vs us Q I r h
  obtain ⟨a, n, rfl, ha, hn, q⟩ := h
  rw [Vals.ref1 r]
  obtain ⟨t1, t2, t3, ho⟩ := I.hok a _ ha
  have hz : n ≤ sizeLine := by
    rw [sizeLine_eq]
    omega
  refine call_list_range (I.ok.hd hc) (n := n) ho ?_ ?_ (by omega) fun h' tk acc c hk hl hit => ?_
  · exact small_one (by omega) (by omega) (by omega) (by omega)
  · rw [PyProof.Rows.rangeSize_pos (by decide) (by omega)]
    omega
  refine ⟨.ref _, upd H s.heap.objs.size (.lst _), I.laid (t' := tk) hk (Nat.le_refl _) ?_, rfl, q _ (I.hok.fresh (Nat.le_refl _))⟩
  refine ⟨by rw [List.length_map, List.length_range']; exact hz, acc.toList, c, vals_rng (by rw [Array.length_toList]; exact hit.1) fun j v hv => ?_, by rw [hl]⟩
  obtain ⟨t, e⟩ := hit.2 j v (by rw [← Array.getElem?_toList]; exact hv)
  exact ⟨t, by rw [e]; congr 1; omega⟩
end
/-! ### list.count, flat items -/
section
variable {X : Cx}
theorem countP_eqU {y : V} : ∀ {ys : List V} {us : List Value}, Vals ys us → ys.all flatV = true → us.countP (eqU y) = ys.countP fun z => eqV z y
  | _, _, .nil, _ => rfl
  | z :: zs, u :: us, .cons r t, f => by
    rw [List.all_cons, Bool.and_eq_true] at f
    rw [List.countP_cons, List.countP_cons, countP_eqU t f.2, eqU_of r f.1]
theorem mt_count : MtR X "list.count" (fun x xs H Q => ∃ (a : Addr) (ys : List V) (y : V), x = V.ref a ∧ xs = [y] ∧ SqL X.K H a ys ∧ flatV y = true ∧ ys.all flatV = true ∧ Q (.int ((ys.countP fun z => eqV z y : Nat) : Int)) H) := by
  intro pins s σ H x xs v us Q I rx rxs h
  obtain ⟨a, ys, y, rfl, rfl, hs, fy, fys, q⟩ := h
  cases rx
  cases rxs with
  | cons ry rt =>
    rename_i uy ut
    cases rt
    obtain ⟨its, rv, ⟨⟨cls, dd, data, sl⟩, n, ho, hc, hdn, hd⟩, hlen⟩ := I.list hs
    simp only at hc hd
    subst hc hd
    refine call_meets PySem.F.slot_list_count ⟨_, ho, rfl⟩ PySem.F.entry_list_count (PySem.F.args_list_count_2 _ _)
      (SeqAt.list_countAt a its.toArray n dd sl uy (eqU y)) ⟨ho, fun u' hu' => mem_eqAt ry fy rv fys u' (by simpa using hu'), ?_⟩
    rw [show its.toArray.toList = its from rfl, countP_eqU rv fys]
    exact ⟨.int _, H, I.tok _, ⟨_, rfl⟩, q⟩
theorem count_bls (bs : List Bool) : (bs.map V.bl).all flatV = true ∧ ((bs.map V.bl).countP fun z => eqV z (.bl true)) = bs.countP id := by
  induction bs with
  | nil => exact ⟨rfl, rfl⟩
  | cons b bs ih =>
    refine ⟨ih.1, ?_⟩
    rw [List.map_cons, List.countP_cons, List.countP_cons, ih.2]
    cases b <;> rfl
end
/-! ### zip of two texts: new pairs of their signs -/
def Itzx (x y : Str) : It :=
  ⟨fun i _ => i < min x.cps.size y.cps.size,
   fun i H v H' => ∃ T c d, v = .ref T ∧ H T = none ∧ H' = upd H T (.tup [.str ⟨#[c]⟩, .str ⟨#[d]⟩]) ∧ x.cps[i]? = some c ∧ y.cps[i]? = some d,
   fun i _ => i = min x.cps.size y.cps.size⟩
def StZx (x y : Str) (tx ty : Tok) (z TI TO i1 i2 : Addr) (i : Nat) (h : Heap) : Prop :=
  IsZip h z TI TO .none ∧ IsTupOf2 h TI (.ref i1) (.ref i2) ∧ (∃ u v, IsTupOf2 h TO u v) ∧ h.IsStrIter i1 (strIterType x) x tx i ∧ h.IsStrIter i2 (strIterType y) y ty i
theorem turn_zx {P : Program} {w : World} {K : PySem.W.Frag} {elts : List Expr} {kk : Nat} {tpos : Pos} {x y : Str} {tx ty : Tok} {z TI TO i1 i2 : Addr} (S : ZipSep2 z TI TO i1 i2 [i1] [i2]) :
    Turn P w K (.Tuple elts kk tpos) (Itzx x y) [z, TI, TO, i1, i2] z (StZx x y tx ty z TI TO i1 i2) where
  mem := List.mem_cons_self
  obj := by
    rintro i h ⟨a1, a2, ⟨u, v, a3⟩, ⟨o1, e1, _, d1⟩, ⟨o2, e2, _, d2⟩⟩ c hm
    simp only [List.mem_cons, List.not_mem_nil, or_false] at hm
    rcases hm with e | e | e | e | e <;> subst e
    · exact ⟨_, a1, (fun _ q => nomatch q)⟩
    · exact ⟨_, a2, (fun _ q => nomatch q)⟩
    · exact ⟨_, a3, (fun _ q => nomatch q)⟩
    · exact ⟨o1, e1, (fun _ q => by rw [d1] at q; cases q)⟩
    · exact ⟨o2, e2, (fun _ q => by rw [d2] at q; cases q)⟩
  keep := by
    rintro i h h' ⟨a1, a2, ⟨u, v, a3⟩, s1, s2⟩ k
    obtain ⟨o1, e1, r1⟩ := s1
    obtain ⟨o2, e2, r2⟩ := s2
    exact ⟨k z (by simp) _ a1, k TI (by simp) _ a2, ⟨u, v, k TO (by simp) _ a3⟩, ⟨o1, k i1 (by simp) _ e1, r1⟩, ⟨o2, k i2 (by simp) _ e2, r2⟩⟩
  item := by
    intro X hP hw hK hc i pins s σ H E I hf st hg
    subst hP hw hK
    have W := WalksT.zipD2 (prog := X.prog) (w := X.w) (A := X.A) S (Draws.text (A := X.A.in1) (I.ok.hd hc) i1 x tx) (Draws.text (A := X.A.in1) (I.ok.hd hc) i2 y ty)
    have hin : ∀ b ∈ [z, TO, i1, i2], b ∈ [z, TI, TO, i1, i2] := fun b hb => by
      simp only [List.mem_cons, List.not_mem_nil, or_false] at hb ⊢
      rcases hb with q | q | q | q <;> simp [q]
    refine W.item i s _ E hg st fun T vals h1 tk pt hT isT mid k1 => ?_
    obtain ⟨u1, u2, ⟨c, t1, hc1, rfl⟩, ⟨d, t2, hd1, rfl⟩, rfl⟩ := pt
    refine ⟨.ref T, rfl, W.go elts kk tpos i T { s with heap := h1, toks := tk } _ E mid fun h2 st2 k2 => ?_⟩
    have nT : T ∉ [z, TO, i1, i2] := W.apart i T h1 mid
    have isT2 : h2.IsTuple T #[.str ⟨#[c]⟩ t1, .str ⟨#[d]⟩ t2] := isT.at fun o e => k2 T o nT e
    have new : ObjOk X.prog X.w (upd H T (.tup [.str ⟨#[c]⟩, .str ⟨#[d]⟩])) h2 T (.tup [.str ⟨#[c]⟩, .str ⟨#[d]⟩]) :=
      ⟨by show 2 ≤ sizeLine; decide, [.str ⟨#[c]⟩ t1, .str ⟨#[d]⟩ t2], .cons ⟨t1, rfl⟩ (.cons ⟨t2, rfl⟩ .nil), isT2⟩
    have I2 : Inv X pins σ (upd H T (.tup [.str ⟨#[c]⟩, .str ⟨#[d]⟩])) { s with heap := h2, toks := tk } :=
      I.turnedNew (t' := tk) (ch := [z, TI, TO, i1, i2]) (fun b o nb e => k2 b o (fun q => nb (hin b q)) (k1 b o (fun q => nb (hin b q)) e)) hf hT new
    refine ⟨.ref T, _, I2, rfl, ⟨T, c, d, rfl, I.hok.fresh hT, rfl, hc1, hd1⟩, st2, fun b hb => ?_⟩
    have nb : b ≠ T := by
      obtain ⟨a1, a2, ⟨u, v, a3⟩, ⟨o1, e1, _⟩, ⟨o2, e2, _⟩⟩ := st
      have lt : b < s.heap.objs.size := by
        simp only [List.mem_cons, List.not_mem_nil, or_false] at hb
        rcases hb with q | q | q | q | q <;> subst q
        · exact Heap.lt_size a1
        · exact Heap.lt_size a2
        · exact Heap.lt_size a3
        · exact Heap.lt_size e1
        · exact Heap.lt_size e2
      exact Nat.ne_of_lt (Nat.lt_of_lt_of_le lt hT)
    rw [upd_ne nb]
    exact (hf b hb).1
  done := by
    intro X hP hw hK hc i pins s σ H E I hf st hg
    subst hP hw hK
    have W := WalksT.zipD2 (prog := X.prog) (w := X.w) (A := X.A) S (Draws.text (A := X.A.in1) (I.ok.hd hc) i1 x tx) (Draws.text (A := X.A.in1) (I.ok.hd hc) i2 y ty)
    have hg' : i = min x.cps.size y.cps.size := hg
    subst hg'
    refine W.done s _ E st fun h1 tk k1 => ⟨rfl, I.turnedL (t' := tk) (ch := [z, TI, TO, i1, i2]) (fun b o nb e => k1 b o (fun q => nb ?_) e) hf⟩
    simp only [List.mem_cons, List.not_mem_nil, or_false] at q ⊢
    rcases q with q | q | q | q <;> simp [q]
  self := fun A i s Q E st h => wpAny_pyIter_zip st.1 h
def iZx (ta : TA) : TI := fun σ H R => ta σ H fun vs H1 => ∃ x y, vs = [.str x, .str y] ∧ R (Itzx x y) H1
theorem pi_zx {X : Cx} {e e2 : Expr} {ta : TA} {p pos tpos : Pos} {elts : List Expr} {kk : Nat} (hg : Gl X "zip") (hm : X.mg "zip" = none) (ha : PA X [e, e2] ta)
    (hs : starEach [e, e2] X.env = (false, eval e X.env) :: starEach [e2] X.env := by rfl) (hp : (backTo pos (starEach [e2] X.env)).any (·.1) = false := by rfl) :
    PI X (.Tuple elts kk tpos) (.Call (.Name "zip" p) [e, e2] [] pos) (iZx ta) := by
  constructor
  intro pins s σ H R I h
  refine Call_ (ld_blt I hg hm PyProof.Rows.boot_zip (PyProof.Rows.callWith_type1 (thn (ha.run pos pins s σ H _ I h) fun us s1 hh => ?_) hs hp))
  obtain ⟨vs, H1, I1, r1, x, y, rfl, q⟩ := hh
  match us, r1 with
  | [v1, v2], .cons ⟨tx, hx⟩ (.cons ⟨ty, hy⟩ .nil) =>
    subst hx hy
    refine zip_begins2 (begins_text x tx) (begins_text y ty) trivial trivial fun h' a1 a2 a3 g1 g2 _ k => wpAny_pyIter_zip a1 ?_
    have I2 : Inv X pins σ H1 { s1 with heap := h' } := I1.kept (t' := s1.toks) k
    have S : ZipSep2 (s1.heap.objs.size + 4) (s1.heap.objs.size + 2) (s1.heap.objs.size + 3) s1.heap.objs.size (s1.heap.objs.size + 1) [s1.heap.objs.size] [s1.heap.objs.size + 1] := zip_sep2 (fp1 := []) (fp2 := []) (fun _ q => nomatch q) (fun _ q => nomatch q)
    have fr : ∀ b ∈ [s1.heap.objs.size + 4, s1.heap.objs.size + 2, s1.heap.objs.size + 3, s1.heap.objs.size, s1.heap.objs.size + 1], FpOk X pins H1 b := fun b hb => by
      have le : s1.heap.objs.size ≤ b := by
        simp only [List.mem_cons, List.not_mem_nil, or_false] at hb
        rcases hb with z | z | z | z | z <;> rw [z]
        · exact Nat.le_add_right _ _
        · exact Nat.le_add_right _ _
        · exact Nat.le_add_right _ _
        · exact Nat.le_refl _
        · exact Nat.le_add_right _ _
      exact I1.fpOk le (I1.hok.fresh le)
    exact ⟨s1.heap.objs.size + 4, [s1.heap.objs.size + 4, s1.heap.objs.size + 2, s1.heap.objs.size + 3, s1.heap.objs.size, s1.heap.objs.size + 1], _, _, H1, rfl, I2, turn_zx S, ⟨a1, a2, ⟨_, _, a3⟩, ⟨_, g1, rfl, rfl⟩, ⟨_, g2, rfl, rfl⟩⟩, fr, q⟩
section
variable {P : Program} {w : World} {K : PySem.W.Frag} {mg : Str → Option Value} {base : Heap}
theorem cutG {Cd A : Int → Int → Hp → Prop} {B : Prop} (h1 : ∀ n p H, Cd n p H → A n p H) (h2 : (∀ n p H, Cd n p H → A n p H) → B) : B := h2 h1
theorem cutA {Cd A : Addr → Hp → Prop} {B : Prop} (h1 : ∀ a H, Cd a H → A a H) (h2 : (∀ a H, Cd a H → A a H) → B) : B := h2 h1
theorem cutH {H : Hp} {A : Hp → Prop} {B : Prop} (h1 : ∀ H', Same H H' → A H') (h2 : (∀ H', Same H H' → A H') → B) : B := h2 h1
theorem cutP {A B : Prop} (h1 : A) (h2 : A → B) : B := h2 h1
theorem gB {i : Nat} {v u : Bool} {σ : L2.St} {H : Hp} {D : L2.St → Hp → Prop} (e : v = u) (h : gName i (V.bl u) σ H D) : gName i (V.bl v) σ H D := e ▸ h
theorem gI {i : Nat} {v u : Int} {σ : L2.St} {H : Hp} {D : L2.St → Hp → Prop} (e : v = u) (h : gName i (V.int u) σ H D) : gName i (V.int v) σ H D := e ▸ h
theorem dvi (a b : Int) : decide (V.int a = V.int b) = decide (a = b) := by
  by_cases c : a = b
  · rw [decide_eq_true c, decide_eq_true (congrArg V.int c)]
  · rw [decide_eq_false c, decide_eq_false (fun z => c (V.int.inj z))]
theorem dvs (a b : Str) : decide (V.str a = V.str b) = decide (a = b) := by
  by_cases c : a = b
  · rw [decide_eq_true c, decide_eq_true (congrArg V.str c)]
  · rw [decide_eq_false c, decide_eq_false (fun z => c (V.str.inj z))]
theorem bx1 {c : Int} {H : Hp} {b : Addr} (h : BoxAt (c + 2 ^ (1 - 1)) H b) : BoxAt (c + 1) H b := h
theorem Keep.none {b p : Addr} {H H' : Hp} (k : Keep b H H') (n : p ≠ b) (h : H' p = none) : H p = none := by
  cases q : H p with
  | none => rfl
  | some o =>
    rw [k p o q n] at h
    cases h
theorem dp_ints {H : Hp} : ∀ ds : List Int, DpAll K H (ds.map V.int) (ds.map PyData.int)
  | [] => .nil
  | d :: ds => .cons (.int d) (dp_ints ds)
theorem lv_ints {n : Nat} (ds : List Int) (h : ds.length ≤ 1000) : Lv (n + 1) (.list (ds.map PyData.int)) := by
  refine ⟨by rw [List.length_map]; omega, fun d hd => ?_⟩
  obtain ⟨x, _, rfl⟩ := List.mem_map.mp hd
  cases n <;> trivial
theorem eqv_ints (ds : List Int) : PyData.eqv (.list (ds.map PyData.int)) (.list (ds.map PyData.int)) = true := PySem.SeqAt.eqv_refl _ (PySem.SeqAt.canLay_of_shaped (PySem.W.shaped_ints ds))
structure LL (K : PySem.W.Frag) (mg : Str → Option Value) (a1 a2 a3 a4 a5 a6 a7 a8 a9 a10 a11 : Addr) (l1 l2 l3 l4 l5 l6 l7 l8 l9 l10 l11 : FuncData) (E_NoPlace I_NoPlace E_BadRow E_NoDeed E_NoWire E_TooMuch E_Unfit : Addr) : Prop where
  F_lies_in : Fun K "lies_in" "lies_in" s_lies_in a1 l1
  m_lies_in : mg "lies_in" = some (.ref a1)
  b_lies_in : Binds K l1 ["bits", "cube"] []
  F_common : Fun K "common" "common" s_common a2 l2
  m_common : mg "common" = some (.ref a2)
  b_common : Binds K l2 ["one", "other"] []
  F_common_sign : Fun K "common_sign" "common_sign" s_common_sign a3 l3
  m_common_sign : mg "common_sign" = some (.ref a3)
  b_common_sign : Binds K l3 ["sign", "other_sign"] []
  F_split : Fun K "split" "split" s_split a4 l4
  m_split : mg "split" = some (.ref a4)
  b_split : Binds K l4 ["cube", "place"] []
  F__law_box : Fun K "_law_box" "_law_box" sBox a5 l5
  m__law_box : mg "_law_box" = some (.ref a5)
  b__law_box : Binds K l5 ["_law_script", "_law_k"] []
  F__law_take : Fun K "_law_take" "_law_take" sTake a6 l6
  m__law_take : mg "_law_take" = some (.ref a6)
  b__law_take : Binds K l6 ["_law_box_here", "_law_size"] []
  F__law_folded : Fun K "_law_folded" "_law_folded" sFolded a7 l7
  m__law_folded : mg "_law_folded" = some (.ref a7)
  b__law_folded : Binds K l7 ["_law_script", "_law_size"] []
  F__law_same : Fun K "_law_same" "_law_same" sSame a8 l8
  m__law_same : mg "_law_same" = some (.ref a8)
  b__law_same : Binds K l8 ["_law_found", "_law_due"] []
  F__law_told : Fun K "_law_told" "_law_told" s__law_told a9 l9
  m__law_told : mg "_law_told" = some (.ref a9)
  b__law_told : Binds K l9 ["_law_cube", "_law_place"] []
  F__law_parted : Fun K "_law_parted" "_law_parted" s__law_parted a10 l10
  m__law_parted : mg "_law_parted" = some (.ref a10)
  b__law_parted : Binds K l10 ["_law_box_here", "_law_cube", "_law_most"] []
  F__law_right : Fun K "_law_right" "_law_right" s__law_right a11 l11
  m__law_right : mg "_law_right" = some (.ref a11)
  b__law_right : Binds K l11 ["_law_box_here"] []
  g_NoPlace : mg "NoPlace" = some (.ref E_NoPlace)
  R_NoPlace : PySem.WhX.ErrR K E_NoPlace I_NoPlace
  x_NoPlace : PySem.W.exmOne K (.ref E_NoPlace) (.ref E_NoPlace) = some true
  g_BadRow : mg "BadRow" = some (.ref E_BadRow)
  g_NoDeed : mg "NoDeed" = some (.ref E_NoDeed)
  g_NoWire : mg "NoWire" = some (.ref E_NoWire)
  g_TooMuch : mg "TooMuch" = some (.ref E_TooMuch)
  g_Unfit : mg "Unfit" = some (.ref E_Unfit)
  z_IndexError : mg "IndexError" = none
  q_NoPlace_NoPlace : PySem.W.kitOne K (.ref E_NoPlace) (.ref E_NoPlace) = some true
  q_NoPlace_IndexError : PySem.W.kitOne K (.ref E_NoPlace) (.type "IndexError") = some true
  q_NoPlace_NoWire : PySem.W.kitOne K (.ref E_NoPlace) (.ref E_NoWire) = some false
  q_NoPlace_NoDeed : PySem.W.kitOne K (.ref E_NoPlace) (.ref E_NoDeed) = some false
  q_NoPlace_Unfit : PySem.W.kitOne K (.ref E_NoPlace) (.ref E_Unfit) = some false
  y_NoPlace_BadRow : PySem.W.exmOne K (.ref E_NoPlace) (.ref E_BadRow) = some false
  y_NoPlace_NoDeed : PySem.W.exmOne K (.ref E_NoPlace) (.ref E_NoDeed) = some false
  y_NoPlace_NoWire : PySem.W.exmOne K (.ref E_NoPlace) (.ref E_NoWire) = some false
  y_NoPlace_TooMuch : PySem.W.exmOne K (.ref E_NoPlace) (.ref E_TooMuch) = some false
  y_NoPlace_Unfit : PySem.W.exmOne K (.ref E_NoPlace) (.ref E_Unfit) = some false
variable {a1 a2 a3 a4 a5 a6 a7 a8 a9 a10 a11 : Addr} {l1 l2 l3 l4 l5 l6 l7 l8 l9 l10 l11 : FuncData} {E_NoPlace I_NoPlace E_BadRow E_NoDeed E_NoWire E_TooMuch E_Unfit : Addr}
end
section
variable {P : Program} {w : World} {K : PySem.W.Frag} {mg : Str → Option Value} {base : Heap}
variable {a1 a2 a3 a4 a5 a6 a7 a8 a9 a10 a11 : Addr} {l1 l2 l3 l4 l5 l6 l7 l8 l9 l10 l11 : FuncData} {E_NoPlace I_NoPlace E_BadRow E_NoDeed E_NoWire E_TooMuch E_Unfit : Addr}
/-! ### cubes as lists of signs -/
theorem walk_zx {x y : Str} {n : Nat} (hn : n = min x.cps.size y.cps.size) : Walk (Itzx x y) n (fun _ => True) (YPair (fun i => (x.cps[i]?).map fun c => .str ⟨#[c]⟩) (fun i => (y.cps[i]?).map fun c => .str ⟨#[c]⟩)) := by
  subst hn
  refine ⟨fun i _ hi _ => hi, fun _ _ => rfl, fun i H v H' _ _ z => ?_⟩
  obtain ⟨T, c, d, h1, h2, h3, h4, h5⟩ := z
  exact ⟨T, _, _, h1, h2, h3, by simp only [h4]; rfl, by simp only [h5]; rfl⟩
theorem walk_zS {x y : List Nat} {n : Nat} (hx : x.length = n) (hy : y.length = n) : Walk (Itzx (SX.S x) (SX.S y)) n (fun _ => True) (YPair (fun i => (x[i]?).map fun c => .str (SX.S [c])) (fun i => (y[i]?).map fun c => .str (SX.S [c]))) := by
  have w := walk_zx (x := SX.S x) (y := SX.S y) (n := n) (by show n = min x.toArray.size y.toArray.size; rw [List.size_toArray, List.size_toArray, hx, hy]; omega)
  refine ⟨w.goes, w.stops, fun i H v H' hi g z => ?_⟩
  obtain ⟨T, u, v', e1, e2, e3, e4, e5⟩ := w.yields i H v H' hi g z
  refine ⟨T, u, v', e1, e2, e3, ?_, ?_⟩
  · rw [← e4]
    show _ = (x.toArray[i]?).map _
    rw [List.getElem?_toArray]
  · rw [← e5]
    show _ = (y.toArray[i]?).map _
    rw [List.getElem?_toArray]
theorem walk_S {x : List Nat} : Walk (Its (SX.S x)) x.length (fun _ => True) (fun i H v H' => H' = H ∧ ∃ c, x[i]? = some c ∧ v = .str (SX.S [c])) := by
  have w := walk_str (z := SX.S x)
  rw [show (SX.S x).cps.size = x.length from List.size_toArray] at w
  refine ⟨w.goes, w.stops, fun i H v H' hi g z => ?_⟩
  obtain ⟨e, c, h1, h2⟩ := w.yields i H v H' hi g z
  refine ⟨e, c, ?_, h2⟩
  rw [← h1]
  show _ = x.toArray[i]?
  rw [List.getElem?_toArray]
theorem in_strs (x : Str) (ys : List Str) : inV (.str x) (ys.map V.str) = true ↔ x ∈ ys := by
  induction ys with
  | nil => exact ⟨fun z => Bool.noConfusion z, fun z => nomatch z⟩
  | cons y ys ih =>
    show ((y == x) || inV (.str x) (ys.map V.str)) = true ↔ _
    rw [Bool.or_eq_true, beq_iff_eq, ih, List.mem_cons]
    exact ⟨fun z => z.imp Eq.symm id, fun z => z.imp Eq.symm id⟩
theorem flat_strs (ys : List Str) : (ys.map V.str).all flatV = true := by
  induction ys with
  | nil => rfl
  | cons y ys ih => exact ih
theorem S1_inj {a b : Nat} (h : SX.S [a] = SX.S [b]) : a = b := by
  have e := SX.S_inj h
  cases e
  rfl
theorem dS1 (a b : Nat) : decide (V.str (SX.S [a]) = V.str (SX.S [b])) = decide (a = b) := by
  by_cases c : a = b
  · subst c
    rw [decide_eq_true rfl, decide_eq_true rfl]
  · rw [decide_eq_false c, decide_eq_false (fun z => c (S1_inj (V.str.inj z)))]
/-- the signs meet nowhere -/
def bad (a b : Nat) : Bool := decide (a ≠ 45 ∧ b ≠ 45 ∧ b ≠ a)
def mgs (a b : Nat) : Nat := if a = 45 then b else a
def clash (x y : List Nat) : Bool := (List.zipWith bad x y).any id
def meet (x y : List Nat) : List Nat := List.zipWith mgs x y
def csv (a b : Nat) : V := if bad a b = true then .non else .str (SX.S [mgs a b])
def cmV (x y : List Nat) : V := if clash x y = true then .non else .str (SX.S (meet x y))
theorem zw_take {α β γ : Type} (f : α → β → γ) {x : List α} {y : List β} {i : Nat} {a : α} {b : β} (ha : x[i]? = some a) (hb : y[i]? = some b) : (List.zipWith f x y).take (i + 1) = (List.zipWith f x y).take i ++ [f a b] := by
  rw [List.take_add_one, List.getElem?_zipWith, ha, hb]
  rfl
theorem zw_len {α β γ : Type} (f : α → β → γ) {x : List α} {y : List β} {n : Nat} (hx : x.length = n) (hy : y.length = n) : (List.zipWith f x y).length = n := by
  rw [List.length_zipWith, hx, hy, Nat.min_self]
theorem in_non (x y : List Nat) : inV .non (List.zipWith csv x y) = clash x y := by
  unfold inV clash
  induction x generalizing y with
  | nil => rfl
  | cons a x ih =>
    cases y with
    | nil => rfl
    | cons b y =>
      rw [List.zipWith_cons_cons, List.zipWith_cons_cons, List.any_cons, List.any_cons, ih]
      congr 1
      unfold csv
      cases bad a b <;> rfl
theorem flat_cs (x y : List Nat) : (List.zipWith csv x y).all flatV = true := by
  induction x generalizing y with
  | nil => rfl
  | cons a x ih =>
    cases y with
    | nil => rfl
    | cons b y =>
      rw [List.zipWith_cons_cons, List.all_cons, ih, Bool.and_true]
      unfold csv
      cases bad a b <;> rfl
theorem cs_meet (x y : List Nat) (h : clash x y = false) : List.zipWith csv x y = ((meet x y).map fun c => SX.S [c]).map V.str := by
  induction x generalizing y with
  | nil => rfl
  | cons a x ih =>
    cases y with
    | nil => rfl
    | cons b y =>
      unfold clash at h
      rw [List.zipWith_cons_cons, List.any_cons, Bool.or_eq_false_iff] at h
      rw [List.zipWith_cons_cons, ih y h.2]
      unfold csv
      rw [if_neg (by rw [show bad a b = false from h.1]; decide)]
      rfl
theorem joinL_1 : ∀ l : List Nat, TL.joinL [] (l.map fun c => [c]) = l
  | [] => rfl
  | [_] => rfl
  | a :: b :: l => by
    show [a] ++ ([] ++ TL.joinL [] ((b :: l).map fun c => [c])) = _
    rw [joinL_1 (b :: l)]
    rfl
theorem join_1 (l : List Nat) : Txt.join "" (l.map fun c => SX.S [c]) = SX.S l := by
  have e := SX.join_S [] (l.map fun c => [c])
  rw [List.map_map, joinL_1] at e
  exact e
theorem join_z (l : List Nat) (h : l.length ≤ 1000) : ((l.map fun c => SX.S [c]).map (·.length)).sum + (l.map fun c => SX.S [c]).length * ("" : Str).length ≤ 16777216 := by
  have : ((l.map fun c => SX.S [c]).map (·.length)).sum = l.length := by
    induction l with
    | nil => rfl
    | cons a l ih =>
      have h2 : l.length ≤ 1000 := by
        rw [List.length_cons] at h
        omega
      rw [List.map_cons, List.map_cons, List.sum_cons, ih h2, List.length_cons]
      show 1 + l.length = l.length + 1
      omega
  rw [this, List.length_map, show ("" : Str).length = 0 from rfl]
  omega
theorem csv_m (b : Nat) : csv 45 b = .str (SX.S [b]) := by
  unfold csv bad mgs
  rw [if_neg (by simp), if_pos rfl]
theorem csv_y {a b : Nat} (h : ¬ a = 45) (h2 : b = 45 ∨ b = a) : csv a b = .str (SX.S [a]) := by
  unfold csv bad mgs
  rw [if_neg (fun z => by have z := of_decide_eq_true z; omega), if_neg h]
theorem csv_n {a b : Nat} (h : ¬ a = 45) (h2 : ¬ (b = 45 ∨ b = a)) : csv a b = .non := by
  unfold csv bad mgs
  rw [if_pos (decide_eq_true ⟨h, fun z => h2 (.inl z), fun z => h2 (.inr z)⟩)]
theorem mns : Str.ofString "-" = SX.S [45] := by decide +kernel
theorem dM (a : Nat) : decide (V.str (SX.S [a]) = V.str (Str.ofString "-")) = decide (a = 45) := by
  rw [mns]
  exact dS1 a 45
theorem inM (a b : Nat) : inV (.str (SX.S [b])) [.str (Str.ofString "-"), .str (SX.S [a])] = decide (b = 45 ∨ b = a) := by
  apply Bool.eq_iff_iff.mpr
  rw [mns, show ([.str (SX.S [45]), .str (SX.S [a])] : List V) = ([SX.S [45], SX.S [a]] : List Str).map V.str from rfl, in_strs, decide_eq_true_iff, List.mem_cons, List.mem_singleton]
  exact ⟨fun z => z.imp S1_inj S1_inj, fun z => z.imp (fun e => by rw [e]) (fun e => by rw [e])⟩
def spCs : Sp := fun vs H Q _ => ∃ a b : Nat, vs = [.str (SX.S [a]), .str (SX.S [b])] ∧ ∀ H', Same H H' → Q (csv a b) H'
theorem ok_common_sign (B : Bl mg) (L : LL K mg a1 a2 a3 a4 a5 a6 a7 a8 a9 a10 a11 l1 l2 l3 l4 l5 l6 l7 l8 l9 l10 l11 E_NoPlace I_NoPlace E_BadRow E_NoDeed E_NoWire E_TooMuch E_Unfit) : FnOk P w K mg base CX0 1 a3 l3 ["sign", "other_sign"] spCs := by
  refine L.F_common_sign.ok sc_common_sign (fun vs H Q E h => ?_) (fun cdv A outer s H vs Q E hr h => ?_)
  · obtain ⟨a, b, rfl, _⟩ := h
    rfl
  obtain ⟨a, b, rfl, q⟩ := h
  refine ⟨_, (pss_cons (ps_if (pt_cmpR op_eq (pv 0) pe_str (nomark _)) (pss_one (ps_ret (pv 1))) pss_nil)
    (pss_one (ps_ret (pe_ifExp (pt_cmpR op_in_seq (pv 1) (pe_tup (pa_cons pe_str (pa_cons (pv 0) pa_nil))) (by rfl)) (pv 0) pe_non)))), ?_⟩
  refine ⟨_, rfl, rfl, _, rfl, ite2 (fun c => ?_) (fun c => ?_)⟩
  · have e : a = 45 := of_decide_eq_true ((dM a).symm.trans c)
    subst e
    have q1 := q H (Same.refl _)
    rw [csv_m] at q1
    exact ⟨_, rfl, q1⟩
  have e : ¬ a = 45 := of_decide_eq_false ((dM a).symm.trans (Bool.eq_false_iff.mpr c))
  refine ⟨_, rfl, _, rfl, (by show 2 ≤ sizeLine; decide), fun U nU => ?_⟩
  have sU := same_upd (o := .tup [.str (Str.ofString "-"), .str (SX.S [a])]) nU
  refine ⟨U, _, rfl, .inr (.inl (.inl upd_same)), rfl, rfl, ?_⟩
  refine ⟨_, rfl, ite2 (fun c2 => ?_) (fun c2 => ?_)⟩
  · have e2 : b = 45 ∨ b = a := of_decide_eq_true ((inM a b).symm.trans c2)
    have q1 := q _ sU
    rw [csv_y e e2] at q1
    exact ⟨_, rfl, q1⟩
  · have e2 : ¬ (b = 45 ∨ b = a) := of_decide_eq_false ((inM a b).symm.trans (Bool.eq_false_iff.mpr c2))
    have q1 := q _ sU
    rw [csv_n e e2] at q1
    exact q1
def spCm : Sp := fun vs H Q _ => ∃ (x y : List Nat), vs = [.str (SX.S x), .str (SX.S y)] ∧ x.length = y.length ∧ y.length ≤ 900 ∧ ∀ H', Same H H' → Q (cmV x y) H'
theorem ok_common (B : Bl mg) (L : LL K mg a1 a2 a3 a4 a5 a6 a7 a8 a9 a10 a11 l1 l2 l3 l4 l5 l6 l7 l8 l9 l10 l11 E_NoPlace I_NoPlace E_BadRow E_NoDeed E_NoWire E_TooMuch E_Unfit) : FnOk P w K mg base CX0 2 a2 l2 ["one", "other"] spCm := by
  have G_common_sign : FnOk P w K mg base CX0 1 a3 l3 ["sign", "other_sign"] spCs := (ok_common_sign B L).mono (by decide)
  refine L.F_common.ok sc_common (fun vs H Q E h => ?_) (fun cdv A outer s H vs Q E hr h => ?_)
  · obtain ⟨x, y, rfl, _⟩ := h
    rfl
  obtain ⟨x, y, rfl, hl, hz, q⟩ := h
  refine ⟨_, (pss_cons (ps_if (pt_cmpR op_ne (pe_callB call_len_str (by rfl) B.len PySem.boot_len (pa_cons (pv 0) pa_nil)) (pe_callB call_len_str (by rfl) B.len PySem.boot_len (pa_cons (pv 1) pa_nil)) (nomark _)) (pss_one (ps_ret pe_non)) pss_nil)
    (pss_cons (ps_setLc (i := 2) (own := [("sign", 3), ("other_sign", 4)]) (g := gTup K 2 (gCons (gName 3) (gCons (gName 4) gNil))) (by rfl) sc_common.nd rfl rfl (sw_true rfl rfl rfl (by decide +kernel)) (pi_zx (by rfl) B.zip (pa_cons (pv 0) (pa_cons (pv 1) pa_nil))) (blkOk_by (own := [("sign", 3), ("other_sign", 4)]) (N := ["one", "other", "signs", "sign", "other_sign"]) (sc := defScope s_common) (by decide +kernel)) (fun _ _ _ _ _ => pg_tup rfl (pgs_cons (pg_name (i := 3) sc_common.nd rfl (Or.inl rfl) (.inr rfl)) (pgs_cons (pg_name (i := 4) sc_common.nd rfl (Or.inl rfl) (.inr rfl)) pgs_nil))) (fun _ _ _ _ _ => pts_nil) (fun _ _ _ _ _ => (pe_call G_common_sign hr (by rfl) L.m_common_sign L.F_common_sign.kp L.b_common_sign .nil pass0 (pa_cons (pv 3) (pa_cons (pv 4) pa_nil)))))
    (pss_one (ps_ret (pe_ifExp (pt_cmpR op_in_seq pe_non (pv 2) (by rfl)) pe_non (pe_bm PySem.F.plainAttrs_str PySem.F.slot_str_join PySem.F.type_str_join mt_join pe_str (pa_cons (pv 2) pa_nil))))))), ?_⟩
  have zx : (SX.S x).length ≤ sizeLine := by
    rw [SX.S_len]
    exact Nat.le_of_lt (small1000 (by omega))
  have zy : (SX.S y).length ≤ sizeLine := by
    rw [SX.S_len]
    exact Nat.le_of_lt (small1000 (by omega))
  refine ⟨_, rfl, _, rfl, zx, _, rfl, _, rfl, zy, rfl, _, rfl, iteNS (congrArg V.int ?_) ?_⟩
  · rw [SX.S_len, SX.S_len, hl]
  refine ⟨_, rfl, _, rfl, SX.S x, SX.S y, rfl, fun D nD => ?_⟩
  refine lc_it (walk_zS (x := x) (y := y) hl rfl) (fun i H3 => Same H H3 ∧ H3 D = some (.lst ((List.zipWith csv x y).take i))) ⟨same_upd nD, upd_same⟩ (fun _ _ _ _ => trivial) ?_ ?_
  · rintro i v H3 H4 hi ⟨s3, eD⟩ ⟨T, u1, u2, rfl, nT, rfl, e1, e2⟩
    obtain ⟨c1, f1, rfl⟩ := Option.map_eq_some_iff.mp e1
    obtain ⟨c2, f2, rfl⟩ := Option.map_eq_some_iff.mp e2
    have sT := same_upd (o := .tup [.str (SX.S [c1]), .str (SX.S [c2])]) nT
    refine ⟨T, _, rfl, .inl (.inl upd_same), rfl, _, _, rfl, _, _, rfl, rfl, rfl, ?_⟩
    refine yesT ?_
    refine ⟨_, rfl, _, rfl, c1, c2, rfl, fun H5 s5 => ?_⟩
    have s45 := sT.trans s5
    refine ⟨_, s45 _ _ eD, ?_, fun b u e => ?_, ?_⟩
    · rw [List.length_take]
      exact Nat.lt_of_le_of_lt (Nat.min_le_left _ _) (small1000 (by omega))
    · rw [upd_ne (ne_of_none e nD)]
      exact s45 _ _ (s3 _ _ e)
    · rw [upd_same, zw_take csv f1 f2]
  rintro H3 ⟨s3, eD⟩
  rw [List.take_of_length_le (by rw [zw_len csv hl rfl]; exact Nat.le_refl _)] at eD
  refine ⟨_, rfl, D, _, rfl, .inl (SqL.of eD), rfl, flat_cs x y, ?_⟩
  have q1 := q _ s3
  unfold cmV at q1
  refine ⟨_, rfl, ite2 (fun c => ?_) (fun c => ?_)⟩
  · rw [if_pos ((in_non x y).symm.trans c)] at q1
    exact q1
  · have e : clash x y = false := (in_non x y).symm.trans (Bool.eq_false_iff.mpr c)
    rw [if_neg (by rw [e]; decide)] at q1
    have lm : (meet x y).length ≤ 900 := by
      unfold meet
      rw [zw_len mgs hl rfl]
      exact hz
    rw [cs_meet x y e] at eD
    refine ⟨rfl, _, rfl, _, D, _, rfl, rfl, .inl (SqL.of eD), join_z _ (by omega), ?_⟩
    rw [join_1]
    exact q1
def BtL (l : List Nat) : Prop := ∀ c ∈ l, c = 48 ∨ c = 49
def SgL (l : List Nat) : Prop := ∀ c ∈ l, c = 45 ∨ c = 48 ∨ c = 49
theorem meet_bits : ∀ (x y : List Nat), x.length = y.length → BtL x → meet x y = x
  | [], _, _, _ => rfl
  | a :: x, [], h, _ => by cases h
  | a :: x, b :: y, h, hb => by
    show mgs a b :: meet x y = _
    rw [meet_bits x y (Nat.succ.inj h) (fun c hc => hb c (List.mem_cons_of_mem _ hc))]
    unfold mgs
    rw [if_neg (by have := hb a List.mem_cons_self; omega)]
def spIn : Sp := fun vs H Q _ => ∃ (x y : List Nat), vs = [.str (SX.S x), .str (SX.S y)] ∧ x.length = y.length ∧ y.length ≤ 900 ∧ BtL x ∧ ∀ H', Same H H' → Q (.bl (!clash x y)) H'
theorem ok_lies_in (B : Bl mg) (L : LL K mg a1 a2 a3 a4 a5 a6 a7 a8 a9 a10 a11 l1 l2 l3 l4 l5 l6 l7 l8 l9 l10 l11 E_NoPlace I_NoPlace E_BadRow E_NoDeed E_NoWire E_TooMuch E_Unfit) : FnOk P w K mg base CX0 3 a1 l1 ["bits", "cube"] spIn := by
  have G_common : FnOk P w K mg base CX0 2 a2 l2 ["one", "other"] spCm := (ok_common B L).mono (by decide)
  refine L.F_lies_in.ok sc_lies_in (fun vs H Q E h => ?_) (fun cdv A outer s H vs Q E hr h => ?_)
  · obtain ⟨x, y, rfl, _⟩ := h
    rfl
  obtain ⟨x, y, rfl, hl, hz, hb, q⟩ := h
  refine ⟨_, (pss_one (ps_ret (pe_cmpR op_eq (pe_call G_common hr (by rfl) L.m_common L.F_common.kp L.b_common .nil pass0 (pa_cons (pv 0) (pa_cons (pv 1) pa_nil))) (pv 0) (nomark _)))), ?_⟩
  refine ⟨_, rfl, _, rfl, x, y, rfl, hl, hz, fun H1 s1 => ⟨_, rfl, ?_⟩⟩
  have q1 := q _ s1
  unfold cmV
  by_cases c : clash x y = true
  · rw [if_pos c]
    rw [c] at q1
    exact ⟨rfl, q1⟩
  · rw [if_neg c, meet_bits x y hl hb]
    rw [Bool.eq_false_iff.mpr c] at q1
    refine ⟨rfl, ?_⟩
    rw [decide_eq_true rfl]
    exact q1
theorem at4 {r : Int} (h0 : 0 ≤ r) (h1 : r < 4) : ∃ c, atI (Str.ofString "01--").cps.toList r = some c ∧ (c = 45 ∨ c = 48 ∨ c = 49) := by
  have : r = 0 ∨ r = 1 ∨ r = 2 ∨ r = 3 := by omega
  rcases this with z | z | z | z <;> subst z
  · exact ⟨48, by decide +kernel, by decide⟩
  · exact ⟨49, by decide +kernel, by decide⟩
  · exact ⟨45, by decide +kernel, by decide⟩
  · exact ⟨45, by decide +kernel, by decide⟩
theorem at3 {r : Int} (h0 : 0 ≤ r) (h1 : r < 3) : ∃ c, atI (Str.ofString "01-").cps.toList r = some c ∧ (c = 45 ∨ c = 48 ∨ c = 49) := by
  have : r = 0 ∨ r = 1 ∨ r = 2 := by omega
  rcases this with z | z | z <;> subst z
  · exact ⟨48, by decide +kernel, by decide⟩
  · exact ⟨49, by decide +kernel, by decide⟩
  · exact ⟨45, by decide +kernel, by decide⟩
theorem at2 {r : Int} (h0 : 0 ≤ r) (h1 : r < 2) : ∃ c, atI (Str.ofString "01").cps.toList r = some c ∧ (c = 48 ∨ c = 49) := by
  have : r = 0 ∨ r = 1 := by omega
  rcases this with z | z <;> subst z
  · exact ⟨48, by decide +kernel, by decide⟩
  · exact ⟨49, by decide +kernel, by decide⟩
theorem ln4 : (Str.ofString "01--").length ≤ sizeLine := by decide +kernel
theorem ln3 : (Str.ofString "01-").length ≤ sizeLine := by decide +kernel
theorem ln2 : (Str.ofString "01").length ≤ sizeLine := by decide +kernel
theorem sg_snoc {l : List Nat} {c : Nat} (h : SgL l) (hc : c = 45 ∨ c = 48 ∨ c = 49) : SgL (l ++ [c]) := fun d hd => by
  rcases List.mem_append.mp hd with z | z
  · exact h d z
  · rw [List.mem_singleton.mp z]
    exact hc
theorem bt_snoc {l : List Nat} {c : Nat} (h : BtL l) (hc : c = 48 ∨ c = 49) : BtL (l ++ [c]) := fun d hd => by
  rcases List.mem_append.mp hd with z | z
  · exact h d z
  · rw [List.mem_singleton.mp z]
    exact hc
def s1s (l : List Nat) : List V := (l.map fun c => SX.S [c]).map V.str
theorem s1s_snoc (l : List Nat) (c : Nat) : s1s l ++ [.str (SX.S [c])] = s1s (l ++ [c]) := by
  unfold s1s
  rw [List.map_append, List.map_append]
  rfl
theorem s1s_len (l : List Nat) : (s1s l).length = l.length := by
  unfold s1s
  rw [List.length_map, List.length_map]
/-! ### enumerate of a text: new pairs of place and sign -/
def Itex (x : Str) : It :=
  ⟨fun i _ => i < x.cps.size,
   fun i H v H' => ∃ T c, v = .ref T ∧ H T = none ∧ H' = upd H T (.tup [.int (i : Nat), .str ⟨#[c]⟩]) ∧ x.cps[i]? = some c,
   fun i _ => i = x.cps.size⟩
def StEx (x : Str) (tx : Tok) (e it : Addr) (i : Nat) (h : Heap) : Prop := (∃ old, IsEnum h e it ((i : Nat) : Int) old) ∧ h.IsStrIter it (strIterType x) x tx i
theorem turn_ex {P : Program} {w : World} {K : PySem.W.Frag} {elts : List Expr} {kk : Nat} {tpos : Pos} {x : Str} {tx : Tok} {e it : Addr} (ne : e ≠ it) :
    Turn P w K (.Tuple elts kk tpos) (Itex x) [e, it] e (StEx x tx e it) where
  mem := List.mem_cons_self
  obj := by
    rintro i h ⟨⟨old, a1⟩, ⟨o1, e1, _, d1⟩⟩ c hm
    simp only [List.mem_cons, List.not_mem_nil, or_false] at hm
    rcases hm with z | z <;> subst z
    · exact ⟨_, a1, (fun _ q => nomatch q)⟩
    · exact ⟨o1, e1, (fun _ q => by rw [d1] at q; cases q)⟩
  keep := by
    rintro i h h' ⟨⟨old, a1⟩, s1⟩ k
    obtain ⟨o1, e1, r1⟩ := s1
    exact ⟨⟨old, k e (by simp) _ a1⟩, ⟨o1, k it (by simp) _ e1, r1⟩⟩
  item := by
    intro X hP hw hK hc i pins s σ H E I hf st hg
    subst hP hw hK
    have W := WalksT.enumerateD (prog := X.prog) (w := X.w) (A := X.A) (Draws.text (A := X.A.in1) (I.ok.hd hc) it x tx) e ne (by simpa using ne) (by simp)
    refine W.item i s _ E hg st fun T vals h1 tk pt hT isT mid k1 => ?_
    obtain ⟨t0, u, ⟨c, t1, hc1, rfl⟩, rfl⟩ := pt
    refine ⟨.ref T, rfl, W.go elts kk tpos i T { s with heap := h1, toks := tk } _ E mid fun h2 st2 k2 => ?_⟩
    have nT : T ∉ [e, it] := W.apart i T h1 mid
    have isT2 : h2.IsTuple T #[.int ((i : Nat) : Int) t0, .str ⟨#[c]⟩ t1] := isT.at fun o z => k2 T o nT z
    have new : ObjOk X.prog X.w (upd H T (.tup [.int (i : Nat), .str ⟨#[c]⟩])) h2 T (.tup [.int (i : Nat), .str ⟨#[c]⟩]) :=
      ⟨by show 2 ≤ sizeLine; decide, [.int ((i : Nat) : Int) t0, .str ⟨#[c]⟩ t1], .cons ⟨t0, rfl⟩ (.cons ⟨t1, rfl⟩ .nil), isT2⟩
    have I2 : Inv X pins σ (upd H T (.tup [.int (i : Nat), .str ⟨#[c]⟩])) { s with heap := h2, toks := tk } :=
      I.turnedNew (t' := tk) (ch := [e, it]) (fun b o nb z => k2 b o nb (k1 b o nb z)) hf hT new
    refine ⟨.ref T, _, I2, rfl, ⟨T, c, rfl, I.hok.fresh hT, rfl, hc1⟩, st2, fun b hb => ?_⟩
    have nb : b ≠ T := by
      obtain ⟨⟨old, a1⟩, ⟨o1, e1, _⟩⟩ := st
      have lt : b < s.heap.objs.size := by
        simp only [List.mem_cons, List.not_mem_nil, or_false] at hb
        rcases hb with q | q <;> subst q
        · exact Heap.lt_size a1
        · exact Heap.lt_size e1
      exact Nat.ne_of_lt (Nat.lt_of_lt_of_le lt hT)
    rw [upd_ne nb]
    exact (hf b hb).1
  done := by
    intro X hP hw hK hc i pins s σ H E I hf st hg
    subst hP hw hK
    have W := WalksT.enumerateD (prog := X.prog) (w := X.w) (A := X.A) (Draws.text (A := X.A.in1) (I.ok.hd hc) it x tx) e ne (by simpa using ne) (by simp)
    have hg' : i = x.cps.size := hg
    subst hg'
    exact W.done s _ E st fun h1 tk k1 => ⟨rfl, I.turnedL (t' := tk) (ch := [e, it]) (fun b o nb z => k1 b o nb z) hf⟩
  self := fun A i s Q E st h => by
    obtain ⟨⟨old, a1⟩, _⟩ := st
    exact wpAny_pyIter_enum a1 h
def iEx (ta : TA) : TI := fun σ H R => ta σ H fun vs H1 => ∃ x, vs = [.str x] ∧ R (Itex x) H1
theorem pi_ex {X : Cx} {e : Expr} {ta : TA} {p pos tpos : Pos} {elts : List Expr} {kk : Nat} (hg : Gl X "enumerate") (hm : X.mg "enumerate" = none) (ha : PA X [e] ta) (hs : starEach [e] X.env = [(false, eval e X.env)] := by rfl) :
    PI X (.Tuple elts kk tpos) (.Call (.Name "enumerate" p) [e] [] pos) (iEx ta) := by
  constructor
  intro pins s σ H R I h
  refine Call_ (ld_blt I hg hm boot_enumerate (PyProof.Rows.callWith_type1 (thn (ha.run pos pins s σ H _ I h) fun us s1 hh => ?_) hs rfl))
  obtain ⟨vs, H1, I1, r1, x, rfl, q⟩ := hh
  match us, r1 with
  | [v1], .cons ⟨tx, hx⟩ .nil =>
    subst hx
    refine call_enumerate_str fun h' a1 a2 _ k => wpAny_pyIter_enum a1 ?_
    have I2 : Inv X pins σ H1 { s1 with heap := h' } := I1.kept (t' := s1.toks) k
    have fr : ∀ b ∈ [s1.heap.objs.size + 1, s1.heap.objs.size], FpOk X pins H1 b := fun b hb => by
      have le : s1.heap.objs.size ≤ b := by
        simp only [List.mem_cons, List.not_mem_nil, or_false] at hb
        rcases hb with z | z <;> rw [z]
        · exact Nat.le_add_right _ _
        · exact Nat.le_refl _
      exact I1.fpOk le (I1.hok.fresh le)
    exact ⟨s1.heap.objs.size + 1, [s1.heap.objs.size + 1, s1.heap.objs.size], _, _, H1, rfl, I2, turn_ex (Nat.succ_ne_self _), ⟨⟨_, a1⟩, a2⟩, fr, q⟩
theorem walk_ex {x : List Nat} : Walk (Itex (SX.S x)) x.length (fun _ => True) (YPair (fun i => some (.int (i : Nat))) (fun i => (x[i]?).map fun c => .str (SX.S [c]))) := by
  refine ⟨fun i _ hi _ => by show i < x.toArray.size; rw [List.size_toArray]; exact hi, fun _ _ => by show _ = x.toArray.size; rw [List.size_toArray], fun i H v H' _ _ z => ?_⟩
  obtain ⟨T, c, h1, h2, h3, h4⟩ := z
  refine ⟨T, _, _, h1, h2, h3, rfl, ?_⟩
  have h5 : x[i]? = some c := by
    rw [← h4]
    show _ = x.toArray[i]?
    rw [List.getElem?_toArray]
  simp only [h5]
  rfl
end
section
variable {P : Program} {w : World} {K : PySem.W.Frag} {mg : Str → Option Value} {base : Heap}
variable {a1 a2 a3 a4 a5 a6 a7 a8 a9 a10 a11 : Addr} {l1 l2 l3 l4 l5 l6 l7 l8 l9 l10 l11 : FuncData} {E_NoPlace I_NoPlace E_BadRow E_NoDeed E_NoWire E_TooMuch E_Unfit : Addr}
/-! ### a cube split -/
theorem S_tl (x : List Nat) : (SX.S x).cps.toList = x := rfl
theorem cut_to (x : List Nat) (p : Nat) (h : p ≤ x.length) : cutS (SX.S x) none (some (p : Int)) = SX.S (x.take p) := by
  unfold cutS
  rw [S_tl, SX.S_len, HT.sIx_none, HT.sIx_nat, Nat.min_eq_left h, List.drop_zero, Nat.sub_zero]
theorem cut_from (x : List Nat) (p : Nat) (h : p ≤ x.length) : cutS (SX.S x) (some (p : Int)) none = SX.S (x.drop p) := by
  unfold cutS
  rw [S_tl, SX.S_len, HT.sIx_none, HT.sIx_nat, Nat.min_eq_left h, List.take_of_length_le (by rw [List.length_drop]; exact Nat.le_refl _)]
theorem zS {x : List Nat} (h : x.length ≤ 950) : (SX.S x).length ≤ sizeLine := by
  rw [SX.S_len]
  exact Nat.le_of_lt (small1000 (by omega))
theorem set_cut {x : List Nat} {p : Nat} (c : Nat) (h : p < x.length) : x.take p ++ c :: x.drop (p + 1) = x.set p c := by
  rw [List.set_eq_take_append_cons_drop, if_pos h]
theorem nul : Str.ofString "0" = SX.S [48] := by decide +kernel
theorem eins : Str.ofString "1" = SX.S [49] := by decide +kernel
theorem E_cat (x : Str) : Str.empty ++ x = x := by
  show (⟨#[] ++ x.cps⟩ : Str) = x
  rw [Array.empty_append]
theorem at_S {x : List Nat} {p c : Nat} (h : x[p]? = some c) : atI (SX.S x).cps.toList (p : Int) = some c := atI_nat h
def spSplit : Sp := fun vs H Q _ => ∃ (x : List Nat) (p : Nat), vs = [.str (SX.S x), .int (p : Int)] ∧ x[p]? = some 45 ∧ x.length ≤ 900 ∧
  ∀ t H', H t = none → Same H H' → H' t = some (.tup [.str (SX.S (x.set p 48)), .str (SX.S (x.set p 49))]) → Q (.ref t) H'
theorem ok_split (B : Bl mg) (L : LL K mg a1 a2 a3 a4 a5 a6 a7 a8 a9 a10 a11 l1 l2 l3 l4 l5 l6 l7 l8 l9 l10 l11 E_NoPlace I_NoPlace E_BadRow E_NoDeed E_NoWire E_TooMuch E_Unfit) : FnOk P w K mg base CX0 1 a4 l4 ["cube", "place"] spSplit := by
  refine L.F_split.ok sc_split (fun vs H Q E h => ?_) (fun cdv A outer s H vs Q E hr h => ?_)
  · obtain ⟨x, p, rfl, _⟩ := h
    rfl
  obtain ⟨x, p, rfl, hp, hl, q⟩ := h
  refine ⟨_, (pss_cons (ps_if (PW.pt (pw_or (pt_not (pt_chain op_le op_lt pe_int (pv 1) (pe_callB call_len_str (by rfl) B.len PySem.boot_len (pa_cons (pv 0) pa_nil)))) (pw_or1 (pt_cmpR op_ne (pe_ix ix_str (pv 0) (pv 1) (fun _ _ => rfl)) pe_str (nomark _))))) (pss_one ps_never) pss_nil)
    (pss_cons (ps_set (i := 2) sc_split.nd rfl (.inl rfl) (pe_slice sl_str (pv 0) po_none (po_some (pv 1))))
    (pss_cons (ps_set (i := 3) sc_split.nd rfl (.inl rfl) (pe_slice sl_str (pv 0) (po_some (pe_op op_add (pv 1) pe_int)) po_none))
    (pss_one (ps_ret (pe_tup (pa_cons (pe_joined (.cons (pe_fmt (pv 2)) (.cons pe_str (.cons (pe_fmt (pv 3)) .nil)))) (pa_cons (pe_joined (.cons (pe_fmt (pv 2)) (.cons pe_str (.cons (pe_fmt (pv 3)) .nil)))) pa_nil)))))))), ?_⟩
  have pl : p < x.length := (List.getElem?_eq_some_iff.mp hp).1
  have zx : (SX.S x).length ≤ sizeLine := zS (by omega)
  refine ifS_ev (fun r H' => r = false ∧ H' = H) (fun Q' q' => ?_) (fun H' z => absurd z.1 (by decide)) ?_
  · refine ⟨_, rfl, _, _, rfl, rfl, _, rfl, ite2 (fun c => ?_) (fun c => absurd (decide_eq_true (show (0 : Int) ≤ (p : Int) by omega)) c)⟩
    refine ⟨_, rfl, _, rfl, zx, _, _, rfl, rfl, _, rfl, ?_⟩
    rw [SX.S_len, decide_eq_true (show (p : Int) < (x.length : Nat) by omega)]
    refine iteF ?_
    refine ⟨_, rfl, _, rfl, _, _, 45, rfl, rfl, zx, at_S hp, rfl, _, rfl, ?_⟩
    rw [show (⟨#[45]⟩ : Str) = SX.S [45] from rfl, ← mns, decide_eq_true rfl]
    exact q' _ _ ⟨rfl, rfl⟩
  rintro H1 ⟨_, rfl⟩
  dsimp only [tNext]
  refine ⟨_, rfl, _, rfl, p, rfl, _, rfl, zx, ?_⟩
  rw [cut_to x p (by omega)]
  try simp only [L2.start, List.map_cons, List.map_nil, List.length_cons, List.length_nil, List.replicate_succ, List.replicate_zero, List.cons_append, List.nil_append, List.set_cons_succ, List.set_cons_zero, Nat.reduceAdd, Nat.reduceSub, Nat.zero_add]
  refine ⟨_, rfl, _, rfl, _, _, rfl, rfl, (p : Int) + 1, rfl, _, rfl, zx, ?_⟩
  rw [show ((p : Int) + 1) = ((p + 1 : Nat) : Int) by omega, cut_from x (p + 1) (by omega)]
  try simp only [L2.start, List.map_cons, List.map_nil, List.length_cons, List.length_nil, List.replicate_succ, List.replicate_zero, List.cons_append, List.nil_append, List.set_cons_succ, List.set_cons_zero, Nat.reduceAdd, Nat.reduceSub, Nat.zero_add]
  have z1 : (SX.S (x.take p)).length ≤ sizeLine := zS (by rw [List.length_take]; omega)
  have z2 : (SX.S (x.drop (p + 1))).length ≤ sizeLine := zS (by rw [List.length_drop]; omega)
  have w0 : Str.empty ++ SX.S (x.take p) ++ Str.ofString "0" ++ SX.S (x.drop (p + 1)) = SX.S (x.set p 48) := by
    rw [E_cat, nul, SX.S_cat, SX.S_cat, List.append_assoc]
    exact congrArg SX.S (set_cut 48 pl)
  have w1 : Str.empty ++ SX.S (x.take p) ++ Str.ofString "1" ++ SX.S (x.drop (p + 1)) = SX.S (x.set p 49) := by
    rw [E_cat, eins, SX.S_cat, SX.S_cat, List.append_assoc]
    exact congrArg SX.S (set_cut 49 pl)
  have l1 : (Str.empty ++ SX.S (x.take p)).length ≤ sizeLine := by rw [E_cat]; exact z1
  have l2 : ∀ c, (Str.empty ++ SX.S (x.take p) ++ SX.S [c]).length ≤ sizeLine := fun c => by
    rw [E_cat, SX.S_cat]
    exact zS (by rw [List.length_append, List.length_take]; show min p x.length + 1 ≤ 950; omega)
  have l3 : ∀ c, (SX.S (x.set p c)).length ≤ sizeLine := fun c => zS (by rw [List.length_set]; omega)
  refine ⟨_, rfl, .inl ⟨_, rfl, z1, _, rfl, l1, _, rfl, (by rw [nul]; exact l2 48), _, rfl, .inl ⟨_, rfl, z2, _, rfl, (by rw [w0]; exact l3 48), ?_⟩⟩⟩
  refine ⟨_, rfl, .inl ⟨_, rfl, z1, _, rfl, l1, _, rfl, (by rw [eins]; exact l2 49), _, rfl, .inl ⟨_, rfl, z2, _, rfl, (by rw [w1]; exact l3 49), ?_⟩⟩⟩
  refine ⟨(by show 2 ≤ sizeLine; decide), fun t nt => ?_⟩
  refine q t _ nt (same_upd nt) ?_
  rw [upd_same, w0, w1]
/-! ### refused -/
def spSplitX (CT : Addr) : Sp := fun vs H _ E => ∃ (x : List Nat) (p : Int), vs = [.str (SX.S x), .int p] ∧ x.length ≤ 900 ∧ (∀ k : Nat, p = k → ¬ x[k]? = some 45) ∧
  ∀ d, H d = none → E (.ref CT) (some d) (upd H d (.xd [(("what" : Str), .int p)]))
theorem ok_splitX (B : Bl mg) (L : LL K mg a1 a2 a3 a4 a5 a6 a7 a8 a9 a10 a11 l1 l2 l3 l4 l5 l6 l7 l8 l9 l10 l11 E_NoPlace I_NoPlace E_BadRow E_NoDeed E_NoWire E_TooMuch E_Unfit) : FnOk P w K mg base (L2.CX P w) 3 a4 l4 ["cube", "place"] (spSplitX E_NoPlace) := by
  refine L.F_split.okX sc_split (fun vs H Q E h => ?_) (fun cdv A outer s H vs Q E hr h => ?_)
  · obtain ⟨x, p, rfl, _⟩ := h
    rfl
  obtain ⟨x, p, rfl, hl, hn, q⟩ := h
  refine ⟨_, (pss_cons (ps_if (PW.pt (pw_or (pt_not (pt_chain op_le op_lt pe_int (pv 1) (pe_callB call_len_str (by rfl) B.len PySem.boot_len (pa_cons (pv 0) pa_nil)))) (pw_or1 (pt_cmpR op_ne (pe_ix ix_str (pv 0) (pv 1) (fun _ _ => rfl)) pe_str (nomark _))))) (pss_one (ps_raise rfl (takes_of rfl rfl rfl rfl) (pmk_what L.R_NoPlace hr (by decide) L.g_NoPlace rfl (pa_cons (pv 1) pa_nil)))) pss_nil)
    (pss_cons (ps_set (i := 2) sc_split.nd rfl (.inl rfl) (pe_slice sl_str (pv 0) po_none (po_some (pv 1))))
    (pss_cons (ps_set (i := 3) sc_split.nd rfl (.inl rfl) (pe_slice sl_str (pv 0) (po_some (pe_op op_add (pv 1) pe_int)) po_none))
    (pss_one (ps_ret (pe_tup (pa_cons (pe_joined (.cons (pe_fmt (pv 2)) (.cons pe_str (.cons (pe_fmt (pv 3)) .nil)))) (pa_cons (pe_joined (.cons (pe_fmt (pv 2)) (.cons pe_str (.cons (pe_fmt (pv 3)) .nil)))) pa_nil)))))))), ?_⟩
  have zx : (SX.S x).length ≤ sizeLine := zS (by omega)
  refine ifS_ev (fun r H' => r = true ∧ H' = H) (fun Q' q' => ?_) ?_ (fun H' z => absurd z.1 (by decide))
  · refine ⟨_, rfl, _, _, rfl, rfl, _, rfl, ite2 (fun c => ?_) (fun c => ?_)⟩
    · have c0 : (0 : Int) ≤ p := of_decide_eq_true c
      obtain ⟨k, rfl⟩ := Int.eq_ofNat_of_zero_le c0
      refine ⟨_, rfl, _, rfl, zx, _, _, rfl, rfl, _, rfl, ?_⟩
      rw [SX.S_len]
      by_cases c1 : k < x.length
      · rw [decide_eq_true (show (k : Int) < (x.length : Nat) by omega)]
        refine iteF ?_
        have hg : x[k]? = some (x[k]) := List.getElem?_eq_getElem c1
        refine ⟨_, rfl, _, rfl, _, _, x[k], rfl, rfl, zx, at_S hg, rfl, _, rfl, ?_⟩
        rw [show (⟨#[x[k]]⟩ : Str) = SX.S [x[k]] from rfl, dM, decide_eq_false (fun z => hn k rfl (by rw [hg, z]))]
        exact q' _ _ ⟨rfl, rfl⟩
      · rw [decide_eq_false (show ¬ (k : Int) < (x.length : Nat) by omega)]
        exact iteT (q' _ _ ⟨rfl, rfl⟩)
    · exact ⟨_, rfl, iteT (q' _ _ ⟨rfl, rfl⟩)⟩
  rintro H1 ⟨_, rfl⟩
  exact ⟨_, rfl, _, rfl, q⟩
end
section
variable {P : Program} {w : World} {K : PySem.W.Frag} {mg : Str → Option Value} {base : Heap}
variable {a1 a2 a3 a4 a5 a6 a7 a8 a9 a10 a11 : Addr} {l1 l2 l3 l4 l5 l6 l7 l8 l9 l10 l11 : FuncData} {E_NoPlace I_NoPlace E_BadRow E_NoDeed E_NoWire E_TooMuch E_Unfit : Addr}
/-! ### parts of a cube -/
theorem clash_cons58 (a b : Nat) (x y : List Nat) : clash (a :: x) (b :: y) = (bad a b || clash x y) := rfl
theorem bad_r (a : Nat) : bad a 45 = false := decide_eq_false (fun z => z.2.1 rfl)
theorem bad_l (a : Nat) : bad 45 a = false := decide_eq_false (fun z => z.1 rfl)
theorem set_r (c : Nat) : ∀ (y x : List Nat) (p b : Nat), x[p]? = some 45 → y[p]? = some b → clash y (x.set p c) = (clash y x || bad b c)
  | _, [], _, _, h, _ => by cases h
  | [], _ :: _, _, _, _, h => by cases h
  | b :: y, a :: x, 0, b', hx, hy => by
    cases hx
    cases hy
    rw [List.set_cons_zero, clash_cons58, clash_cons58, bad_r, Bool.false_or, Bool.or_comm]
  | b :: y, a :: x, p + 1, b', hx, hy => by
    rw [List.set_cons_succ, clash_cons58, clash_cons58, set_r c y x p b' (by simpa using hx) (by simpa using hy), Bool.or_assoc]
theorem set_l (c : Nat) : ∀ (x y : List Nat) (p b : Nat), x[p]? = some 45 → y[p]? = some b → clash (x.set p c) y = (clash x y || bad c b)
  | [], _, _, _, h, _ => by cases h
  | _ :: _, [], _, _, _, h => by cases h
  | a :: x, b :: y, 0, b', hx, hy => by
    cases hx
    cases hy
    rw [List.set_cons_zero, clash_cons58, clash_cons58, bad_l, Bool.false_or, Bool.or_comm]
  | a :: x, b :: y, p + 1, b', hx, hy => by
    rw [List.set_cons_succ, clash_cons58, clash_cons58, set_l c x y p b' (by simpa using hx) (by simpa using hy), Bool.or_assoc]
theorem sg_set {l : List Nat} {n d : Nat} (h : SgL l) (hd : d = 45 ∨ d = 48 ∨ d = 49) : SgL (l.set n d) := fun c hc => by
  rcases List.mem_or_eq_of_mem_set hc with z | z
  · exact h c z
  · rw [z]
    exact hd
structure PIn (x : List Nat) (ps : List (List Nat)) : Prop where
  pos : 0 < ps.length
  each : ∀ p ∈ ps, p.length = x.length ∧ SgL p
  apart : ps.Pairwise (fun u v => clash v u = true)
  once : ∀ t, t.length = x.length → BtL t → ps.countP (fun p => !clash t p) = (if clash t x = true then 0 else 1)
theorem PIn.one {x : List Nat} (h : SgL x) : PIn x [x] := by
  refine ⟨Nat.one_pos, fun p hp => ?_, List.pairwise_singleton _ _, fun t _ _ => ?_⟩
  · rw [List.mem_singleton.mp hp]
    exact ⟨rfl, h⟩
  · rw [List.countP_cons, List.countP_nil]
    cases clash t x <;> rfl
theorem PIn.cut {x y : List Nat} {A B : List (List Nat)} {p : Nat} (h : PIn x (A ++ y :: B)) (hp : y[p]? = some 45) : PIn x (A ++ y.set p 48 :: y.set p 49 :: B) := by
  have hy := h.each y (List.mem_append.mpr (.inr List.mem_cons_self))
  have pl : p < y.length := (List.getElem?_eq_some_iff.mp hp).1
  have at_p : ∀ t : List Nat, t.length = x.length → ∃ b, t[p]? = some b := fun t e => ⟨_, List.getElem?_eq_getElem (by omega)⟩
  refine ⟨by rw [List.length_append, List.length_cons]; omega, fun q hq => ?_, ?_, fun t ht bt => ?_⟩
  · rcases List.mem_append.mp hq with z | z
    · exact h.each q (List.mem_append.mpr (.inl z))
    rcases List.mem_cons.mp z with z | z
    · subst z
      exact ⟨by rw [List.length_set]; exact hy.1, sg_set hy.2 (.inr (.inl rfl))⟩
    rcases List.mem_cons.mp z with z | z
    · subst z
      exact ⟨by rw [List.length_set]; exact hy.1, sg_set hy.2 (.inr (.inr rfl))⟩
    · exact h.each q (List.mem_append.mpr (.inr (List.mem_cons_of_mem _ z)))
  · obtain ⟨pA, pB, pc⟩ := List.pairwise_append.mp h.apart
    obtain ⟨p1, p2⟩ := List.pairwise_cons.mp pB
    refine List.pairwise_append.mpr ⟨pA, List.pairwise_cons.mpr ⟨fun v hv => ?_, List.pairwise_cons.mpr ⟨fun v hv => ?_, p2⟩⟩, fun a ha v hv => ?_⟩
    · rcases List.mem_cons.mp hv with z | z
      · subst z
        rw [set_l 49 y _ p 48 hp (by rw [List.getElem?_set_self pl]), show bad 49 48 = true from by decide, Bool.or_true]
      · obtain ⟨b, hb⟩ := at_p v (h.each v (List.mem_append.mpr (.inr (List.mem_cons_of_mem _ z)))).1
        rw [set_r 48 v y p b hp hb, p1 v z, Bool.true_or]
    · obtain ⟨b, hb⟩ := at_p v (h.each v (List.mem_append.mpr (.inr (List.mem_cons_of_mem _ hv)))).1
      rw [set_r 49 v y p b hp hb, p1 v hv, Bool.true_or]
    · have ya := pc a ha y List.mem_cons_self
      obtain ⟨b, hb⟩ := at_p a (h.each a (List.mem_append.mpr (.inl ha))).1
      rcases List.mem_cons.mp hv with z | z
      · subst z
        rw [set_l 48 y a p b hp hb, ya, Bool.true_or]
      rcases List.mem_cons.mp z with z | z
      · subst z
        rw [set_l 49 y a p b hp hb, ya, Bool.true_or]
      · exact pc a ha v (List.mem_cons_of_mem _ z)
  · rw [← h.once t ht bt]
    obtain ⟨b, hb⟩ := at_p t ht
    rw [List.countP_append, List.countP_append, List.countP_cons, List.countP_cons, List.countP_cons, set_r 48 t y p b hp hb, set_r 49 t y p b hp hb]
    rcases bt b (List.mem_of_getElem? hb) with z | z
    · subst z
      rw [show bad 48 48 = false from by decide, show bad 48 49 = true from by decide]
      cases clash t y <;> simp
    · subst z
      rw [show bad 49 48 = true from by decide, show bad 49 49 = false from by decide]
      cases clash t y <;> simp
/-! ### _law_told -/
theorem exm_cons {K : PySem.W.Frag} {cls c : Value} {r : List Value} {b d : Bool} (h : PySem.W.exmOne K cls c = some b) (g : PySem.W.exmAny K cls r = some d) : PySem.W.exmAny K cls (c :: r) = some (b || d) := by
  show (match PySem.W.exmOne K cls c, PySem.W.exmAny K cls r with | some b, some d => some (b || d) | _, _ => none) = _
  rw [h, g]
def cubs (ps : List (List Nat)) : List V := ps.map fun p => .str (SX.S p)
def spTold (K : PySem.W.Frag) : Sp := fun vs H Q _ => ∃ (x : List Nat) (p : Int), vs = [.str (SX.S x), .int p] ∧ x.length ≤ 900 ∧
  (∀ k : Nat, p = k → x[k]? = some 45 → ∀ t H', Same H H' → H' t = some (.tup [.str (SX.S (x.set k 48)), .str (SX.S (x.set k 49))]) → Q (.ref t) H') ∧
  ((∀ k : Nat, p = k → ¬ x[k]? = some 45) → ∀ H', Same H H' → Q (.int p) H')
theorem ok__law_told (B : Bl mg) (L : LL K mg a1 a2 a3 a4 a5 a6 a7 a8 a9 a10 a11 l1 l2 l3 l4 l5 l6 l7 l8 l9 l10 l11 E_NoPlace I_NoPlace E_BadRow E_NoDeed E_NoWire E_TooMuch E_Unfit) : FnOk P w K mg base CX0 10 a9 l9 ["_law_cube", "_law_place"] (spTold K) := by
  have G_U : FnOk P w K mg base (L2.CX P w) 9 a4 l4 ["cube", "place"] (fun vs H Q E => spSplit vs H Q E ∨ spSplitX E_NoPlace vs H Q E) := fn_or ((fn_lift (ok_split B L)).mono (by decide)) ((ok_splitX B L).mono (by decide))
  refine L.F__law_told.ok sc__law_told (fun vs H Q E h => ?_) (fun cdv A outer s H vs Q E hr h => ?_)
  · obtain ⟨x, p, rfl, _⟩ := h
    rfl
  obtain ⟨x, p, rfl, hl, q1, q2⟩ := h
  refine ⟨_, (pss_cons (ps_asg (pe_tup (pa_cons pe_non (pa_cons pe_non pa_nil))) (pg_tup (by rfl) (pgs_cons (pg_name (i := 2) sc__law_told.nd rfl (.inl rfl)) (pgs_cons (pg_name (i := 3) sc__law_told.nd rfl (.inl rfl)) pgs_nil))))
    (pss_cons (ps_try_keepT (cs := [.ref E_BadRow, .ref E_NoDeed, .ref E_NoPlace, .ref E_NoWire, .ref E_TooMuch, .ref E_Unfit]) (i := 4) rfl rfl rfl sc__law_told.nd rfl rfl (.cons ⟨rfl, by decide, Or.inl L.g_BadRow⟩ (.cons ⟨rfl, by decide, Or.inl L.g_NoDeed⟩ (.cons ⟨rfl, by decide, Or.inl L.g_NoPlace⟩ (.cons ⟨rfl, by decide, Or.inl L.g_NoWire⟩ (.cons ⟨rfl, by decide, Or.inl L.g_TooMuch⟩ (.cons ⟨rfl, by decide, Or.inl L.g_Unfit⟩ .nil)))))) (by show 6 ≤ 100; decide) (fun W pn xe tk _ => pss_one (ps_set (i := 2) sc__law_told.nd rfl (Or.inl rfl) (pe_callS G_U hr rfl L.m_split L.F_split.kp L.b_split (E := WE W) (fun σ => passAt tk σ) (pa_cons (pv 0) (pa_cons (pv 1) pa_nil))))) (fun a oe cls d pn hz hf => pss_one (ps_set (i := 3) sc__law_told.nd rfl (Or.inl rfl) (pv 4))))
    (pss_cons (ps_if (pt_cmpR op_isN (pv 3) pe_non (nomark _)) (pss_one (ps_ret (pv 2))) pss_nil)
    (pss_cons (ps_set (i := 5) sc__law_told.nd rfl (.inl rfl) (pe_and (pe_callB call_isW (by rfl) B.isinstance boot_isinstance (pa_cons (pv 3) (pa_cons (pe_glob (v := .ref E_NoPlace) rfl L.g_NoPlace rfl) pa_nil))) (pe_one (pe_callB call_isW (by rfl) B.isinstance boot_isinstance (pa_cons (pv 3) (pa_cons (pe_bltn (v := .ty "IndexError") (by rfl) L.z_IndexError (by decide +kernel) rfl) pa_nil))))))
    (pss_one (ps_ret (pe_ifExp (PW.pt (pw_and (pt_val (pv 5)) (pw_and1 (pt_not (pt_val (pe_callB call_isWT (by rfl) B.isinstance boot_isinstance (pa_cons (pv 3) (pa_cons (pe_tup (pa_cons (pe_glob (v := .ref E_NoWire) rfl L.g_NoWire rfl) (pa_cons (pe_glob (v := .ref E_NoDeed) rfl L.g_NoDeed rfl) (pa_cons (pe_glob (v := .ref E_Unfit) rfl L.g_Unfit rfl) pa_nil)))) pa_nil)))))))) (pe_what (pv 3)) pe_str))))))), ?_⟩
  refine ⟨(by show 2 ≤ sizeLine; decide), fun T nT => ?_⟩
  have sT := same_upd (o := .tup [.non, .non]) nT
  refine ⟨T, _, rfl, .inl (.inl upd_same), rfl, _, _, rfl, _, _, rfl, rfl, ?_⟩
  generalize upd H T (HO.tup [.non, .non]) = H1 at *
  try simp only [L2.start, List.map_cons, List.map_nil, List.length_cons, List.length_nil, List.replicate_succ, List.replicate_zero, List.cons_append, List.nil_append, List.set_cons_succ, List.set_cons_zero, Nat.reduceAdd, Nat.reduceSub, Nat.zero_add]
  by_cases hk : ∃ k : Nat, p = k ∧ x[k]? = some 45
  · obtain ⟨k, rfl, hx⟩ := hk
    refine ⟨_, rfl, _, rfl, .inl ⟨x, k, rfl, hx, hl, fun t H2 nt s2 et => ?_⟩⟩
    show gName 2 _ _ _ _
    try simp only [L2.start, List.map_cons, List.map_nil, List.length_cons, List.length_nil, List.replicate_succ, List.replicate_zero, List.cons_append, List.nil_append, List.set_cons_succ, List.set_cons_zero, Nat.reduceAdd, Nat.reduceSub, Nat.zero_add]
    refine ⟨_, rfl, rfl, _, rfl, iteT ?_⟩
    exact ⟨_, rfl, q1 k rfl hx t H2 (sT.trans s2) et⟩
  · have hn : ∀ k : Nat, p = k → ¬ x[k]? = some 45 := fun k e z => hk ⟨k, e, z⟩
    refine ⟨_, rfl, _, rfl, .inr ⟨x, p, rfl, hl, hn, fun d nd => ?_⟩⟩
    refine ⟨exm_cons L.y_NoPlace_BadRow (exm_cons L.y_NoPlace_NoDeed (exm_cons L.x_NoPlace (exm_cons L.y_NoPlace_NoWire (exm_cons L.y_NoPlace_TooMuch (exm_cons L.y_NoPlace_Unfit rfl))))), fun a' na => ?_⟩
    refine ⟨_, rfl, ?_⟩
    have nad : a' ≠ d := fun z => by
      rw [z, upd_same] at na
      cases na
    have ek : EkAt (upd (upd H1 d (.xd [(("what" : Str), .int p)])) a' (Exk a' (.ref E_NoPlace) (some d))) a' E_NoPlace (.int p) := ⟨d, upd_same, by rw [upd_ne nad.symm, upd_same]⟩
    have s3 : Same H1 (upd (upd H1 d (.xd [(("what" : Str), .int p)])) a' (Exk a' (.ref E_NoPlace) (some d))) := (same_upd nd).trans (same_upd na)
    dsimp only [gName]
    generalize upd (upd H1 d (HO.xd [(("what" : Str), V.int p)])) a' (Exk a' (.ref E_NoPlace) (some d)) = H3 at *
    try simp only [L2.start, List.map_cons, List.map_nil, List.length_cons, List.length_nil, List.replicate_succ, List.replicate_zero, List.cons_append, List.nil_append, List.set_cons_succ, List.set_cons_zero, Nat.reduceAdd, Nat.reduceSub, Nat.zero_add]
    have w3 := sT.trans s3
    refine ⟨_, rfl, rfl, _, rfl, iteF ?_⟩
    refine ⟨_, rfl, a', E_NoPlace, _, _, .ref E_NoPlace, true, rfl, L.R_NoPlace.toErrC, ek, .own _, L.q_NoPlace_NoPlace, ?_⟩
    refine ⟨_, rfl, ?_⟩
    refine ⟨_, rfl, a', E_NoPlace, _, _, .type "IndexError", true, rfl, L.R_NoPlace.toErrC, ek, .ty _, L.q_NoPlace_IndexError, ?_⟩
    dsimp only [gName]
    try simp only [L2.start, List.map_cons, List.map_nil, List.length_cons, List.length_nil, List.replicate_succ, List.replicate_zero, List.cons_append, List.nil_append, List.set_cons_succ, List.set_cons_zero, Nat.reduceAdd, Nat.reduceSub, Nat.zero_add]
    refine ⟨_, rfl, _, rfl, iteT ?_⟩
    refine ⟨_, rfl, (by show 3 ≤ sizeLine; decide), fun lo nlo => ?_⟩
    have slo := same_upd (o := .tup [.ref E_NoWire, .ref E_NoDeed, .ref E_Unfit]) nlo
    refine ⟨a', E_NoPlace, lo, _, _, _, false, rfl, L.R_NoPlace.toErrC, ⟨_, slo _ _ ek.choose_spec.1, slo _ _ ek.choose_spec.2⟩, upd_same, .cons (.own _) (.cons (.own _) (.cons (.own _) .nil)), ?_, _, rfl, iteT ?_⟩
    · exact kitAny_cons L.q_NoPlace_NoWire (fun _ => kitAny_cons L.q_NoPlace_NoDeed (fun _ => kitAny_cons L.q_NoPlace_Unfit (fun _ => rfl) (fun z => by cases z)) (fun z => by cases z)) (fun z => by cases z)
    refine ⟨_, rfl, a', E_NoPlace, _, rfl, L.R_NoPlace.toErrC, ⟨_, slo _ _ ek.choose_spec.1, slo _ _ ek.choose_spec.2⟩, ?_⟩
    exact q2 hn _ (w3.trans slo)
end
section
variable {P : Program} {w : World} {K : PySem.W.Frag} {mg : Str → Option Value} {base : Heap}
variable {a1 a2 a3 a4 a5 a6 a7 a8 a9 a10 a11 : Addr} {l1 l2 l3 l4 l5 l6 l7 l8 l9 l10 l11 : FuncData} {E_NoPlace I_NoPlace E_BadRow E_NoDeed E_NoWire E_TooMuch E_Unfit : Addr}
/-! ### _law_parted -/
theorem cutV_to (xs : List V) (p : Nat) (h : p ≤ xs.length) : cutV xs none (some (p : Int)) = xs.take p := by
  unfold cutV
  rw [HT.sIx_none, HT.sIx_nat, Nat.min_eq_left h, List.drop_zero, Nat.sub_zero]
theorem cutV_from (xs : List V) (p : Nat) (h : p ≤ xs.length) : cutV xs (some (p : Int)) none = xs.drop p := by
  unfold cutV
  rw [HT.sIx_none, HT.sIx_nat, Nat.min_eq_left h, List.take_of_length_le (by rw [List.length_drop]; exact Nat.le_refl _)]
theorem cubs_len (ps : List (List Nat)) : (cubs ps).length = ps.length := List.length_map _
theorem cubs_get {ps : List (List Nat)} {i : Nat} {p : List Nat} (h : ps[i]? = some p) : (cubs ps)[i]? = some (.str (SX.S p)) := by
  unfold cubs
  rw [List.getElem?_map, h]
  rfl
def nts (ks : List Nat) : List Int := ks.map Int.ofNat
theorem nts_snoc (ks : List Nat) (k : Nat) : (nts ks).map V.int ++ [.int (k : Int)] = (nts (ks ++ [k])).map V.int := by
  unfold nts
  rw [List.map_append, List.map_append]
  rfl
theorem nts_len (ks : List Nat) : ((nts ks).map V.int).length = ks.length := by
  unfold nts
  rw [List.length_map, List.length_map]
theorem ne_nil_ints (ks : List Nat) : (!PyData.eqv (.list ((nts ks).map PyData.int)) (.list [])) = !decide (ks = []) := by
  cases ks <;> rfl
def spParted : Sp := fun vs H Q _ => ∃ (b : Addr) (x : List Nat) (m : Nat) (c : Int), vs = [.ref b, .str (SX.S x), .int (m : Int)] ∧ BoxAt c H b ∧ c ≤ 900000000 ∧ m ≤ 90 ∧ x.length ≤ 900 ∧ SgL x ∧
  ∀ (l : Addr) (ps : List (List Nat)) (H' : Hp), PIn x ps → ps.length ≤ m + 1 → H' l = some (.lst (cubs ps)) → l ≠ b → BoxAt (c + 2 * m) H' b → Keep b H H' → Q (.ref l) H'
theorem ok__law_parted (B : Bl mg) (L : LL K mg a1 a2 a3 a4 a5 a6 a7 a8 a9 a10 a11 l1 l2 l3 l4 l5 l6 l7 l8 l9 l10 l11 E_NoPlace I_NoPlace E_BadRow E_NoDeed E_NoWire E_TooMuch E_Unfit) : FnOk P w K mg base CX0 10 a10 l10 ["_law_box_here", "_law_cube", "_law_most"] spParted := by
  have G__law_take : FnOk P w K mg base CX0 9 a6 l6 ["_law_box_here", "_law_size"] (spTake 1) := (ok_take L.F__law_take L.b__law_take L.m__law_take B 1).mono (by decide)
  have G_split : FnOk P w K mg base CX0 9 a4 l4 ["cube", "place"] spSplit := (ok_split B L).mono (by decide)
  refine L.F__law_parted.ok sc__law_parted (fun vs H Q E h => ?_) (fun cdv A outer s H vs Q E hr h => ?_)
  · obtain ⟨b, x, m, c, rfl, _⟩ := h
    rfl
  obtain ⟨b, x, m, c, rfl, hB, hc, hm, hl, hx, q⟩ := h
  refine ⟨_, (pss_cons (ps_set (i := 3) sc__law_parted.nd rfl (.inl rfl) (pe_lst (pa_cons (pv 1) pa_nil)))
    (pss_cons (ps_for PassesOwn.never rfl (pi_range1 (by rfl) B.range (pa_cons (pv 2) pa_nil)) (pg_name (i := 4) sc__law_parted.nd rfl (.inl rfl)) (pss_cons (ps_set (i := 5) sc__law_parted.nd rfl (.inl rfl) (pe_call G__law_take hr (by rfl) L.m__law_take L.F__law_take.kp L.b__law_take .nil pass0 (pa_cons (pv 0) (pa_cons (pe_callB call_len_seq (by rfl) B.len PySem.boot_len (pa_cons (pv 3) pa_nil)) pa_nil))))
    (pss_cons (ps_setLc (i := 6) (own := [("_law_place", 7), ("_law_sign", 8)]) (g := gTup K 2 (gCons (gName 7) (gCons (gName 8) gNil))) (by rfl) sc__law_parted.nd rfl rfl (sw_true rfl rfl rfl (by decide +kernel)) (pi_ex (by rfl) B.enumerate (pa_cons (pe_ix ix_list (pv 3) (pv 5) (fun _ _ => rfl)) pa_nil)) (blkOk_by (own := [("_law_place", 7), ("_law_sign", 8)]) (N := ["_law_box_here", "_law_cube", "_law_most", "_law_found", "_law_turn", "_law_at", "_law_spots", "_law_place", "_law_sign"]) (sc := defScope s__law_parted) (by decide +kernel)) (fun _ _ _ _ _ => pg_tup rfl (pgs_cons (pg_name (i := 7) sc__law_parted.nd rfl (Or.inl rfl) (.inr rfl)) (pgs_cons (pg_name (i := 8) sc__law_parted.nd rfl (Or.inl rfl) (.inr rfl)) pgs_nil))) (fun _ _ _ _ _ => pts_one (pt_cmpR op_eq (pv 8) pe_str (nomark _))) (fun _ _ _ _ _ => (pv 7)))
    (pss_one (ps_if (pt_cmpR (op_neD hr.units) (pv 6) (pe_lst pa_nil) (nomark _)) (pss_one (ps_set (i := 3) sc__law_parted.nd rfl (.inl rfl) (pe_op op_cat (pe_op op_cat (pe_slice sl_list (pv 3) po_none (po_some (pv 5))) (pe_callTy call_list_of (by rfl) B.list PyProof.Rows.boot_list (pa_cons (pe_call G_split hr (by rfl) L.m_split L.F_split.kp L.b_split .nil pass0 (pa_cons (pe_ix ix_list (pv 3) (pv 5) (fun _ _ => rfl)) (pa_cons (pe_ix ix_list (pv 6) (pe_call G__law_take hr (by rfl) L.m__law_take L.F__law_take.kp L.b__law_take .nil pass0 (pa_cons (pv 0) (pa_cons (pe_callB call_len_seq (by rfl) B.len PySem.boot_len (pa_cons (pv 6) pa_nil)) pa_nil))) (fun _ _ => rfl)) pa_nil))) pa_nil))) (pe_slice sl_list (pv 3) (po_some (pe_op op_add (pv 5) pe_int)) po_none)))) pss_nil)))))
    (pss_one (ps_ret (pv 3))))), ?_⟩
  refine ⟨_, rfl, (by show 1 ≤ sizeLine; decide), fun l0 nl0 => ?_⟩
  have nlb : l0 ≠ b := (hB.ne nl0).symm
  have B0 := hB.same (same_upd (o := .lst (cubs [x])) nl0)
  have k0 : Keep b H (upd H l0 (.lst (cubs [x]))) := Keep.new nl0
  have e0 : (upd H l0 (.lst (cubs [x]))) l0 = some (.lst (cubs [x])) := upd_same
  change gName _ _ _ (upd H l0 (.lst (cubs [x]))) _
  generalize upd H l0 (.lst (cubs [x])) = H1 at *
  try simp only [L2.start, List.map_cons, List.map_nil, List.length_cons, List.length_nil, List.replicate_succ, List.replicate_zero, List.cons_append, List.nil_append, List.set_cons_succ, List.set_cons_zero, Nat.reduceAdd, Nat.reduceSub, Nat.zero_add]
  refine ⟨_, rfl, _, rfl, by omega, by omega, ?_⟩
  rw [Int.toNat_natCast]
  refine for_range (n := m) (fun i σ H5 => ∃ (l : Addr) (ps : List (List Nat)) (y4 y5 y6 y7 y8 : Option V), σ = [some (.ref b), some (.str (SX.S x)), some (.int (m : Int)), some (.ref l), y4, y5, y6, y7, y8] ∧ PIn x ps ∧ ps.length ≤ i + 1 ∧ H5 l = some (.lst (cubs ps)) ∧ l ≠ b ∧ BoxAt (c + 2 * i) H5 b ∧ Keep b H H5) ⟨l0, [x], none, none, none, none, none, rfl, PIn.one hx, Nat.le_refl _, e0, nlb, B0.mono (by omega), k0⟩ ?_ ?_
  · rintro i σ H5 hi ⟨l, ps, y4, y5, y6, y7, y8, rfl, hp, lp, e5, nb, B5, k5⟩
    try simp only [L2.start, List.map_cons, List.map_nil, List.length_cons, List.length_nil, List.replicate_succ, List.replicate_zero, List.cons_append, List.nil_append, List.set_cons_succ, List.set_cons_zero, Nat.reduceAdd, Nat.reduceSub, Nat.zero_add]
    refine ⟨_, rfl, _, rfl, l, _, rfl, .inl (SqL.of e5), ?_⟩
    rw [cubs_len]
    have p0 := hp.pos
    refine ⟨b, _, _, rfl, B5, by omega, by omega, by omega, by omega, by decide, fun r H6 u0 u1 B6 k6 => ?_⟩
    replace B6 := bx1 B6
    obtain ⟨a, rfl⟩ := Int.eq_ofNat_of_zero_le u0
    have al : a < ps.length := by omega
    have e6 := k6 _ _ e5 nb
    try simp only [L2.start, List.map_cons, List.map_nil, List.length_cons, List.length_nil, List.replicate_succ, List.replicate_zero, List.cons_append, List.nil_append, List.set_cons_succ, List.set_cons_zero, Nat.reduceAdd, Nat.reduceSub, Nat.zero_add]
    obtain ⟨y, hy⟩ : ∃ y, ps[a]? = some y := ⟨_, List.getElem?_eq_getElem al⟩
    have my := hp.each y (List.mem_of_getElem? hy)
    have ay : atI (cubs ps) (a : Int) = some (.str (SX.S y)) := atI_nat (cubs_get hy)
    refine ⟨_, rfl, _, rfl, l, _, _, _, rfl, rfl, SqL.of e6, ay, SX.S y, rfl, fun D nD => ?_⟩
    have nDb : D ≠ b := (B6.ne nD).symm
    have nDl : D ≠ l := fun z => by
      rw [z, e6] at nD
      cases nD
    have sD := same_upd (o := .lst []) nD
    refine lc_it (walk_ex (x := y)) (fun j H7 => Same H6 H7 ∧ ∃ ks : List Nat, ks.length ≤ j ∧ (∀ k ∈ ks, y[k]? = some 45) ∧ H7 D = some (.lst ((nts ks).map V.int))) ⟨sD, [], Nat.le_refl _, (fun _ z => nomatch z), upd_same⟩ (fun _ _ _ _ => trivial) ?_ ?_
    · rintro j v H7 H8 hj ⟨s7, ks, lk, gk, eD⟩ ⟨T, u1, u2, rfl, nT, rfl, e1, e2⟩
      cases e1
      obtain ⟨g, hg, rfl⟩ := Option.map_eq_some_iff.mp e2
      have sT := same_upd (o := .tup [.int (j : Int), .str (SX.S [g])]) nT
      refine ⟨T, _, rfl, .inl (.inl upd_same), rfl, _, _, rfl, _, _, rfl, rfl, rfl, ?_⟩
      refine ⟨_, rfl, rfl, _, rfl, ite2 (fun cc => ?_) (fun cc => ?_)⟩
      · rw [dM] at cc
        refine ⟨_, rfl, _, sT _ _ eD, ?_, fun u w e => ?_, ks ++ [j], ?_, fun k hk => ?_, ?_⟩
        · rw [nts_len]
          exact small1000 (by omega)
        · rw [upd_ne (ne_of_none e nD)]
          exact sT _ _ (s7 _ _ e)
        · rw [List.length_append]
          exact Nat.succ_le_succ lk
        · rcases List.mem_append.mp hk with z | z
          · exact gk k z
          · rw [List.mem_singleton.mp z, hg, of_decide_eq_true cc]
        · rw [upd_same, nts_snoc]
      · exact ⟨s7.trans sT, ks, Nat.le_succ_of_le lk, gk, sT _ _ eD⟩
    · rintro H7 ⟨s7, ks, lk, gk, eD⟩
      have e7 := s7 _ _ e6
      have B7 := B6.same s7
      have k7 : Keep b H H7 := (k5.trans k6).trans (Keep.ofSame s7)
      try simp only [L2.start, List.map_cons, List.map_nil, List.length_cons, List.length_nil, List.replicate_succ, List.replicate_zero, List.cons_append, List.nil_append, List.set_cons_succ, List.set_cons_zero, Nat.reduceAdd, Nat.reduceSub, Nat.zero_add]
      refine ⟨_, rfl, (by show 0 ≤ sizeLine; decide), fun U nU => ?_⟩
      have sU := same_upd (o := .lst []) nU
      refine ⟨.list ((nts ks).map PyData.int), .list [], .lst (SqL.of (sU _ _ eD)) (dp_ints _), .lst (SqL.of upd_same) .nil, PySem.W.shaped_ints _, rfl, ?_⟩
      rw [ne_nil_ints]
      have e8 := sU _ _ e7
      have eD8 := sU _ _ eD
      have B8 := B7.same sU
      have k8 : Keep b H (upd H7 U (.lst [])) := k7.trans (Keep.ofSame sU)
      generalize upd H7 U (.lst []) = H8 at *
      refine ⟨_, rfl, ite2 (fun cc => ?_) (fun cc => ?_)⟩
      · have nk : ks ≠ [] := fun z => by
          rw [decide_eq_true z] at cc
          cases cc
        refine ⟨_, rfl, _, rfl, (a : Int), rfl, l, _, rfl, SqL.of e8, fun p1 n1 => ?_⟩
        rw [cutV_to _ _ (by rw [cubs_len]; omega)]
        have s1 := same_upd (o := .lst ((cubs ps).take a)) n1
        have nb1 : p1 ≠ b := (B8.ne n1).symm
        have ep1 : (upd H8 p1 (.lst ((cubs ps).take a))) p1 = some (.lst ((cubs ps).take a)) := upd_same
        have e9 := s1 _ _ e8
        have eD9 := s1 _ _ eD8
        have B9 := B8.same s1
        have k9 : Keep b H (upd H8 p1 (.lst ((cubs ps).take a))) := k8.trans (Keep.ofSame s1)
        generalize upd H8 p1 (.lst ((cubs ps).take a)) = H9 at *
        refine ⟨_, rfl, _, rfl, l, _, _, _, rfl, rfl, SqL.of e9, ay, _, rfl, _, rfl, _, rfl, D, _, rfl, .inl (SqL.of eD9), ?_⟩
        rw [nts_len]
        have kpos : 0 < ks.length := List.length_pos_iff.mpr nk
        have kle : ks.length ≤ 900 := by omega
        refine ⟨b, _, _, rfl, B9, by omega, by omega, by omega, by omega, by decide, fun r2 H10 v0 v1 B10 k10 => ?_⟩
        replace B10 := bx1 B10
        obtain ⟨d, rfl⟩ := Int.eq_ofNat_of_zero_le v0
        have dl : d < ks.length := by omega
        have e10 := k10 _ _ e9 nb
        have eD10 := k10 _ _ eD9 nDb
        have ep10 := k10 _ _ ep1 nb1
        have ad : atI ((nts ks).map V.int) (d : Int) = some (.int (ks[d] : Nat)) := atI_nat (by unfold nts; rw [List.getElem?_map, List.getElem?_map, List.getElem?_eq_getElem dl]; rfl)
        have yk := gk ks[d] (List.getElem_mem dl)
        generalize ks[d] = k at *
        refine ⟨D, _, _, _, rfl, rfl, SqL.of eD10, ad, y, k, rfl, yk, by omega, fun t H11 nt s11 et => ?_⟩
        refine ⟨t, _, rfl, .inr (.inl (.inl et)), fun p2 n2 => ?_⟩
        have s2 := same_upd (o := .lst [.str (SX.S (y.set k 48)), .str (SX.S (y.set k 49))]) n2
        have ep11 := s2 _ _ (s11 _ _ ep10)
        refine ⟨p1, p2, _, _, rfl, rfl, ep11, upd_same, ?_, fun p3 n3 => ?_⟩
        · rw [List.length_take, cubs_len]
          show min a ps.length + 2 ≤ sizeLine
          exact Nat.le_of_lt (small1000 (by omega))
        have s3 := s2.trans (same_upd (o := .lst ((cubs ps).take a ++ [.str (SX.S (y.set k 48)), .str (SX.S (y.set k 49))])) n3)
        have ep3 : (upd (upd H11 p2 (.lst [.str (SX.S (y.set k 48)), .str (SX.S (y.set k 49))])) p3 (.lst ((cubs ps).take a ++ [.str (SX.S (y.set k 48)), .str (SX.S (y.set k 49))]))) p3 = some (.lst ((cubs ps).take a ++ [.str (SX.S (y.set k 48)), .str (SX.S (y.set k 49))])) := upd_same
        generalize upd (upd H11 p2 (.lst [.str (SX.S (y.set k 48)), .str (SX.S (y.set k 49))])) p3 (.lst ((cubs ps).take a ++ [.str (SX.S (y.set k 48)), .str (SX.S (y.set k 49))])) = H12 at *
        have sA := s11.trans s3
        have e12 := sA _ _ e10
        refine ⟨_, rfl, _, rfl, _, _, rfl, rfl, (a : Int) + 1, rfl, l, _, rfl, SqL.of e12, fun p4 n4 => ?_⟩
        rw [show ((a : Int) + 1) = ((a + 1 : Nat) : Int) by omega, cutV_from _ _ (by rw [cubs_len]; omega)]
        have s4 := same_upd (o := .lst ((cubs ps).drop (a + 1))) n4
        refine ⟨p3, p4, _, _, rfl, rfl, s4 _ _ ep3, upd_same, ?_, fun p5 n5 => ?_⟩
        · rw [List.length_append, List.length_take, List.length_drop, cubs_len]
          show min a ps.length + 2 + (ps.length - (a + 1)) ≤ sizeLine
          exact Nat.le_of_lt (small1000 (by omega))
        have s5 := s4.trans (same_upd (o := .lst ((cubs ps).take a ++ [.str (SX.S (y.set k 48)), .str (SX.S (y.set k 49))] ++ (cubs ps).drop (a + 1))) n5)
        have sB := sA.trans s5
        have cps : ps = ps.take a ++ y :: ps.drop (a + 1) := by
          have e : ps[a] = y := by
            rw [List.getElem?_eq_getElem al] at hy
            exact Option.some.inj hy
          rw [← e, List.getElem_cons_drop, List.take_append_drop]
        refine ⟨p5, ps.take a ++ y.set k 48 :: y.set k 49 :: ps.drop (a + 1), _, _, _, _, _, rfl, PIn.cut (by rw [← cps]; exact hp) yk, ?_, ?_, ?_, BoxAt.mono (B10.same sB) (by omega), k9.trans (k10.trans (Keep.ofSame sB))⟩
        · rw [List.length_append, List.length_take, List.length_cons, List.length_cons, List.length_drop]
          omega
        · rw [upd_same]
          unfold cubs
          rw [List.map_append, List.map_cons, List.map_cons, List.map_take, List.map_drop, List.append_assoc]
          rfl
        · exact (((B10.same sA).same s4).ne n5).symm
      · exact ⟨l, ps, _, _, _, _, _, rfl, hp, by omega, e8, nb, B8.mono (by omega), k8⟩
  · rintro σ H5 ⟨l, ps, y4, y5, y6, y7, y8, rfl, hp, lp, e5, nb, B5, k5⟩
    exact ⟨_, rfl, q l ps _ hp lp e5 nb B5 k5⟩
end
section
variable {P : Program} {w : World} {K : PySem.W.Frag} {mg : Str → Option Value} {base : Heap}
variable {a1 a2 a3 a4 a5 a6 a7 a8 a9 a10 a11 : Addr} {l1 l2 l3 l4 l5 l6 l7 l8 l9 l10 l11 : FuncData} {E_NoPlace I_NoPlace E_BadRow E_NoDeed E_NoWire E_TooMuch E_Unfit : Addr}
/-! ### _law_right -/
theorem ln6 : (Str.ofString "01----").length ≤ sizeLine := by decide +kernel
theorem at6 {r : Int} (h0 : 0 ≤ r) (h1 : r < 6) : ∃ c, atI (Str.ofString "01----").cps.toList r = some c ∧ (c = 45 ∨ c = 48 ∨ c = 49) := by
  have : r = 0 ∨ r = 1 ∨ r = 2 ∨ r = 3 ∨ r = 4 ∨ r = 5 := by omega
  rcases this with z | z | z | z | z | z <;> subst z
  · exact ⟨48, by decide +kernel, by decide⟩
  · exact ⟨49, by decide +kernel, by decide⟩
  · exact ⟨45, by decide +kernel, by decide⟩
  · exact ⟨45, by decide +kernel, by decide⟩
  · exact ⟨45, by decide +kernel, by decide⟩
  · exact ⟨45, by decide +kernel, by decide⟩
theorem clash_snoc {l y : List Nat} (h : l.length = y.length) (c a : Nat) : clash (l ++ [c]) (y ++ [a]) = (clash l y || bad c a) := by
  unfold clash
  rw [List.zipWith_append h, List.any_append]
  show _ = ((List.zipWith bad l y).any id || bad c a)
  congr 1
  show (bad c a || false) = bad c a
  rw [Bool.or_false]
theorem any_rep (n : Nat) : (List.replicate n false).any id = false := by
  induction n with
  | zero => rfl
  | succ n ih => rw [List.replicate_succ, List.any_cons, ih]; rfl
def spRight : Sp := fun vs H Q _ => ∃ (b : Addr) (c : Int), vs = [.ref b] ∧ BoxAt c H b ∧ c ≤ 700000000 ∧
  ∀ (H' : Hp), BoxAt (c + 500) H' b → Keep b H H' → Q (.bl true) H'
theorem ok__law_right (B : Bl mg) (L : LL K mg a1 a2 a3 a4 a5 a6 a7 a8 a9 a10 a11 l1 l2 l3 l4 l5 l6 l7 l8 l9 l10 l11 E_NoPlace I_NoPlace E_BadRow E_NoDeed E_NoWire E_TooMuch E_Unfit) : FnOk P w K mg base CX0 12 a11 l11 ["_law_box_here"] spRight := by
  have G__law_take : FnOk P w K mg base CX0 11 a6 l6 ["_law_box_here", "_law_size"] (spTake 1) := (ok_take L.F__law_take L.b__law_take L.m__law_take B 1).mono (by decide)
  have G__law_told : FnOk P w K mg base CX0 11 a9 l9 ["_law_cube", "_law_place"] (spTold K) := (ok__law_told B L).mono (by decide)
  have G__law_parted : FnOk P w K mg base CX0 11 a10 l10 ["_law_box_here", "_law_cube", "_law_most"] spParted := (ok__law_parted B L).mono (by decide)
  have G_common : FnOk P w K mg base CX0 11 a2 l2 ["one", "other"] spCm := (ok_common B L).mono (by decide)
  have G_lies_in : FnOk P w K mg base CX0 11 a1 l1 ["bits", "cube"] spIn := (ok_lies_in B L).mono (by decide)
  have G__law_same : FnOk P w K mg base CX0 11 a8 l8 ["_law_found", "_law_due"] (spSame K 2) := (ok_same L.F__law_same L.b__law_same L.m__law_same B 2).mono (by decide)
  refine L.F__law_right.ok sc__law_right (fun vs H Q E h => ?_) (fun cdv A outer s H vs Q E hr h => ?_)
  · obtain ⟨b, c, rfl, _⟩ := h
    rfl
  obtain ⟨b, c, rfl, hB, hc, q⟩ := h
  refine ⟨_, (pss_cons (ps_set (i := 1) sc__law_right.nd rfl (.inl rfl) (pe_op op_add pe_int (pe_call G__law_take hr (by rfl) L.m__law_take L.F__law_take.kp L.b__law_take .nil pass0 (pa_cons (pv 0) (pa_cons pe_int pa_nil)))))
    (pss_cons (ps_set (i := 2) sc__law_right.nd rfl (.inl rfl) (pe_bm PySem.F.plainAttrs_str PySem.F.slot_str_join PySem.F.type_str_join mt_join pe_str (pa_cons (pe_lc (own := [("_law_turn", 9)]) (by rfl) sc__law_right.nd (pi_range1 (by rfl) B.range (pa_cons (pv 1) pa_nil)) (blkOk_by (own := [("_law_turn", 9)]) (N := ["_law_box_here", "_law_many", "_law_cube", "_law_place", "_law_due", "_law_parts", "_law_at", "_law_one", "_law_bits", "_law_turn", "_law_other", "_law_sign"]) (sc := defScope s__law_right) (by decide +kernel)) (fun _ _ _ _ _ => pg_name (i := 9) sc__law_right.nd rfl (Or.inl rfl)) (fun _ _ _ _ _ => pts_nil) (fun _ _ _ _ _ => (pe_ix ix_str pe_str (pe_call G__law_take hr (by rfl) L.m__law_take L.F__law_take.kp L.b__law_take .nil pass0 (pa_cons (pv 0) (pa_cons pe_int pa_nil))) (fun _ _ => rfl)))) pa_nil)))
    (pss_cons (ps_for PassesOwn.never rfl (pi_list (pe_op op_cat (pe_callTy (cr_listR rfl) (by rfl) B.list PyProof.Rows.boot_list (pa_cons (pe_callTy cr_range1 (by rfl) B.range PyProof.Rows.boot_range (pa_cons (pv 1) pa_nil)) pa_nil)) (pe_lst (pa_cons (pe_un un_neg pe_int) (pa_cons (pe_op op_sub pe_int (pv 1)) (pa_cons (pv 1) (pa_cons (pe_op op_add (pe_op op_add (pv 1) pe_int) (pe_call G__law_take hr (by rfl) L.m__law_take L.F__law_take.kp L.b__law_take .nil pass0 (pa_cons (pv 0) (pa_cons pe_int pa_nil)))) (pa_cons (pe_op op_pow pe_int pe_int) pa_nil)))))))) (pg_name (i := 3) sc__law_right.nd rfl (.inl rfl)) (pss_cons (ps_set (i := 4) sc__law_right.nd rfl (.inl rfl) (pv 3))
    (pss_cons (ps_if (PW.pt (pw_and (pt_chain op_le op_lt pe_int (pv 3) (pv 1)) (pw_and1 (pt_cmpR op_eq (pe_ix ix_str (pv 2) (pv 3) (fun _ _ => rfl)) pe_str (nomark _))))) (pss_one (ps_set (i := 4) sc__law_right.nd rfl (.inl rfl) (pe_tup (pa_cons (pe_op op_add_str (pe_op op_add_str (pe_slice sl_str (pv 2) po_none (po_some (pv 3))) pe_str) (pe_slice sl_str (pv 2) (po_some (pe_op op_add (pv 3) pe_int)) po_none)) (pa_cons (pe_op op_add_str (pe_op op_add_str (pe_slice sl_str (pv 2) po_none (po_some (pv 3))) pe_str) (pe_slice sl_str (pv 2) (po_some (pe_op op_add (pv 3) pe_int)) po_none)) pa_nil))))) pss_nil)
    (pss_one (ps_if (pt_not (pt_val (pe_call G__law_same hr (by rfl) L.m__law_same L.F__law_same.kp L.b__law_same .nil pass0 (pa_cons (pe_call G__law_told hr (by rfl) L.m__law_told L.F__law_told.kp L.b__law_told .nil pass0 (pa_cons (pv 2) (pa_cons (pv 3) pa_nil))) (pa_cons (pv 4) pa_nil))))) (pss_one (ps_ret pe_bl)) pss_nil)))))
    (pss_cons (ps_set (i := 5) sc__law_right.nd rfl (.inl rfl) (pe_call G__law_parted hr (by rfl) L.m__law_parted L.F__law_parted.kp L.b__law_parted .nil pass0 (pa_cons (pv 0) (pa_cons (pv 2) (pa_cons (pe_call G__law_take hr (by rfl) L.m__law_take L.F__law_take.kp L.b__law_take .nil pass0 (pa_cons (pv 0) (pa_cons pe_int pa_nil))) pa_nil)))))
    (pss_cons (ps_for PassesOwn.never rfl (pi_enum (by rfl) B.enumerate (pa_cons (pv 5) pa_nil)) (pg_tup (by rfl) (pgs_cons (pg_name (i := 6) sc__law_right.nd rfl (.inl rfl)) (pgs_cons (pg_name (i := 7) sc__law_right.nd rfl (.inr rfl)) pgs_nil))) (pss_one (ps_if (pt_val (pe_callB (cr_any rfl) (by rfl) B.any boot_any (pa_cons (pe_lc (own := [("_law_other", 10)]) (by rfl) sc__law_right.nd (pi_list (pe_slice sl_list (pv 5) po_none (po_some (pv 6)))) (blkOk_by (own := [("_law_other", 10)]) (N := ["_law_box_here", "_law_many", "_law_cube", "_law_place", "_law_due", "_law_parts", "_law_at", "_law_one", "_law_bits", "_law_turn", "_law_other", "_law_sign"]) (sc := defScope s__law_right) (by decide +kernel)) (fun _ _ _ _ _ => pg_name (i := 10) sc__law_right.nd rfl (Or.inl rfl)) (fun _ _ _ _ _ => pts_nil) (fun _ _ _ _ _ => (pe_cmpR op_notN (pe_call G_common hr (by rfl) L.m_common L.F_common.kp L.b_common .nil pass0 (pa_cons (pv 7) (pa_cons (pv 10) pa_nil))) pe_non (nomark _)))) pa_nil))) (pss_one (ps_ret pe_bl)) pss_nil)))
    (pss_cons (ps_set (i := 8) sc__law_right.nd rfl (.inr rfl) (pe_bm PySem.F.plainAttrs_str PySem.F.slot_str_join PySem.F.type_str_join mt_join pe_str (pa_cons (pe_lc (own := [("_law_sign", 11)]) (by rfl) sc__law_right.nd (pi_str (pv 2)) (blkOk_by (own := [("_law_sign", 11)]) (N := ["_law_box_here", "_law_many", "_law_cube", "_law_place", "_law_due", "_law_parts", "_law_at", "_law_one", "_law_bits", "_law_turn", "_law_other", "_law_sign"]) (sc := defScope s__law_right) (by decide +kernel)) (fun _ _ _ _ _ => pg_name (i := 11) sc__law_right.nd rfl (Or.inl rfl)) (fun _ _ _ _ _ => pts_nil) (fun _ _ _ _ _ => (pe_ifExp (pt_cmpR op_ne (pv 11) pe_str (nomark _)) (pv 11) (pe_ix ix_str pe_str (pe_call G__law_take hr (by rfl) L.m__law_take L.F__law_take.kp L.b__law_take .nil pass0 (pa_cons (pv 0) (pa_cons pe_int pa_nil))) (fun _ _ => rfl))))) pa_nil)))
    (pss_one (ps_ret (pe_cmpR op_eq (pe_bm PySem.F.plainAttrs_list PySem.F.slot_list_count PySem.F.type_list_count mt_count (pe_lc (own := [("_law_one", 7)]) (by rfl) sc__law_right.nd (pi_list (pv 5)) (blkOk_by (own := [("_law_one", 7)]) (N := ["_law_box_here", "_law_many", "_law_cube", "_law_place", "_law_due", "_law_parts", "_law_at", "_law_one", "_law_bits", "_law_turn", "_law_other", "_law_sign"]) (sc := defScope s__law_right) (by decide +kernel)) (fun _ _ _ _ _ => pg_name (i := 7) sc__law_right.nd rfl (Or.inl rfl)) (fun _ _ _ _ _ => pts_nil) (fun _ _ _ _ _ => (pe_call G_lies_in hr (by rfl) L.m_lies_in L.F_lies_in.kp L.b_lies_in .nil pass0 (pa_cons (pv 8) (pa_cons (pv 7) pa_nil))))) (pa_cons pe_bl pa_nil)) pe_int (nomark _)))))))))), ?_⟩
  refine ⟨_, rfl, b, _, _, rfl, hB, (by decide), (by decide), (by decide), (by omega), (by decide), fun r1 H1 u0 u1 B1 k1 => ?_⟩
  replace B1 := bx1 B1
  obtain ⟨m, em⟩ : ∃ m : Nat, 1 + r1 = (m : Int) := ⟨(1 + r1).toNat, by omega⟩
  have m0 : 0 < m := by omega
  have m1 : m ≤ 12 := by omega
  refine ⟨_, _, rfl, rfl, gI em ?_⟩
  try simp only [L2.start, List.map_cons, List.map_nil, List.length_cons, List.length_nil, List.replicate_succ, List.replicate_zero, List.cons_append, List.nil_append, List.set_cons_succ, List.set_cons_zero, Nat.reduceAdd, Nat.reduceSub, Nat.zero_add]
  refine ⟨rfl, _, rfl, _, rfl, by omega, by omega, fun D nD => ?_⟩
  have nDb : D ≠ b := (B1.ne nD).symm
  rw [Int.toNat_natCast]
  refine lc_range (n := m) (fun j H7 => Keep b H1 H7 ∧ BoxAt (c + 1 + j) H7 b ∧ ∃ l : List Nat, l.length = j ∧ SgL l ∧ H7 D = some (.lst (s1s l))) ⟨Keep.new nD, (B1.same (same_upd nD)).mono (by omega), [], rfl, (fun _ z => nomatch z), upd_same⟩ ?_ ?_
  · rintro j H7 hj ⟨k7, B7, l, ll, sl, eD⟩
    refine ⟨rfl, yesT ?_⟩
    refine ⟨_, rfl, b, _, _, rfl, B7, (by decide), (by decide), (by decide), (by omega), (by decide), fun r H8 u0 u1 B8 k8 => ?_⟩
    obtain ⟨d, ed, hd⟩ := at6 u0 u1
    refine ⟨_, _, d, rfl, rfl, ln6, ed, ?_⟩
    refine ⟨_, k8 _ _ eD nDb, ?_, fun x u e n => ?_, BoxAt.mono (B8.at (upd_ne nDb.symm)) (by show _ + (2 : Int) ^ (1 - 1) ≤ _; rw [show (2 : Int) ^ (1 - 1) = 1 from rfl]; omega), l ++ [d], by rw [List.length_append, ll]; rfl, sg_snoc sl hd, ?_⟩
    · rw [s1s_len]
      exact small1000 (by omega)
    · rw [upd_ne (ne_of_none e nD)]
      exact k8 _ _ (k7 _ _ e n) n
    · rw [upd_same]
      exact congrArg (fun z => some (HO.lst z)) (s1s_snoc l d)
  · rintro H7 ⟨k7, B7, x, lx, sx, eD⟩
    refine ⟨_, D, _, rfl, rfl, .inl (SqL.of eD), join_z x (by omega), ?_⟩
    rw [join_1]
    clear eD
    replace k7 := k1.trans k7
    try simp only [L2.start, List.map_cons, List.map_nil, List.length_cons, List.length_nil, List.replicate_succ, List.replicate_zero, List.cons_append, List.nil_append, List.set_cons_succ, List.set_cons_zero, Nat.reduceAdd, Nat.reduceSub, Nat.zero_add]
    refine ⟨_, rfl, _, rfl, fun p1 n1 => ⟨p1, m, rfl, upd_same, by omega, fun p2 n2 => ?_⟩⟩
    have s1 := same_upd (o := .rng 0 (m : Int)) n1
    have s2 := s1.trans (same_upd (o := .lst ((List.range' 0 m).map fun i : Nat => V.int (i : Int))) n2)
    have e2 : (upd (upd H7 p1 (.rng 0 (m : Int))) p2 (.lst ((List.range' 0 m).map fun i : Nat => V.int (i : Int)))) p2 = some (.lst ((List.range' 0 m).map fun i : Nat => V.int (i : Int))) := upd_same
    have B2 := B7.same s2
    have k2 := k7.trans (Keep.ofSame s2)
    have nb2 : p2 ≠ b := ((B7.same s1).ne n2).symm
    generalize upd (upd H7 p1 (.rng 0 (m : Int))) p2 (.lst ((List.range' 0 m).map fun i : Nat => V.int (i : Int))) = H2 at *
    refine ⟨_, rfl, _, rfl, _, _, rfl, rfl, _, rfl, _, rfl, _, _, rfl, rfl, _, rfl, b, _, _, rfl, B2, (by decide), (by decide), (by decide), (by omega), (by decide), fun r3 H3 v0 v1 B3 k3 => ?_⟩
    replace B3 := bx1 B3
    refine ⟨_, _, rfl, rfl, _, _, rfl, rfl, ⟨by decide, by decide, by decide⟩, ?_⟩
    have e3 := k3 _ _ e2 nb2
    refine ⟨(by show 5 ≤ sizeLine; decide), fun p4 n4 => ?_⟩
    have s4 := same_upd (o := .lst [.int (-1), .int (0 - (m : Int)), .int (m : Int), .int ((m : Int) + 1 + r3), .int (10 ^ 9)]) n4
    refine ⟨p2, p4, _, _, rfl, rfl, s4 _ _ e3, upd_same, ?_, fun p5 n5 => ?_⟩
    · rw [List.length_map, List.length_range']
      show m + 5 ≤ sizeLine
      exact Nat.le_of_lt (small1000 (by omega))
    obtain ⟨zs, ez⟩ : ∃ zs : List Int, (List.range' 0 m).map (fun i : Nat => V.int (i : Int)) ++ [.int (-1), .int (0 - (m : Int)), .int (m : Int), .int ((m : Int) + 1 + r3), .int (10 ^ 9)] = zs.map V.int := ⟨(List.range' 0 m).map Int.ofNat ++ [-1, 0 - (m : Int), (m : Int), (m : Int) + 1 + r3, 10 ^ 9], by rw [List.map_append, List.map_map]; rfl⟩
    have s5 := s4.trans (same_upd (o := .lst (zs.map V.int)) n5)
    rw [← ez] at s5
    have e5 : (upd (upd H3 p4 (.lst [.int (-1), .int (0 - (m : Int)), .int (m : Int), .int ((m : Int) + 1 + r3), .int (10 ^ 9)])) p5 (.lst ((List.range' 0 m).map (fun i : Nat => V.int (i : Int)) ++ [.int (-1), .int (0 - (m : Int)), .int (m : Int), .int ((m : Int) + 1 + r3), .int (10 ^ 9)]))) p5 = some (.lst (zs.map V.int)) := by rw [upd_same, ez]
    have B5 := B3.same s5
    have k5 := (k2.trans k3).trans (Keep.ofSame s5)
    refine ⟨p5, rfl, ⟨_, SqL.of e5⟩, ?_⟩
    refine for_it (walk_list (K := K) (a := p5) (xs := zs.map V.int)) (fun i σ H6 => ∃ y3 y4 : Option V, σ = [some (.ref b), some (.int (m : Int)), some (.str (SX.S x)), y3, y4, none, none, none, none, none, none, none] ∧ H6 p5 = some (.lst (zs.map V.int)) ∧ BoxAt (c + 1 + m + 1) H6 b ∧ Keep b H H6) ⟨none, none, rfl, e5, B5, k5⟩ (fun i σ H6 _ ⟨_, _, _, e6, _⟩ => SqL.of e6) ?_ ?_
    · rintro i v σ H6 H7 hi ⟨y3, y4, rfl, e6, B6, k6⟩ ⟨rfl, ev⟩
      obtain ⟨z, rfl⟩ : ∃ z : Int, v = .int z := by
        rw [List.getElem?_map] at ev
        obtain ⟨z, _, e⟩ := Option.map_eq_some_iff.mp ev
        exact ⟨z, e.symm⟩
      clear ev
      try simp only [L2.start, List.map_cons, List.map_nil, List.length_cons, List.length_nil, List.replicate_succ, List.replicate_zero, List.cons_append, List.nil_append, List.set_cons_succ, List.set_cons_zero, Nat.reduceAdd, Nat.reduceSub, Nat.zero_add]
      refine ⟨_, rfl, ?_⟩
      show gName 4 _ _ _ _
      try simp only [L2.start, List.map_cons, List.map_nil, List.length_cons, List.length_nil, List.replicate_succ, List.replicate_zero, List.cons_append, List.nil_append, List.set_cons_succ, List.set_cons_zero, Nat.reduceAdd, Nat.reduceSub, Nat.zero_add]
      have zx : (SX.S x).length ≤ sizeLine := zS (by omega)
      by_cases hk : ∃ k : Nat, z = k ∧ x[k]? = some 45
      · obtain ⟨k, rfl, hx⟩ := hk
        have pl : k < x.length := (List.getElem?_eq_some_iff.mp hx).1
        refine ifS_ev (fun r H' => r = true ∧ H' = H7) (fun Q' q' => ?_) ?_ (fun H' z => absurd z.1 (by decide))
        · refine ⟨_, rfl, _, _, rfl, rfl, _, rfl, ite2 (fun c => ?_) (fun c => absurd (decide_eq_true (show (0 : Int) ≤ (k : Int) by omega)) c)⟩
          refine ⟨_, rfl, _, _, rfl, rfl, _, rfl, ?_⟩
          rw [decide_eq_true (show (k : Int) < (m : Int) by omega)]
          refine iteT ?_
          refine ⟨_, rfl, _, rfl, _, _, 45, rfl, rfl, zx, at_S hx, rfl, _, rfl, ?_⟩
          rw [show (⟨#[45]⟩ : Str) = SX.S [45] from rfl, ← mns, decide_eq_true rfl]
          exact q' _ _ ⟨rfl, rfl⟩
        · rintro H8 ⟨_, rfl⟩
          have z1 : (SX.S (x.take k)).length + 1 ≤ sizeLine := by
            rw [SX.S_len, List.length_take]
            exact Nat.le_of_lt (small1000 (by omega))
          have z2 : ∀ d, (SX.S (x.take k) ++ SX.S [d]).length + (SX.S (x.drop (k + 1))).length ≤ sizeLine := fun d => by
            rw [SX.S_cat, SX.S_len, SX.S_len, List.length_append, List.length_take, List.length_drop]
            show min k x.length + 1 + _ ≤ sizeLine
            exact Nat.le_of_lt (small1000 (by omega))
          have w0 : ∀ d, SX.S (x.take k) ++ SX.S [d] ++ SX.S (x.drop (k + 1)) = SX.S (x.set k d) := fun d => by
            rw [SX.S_cat, SX.S_cat, List.append_assoc]
            exact congrArg SX.S (set_cut d pl)
          refine ⟨_, rfl, _, rfl, k, rfl, _, rfl, zx, ?_⟩
          rw [cut_to x k (by omega)]
          refine ⟨_, _, rfl, rfl, (by rw [nul]; exact z1), ?_⟩
          rw [nul]
          refine ⟨_, rfl, _, rfl, _, _, rfl, rfl, (k : Int) + 1, rfl, _, rfl, zx, ?_⟩
          rw [show ((k : Int) + 1) = ((k + 1 : Nat) : Int) by omega, cut_from x (k + 1) (by omega)]
          refine ⟨_, _, rfl, rfl, z2 48, ?_⟩
          rw [w0]
          refine ⟨_, rfl, _, rfl, k, rfl, _, rfl, zx, ?_⟩
          rw [cut_to x k (by omega)]
          refine ⟨_, _, rfl, rfl, (by rw [eins]; exact z1), ?_⟩
          rw [eins]
          refine ⟨_, rfl, _, rfl, _, _, rfl, rfl, (k : Int) + 1, rfl, _, rfl, zx, ?_⟩
          rw [show ((k : Int) + 1) = ((k + 1 : Nat) : Int) by omega, cut_from x (k + 1) (by omega)]
          refine ⟨_, _, rfl, rfl, z2 49, ?_⟩
          rw [w0]
          refine ⟨(by show 2 ≤ sizeLine; decide), fun U nU => ?_⟩
          have sU := same_upd (o := .tup [.str (SX.S (x.set k 48)), .str (SX.S (x.set k 49))]) nU
          show gName 4 _ _ _ _
          try simp only [L2.start, List.map_cons, List.map_nil, List.length_cons, List.length_nil, List.replicate_succ, List.replicate_zero, List.cons_append, List.nil_append, List.set_cons_succ, List.set_cons_zero, Nat.reduceAdd, Nat.reduceSub, Nat.zero_add]
          refine ⟨_, rfl, _, rfl, x, k, rfl, by omega, fun k' ek hx' t H9 s9 et => ?_, fun hn => absurd hx (hn k rfl)⟩
          obtain rfl : k = k' := by omega
          have sA := sU.trans s9
          have eU := s9 _ _ (upd_same (H := H8) (a := U) (o := .tup [.str (SX.S (x.set k 48)), .str (SX.S (x.set k 49))]))
          refine ⟨_, rfl, _, _, .tuple [.str (SX.S (x.set k 48)), .str (SX.S (x.set k 49))], 1, rfl, rfl, ⟨by show 2 ≤ 1000000; decide, fun d hd => ?_⟩, .tup (.inl (.inl et)) (.cons (.str _) (.cons (.str _) .nil)), .tup (.inl (.inl eU)) (.cons (.str _) (.cons (.str _) .nil)), fun H10 s10 => ?_⟩
          · rcases List.mem_cons.mp hd with w | hd
            · subst w
              trivial
            rcases List.mem_cons.mp hd with w | hd
            · subst w
              trivial
            · cases hd
          refine ⟨_, rfl, iteF ?_⟩
          have sB := sA.trans s10
          exact ⟨_, _, rfl, sB _ _ e6, B6.same sB, k6.trans (Keep.ofSame sB)⟩
      · have hn : ∀ k : Nat, z = k → ¬ x[k]? = some 45 := fun k e w => hk ⟨k, e, w⟩
        refine ifS_ev (fun r H' => r = false ∧ H' = H7) (fun Q' q' => ?_) (fun H' z => absurd z.1 (by decide)) ?_
        · refine ⟨_, rfl, _, _, rfl, rfl, _, rfl, ite2 (fun c => ?_) (fun c => ?_)⟩
          · have c0 : (0 : Int) ≤ z := of_decide_eq_true c
            obtain ⟨k, rfl⟩ := Int.eq_ofNat_of_zero_le c0
            refine ⟨_, rfl, _, _, rfl, rfl, _, rfl, ?_⟩
            by_cases c1 : k < x.length
            · rw [decide_eq_true (show (k : Int) < (m : Int) by omega)]
              refine iteT ?_
              have hg : x[k]? = some (x[k]) := List.getElem?_eq_getElem c1
              refine ⟨_, rfl, _, rfl, _, _, x[k], rfl, rfl, zx, at_S hg, rfl, _, rfl, ?_⟩
              rw [show (⟨#[x[k]]⟩ : Str) = SX.S [x[k]] from rfl, dM, decide_eq_false (fun w => hn k rfl (by rw [hg, w]))]
              exact q' _ _ ⟨rfl, rfl⟩
            · rw [decide_eq_false (show ¬ (k : Int) < (m : Int) by omega)]
              exact iteF (q' _ _ ⟨rfl, rfl⟩)
          · refine ⟨_, rfl, iteF ?_⟩
            exact q' _ _ ⟨rfl, rfl⟩
        · rintro H8 ⟨_, rfl⟩
          dsimp only [tNext]
          try simp only [L2.start, List.map_cons, List.map_nil, List.length_cons, List.length_nil, List.replicate_succ, List.replicate_zero, List.cons_append, List.nil_append, List.set_cons_succ, List.set_cons_zero, Nat.reduceAdd, Nat.reduceSub, Nat.zero_add]
          refine ⟨_, rfl, _, rfl, x, z, rfl, by omega, fun k' ek hx' => absurd hx' (hn k' ek), fun _ H9 s9 => ?_⟩
          refine ⟨_, rfl, _, _, .int z, 1, rfl, rfl, trivial, .int z, .int z, fun H10 s10 => ?_⟩
          refine ⟨_, rfl, iteF ?_⟩
          have sB := s9.trans s10
          exact ⟨_, _, rfl, sB _ _ e6, B6.same sB, k6.trans (Keep.ofSame sB)⟩
    · rintro σ H6 ⟨y3, y4, rfl, e6, B6, k6⟩
      clear e6 e5 s5 B5 k5 n5 ez s4 n4
      refine ⟨_, rfl, _, rfl, _, rfl, b, _, _, rfl, B6, (by decide), (by decide), (by decide), (by omega), (by decide), fun r4 H7 v2 v3 B7 k7 => ?_⟩
      replace B7 := bx1 B7
      obtain ⟨u, rfl⟩ := Int.eq_ofNat_of_zero_le v2
      refine ⟨b, x, u, _, rfl, B7, by omega, by omega, by omega, sx, fun l ps H8 hp lp e8 nb B8 k8 => ?_⟩
      have kA := k6.trans (k7.trans k8)
      show gName 5 _ _ _ _
      try simp only [L2.start, List.map_cons, List.map_nil, List.length_cons, List.length_nil, List.replicate_succ, List.replicate_zero, List.cons_append, List.nil_append, List.set_cons_succ, List.set_cons_zero, Nat.reduceAdd, Nat.reduceSub, Nat.zero_add]
      refine ⟨_, rfl, l, _, rfl, SqL.of e8, ?_⟩
      refine for_it (walk_enum (K := K) (a := l) (xs := cubs ps)) (fun i σ H9 => ∃ y6 y7 : Option V, σ = [some (.ref b), some (.int (m : Int)), some (.str (SX.S x)), y3, y4, some (.ref l), y6, y7, none, none, none, none] ∧ Same H8 H9) ⟨none, none, rfl, Same.refl _⟩ (fun i σ H9 _ ⟨_, _, _, s9⟩ => SqL.of (s9 _ _ e8)) ?_ ?_
      · rintro i v σ H9 H10 hi ⟨y6, y7, rfl, s9⟩ ⟨T, u1, u2, rfl, nT, rfl, e1, e2⟩
        cases e1
        rw [cubs_len] at hi
        obtain ⟨y, hy⟩ : ∃ y, ps[i]? = some y := ⟨_, List.getElem?_eq_getElem hi⟩
        cases (cubs_get hy).symm.trans e2
        have sT := s9.trans (same_upd (o := .tup [.int (i : Int), .str (SX.S y)]) nT)
        refine ⟨T, _, rfl, .inl (.inl upd_same), rfl, _, _, rfl, _, _, rfl, rfl, ?_⟩
        generalize upd H9 T (.tup [.int (i : Int), .str (SX.S y)]) = Ha at *
        dsimp only []
        try simp only [L2.start, List.map_cons, List.map_nil, List.length_cons, List.length_nil, List.replicate_succ, List.replicate_zero, List.cons_append, List.nil_append, List.set_cons_succ, List.set_cons_zero, Nat.reduceAdd, Nat.reduceSub, Nat.zero_add]
        refine ⟨_, rfl, _, rfl, (i : Int), rfl, l, _, rfl, SqL.of (sT _ _ e8), fun p1 n1 => ?_⟩
        rw [cutV_to _ _ (by rw [cubs_len]; omega)]
        have t1 := same_upd (o := .lst ((cubs ps).take i)) n1
        have f1 : (upd Ha p1 (.lst ((cubs ps).take i))) p1 = some (.lst ((cubs ps).take i)) := upd_same
        have sU := sT.trans t1
        generalize upd Ha p1 (.lst ((cubs ps).take i)) = Hb at *
        refine ⟨p1, rfl, ⟨_, SqL.of f1⟩, fun D nD => ?_⟩
        refine lc_it (walk_list (K := K) (a := p1) (xs := (cubs ps).take i)) (fun j H11 => Same Hb H11 ∧ H11 D = some (.lst ((List.replicate j false).map V.bl))) ⟨same_upd nD, upd_same⟩ (fun j H11 _ ⟨s11, _⟩ => SqL.of (s11 _ _ f1)) ?_ ?_
        · rintro j v H11 H12 hj ⟨s11, eD⟩ ⟨rfl, ev⟩
          have jl : j < i := by
            rw [List.length_take] at hj
            omega
          obtain ⟨y2, hy2⟩ : ∃ y2, ps[j]? = some y2 := ⟨_, List.getElem?_eq_getElem (by omega)⟩
          obtain rfl : v = .str (SX.S y2) := by
            rw [List.getElem?_take_of_lt jl, cubs_get hy2] at ev
            exact (Option.some.inj ev).symm
          have a1 := hp.each y (List.mem_of_getElem? hy)
          have a2 := hp.each y2 (List.mem_of_getElem? hy2)
          have cl : clash y y2 = true := by
            have r := List.pairwise_iff_getElem.mp hp.apart j i (by omega) hi jl
            rw [List.getElem?_eq_getElem hi] at hy
            rw [List.getElem?_eq_getElem (by omega)] at hy2
            rw [← Option.some.inj hy, ← Option.some.inj hy2]
            exact r
          refine ⟨rfl, yesT ?_⟩
          refine ⟨_, rfl, _, rfl, y, y2, rfl, by omega, by omega, fun H13 s13 => ?_⟩
          rw [show cmV y y2 = .non from by unfold cmV; rw [if_pos cl]]
          refine ⟨rfl, ?_⟩
          refine ⟨_, s13 _ _ eD, ?_, fun o ob e => ?_, ?_⟩
          · rw [List.length_map, List.length_replicate]
            exact small1000 (by omega)
          · rw [upd_ne (ne_of_none e nD)]
            exact s13 _ _ (s11 _ _ e)
          · rw [upd_same, List.replicate_succ', List.map_append]
            rfl
        · rintro H11 ⟨s11, eD⟩
          refine ⟨D, _, rfl, SqL.of eD, ?_⟩
          rw [any_rep]
          refine ⟨_, rfl, iteF ?_⟩
          exact ⟨_, _, rfl, sU.trans s11⟩
      · rintro σ H9 ⟨y6, y7, rfl, s9⟩
        have B9 := B8.same s9
        have k9 := kA.trans (Keep.ofSame s9)
        have e9 := s9 _ _ e8
        clear s9 e8 B8
        dsimp only []
        refine ⟨rfl, _, rfl, SX.S x, rfl, fun D nD => ?_⟩
        have nDb : D ≠ b := (B9.ne nD).symm
        refine lc_it (walk_S (x := x)) (fun j H10 => Keep b H9 H10 ∧ BoxAt (c + 1 + m + 1 + 1 + 2 * u + j) H10 b ∧ ∃ t : List Nat, t.length = j ∧ BtL t ∧ clash t (x.take j) = false ∧ H10 D = some (.lst (s1s t))) ⟨Keep.new nD, (B9.same (same_upd nD)).mono (by omega), [], rfl, (fun _ z => nomatch z), rfl, upd_same⟩ (fun _ _ _ _ => trivial) ?_ ?_
        · rintro j v H10 H10' hj ⟨k10, B10, t, lt, bt, ct, eD⟩ ⟨rfl, a, ha, rfl⟩
          have sa := sx a (List.mem_of_getElem? ha)
          have tk : x.take (j + 1) = x.take j ++ [a] := by rw [List.take_add_one, ha]; rfl
          have lj : t.length = (x.take j).length := by rw [List.length_take]; omega
          refine ⟨rfl, yesT ?_⟩
          refine ⟨_, rfl, rfl, _, rfl, ite2 (fun cc => ?_) (fun cc => ?_)⟩
          · rw [dM] at cc
            have na : ¬ a = 45 := fun z => by rw [decide_eq_true z] at cc; cases cc
            refine ⟨_, rfl, ?_⟩
            refine ⟨_, eD, ?_, fun x u e n => ?_, BoxAt.mono (B10.at (upd_ne nDb.symm)) (by omega), t ++ [a], by rw [List.length_append, lt]; rfl, bt_snoc bt (sa.resolve_left na), ?_, ?_⟩
            · rw [s1s_len]
              exact small1000 (by omega)
            · rw [upd_ne (ne_of_none e nD)]
              exact k10 _ _ e n
            · rw [tk, clash_snoc lj, ct, show bad a a = false from decide_eq_false (fun z => z.2.2 rfl)]
              rfl
            · rw [upd_same]
              exact congrArg (fun z => some (HO.lst z)) (s1s_snoc t a)
          · rw [dM] at cc
            have ya : a = 45 := by
              by_cases z : a = 45
              · exact z
              · rw [decide_eq_false z] at cc
                exact absurd rfl cc
            subst ya
            refine ⟨_, rfl, b, _, _, rfl, B10, (by decide), (by decide), (by decide), (by omega), (by decide), fun r2 H11 v0 v1 B11 k11 => ?_⟩
            replace B11 := bx1 B11
            obtain ⟨d, ed, hd⟩ := at2 v0 v1
            refine ⟨_, _, d, rfl, rfl, ln2, ed, ?_⟩
            refine ⟨_, k11 _ _ eD nDb, ?_, fun x u e n => ?_, BoxAt.mono (B11.at (upd_ne nDb.symm)) (by omega), t ++ [d], by rw [List.length_append, lt]; rfl, bt_snoc bt hd, ?_, ?_⟩
            · rw [s1s_len]
              exact small1000 (by omega)
            · rw [upd_ne (ne_of_none e nD)]
              exact k11 _ _ (k10 _ _ e n) n
            · rw [tk, clash_snoc lj, ct, bad_r]
              rfl
            · rw [upd_same]
              exact congrArg (fun z => some (HO.lst z)) (s1s_snoc t d)
        · rintro H10 ⟨k10, B10, t, lt, bt, ct, eD⟩
          rw [List.take_of_length_le (Nat.le_refl _)] at ct
          refine ⟨_, D, _, rfl, rfl, .inl (SqL.of eD), join_z t (by omega), ?_⟩
          rw [join_1]
          clear eD
          have e10 := k10 _ _ e9 nb
          have k11 := k9.trans k10
          show gName 8 _ _ _ _
          try simp only [L2.start, List.map_cons, List.map_nil, List.length_cons, List.length_nil, List.replicate_succ, List.replicate_zero, List.cons_append, List.nil_append, List.set_cons_succ, List.set_cons_zero, Nat.reduceAdd, Nat.reduceSub, Nat.zero_add]
          have once := hp.once t lt bt
          rw [ct, if_neg (by decide)] at once
          refine ⟨_, rfl, l, rfl, ⟨_, SqL.of e10⟩, fun F nF => ?_⟩
          have nFb : F ≠ b := (B10.ne nF).symm
          refine lc_it (walk_list (K := K) (a := l) (xs := cubs ps)) (fun j H11 => Same H10 H11 ∧ H11 F = some (.lst (((ps.take j).map fun p => !clash t p).map V.bl))) ⟨same_upd nF, upd_same⟩ (fun j H11 _ ⟨s11, _⟩ => SqL.of (s11 _ _ e10)) ?_ ?_
          · rintro j v H11 H12 hj ⟨s11, eF⟩ ⟨rfl, ev⟩
            rw [cubs_len] at hj
            obtain ⟨y, hy⟩ : ∃ y, ps[j]? = some y := ⟨_, List.getElem?_eq_getElem hj⟩
            cases (cubs_get hy).symm.trans ev
            have my := hp.each y (List.mem_of_getElem? hy)
            refine ⟨rfl, yesT ?_⟩
            refine ⟨_, rfl, _, rfl, t, y, rfl, by omega, by omega, bt, fun H13 s13 => ?_⟩
            refine ⟨_, s13 _ _ eF, ?_, fun o ob e => ?_, ?_⟩
            · rw [List.length_map, List.length_map, List.length_take]
              exact small1000 (by omega)
            · rw [upd_ne (ne_of_none e nF)]
              exact s13 _ _ (s11 _ _ e)
            · rw [upd_same, List.take_add_one, hy, List.map_append, List.map_append]
              rfl
          · rintro H11 ⟨s11, eF⟩
            rw [cubs_len, List.take_length] at eF
            refine ⟨.inl ⟨rfl, _, SqL.of eF⟩, F, _, _, rfl, rfl, SqL.of eF, rfl, (count_bls _).1, ?_⟩
            rw [(count_bls _).2, List.countP_map]
            rw [show (id ∘ fun p => !clash t p) = fun p => !clash t p from rfl, once]
            refine ⟨rfl, ?_⟩
            show Q (.bl (decide (V.int ((1 : Nat) : Int) = V.int 1))) H11
            rw [show decide (V.int ((1 : Nat) : Int) = V.int 1) = true from decide_eq_true rfl]
            exact q _ (BoxAt.mono (B10.same s11) (by omega)) (k11.trans (Keep.ofSame s11))
def spLaw (K : PySem.W.Frag) : Sp := fun vs H Q _ => ∃ (a : Addr) (ns : List Int), vs = [.ref a] ∧ SqL K H a (ns.map V.int) ∧ ns.length ≤ 63 ∧ ∀ H', Q (.bl true) H'
theorem ok_law {f : Addr} {fd : FuncData} (F : Fun K "law" "law" s_law f fd) (B : Bl mg) (L : LL K mg a1 a2 a3 a4 a5 a6 a7 a8 a9 a10 a11 l1 l2 l3 l4 l5 l6 l7 l8 l9 l10 l11 E_NoPlace I_NoPlace E_BadRow E_NoDeed E_NoWire E_TooMuch E_Unfit) : FnOk P w K mg base CX0 13 f fd ["_law_script"] (spLaw K) := by
  have G__law_folded : FnOk P w K mg base CX0 12 a7 l7 ["_law_script", "_law_size"] (spFolded K) := ok_folded L.F__law_folded B
  have G__law_box : FnOk P w K mg base CX0 12 a5 l5 ["_law_script", "_law_k"] (spBox K) := ok_box L.F__law_box B
  have G__law_right : FnOk P w K mg base CX0 12 a11 l11 ["_law_box_here"] spRight := (ok__law_right B L).mono (by decide)
  refine F.ok sc_law (fun vs H Q E h => ?_) (fun cdv A outer s H vs Q E hr h => ?_)
  · obtain ⟨a, ns, rfl, _⟩ := h
    rfl
  obtain ⟨a, ns, rfl, hS, h63, q⟩ := h
  refine ⟨_, (pss_cons (ps_set (i := 1) sc_law.nd rfl (.inl rfl) (pe_call G__law_folded hr (by rfl) L.m__law_folded L.F__law_folded.kp L.b__law_folded .nil pass0 (pa_cons (pv 0) (pa_cons pe_int pa_nil))))
    (pss_cons (ps_for PassesOwn.never rfl (pi_range1 (by rfl) B.range (pa_cons (pe_callB (call_max2 rfl) (by rfl) B.max boot_max (pa_cons pe_int (pa_cons (pe_callB call_len_seq (by rfl) B.len PySem.boot_len (pa_cons (pv 1) pa_nil)) pa_nil))) pa_nil)) (pg_name (i := 2) sc_law.nd rfl (.inl rfl)) (pss_cons (ps_set (i := 3) sc_law.nd rfl (.inr rfl) (pe_call G__law_box hr (by rfl) L.m__law_box L.F__law_box.kp L.b__law_box .nil pass0 (pa_cons (pv 1) (pa_cons (pv 2) pa_nil))))
    (pss_one (ps_if (pt_not (pt_val (pe_callB (cr_all rfl) (by rfl) B.all boot_all (pa_cons (pe_lc (own := [("_law_turn", 4)]) (by rfl) sc_law.nd (pi_range1 (by rfl) B.range (pa_cons pe_int pa_nil)) (blkOk_by (own := [("_law_turn", 4)]) (N := ["_law_script", "_law_cells", "_law_k", "_law_box_here", "_law_turn"]) (sc := defScope s_law) (by decide +kernel)) (fun _ _ _ _ _ => pg_name (i := 4) sc_law.nd rfl (Or.inl rfl)) (fun _ _ _ _ _ => pts_nil) (fun _ _ _ _ _ => (pe_call G__law_right hr (by rfl) L.m__law_right L.F__law_right.kp L.b__law_right .nil pass0 (pa_cons (pv 3) pa_nil)))) pa_nil)))) (pss_one (ps_ret pe_bl)) pss_nil))))
    (pss_one (ps_ret pe_bl)))), ?_⟩
  refine ⟨_, rfl, a, ns, 4, rfl, hS, h63, by decide, by decide, fun p H1 zs np s1 ep lz => ?_⟩
  have lz2 : zs.length ≤ 4 := by omega
  refine ⟨_, rfl, p, _, rfl, .inl (SqL.of ep), _, _, rfl, ?_⟩
  obtain ⟨n, en, hn⟩ : ∃ n : Nat, (if (((zs.map V.int).length : Nat) : Int) > 1 then (((zs.map V.int).length : Nat) : Int) else 1) = (n : Int) ∧ n ≤ 4 := by
    rw [List.length_map]
    split
    · exact ⟨zs.length, rfl, lz2⟩
    · exact ⟨1, rfl, by decide⟩
  rw [en]
  refine ⟨_, rfl, by omega, by omega, ?_⟩
  rw [Int.toNat_natCast]
  refine for_range (n := n) (fun i σ H5 => ∃ (y2 y3 : Option V), σ = [some (.ref a), some (.ref p), y2, y3, none] ∧ Same H1 H5) ⟨none, none, rfl, Same.refl _⟩ ?_ ?_
  · rintro i σ H5 hi ⟨y2, y3, rfl, s5⟩
    refine ⟨_, rfl, _, rfl, p, zs, _, rfl, SqL.of (s5 _ _ ep), by omega, by omega, fun b H6 nb s6 B6 => ?_⟩
    refine ⟨6, rfl, by decide, by decide, fun D nD => ?_⟩
    have nDb : D ≠ b := (B6.ne nD).symm
    refine lc_range (n := 6) (fun j H7 => Keep b H6 H7 ∧ BoxAt (500 * j) H7 b ∧ H7 D = some (.lst (List.replicate j (.bl true)))) ⟨Keep.new nD, (B6.same (same_upd nD)).mono (by omega), upd_same⟩ ?_ ?_
    · rintro j H7 hj ⟨k7, B7, eD⟩
      refine ⟨rfl, yesT ?_⟩
      refine ⟨_, rfl, b, _, rfl, B7, by omega, fun H8 B8 k8 => ?_⟩
      refine ⟨_, k8 _ _ eD nDb, ?_, fun x u e n => ?_, BoxAt.mono (B8.at (upd_ne nDb.symm)) (by omega), ?_⟩
      · rw [List.length_replicate]
        exact small1000 (by omega)
      · rw [upd_ne (ne_of_none e nD)]
        exact k8 _ _ (k7 _ _ e n) n
      · rw [upd_same, repl_snoc]
    · rintro H7 ⟨k7, B7, eD⟩
      refine ⟨D, List.replicate 6 true, rfl, .inl (.inl (by rw [List.map_replicate]; exact eD)), _, rfl, ?_⟩
      refine iteF ?_
      exact ⟨_, _, rfl, fun x u e => k7 _ _ (s6 _ _ (s5 _ _ e)) (ne_of_none (s5 _ _ e) nb)⟩
  · rintro σ H5 ⟨y2, y3, rfl, s5⟩
    exact q _
end
theorem all_mk {l : PySem.W.OpenLaw} {w : World} {K : PySem.W.Frag} {h : Heap} {mg : Str → Option Value} {fa f1 f2 f3 f4 f5 f6 f7 f8 f9 f10 f11 f12  : Addr} (X : K.In h) (G : h.Ns mainGlobals mg) (hfa : mg "law" = some (.ref fa))
    {od1 an1 od2 an2 od3 an3 od4 an4 od5 an5 od6 an6 od7 an7 od8 an8 od9 an9 od10 an10 od11 an11 od12 an12 : Option Addr} {sl1 sl2 sl3 sl4 sl5 sl6 sl7 sl8 sl9 sl10 sl11 sl12 : Array (Option Value)} {oc1 kV1 dc1 pm1 cd1 ct1 oc2 kV2 dc2 pm2 cd2 ct2 oc3 kV3 dc3 pm3 cd3 ct3 oc4 kV4 dc4 pm4 cd4 ct4 oc5 kV5 dc5 pm5 cd5 ct5 oc6 kV6 dc6 pm6 cd6 ct6 oc7 kV7 dc7 pm7 cd7 ct7 oc8 kV8 dc8 pm8 cd8 ct8 oc9 kV9 dc9 pm9 cd9 ct9 oc10 kV10 dc10 pm10 cd10 ct10 oc11 kV11 dc11 pm11 cd11 ct11 oc12 kV12 dc12 pm12 cd12 ct12 : Value}
     {ENoPlace INoPlace NNoPlace : Addr} {nmNoPlace qqNoPlace : Str} {bsNoPlace sbNoPlace : List Value} {snNoPlace : List Str} {abNoPlace : Bool} {coNoPlace : Option Bool} {ddNoPlace odINoPlace anINoPlace : Option Addr} {kaNoPlace kbNoPlace kcNoPlace kdNoPlace keNoPlace : Option Value} {ocINoPlace dcINoPlace pmINoPlace cdINoPlace ctINoPlace : Value} {slINoPlace : Array (Option Value)} {p1NoPlace p2NoPlace q1NoPlace q2NoPlace q3NoPlace q4NoPlace : Pos} {EBadRow : Addr} {ENoDeed : Addr} {ENoWire : Addr} {ETooMuch : Addr} {EUnfit : Addr}
    (a1 : PySem.W.nsIn K mainGlobals "lies_in" = some (some (.ref f1))) (l1 : K.lookup f1 = some ⟨oc1, od1, .func (PySem.W.fnOf "lies_in" "lies_in" (defArgs s_lies_in) (defBody s_lies_in) (defScope s_lies_in) .none kV1 dc1 pm1 an1 cd1 ct1), sl1⟩) (c1 : PySem.W.codeIn K cd1 "lies_in" = true) (k1 : PySem.W.keepIn K (.ref f1) = true)
    (a2 : PySem.W.nsIn K mainGlobals "common" = some (some (.ref f2))) (l2 : K.lookup f2 = some ⟨oc2, od2, .func (PySem.W.fnOf "common" "common" (defArgs s_common) (defBody s_common) (defScope s_common) .none kV2 dc2 pm2 an2 cd2 ct2), sl2⟩) (c2 : PySem.W.codeIn K cd2 "common" = true) (k2 : PySem.W.keepIn K (.ref f2) = true)
    (a3 : PySem.W.nsIn K mainGlobals "common_sign" = some (some (.ref f3))) (l3 : K.lookup f3 = some ⟨oc3, od3, .func (PySem.W.fnOf "common_sign" "common_sign" (defArgs s_common_sign) (defBody s_common_sign) (defScope s_common_sign) .none kV3 dc3 pm3 an3 cd3 ct3), sl3⟩) (c3 : PySem.W.codeIn K cd3 "common_sign" = true) (k3 : PySem.W.keepIn K (.ref f3) = true)
    (a4 : PySem.W.nsIn K mainGlobals "split" = some (some (.ref f4))) (l4 : K.lookup f4 = some ⟨oc4, od4, .func (PySem.W.fnOf "split" "split" (defArgs s_split) (defBody s_split) (defScope s_split) .none kV4 dc4 pm4 an4 cd4 ct4), sl4⟩) (c4 : PySem.W.codeIn K cd4 "split" = true) (k4 : PySem.W.keepIn K (.ref f4) = true)
    (a5 : PySem.W.nsIn K mainGlobals "_law_box" = some (some (.ref f5))) (l5 : K.lookup f5 = some ⟨oc5, od5, .func (PySem.W.fnOf "_law_box" "_law_box" (defArgs sBox) (defBody sBox) (defScope sBox) .none kV5 dc5 pm5 an5 cd5 ct5), sl5⟩) (c5 : PySem.W.codeIn K cd5 "_law_box" = true) (k5 : PySem.W.keepIn K (.ref f5) = true)
    (a6 : PySem.W.nsIn K mainGlobals "_law_take" = some (some (.ref f6))) (l6 : K.lookup f6 = some ⟨oc6, od6, .func (PySem.W.fnOf "_law_take" "_law_take" (defArgs sTake) (defBody sTake) (defScope sTake) .none kV6 dc6 pm6 an6 cd6 ct6), sl6⟩) (c6 : PySem.W.codeIn K cd6 "_law_take" = true) (k6 : PySem.W.keepIn K (.ref f6) = true)
    (a7 : PySem.W.nsIn K mainGlobals "_law_folded" = some (some (.ref f7))) (l7 : K.lookup f7 = some ⟨oc7, od7, .func (PySem.W.fnOf "_law_folded" "_law_folded" (defArgs sFolded) (defBody sFolded) (defScope sFolded) .none kV7 dc7 pm7 an7 cd7 ct7), sl7⟩) (c7 : PySem.W.codeIn K cd7 "_law_folded" = true) (k7 : PySem.W.keepIn K (.ref f7) = true)
    (a8 : PySem.W.nsIn K mainGlobals "_law_same" = some (some (.ref f8))) (l8 : K.lookup f8 = some ⟨oc8, od8, .func (PySem.W.fnOf "_law_same" "_law_same" (defArgs sSame) (defBody sSame) (defScope sSame) .none kV8 dc8 pm8 an8 cd8 ct8), sl8⟩) (c8 : PySem.W.codeIn K cd8 "_law_same" = true) (k8 : PySem.W.keepIn K (.ref f8) = true)
    (a9 : PySem.W.nsIn K mainGlobals "_law_told" = some (some (.ref f9))) (l9 : K.lookup f9 = some ⟨oc9, od9, .func (PySem.W.fnOf "_law_told" "_law_told" (defArgs s__law_told) (defBody s__law_told) (defScope s__law_told) .none kV9 dc9 pm9 an9 cd9 ct9), sl9⟩) (c9 : PySem.W.codeIn K cd9 "_law_told" = true) (k9 : PySem.W.keepIn K (.ref f9) = true)
    (a10 : PySem.W.nsIn K mainGlobals "_law_parted" = some (some (.ref f10))) (l10 : K.lookup f10 = some ⟨oc10, od10, .func (PySem.W.fnOf "_law_parted" "_law_parted" (defArgs s__law_parted) (defBody s__law_parted) (defScope s__law_parted) .none kV10 dc10 pm10 an10 cd10 ct10), sl10⟩) (c10 : PySem.W.codeIn K cd10 "_law_parted" = true) (k10 : PySem.W.keepIn K (.ref f10) = true)
    (a11 : PySem.W.nsIn K mainGlobals "_law_right" = some (some (.ref f11))) (l11 : K.lookup f11 = some ⟨oc11, od11, .func (PySem.W.fnOf "_law_right" "_law_right" (defArgs s__law_right) (defBody s__law_right) (defScope s__law_right) .none kV11 dc11 pm11 an11 cd11 ct11), sl11⟩) (c11 : PySem.W.codeIn K cd11 "_law_right" = true) (k11 : PySem.W.keepIn K (.ref f11) = true)
    (a12 : PySem.W.nsIn K mainGlobals "law" = some (some (.ref f12))) (l12 : K.lookup f12 = some ⟨oc12, od12, .func (PySem.W.fnOf "law" "law" (defArgs s_law) (defBody s_law) (defScope s_law) .none kV12 dc12 pm12 an12 cd12 ct12), sl12⟩) (c12 : PySem.W.codeIn K cd12 "law" = true) (k12 : PySem.W.keepIn K (.ref f12) = true)
    (z1 : PySem.W.nsIn K mainGlobals "len" = some none)
    (z2 : PySem.W.nsIn K mainGlobals "abs" = some none)
    (z3 : PySem.W.nsIn K mainGlobals "int" = some none)
    (z4 : PySem.W.nsIn K mainGlobals "divmod" = some none)
    (z5 : PySem.W.nsIn K mainGlobals "list" = some none)
    (z6 : PySem.W.nsIn K mainGlobals "enumerate" = some none)
    (z7 : PySem.W.nsIn K mainGlobals "isinstance" = some none)
    (z8 : PySem.W.nsIn K mainGlobals "tuple" = some none)
    (z9 : PySem.W.nsIn K mainGlobals "str" = some none)
    (z10 : PySem.W.nsIn K mainGlobals "bool" = some none)
    (z11 : PySem.W.nsIn K mainGlobals "zip" = some none)
    (z12 : PySem.W.nsIn K mainGlobals "all" = some none)
    (z13 : PySem.W.nsIn K mainGlobals "range" = some none)
    (z14 : PySem.W.nsIn K mainGlobals "max" = some none)
    (z15 : PySem.W.nsIn K mainGlobals "any" = some none)
    (z16 : PySem.W.nsIn K mainGlobals "min" = some none)
    (z17 : PySem.W.nsIn K mainGlobals "sum" = some none)
    (aENoPlace : PySem.W.nsIn K mainGlobals "NoPlace" = some (some (.ref ENoPlace)))
    (cENoPlace : K.lookup ENoPlace = some (excClassObj nmNoPlace qqNoPlace ENoPlace NNoPlace bsNoPlace [.type "IndexError", .type "LookupError", .type "Exception", .type "BaseException", .type "object"] true snNoPlace sbNoPlace abNoPlace coNoPlace ddNoPlace kaNoPlace kbNoPlace kcNoPlace kdNoPlace keNoPlace "IndexError.__new__"))
    (saENoPlace : PySem.W.findIn K (.ref ENoPlace) "__setattr__" = some (some (.builtin "object.__setattr__")))
    (gaENoPlace : PySem.W.findIn K (.ref ENoPlace) "__getattribute__" = some (some (.builtin "BaseException.__getattribute__")))
    (ggENoPlace : PySem.W.findIn K (.ref ENoPlace) "__getattr__" = some none)
    (nwENoPlace : PySem.W.findIn K (.ref ENoPlace) "what" = some none)
    (inENoPlace : PySem.W.findIn K (.ref ENoPlace) "__init__" = some (some (.ref INoPlace)))
    (tiENoPlace : PySem.W.typeIn K (.ref INoPlace) = some (.type "function"))
    (liENoPlace : K.lookup INoPlace = some ⟨ocINoPlace, odINoPlace, .func (PySem.W.fnOf "__init__" "NoPlace.__init__" (PySem.WhX.whA p1NoPlace p2NoPlace) (PySem.WhX.whB q1NoPlace q2NoPlace q3NoPlace q4NoPlace) PySem.WhX.whS .none .none dcINoPlace pmINoPlace anINoPlace cdINoPlace ctINoPlace), slINoPlace⟩)
    (ciENoPlace : PySem.W.codeIn K cdINoPlace "NoPlace.__init__" = true)
    (kcENoPlace : PySem.W.keepIn K (.ref ENoPlace) = true)
    (exENoPlace : PySem.W.subIn K (.ref ENoPlace) (.type "BaseException") = some true)
    (tyENoPlace : PySem.W.typeIn K (.ref ENoPlace) = some (.type "type"))
    (hdENoPlace : PySem.W.hasDictIn K ENoPlace = true)
    (clENoPlace : PySem.W.findIn K (.ref ENoPlace) "__class__" = some (some (.builtin "object.__class__")))
    (spENoPlace : PySem.W.specialIn K (.builtin "object.__class__") "__get__" = some (some (.builtin "getset_descriptor.__get__")))
    (tkENoPlace : PySem.W.takesIn K (.builtin "object.__class__") = some true)
    (mrENoPlace : PySem.W.mroIn K ENoPlace (.type "object") = some true)
    (suENoPlace : PySem.W.subIn K (.ref ENoPlace) (.ref ENoPlace) = some true)
    (aEBadRow : PySem.W.nsIn K mainGlobals "BadRow" = some (some (.ref EBadRow)))
    (tyEBadRow : PySem.W.typeIn K (.ref EBadRow) = some (.type "type"))
    (hdEBadRow : PySem.W.hasDictIn K EBadRow = true)
    (aENoDeed : PySem.W.nsIn K mainGlobals "NoDeed" = some (some (.ref ENoDeed)))
    (tyENoDeed : PySem.W.typeIn K (.ref ENoDeed) = some (.type "type"))
    (hdENoDeed : PySem.W.hasDictIn K ENoDeed = true)
    (aENoWire : PySem.W.nsIn K mainGlobals "NoWire" = some (some (.ref ENoWire)))
    (tyENoWire : PySem.W.typeIn K (.ref ENoWire) = some (.type "type"))
    (hdENoWire : PySem.W.hasDictIn K ENoWire = true)
    (aETooMuch : PySem.W.nsIn K mainGlobals "TooMuch" = some (some (.ref ETooMuch)))
    (tyETooMuch : PySem.W.typeIn K (.ref ETooMuch) = some (.type "type"))
    (hdETooMuch : PySem.W.hasDictIn K ETooMuch = true)
    (aEUnfit : PySem.W.nsIn K mainGlobals "Unfit" = some (some (.ref EUnfit)))
    (tyEUnfit : PySem.W.typeIn K (.ref EUnfit) = some (.type "type"))
    (hdEUnfit : PySem.W.hasDictIn K EUnfit = true)
    (zEIndexError : PySem.W.nsIn K mainGlobals "IndexError" = some none)
    (sqNoPlace_IndexError : PySem.W.subIn K (.ref ENoPlace) (.type "IndexError") = some true)
    (sqNoPlace_NoWire : PySem.W.subIn K (.ref ENoPlace) (.ref ENoWire) = some false)
    (nqNoPlace_NoWire : (Value.ref ENoPlace == Value.ref ENoWire) = false)
    (sqNoPlace_NoDeed : PySem.W.subIn K (.ref ENoPlace) (.ref ENoDeed) = some false)
    (nqNoPlace_NoDeed : (Value.ref ENoPlace == Value.ref ENoDeed) = false)
    (sqNoPlace_Unfit : PySem.W.subIn K (.ref ENoPlace) (.ref EUnfit) = some false)
    (nqNoPlace_Unfit : (Value.ref ENoPlace == Value.ref EUnfit) = false)
    (exEBadRow : PySem.W.subIn K (.ref EBadRow) (.type "BaseException") = some true)
    (sqNoPlace_BadRow : PySem.W.subIn K (.ref ENoPlace) (.ref EBadRow) = some false)
    (exENoDeed : PySem.W.subIn K (.ref ENoDeed) (.type "BaseException") = some true)
    (exENoWire : PySem.W.subIn K (.ref ENoWire) (.type "BaseException") = some true)
    (exETooMuch : PySem.W.subIn K (.ref ETooMuch) (.type "BaseException") = some true)
    (sqNoPlace_TooMuch : PySem.W.subIn K (.ref ENoPlace) (.ref ETooMuch) = some false)
    (exEUnfit : PySem.W.subIn K (.ref EUnfit) (.type "BaseException") = some true)
    : ∃ fd : FuncData, (∀ (s : Shared) (v : Value), BindsTo s fd ⟨[v], []⟩ [("_law_script", v)]) ∧ ∀ base : Heap, K.In base → base.Ns mainGlobals mg → FnOk l.prog w K mg base CX0 13 fa fd ["_law_script"] (spLaw K) := by
  have e := hfa.symm.trans (PySem.W.mg_of X G a12)
  cases e
  have F1 := fun_mk (st := s_lies_in) l1 c1 k1
  have b1 := F1.binds (ps := ["bits", "cube"]) fun _ _ _ _ _ _ us hl => match us, hl with | [_, _], _ => rfl
  have m1 := PySem.W.mg_of X G a1
  have F2 := fun_mk (st := s_common) l2 c2 k2
  have b2 := F2.binds (ps := ["one", "other"]) fun _ _ _ _ _ _ us hl => match us, hl with | [_, _], _ => rfl
  have m2 := PySem.W.mg_of X G a2
  have F3 := fun_mk (st := s_common_sign) l3 c3 k3
  have b3 := F3.binds (ps := ["sign", "other_sign"]) fun _ _ _ _ _ _ us hl => match us, hl with | [_, _], _ => rfl
  have m3 := PySem.W.mg_of X G a3
  have F4 := fun_mk (st := s_split) l4 c4 k4
  have b4 := F4.binds (ps := ["cube", "place"]) fun _ _ _ _ _ _ us hl => match us, hl with | [_, _], _ => rfl
  have m4 := PySem.W.mg_of X G a4
  have F5 := fun_mk (st := sBox) l5 c5 k5
  have b5 := F5.binds (ps := ["_law_script", "_law_k"]) fun _ _ _ _ _ _ us hl => match us, hl with | [_, _], _ => rfl
  have m5 := PySem.W.mg_of X G a5
  have F6 := fun_mk (st := sTake) l6 c6 k6
  have b6 := F6.binds (ps := ["_law_box_here", "_law_size"]) fun _ _ _ _ _ _ us hl => match us, hl with | [_, _], _ => rfl
  have m6 := PySem.W.mg_of X G a6
  have F7 := fun_mk (st := sFolded) l7 c7 k7
  have b7 := F7.binds (ps := ["_law_script", "_law_size"]) fun _ _ _ _ _ _ us hl => match us, hl with | [_, _], _ => rfl
  have m7 := PySem.W.mg_of X G a7
  have F8 := fun_mk (st := sSame) l8 c8 k8
  have b8 := F8.binds (ps := ["_law_found", "_law_due"]) fun _ _ _ _ _ _ us hl => match us, hl with | [_, _], _ => rfl
  have m8 := PySem.W.mg_of X G a8
  have F9 := fun_mk (st := s__law_told) l9 c9 k9
  have b9 := F9.binds (ps := ["_law_cube", "_law_place"]) fun _ _ _ _ _ _ us hl => match us, hl with | [_, _], _ => rfl
  have m9 := PySem.W.mg_of X G a9
  have F10 := fun_mk (st := s__law_parted) l10 c10 k10
  have b10 := F10.binds (ps := ["_law_box_here", "_law_cube", "_law_most"]) fun _ _ _ _ _ _ us hl => match us, hl with | [_, _, _], _ => rfl
  have m10 := PySem.W.mg_of X G a10
  have F11 := fun_mk (st := s__law_right) l11 c11 k11
  have b11 := F11.binds (ps := ["_law_box_here"]) fun _ _ _ _ _ _ us hl => match us, hl with | [_], _ => rfl
  have m11 := PySem.W.mg_of X G a11
  have F12 := fun_mk (st := s_law) l12 c12 k12
  have B : Bl mg := ⟨PySem.W.mg_none_of X G z1, PySem.W.mg_none_of X G z2, PySem.W.mg_none_of X G z3, PySem.W.mg_none_of X G z4, PySem.W.mg_none_of X G z5, PySem.W.mg_none_of X G z6, PySem.W.mg_none_of X G z7, PySem.W.mg_none_of X G z8, PySem.W.mg_none_of X G z9, PySem.W.mg_none_of X G z10, PySem.W.mg_none_of X G z11, PySem.W.mg_none_of X G z12, PySem.W.mg_none_of X G z13, PySem.W.mg_none_of X G z14, PySem.W.mg_none_of X G z15, PySem.W.mg_none_of X G z16, PySem.W.mg_none_of X G z17⟩
  refine ⟨PySem.W.fnOf "law" "law" (defArgs s_law) (defBody s_law) (defScope s_law) .none kV12 dc12 pm12 an12 cd12 ct12, fun s v => .of_eq rfl, fun base _ _ => ?_⟩
  have L : LL K mg f1 f2 f3 f4 f5 f6 f7 f8 f9 f10 f11 _ _ _ _ _ _ _ _ _ _ _  ENoPlace INoPlace EBadRow ENoDeed ENoWire ETooMuch EUnfit := ⟨F1, m1, b1, F2, m2, b2, F3, m3, b3, F4, m4, b4, F5, m5, b5, F6, m6, b6, F7, m7, b7, F8, m8, b8, F9, m9, b9, F10, m10, b10, F11, m11, b11, PySem.W.mg_of X G aENoPlace, ⟨⟨gaENoPlace, ggENoPlace, nwENoPlace, kcENoPlace, exENoPlace, tyENoPlace, hdENoPlace, clENoPlace, spENoPlace, tkENoPlace, mrENoPlace⟩, ⟨_, _, _, _, _, _, _, _, _, _, _, _, _, _, _, _, _, _, PySem.F.excBase_IndexError, cENoPlace, by decide +kernel, PySem.F.store_IndexError.passes⟩, saENoPlace, inENoPlace, tiENoPlace, ⟨_, _, _, _, _, _, _, _, _, _, _, _, _, _, _, liENoPlace, ciENoPlace⟩⟩, PySem.W.exm_ref exENoPlace hdENoPlace tyENoPlace suENoPlace, PySem.W.mg_of X G aEBadRow, PySem.W.mg_of X G aENoDeed, PySem.W.mg_of X G aENoWire, PySem.W.mg_of X G aETooMuch, PySem.W.mg_of X G aEUnfit, PySem.W.mg_none_of X G zEIndexError, kit_self, kit_bt sqNoPlace_IndexError, kit_own nqNoPlace_NoWire hdENoWire tyENoWire sqNoPlace_NoWire, kit_own nqNoPlace_NoDeed hdENoDeed tyENoDeed sqNoPlace_NoDeed, kit_own nqNoPlace_Unfit hdEUnfit tyEUnfit sqNoPlace_Unfit, PySem.W.exm_ref exEBadRow hdEBadRow tyEBadRow sqNoPlace_BadRow, PySem.W.exm_ref exENoDeed hdENoDeed tyENoDeed sqNoPlace_NoDeed, PySem.W.exm_ref exENoWire hdENoWire tyENoWire sqNoPlace_NoWire, PySem.W.exm_ref exETooMuch hdETooMuch tyETooMuch sqNoPlace_TooMuch, PySem.W.exm_ref exEUnfit hdEUnfit tyEUnfit sqNoPlace_Unfit⟩
  exact ok_law F12 B L
end GZ
open PySem PySem.W PyProof.Rows
set_option maxRecDepth 100000 in
set_option maxHeartbeats 0 in
theorem PySem.Challenge.cw_guessedzeros_k58_cubes_split_holds : PySem.Challenge.rw_guessedzeros_k58_cubes_split.Holds := by
  w_on; o_law; k_head; (case hw => w_witness2)
  k_fill
  refine L2.walk_of (l := PySem.Challenge.rw_guessedzeros_k58_cubes_split) (n := 63) (k := 13) (x := "_law_script") (CX := fun _ => L2.CX0) (sp := fun w => GZ.spLaw _) rfl (by decide) rfl ⟨rfl, by decide, by decide⟩ (fun w h Y => PySem.W.kIn_of Y) ?F (fun _ _ a ns hl _ hS => ⟨a, ns, rfl, hS, hl, fun _ => rfl⟩) (fun _ _ _ _ _ h => h)
  case F =>
    intro w mg fa h KX G hmg
    refine' GZ.all_mk KX G hmg ?a1 ?l1 ?c1 ?k1 ?a2 ?l2 ?c2 ?k2 ?a3 ?l3 ?c3 ?k3 ?a4 ?l4 ?c4 ?k4 ?a5 ?l5 ?c5 ?k5 ?a6 ?l6 ?c6 ?k6 ?a7 ?l7 ?c7 ?k7 ?a8 ?l8 ?c8 ?k8 ?a9 ?l9 ?c9 ?k9 ?a10 ?l10 ?c10 ?k10 ?a11 ?l11 ?c11 ?k11 ?a12 ?l12 ?c12 ?k12 ?z1 ?z2 ?z3 ?z4 ?z5 ?z6 ?z7 ?z8 ?z9 ?z10 ?z11 ?z12 ?z13 ?z14 ?z15 ?z16 ?z17 ?aENoPlace ?cENoPlace ?saENoPlace ?gaENoPlace ?ggENoPlace ?nwENoPlace ?inENoPlace ?tiENoPlace ?liENoPlace ?ciENoPlace ?kcENoPlace ?exENoPlace ?tyENoPlace ?hdENoPlace ?clENoPlace ?spENoPlace ?tkENoPlace ?mrENoPlace ?suENoPlace ?aEBadRow ?tyEBadRow ?hdEBadRow ?aENoDeed ?tyENoDeed ?hdENoDeed ?aENoWire ?tyENoWire ?hdENoWire ?aETooMuch ?tyETooMuch ?hdETooMuch ?aEUnfit ?tyEUnfit ?hdEUnfit ?zEIndexError ?sqNoPlace_IndexError ?sqNoPlace_NoWire ?nqNoPlace_NoWire ?sqNoPlace_NoDeed ?nqNoPlace_NoDeed ?sqNoPlace_Unfit ?nqNoPlace_Unfit ?exEBadRow ?sqNoPlace_BadRow ?exENoDeed ?exENoWire ?exETooMuch ?sqNoPlace_TooMuch ?exEUnfit
    (case a1 => k_is)
    (case l1 => k_is)
    (case c1 => k_is)
    (case k1 => k_is)
    (case a2 => k_is)
    (case l2 => k_is)
    (case c2 => k_is)
    (case k2 => k_is)
    (case a3 => k_is)
    (case l3 => k_is)
    (case c3 => k_is)
    (case k3 => k_is)
    (case a4 => k_is)
    (case l4 => k_is)
    (case c4 => k_is)
    (case k4 => k_is)
    (case a5 => k_is)
    (case l5 => k_is)
    (case c5 => k_is)
    (case k5 => k_is)
    (case a6 => k_is)
    (case l6 => k_is)
    (case c6 => k_is)
    (case k6 => k_is)
    (case a7 => k_is)
    (case l7 => k_is)
    (case c7 => k_is)
    (case k7 => k_is)
    (case a8 => k_is)
    (case l8 => k_is)
    (case c8 => k_is)
    (case k8 => k_is)
    (case a9 => k_is)
    (case l9 => k_is)
    (case c9 => k_is)
    (case k9 => k_is)
    (case a10 => k_is)
    (case l10 => k_is)
    (case c10 => k_is)
    (case k10 => k_is)
    (case a11 => k_is)
    (case l11 => k_is)
    (case c11 => k_is)
    (case k11 => k_is)
    (case a12 => k_is)
    (case l12 => k_is)
    (case c12 => k_is)
    (case k12 => k_is)
    (case z1 => k_is)
    (case z2 => k_is)
    (case z3 => k_is)
    (case z4 => k_is)
    (case z5 => k_is)
    (case z6 => k_is)
    (case z7 => k_is)
    (case z8 => k_is)
    (case z9 => k_is)
    (case z10 => k_is)
    (case z11 => k_is)
    (case z12 => k_is)
    (case z13 => k_is)
    (case z14 => k_is)
    (case z15 => k_is)
    (case z16 => k_is)
    (case z17 => k_is)
    (case aENoPlace => k_is)
    (case cENoPlace => k_is)
    (case saENoPlace => k_is)
    (case gaENoPlace => k_is)
    (case ggENoPlace => k_is)
    (case nwENoPlace => k_is)
    (case inENoPlace => k_is)
    (case tiENoPlace => k_is)
    (case liENoPlace => k_is)
    (case ciENoPlace => k_is)
    (case kcENoPlace => k_is)
    (case exENoPlace => k_is)
    (case tyENoPlace => k_is)
    (case hdENoPlace => k_is)
    (case clENoPlace => k_is)
    (case spENoPlace => k_is)
    (case tkENoPlace => k_is)
    (case mrENoPlace => k_is)
    (case suENoPlace => first | rfl | k_is)
    (case aEBadRow => k_is)
    (case tyEBadRow => k_is)
    (case hdEBadRow => k_is)
    (case aENoDeed => k_is)
    (case tyENoDeed => k_is)
    (case hdENoDeed => k_is)
    (case aENoWire => k_is)
    (case tyENoWire => k_is)
    (case hdENoWire => k_is)
    (case aETooMuch => k_is)
    (case tyETooMuch => k_is)
    (case hdETooMuch => k_is)
    (case aEUnfit => k_is)
    (case tyEUnfit => k_is)
    (case hdEUnfit => k_is)
    (case zEIndexError => k_is)
    (case sqNoPlace_IndexError => first | rfl | k_is)
    (case sqNoPlace_NoWire => first | rfl | k_is)
    (case nqNoPlace_NoWire => rfl)
    (case sqNoPlace_NoDeed => first | rfl | k_is)
    (case nqNoPlace_NoDeed => rfl)
    (case sqNoPlace_Unfit => first | rfl | k_is)
    (case nqNoPlace_Unfit => rfl)
    (case exEBadRow => k_is)
    (case sqNoPlace_BadRow => first | rfl | k_is)
    (case exENoDeed => k_is)
    (case exENoWire => k_is)
    (case exETooMuch => k_is)
    (case sqNoPlace_TooMuch => first | rfl | k_is)
    (case exEUnfit => k_is)

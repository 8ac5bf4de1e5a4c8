import PyProof.Rows.All
import Wide.All
import OpenK.AllK
import Wide.FinOn
import HandS.ForMost
import HandS.Walk
import HandS.Zip
import HandS.WideBits
import HandS.IsInst
import OpenK.KEqL
import PySem.Challenge.RW_guessedzeros_k22_marks_of_digits
set_option Elab.async false
set_option linter.all false
set_option maxRecDepth 100000
set_option maxHeartbeats 4000000
namespace GZ
open PySem PySem.Spec PyProof.Rows L2
/-! ### the text by places -/
def topS (i : Nat) : Stmt := PySem.Challenge.pw_guessedzeros_k22_marks_of_digits.main.body.getD i (.Pass ⟨0, 0, 0, 0⟩)
abbrev sBox : Stmt := topS 4
abbrev sTake : Stmt := topS 5
abbrev sFolded : Stmt := topS 6
abbrev sSame : Stmt := topS 7
/-! ### built-in names that the text leaves alone -/
structure Bl (mg : Str → Option Value) : Prop where
  len : mg "len" = none
  abs : mg "abs" = none
  int : mg "int" = none
  divmod : mg "divmod" = none
  list : mg "list" = none
  enumerate : mg "enumerate" = none
  isinstance : mg "isinstance" = none
  tuple : mg "tuple" = none
  str : mg "str" = none
  bool : mg "bool" = none
  zip : mg "zip" = none
  all : mg "all" = none
  range : mg "range" = none
  max : mg "max" = none
  any : mg "any" = none
/-! ### heaps -/
theorem same_upd {H : Hp} {p : Addr} {o : HO} (h : H p = none) : Same H (upd H p o) := fun b x e => by
  rw [upd_ne (ne_of_none e h)]
  exact e
/-- all but what stands at b is as it was -/
def Keep (b : Addr) (H H' : Hp) : Prop := ∀ p o, H p = some o → p ≠ b → H' p = some o
theorem Keep.refl (b : Addr) (H : Hp) : Keep b H H := fun _ _ h _ => h
theorem Keep.trans {b : Addr} {H H1 H2 : Hp} (x : Keep b H H1) (y : Keep b H1 H2) : Keep b H H2 := fun p o h n => y p o (x p o h n) n
theorem Keep.ofSame {b : Addr} {H H1 : Hp} (x : Same H H1) : Keep b H H1 := fun p o h _ => x p o h
theorem Keep.upd {b : Addr} {H : Hp} {o : HO} : Keep b H (upd H b o) := fun p x h n => by
  rw [upd_ne n]
  exact h
theorem Keep.new {b p : Addr} {H : Hp} {o : HO} (h : H p = none) : Keep b H (L2.upd H p o) := .ofSame (same_upd h)
theorem Keep.seq {K : PySem.W.Frag} {b a : Addr} {H H' : Hp} {xs : List V} (e : Keep b H H') (n : a ≠ b) (h : SqL K H a xs) : SqL K H' a xs := by
  rcases h with (h | ⟨o, h⟩) | h
  · exact .inl (.inl (e _ _ h n))
  · exact .inl (.inr ⟨o, e _ _ h n⟩)
  · exact .inr h
theorem Keep.seqT {K : PySem.W.Frag} {b a : Addr} {H H' : Hp} {xs : List V} (e : Keep b H H') (n : a ≠ b) (h : SqT K H a xs) : SqT K H' a xs := by
  rcases h with (h | ⟨o, h⟩) | h
  · exact .inl (.inl (e _ _ h n))
  · exact .inl (.inr ⟨o, e _ _ h n⟩)
  · exact .inr h
theorem Same.seqT {K : PySem.W.Frag} {a : Addr} {H H' : Hp} {xs : List V} (e : Same H H') (h : SqT K H a xs) : SqT K H' a xs := by
  rcases h with (h | ⟨o, h⟩) | h
  · exact .inl (.inl (e _ _ h))
  · exact .inl (.inr ⟨o, e _ _ h⟩)
  · exact .inr h
/-- a drawing box: three ints, the last at most c -/
def BoxAt (c : Int) (H : Hp) (b : Addr) : Prop := ∃ x0 x1 x2 : Int, H b = some (.lst [.int x0, .int x1, .int x2]) ∧ 0 ≤ x0 ∧ 0 ≤ x1 ∧ x1 < 2147483647 ∧ 0 ≤ x2 ∧ x2 ≤ c
theorem BoxAt.mono {c d : Int} {H : Hp} {b : Addr} (h : BoxAt c H b) (l : c ≤ d) : BoxAt d H b := by
  obtain ⟨x0, x1, x2, e, a1, a2, a3, a4, a5⟩ := h
  exact ⟨x0, x1, x2, e, a1, a2, a3, a4, by omega⟩
theorem BoxAt.same {c : Int} {H H' : Hp} {b : Addr} (h : BoxAt c H b) (s : Same H H') : BoxAt c H' b := by
  obtain ⟨x0, x1, x2, e, r⟩ := h
  exact ⟨x0, x1, x2, s _ _ e, r⟩
theorem BoxAt.at {c : Int} {H H' : Hp} {b : Addr} (h : BoxAt c H b) (s : H' b = H b) : BoxAt c H' b := by
  obtain ⟨x0, x1, x2, e, r⟩ := h
  exact ⟨x0, x1, x2, by rw [s]; exact e, r⟩
theorem BoxAt.ne {c : Int} {H : Hp} {b p : Addr} (h : BoxAt c H b) (n : H p = none) : b ≠ p := by
  obtain ⟨x0, x1, x2, e, r⟩ := h
  exact ne_of_none e n
theorem e7 : (10 : Int) ^ ((7 : Int).toNat) = 10000000 := by decide
theorem e18 : (10 : Int) ^ ((18 : Int).toNat) = 1000000000000000000 := by decide
theorem divp_small {i j : Int} (h0 : 0 < j) (h1 : j < 2 ^ 64) : CDivP i j := by
  refine ⟨h0, ?_⟩
  show (decide ((if j == 0 then 0 else j.natAbs.log2 / 30 + 1) > 300) && _) = false
  rw [if_neg (show ¬ (j == 0) = true by simpa using (show j ≠ 0 by omega))]
  have hl : j.natAbs.log2 < 64 := PySem.Flt.log2_lt_of (by decide) (by omega)
  rw [decide_eq_false (show ¬ (j.natAbs.log2 / 30 + 1 > 300) by omega), Bool.false_and]
section
variable {P : Program} {w : World} {K : PySem.W.Frag} {mg : Str → Option Value} {base : Heap}
/-! ### _law_take -/
theorem scTake : FnScope ["_law_box_here", "_law_size", "_law_found", "_law_step", "_law_once", "_law_twice"] ["_law_box_here", "_law_size"] (defScope sTake) := ⟨rfl, rfl, rfl, by decide +kernel, rfl, by decide +kernel, by decide +kernel⟩
def spTake (k : Nat) : Sp := fun vs H Q _ => ∃ (b : Addr) (n c : Int), vs = [.ref b, .int n] ∧ BoxAt c H b ∧ 1 ≤ n ∧ n ≤ 10000000 ^ k ∧ n < 2 ^ 60 ∧ c + 2 ^ k ≤ 1000000000 ∧ 0 < k ∧
  ∀ (r : Int) (H' : Hp), 0 ≤ r → r < n → BoxAt (c + 2 ^ (k - 1)) H' b → Keep b H H' → Q (.int r) H'
theorem take_none {f : Addr} {fd : FuncData} : FnOk P w K mg base CX0 0 f fd ["_law_box_here", "_law_size"] (spTake 0) := by
  have no : ∀ vs H Q E, ¬ spTake 0 vs H Q E := fun vs H Q E h => by
    obtain ⟨b, n, c, _, _, _, _, _, _, h0, _⟩ := h
    omega
  exact ⟨fun vs H Q E h => absurd h (no vs H Q E), fun A outer s H args us vs Q E _ _ _ _ h => absurd h (no vs H Q E)⟩
theorem ok_take1 {f : Addr} {fd : FuncData} {k : Nat} (F : Fun K "_law_take" "_law_take" sTake f fd) (G : FnOk P w K mg base CX0 k f fd ["_law_box_here", "_law_size"] (spTake k)) (bf : Binds K fd ["_law_box_here", "_law_size"] []) (mf : mg "_law_take" = some (.ref f)) (B : Bl mg) :
    FnOk P w K mg base CX0 (k + 1) f fd ["_law_box_here", "_law_size"] (spTake (k + 1)) := by
  refine F.ok scTake (fun vs H Q E h => ?_) (fun cdv A outer s H vs Q E hr h => ?_)
  · obtain ⟨b, n, c, rfl, _⟩ := h
    rfl
  obtain ⟨b, n, c, rfl, hB, hn1, hnk, hn60, hc, _, q⟩ := h
  obtain ⟨x0, x1, x2, hb, h0, h1, h1', h2, h2'⟩ := hB
  have hp : (0 : Int) < 2 ^ k := Int.pow_pos (by decide)
  have hk2 : (2 : Int) ^ (k + 1) = 2 ^ k * 2 := Int.pow_succ 2 k
  refine ⟨_, pss_cons (ps_if (pt_cmpR op_gt (pe_ix ix_list (pv 0) pe_int (fun _ _ => rfl)) pe_int (nomark _))
      (pss_cons (ps_asg (pe_callB call_divmodW (by rfl) B.divmod boot_divmod (pa_cons (pe_ix ix_list (pv 0) pe_int (fun _ _ => rfl)) (pa_cons (pv 1) pa_nil)))
          (pg_tup (by rfl) (pgs_cons (pg_sub (pv 0) pe_int set_list) (pgs_cons (pg_name (i := 2) scTake.nd rfl (.inl rfl)) pgs_nil))))
        (pss_one (ps_ret (pv 2)))) pss_nil)
    (pss_cons (ps_if (pt_cmpR op_gt (pv 1) (pe_op op_pow pe_int pe_int) (nomark _))
      (pss_one (ps_ret (pe_op op_mod (pe_op op_add (pe_call G hr (by rfl) mf F.kp bf .nil pass0 (pa_cons (pv 0) (pa_cons (pe_op op_pow pe_int pe_int) pa_nil)))
          (pe_op op_mul (pe_op op_pow pe_int pe_int) (pe_call G hr (by rfl) mf F.kp bf .nil pass0 (pa_cons (pv 0) (pa_cons (pe_op op_add (pe_op op_fdiv (pe_op op_sub (pv 1) pe_int) (pe_op op_pow pe_int pe_int)) pe_int) pa_nil))))) (pv 1)))) pss_nil)
    (pss_cons (ps_asg (pe_op op_add (pe_ix ix_list (pv 0) pe_int (fun _ _ => rfl)) pe_int) (pg_sub (pv 0) pe_int set_list))
    (pss_cons (ps_set (i := 3) scTake.nd rfl (.inl rfl) (pe_op op_add pe_int (pe_op op_mul (pe_ix ix_list (pv 0) pe_int (fun _ _ => rfl)) (pe_ix ix_list (pv 0) pe_int (fun _ _ => rfl)))))
    (pss_cons (ps_set (i := 4) scTake.nd rfl (.inl rfl) (pe_op op_mod (pe_op op_mul (pe_op op_add (pe_ix ix_list (pv 0) pe_int (fun _ _ => rfl)) (pe_op op_mul pe_int (pe_ix ix_list (pv 0) pe_int (fun _ _ => rfl)))) (pv 3)) pe_int))
    (pss_cons (ps_set (i := 5) scTake.nd rfl (.inl rfl) (pe_op op_mod (pe_op op_add (pe_op op_mul (pv 4) (pe_op op_add (pe_op op_mod (pv 4) pe_int) pe_int)) (pe_ix ix_list (pv 0) pe_int (fun _ _ => rfl))) pe_int))
    (pss_one (ps_ret (pe_op op_mod (pe_op op_fdiv (pe_op op_mod (pe_op op_mul (pv 5) (pe_op op_add (pe_op op_mod (pv 5) pe_int) pe_int)) pe_int) pe_int) (pv 1))))))))), ?_⟩
  refine ⟨_, rfl, b, _, _, _, rfl, rfl, SqL.of hb, rfl, _, _, rfl, rfl, _, rfl, ite2 (fun cc => ?_) (fun cc => ?_)⟩
  · -- the great number's own digits
    refine ⟨_, rfl, b, _, _, _, rfl, rfl, SqL.of hb, rfl, _, rfl, _, _, rfl, divp_small (by omega) (by omega), fun p np => ?_⟩
    have nbp : b ≠ p := ne_of_none hb np
    refine ⟨p, _, rfl, .inl (.inl upd_same), rfl, _, _, rfl, _, rfl, b, _, _, 0, rfl, rfl, (by rw [upd_ne nbp]; exact hb), rfl, _, _, rfl, rfl, _, rfl, ?_⟩
    refine q _ _ (Int.emod_nonneg _ (by omega)) (Int.emod_lt_of_pos _ (by omega)) ⟨x0 / n, x1, x2, upd_same, Int.ediv_nonneg h0 (by omega), h1, h1', h2, by show x2 ≤ c + 2 ^ k; omega⟩ ?_
    exact Keep.trans (Keep.new np) Keep.upd
  · refine ⟨_, rfl, _, _, rfl, rfl, ⟨by decide, by decide, by decide⟩, _, _, rfl, rfl, _, rfl, ite2 (fun c2 => ?_) (fun c2 => ?_)⟩
    · -- two lesser draws
      have c3 : (10 : Int) ^ ((7 : Int).toNat) < n := of_decide_eq_true c2
      rw [e7] at c3
      have hk : 0 < k := by
        rcases Nat.eq_zero_or_pos k with z | z
        · subst z
          rw [show (10000000 : Int) ^ (0 + 1) = 10000000 by decide] at hnk
          omega
        · exact z
      obtain ⟨j, rfl⟩ : ∃ j, k = j + 1 := ⟨k - 1, by omega⟩
      have hj2 : (2 : Int) ^ (j + 1) = 2 ^ j * 2 := Int.pow_succ 2 j
      have hjp : (0 : Int) < 2 ^ j := Int.pow_pos (by decide)
      have h10 : (10000000 : Int) ≤ 10000000 ^ (j + 1) := by
        rw [Int.pow_succ]
        have : (0 : Int) < 10000000 ^ j := Int.pow_pos (by decide)
        omega
      have hdiv : (n - 1) / 10000000 + 1 ≤ 10000000 ^ (j + 1) := by
        rw [Int.pow_succ] at hnk
        have : n - 1 < 10000000 ^ (j + 1) * 10000000 := by omega
        have := Int.ediv_lt_of_lt_mul (by decide) this
        omega
      refine ⟨_, rfl, _, _, rfl, rfl, ⟨by decide, by decide, by decide⟩, b, _, c, rfl, ⟨x0, x1, x2, hb, h0, h1, h1', h2, h2'⟩, (by rw [e7]; decide), (by rw [e7]; exact h10), (by rw [e7]; decide), by omega, by omega, fun r1 H1 a1 a2 B1 k1 => ?_⟩
      refine ⟨_, _, rfl, rfl, ⟨by decide, by decide, by decide⟩, _, rfl, _, rfl, _, _, rfl, rfl, _, _, rfl, rfl, ⟨by decide, by decide, by decide⟩, _, _, rfl, rfl, (by rw [e7]; exact ⟨by decide, by decide⟩), _, _, rfl, rfl, ?_⟩
      rw [e7]
      refine ⟨b, _, c + 2 ^ j, rfl, B1, by omega, hdiv, by omega, by omega, by omega, fun r2 H2 a3 a4 B2 k2 => ?_⟩
      refine ⟨_, _, rfl, rfl, .inl ⟨by decide, by decide⟩, _, _, rfl, rfl, _, rfl, _, _, rfl, rfl, (by show (0 : Int) < n; omega), ?_⟩
      refine q _ _ (Int.emod_nonneg _ (by omega)) (Int.emod_lt_of_pos _ (by omega)) (B2.mono ?_) (k1.trans k2)
      show c + 2 ^ j + 2 ^ j ≤ c + 2 ^ (j + 1)
      omega
    · -- a turn of the wheel
      refine ⟨_, rfl, b, _, _, _, rfl, rfl, SqL.of hb, rfl, _, _, rfl, rfl, _, rfl, b, _, _, 2, rfl, rfl, hb, rfl, ?_⟩
      have hb2 : (upd H b (.lst [.int x0, .int x1, .int (x2 + 1)])) b = some (.lst [.int x0, .int x1, .int (x2 + 1)]) := upd_same
      refine ⟨_, rfl, b, _, _, _, rfl, rfl, SqL.of hb2, rfl, _, rfl, b, _, _, _, rfl, rfl, SqL.of hb2, rfl, _, _, rfl, rfl, .inl ⟨by omega, by omega⟩, _, _, rfl, rfl, ?_⟩
      refine ⟨_, rfl, b, _, _, _, rfl, rfl, SqL.of hb2, rfl, _, rfl, b, _, _, _, rfl, rfl, SqL.of hb2, rfl, _, _, rfl, rfl, .inl ⟨by omega, by omega⟩, _, _, rfl, rfl, _, rfl, _, _, rfl, rfl, .inl ⟨by omega, by omega⟩, _, _, rfl, rfl, (by show (0 : Int) < 2147483587; decide), ?_⟩
      generalize (x1 + 39373 * (x2 + 1)) * (69621 + (x2 + 1) * (x2 + 1)) = y
      have y1 := Int.emod_nonneg y (show (2147483587 : Int) ≠ 0 by decide)
      have y2 := Int.emod_lt_of_pos y (show (0 : Int) < 2147483587 by decide)
      refine ⟨_, rfl, _, rfl, _, _, rfl, rfl, (by show (0 : Int) < 30011; decide), _, _, rfl, rfl, _, _, rfl, rfl, .inl ⟨by omega, by omega⟩, _, rfl, b, _, _, _, rfl, rfl, SqL.of hb2, rfl, _, _, rfl, rfl, _, _, rfl, rfl, (by show (0 : Int) < 2147483563; decide), ?_⟩
      generalize (y % 2147483587 * (y % 2147483587 % 30011 + 5) + (x2 + 1)) = z
      have z1 := Int.emod_nonneg z (show (2147483563 : Int) ≠ 0 by decide)
      have z2 := Int.emod_lt_of_pos z (show (0 : Int) < 2147483563 by decide)
      refine ⟨_, rfl, _, rfl, _, _, rfl, rfl, (by show (0 : Int) < 1013; decide), _, _, rfl, rfl, _, _, rfl, rfl, .inl ⟨by omega, by omega⟩, _, _, rfl, rfl, (by show (0 : Int) < 998244353; decide), _, _, rfl, rfl, ⟨by decide, by decide⟩, _, rfl, _, _, rfl, rfl, (by show (0 : Int) < n; omega), ?_⟩
      refine q _ _ (Int.emod_nonneg _ (by omega)) (Int.emod_lt_of_pos _ (by omega)) ⟨x0, x1, x2 + 1, hb2, h0, h1, h1', by omega, by show x2 + 1 ≤ c + 2 ^ k; omega⟩ Keep.upd
theorem ok_take {f : Addr} {fd : FuncData} (F : Fun K "_law_take" "_law_take" sTake f fd) (bf : Binds K fd ["_law_box_here", "_law_size"] []) (mf : mg "_law_take" = some (.ref f)) (B : Bl mg) : ∀ k : Nat, FnOk P w K mg base CX0 k f fd ["_law_box_here", "_law_size"] (spTake k)
  | 0 => take_none
  | k + 1 => ok_take1 F (ok_take F bf mf B k) bf mf B
/-! ### _law_box -/
theorem scBox : FnScope ["_law_script", "_law_k", "_law_cell"] ["_law_script", "_law_k"] (defScope sBox) := ⟨rfl, rfl, rfl, by decide +kernel, rfl, by decide +kernel, by decide +kernel⟩
def spBox (K : PySem.W.Frag) : Sp := fun vs H Q _ => ∃ (a : Addr) (zs : List Int) (k : Int), vs = [.ref a, .int k] ∧ SqL K H a (zs.map V.int) ∧ 0 ≤ k ∧ k ≤ 1000 ∧
  ∀ (p : Addr) (H' : Hp), H p = none → Same H H' → BoxAt 0 H' p → Q (.ref p) H'
theorem b01 (b : Bool) : (-(2 ^ 64) < (if b = true then (1 : Int) else 0)) ∧ (if b = true then (1 : Int) else 0) < 2 ^ 64 := by cases b <;> decide
theorem b01n (b : Bool) : 0 ≤ (if b = true then (1 : Int) else 0) := by cases b <;> decide
theorem abs_nn (i : Int) : 0 ≤ (if i < 0 then -i else i) := by
  split <;> omega
theorem at_int {zs : List Int} {k : Int} (h0 : 0 ≤ k) (h : k < (zs.length : Int)) : ∃ v : Int, atI (zs.map V.int) k = some (.int v) ∧ zs[k.toNat]? = some v := by
  have hk : k.toNat < zs.length := by omega
  have ek : k = ((k.toNat : Nat) : Int) := by omega
  have q : atI (zs.map V.int) ((k.toNat : Nat) : Int) = some (.int zs[k.toNat]) := atI_nat (by rw [List.getElem?_map, List.getElem?_eq_getElem hk] <;> rfl)
  rw [← ek] at q
  exact ⟨zs[k.toNat], q, List.getElem?_eq_getElem hk⟩
theorem ok_box {f : Addr} {fd : FuncData} {k : Nat} (F : Fun K "_law_box" "_law_box" sBox f fd) (B : Bl mg) : FnOk P w K mg base CX0 (k + 1) f fd ["_law_script", "_law_k"] (spBox K) := by
  refine F.ok scBox (fun vs H Q E h => ?_) (fun cdv A outer s H vs Q E hr h => ?_)
  · obtain ⟨a, zs, k, rfl, _⟩ := h
    rfl
  obtain ⟨a, zs, k, rfl, hS, h0, h1, q⟩ := h
  refine ⟨_, pss_cons (ps_set (i := 2) scBox.nd rfl (.inl rfl) (pe_ifExp (pt_cmpR op_lt (pv 1) (pe_callB call_len_seq (by rfl) B.len PySem.boot_len (pa_cons (pv 0) pa_nil)) (nomark _)) (pe_ix ix_list (pv 0) (pv 1) (fun _ _ => rfl)) pe_int))
    (pss_one (ps_ret (pe_lst (pa_cons (pe_op op_mul (pe_callB call_abs (by rfl) B.abs boot_abs (pa_cons (pv 2) pa_nil)) (pe_callTy call_int1 (by rfl) B.int PyProof.Rows.boot_int (pa_cons (pe_cmpR op_ge (pe_callB call_abs (by rfl) B.abs boot_abs (pa_cons (pv 2) pa_nil)) (pe_op op_pow pe_int pe_int) (nomark _)) pa_nil)))
      (pa_cons (pe_op op_mod (pe_op op_mul (pe_op op_add (pe_op op_add (pe_op op_mod (pv 2) pe_int) (pe_op op_mul pe_int (pv 1))) pe_int) pe_int) pe_int) (pa_cons pe_int pa_nil)))))), ?_⟩
  refine ⟨_, rfl, _, rfl, a, _, rfl, .inl hS, _, _, rfl, rfl, _, rfl, ite2 (fun cc => ?_) (fun cc => ?_)⟩
  · have c1 : k < (((zs.map V.int).length : Nat) : Int) := of_decide_eq_true cc
    rw [List.length_map] at c1
    obtain ⟨v, hv, _⟩ := at_int h0 c1
    refine ⟨_, rfl, _, rfl, a, _, _, _, rfl, rfl, hS, hv, ?_⟩
    refine ⟨_, rfl, _, rfl, _, rfl, _, rfl, _, _, rfl, rfl, ⟨by decide, by decide, by decide⟩, _, _, rfl, rfl, .inr ⟨_, rfl, ?_⟩⟩
    refine ⟨_, _, rfl, rfl, .inr (b01 _), _, rfl, _, _, rfl, rfl, (by show (0 : Int) < 2147483629; decide), _, rfl, _, _, rfl, rfl, .inl ⟨by decide, by decide⟩, _, _, rfl, rfl, _, _, rfl, rfl, _, _, rfl, rfl, .inr ⟨by decide, by decide⟩, _, _, rfl, rfl, (by show (0 : Int) < 2147483647; decide), (by show 3 ≤ sizeLine; decide), fun p np => ?_⟩
    refine q p _ np (same_upd np) ⟨_, _, _, upd_same, Int.mul_nonneg (abs_nn v) (b01n _), Int.emod_nonneg _ (by decide), Int.emod_lt_of_pos _ (by decide), by decide, by decide⟩
  · refine ⟨_, rfl, _, rfl, _, rfl, _, rfl, _, _, rfl, rfl, ⟨by decide, by decide, by decide⟩, _, _, rfl, rfl, .inr ⟨_, rfl, ?_⟩⟩
    refine ⟨_, _, rfl, rfl, .inr (b01 _), _, rfl, _, _, rfl, rfl, (by show (0 : Int) < 2147483629; decide), _, rfl, _, _, rfl, rfl, .inl ⟨by decide, by decide⟩, _, _, rfl, rfl, _, _, rfl, rfl, _, _, rfl, rfl, .inr ⟨by decide, by decide⟩, _, _, rfl, rfl, (by show (0 : Int) < 2147483647; decide), (by show 3 ≤ sizeLine; decide), fun p np => ?_⟩
    refine q p _ np (same_upd np) ⟨_, _, _, upd_same, Int.mul_nonneg (abs_nn 0) (b01n _), Int.emod_nonneg _ (by decide), Int.emod_lt_of_pos _ (by decide), by decide, by decide⟩
/-! ### _law_folded -/
theorem scFolded : FnScope ["_law_script", "_law_size", "_law_cells", "_law_k", "_law_cell"] ["_law_script", "_law_size"] (defScope sFolded) := ⟨rfl, rfl, rfl, by decide +kernel, rfl, by decide +kernel, by decide +kernel⟩
def spFolded (K : PySem.W.Frag) : Sp := fun vs H Q _ => ∃ (a : Addr) (ns : List Int) (m : Nat), vs = [.ref a, .int (m : Int)] ∧ SqL K H a (ns.map V.int) ∧ ns.length ≤ 63 ∧ 1 ≤ m ∧ m ≤ 63 ∧
  ∀ (p : Addr) (H' : Hp) (zs : List Int), H p = none → Same H H' → H' p = some (.lst (zs.map V.int)) → zs.length = min ns.length m → Q (.ref p) H'
theorem cut_lo (ns : List Int) (m : Nat) : cutV (ns.map V.int) none (some (m : Int)) = (ns.take m).map V.int := by
  unfold cutV
  rw [HT.sIx_none, HT.sIx_nat, List.drop_zero, Nat.sub_zero, List.length_map, ← List.map_take]
  congr 1
  rw [List.take_eq_take_iff]
  omega
theorem cut_mid (ns : List Int) (m j : Nat) : ∃ ws : List Int, cutV (ns.map V.int) (some (m : Int)) (some (j : Int)) = ws.map V.int ∧ ws.length ≤ ns.length - m := by
  unfold cutV
  rw [HT.sIx_nat, HT.sIx_nat, List.length_map, ← List.map_drop, ← List.map_take]
  refine ⟨_, rfl, ?_⟩
  rw [List.length_take, List.length_drop]
  omega
theorem int_at {ws : List Int} {i : Nat} {x : V} (h : (ws.map V.int)[i]? = some x) : ∃ z, ws[i]? = some z ∧ x = .int z := by
  rw [List.getElem?_map] at h
  cases e : ws[i]? with
  | none =>
    rw [e] at h
    cases h
  | some z =>
    rw [e] at h
    exact ⟨z, rfl, (Option.some.inj h).symm⟩
theorem map_set (zs : List Int) (j : Nat) (v : Int) : (zs.map V.int).set j (.int v) = (zs.set j v).map V.int := List.map_set.symm
theorem ixN_nat {n j : Nat} (h : j < n) : ixN n (j : Int) = some j := by
  unfold ixN
  rw [if_pos (Int.natCast_nonneg j), if_pos (by omega), Int.toNat_natCast]
theorem ok_folded {f : Addr} {fd : FuncData} {k : Nat} (F : Fun K "_law_folded" "_law_folded" sFolded f fd) (B : Bl mg) : FnOk P w K mg base CX0 (k + 1) f fd ["_law_script", "_law_size"] (spFolded K) := by
  refine F.ok scFolded (fun vs H Q E h => ?_) (fun cdv A outer s H vs Q E hr h => ?_)
  · obtain ⟨a, ns, m, rfl, _⟩ := h
    rfl
  obtain ⟨a, ns, m, rfl, hS, h63, hm1, hm2, q⟩ := h
  refine ⟨_, pss_cons (ps_set (i := 2) scFolded.nd rfl (.inl rfl) (pe_callTy call_list_of (by rfl) B.list PyProof.Rows.boot_list (pa_cons (pe_slice sl_list (pv 0) po_none (po_some (pv 1))) pa_nil)))
    (pss_cons (ps_for PassesOwn.never rfl (pi_enum (by rfl) B.enumerate (pa_cons (pe_slice sl_list (pv 0) (po_some (pv 1)) (po_some pe_int)) pa_nil))
        (pg_tup rfl (pgs_cons (pg_name (i := 3) scFolded.nd rfl (.inl rfl)) (pgs_cons (pg_name (i := 4) scFolded.nd rfl (.inl rfl)) pgs_nil)))
      (pss_one (ps_asg (pe_op op_add (pe_ix ix_list (pv 2) (pe_op op_mod (pv 3) (pv 1)) (fun _ _ => rfl)) (pe_op op_mul (pv 4) (pe_op op_add (pv 3) pe_int))) (pg_sub (pv 2) (pe_op op_mod (pv 3) (pv 1)) set_list))))
    (pss_one (ps_ret (pv 2)))), ?_⟩
  refine ⟨_, rfl, _, rfl, _, rfl, a, _, rfl, hS, fun c0 nc0 => ?_⟩
  rw [cut_lo]
  have s0 : Same H (upd H c0 (.lst ((ns.take m).map V.int))) := same_upd nc0
  refine ⟨c0, _, rfl, .inl (.inl (.inl upd_same)), fun p np => ?_⟩
  have npH : H p = none := s0.free np
  have ne0 : c0 ≠ p := fun e => by
    subst e
    rw [upd_same] at np
    cases np
  have s1 := s0.trans (same_upd (o := .lst ((ns.take m).map V.int)) np)
  refine ⟨_, rfl, _, rfl, _, rfl, _, rfl, a, _, rfl, s1.seq hS, fun c nc => ?_⟩
  obtain ⟨ws, ew, lw⟩ := cut_mid ns m 63
  rw [show ((63 : Nat) : Int) = (63 : Int) from rfl] at ew
  rw [ew]
  have s2 := s1.trans (same_upd (o := .lst (ws.map V.int)) nc)
  have nec : c ≠ p := fun e => by
    subst e
    rw [upd_same] at nc
    cases nc
  refine ⟨c, _, rfl, .inl (.inl upd_same), ?_⟩
  refine for_it (walk_enum (K := K) (a := c) (xs := ws.map V.int)) (fun i σ H3 => ∃ (y3 y4 : Option V) (zs : List Int), σ = [some (.ref a), some (.int (m : Int)), some (.ref p), y3, y4] ∧ Same H H3 ∧ H3 c = some (.lst (ws.map V.int)) ∧ H3 p = some (.lst (zs.map V.int)) ∧ zs.length = min ns.length m)
    ⟨none, none, ns.take m, rfl, s2, upd_same, ?_, ?_⟩ (fun i σ H3 _ ⟨_, _, _, _, _, e, _⟩ => .inl (.inl e)) ?_ ?_
  · rw [upd_ne nec.symm]
    exact upd_same
  · rw [List.length_take, Nat.min_comm]
  · rintro i v σ H3 H4 hi ⟨y3, y4, zs, rfl, s3, ec, ep, el⟩ ⟨T, x, y, rfl, nT, rfl, e1, e2⟩
    cases e1
    obtain ⟨z, _, rfl⟩ := int_at e2
    rw [List.length_map] at hi
    have npT : p ≠ T := ne_of_none ep nT
    have ncT : c ≠ T := ne_of_none ec nT
    have sT : Same H3 (upd H3 T (.tup [.int (i : Nat), .int z])) := same_upd nT
    refine ⟨T, _, rfl, .inl (.inl upd_same), rfl, _, _, rfl, _, _, rfl, rfl, ?_⟩
    have lm : (i : Int) % (m : Int) = ((i % m : Nat) : Int) := rfl
    have hl : i % m < zs.length := by
      have := Nat.mod_lt i (show 0 < m by omega)
      omega
    have ev : (zs.map V.int)[i % m]? = some (.int zs[i % m]) := by
      rw [List.getElem?_map, List.getElem?_eq_getElem hl]
      rfl
    refine ⟨_, rfl, _, rfl, _, rfl, _, _, rfl, rfl, (by show (0 : Int) < (m : Int); omega), p, _, _, _, rfl, rfl, SqL.of (sT _ _ ep), (by rw [lm]; exact atI_nat ev), _, rfl, _, rfl, _, _, rfl, rfl, _, _, rfl, rfl, .inr ⟨by omega, by omega⟩, _, _, rfl, rfl, ?_⟩
    refine ⟨_, rfl, _, rfl, _, rfl, _, _, rfl, rfl, (by show (0 : Int) < (m : Int); omega), p, _, _, i % m, rfl, rfl, sT _ _ ep, (by rw [lm, List.length_map]; exact ixN_nat hl), ?_⟩
    refine ⟨_, _, zs.set (i % m) (zs[i % m] + z * ((i : Int) + 2)), rfl, fun b o e => ?_, ?_, ?_, ?_⟩
    · rw [upd_ne (ne_of_none e npH)]
      exact sT _ _ (s3 _ _ e)
    · rw [upd_ne nec]
      exact sT _ _ ec
    · rw [upd_same, map_set]
    · rw [List.length_set]
      exact el
  · rintro σ H3 ⟨y3, y4, zs, rfl, s3, ec, ep, el⟩
    exact ⟨_, rfl, q p H3 zs npH s3 ep el⟩
/-! ### _law_same: of two things of one kind and worth -/
theorem scSame : FnScope ["_law_found", "_law_due", "_law_one", "_law_other"] ["_law_found", "_law_due"] (defScope sSame) := ⟨rfl, rfl, rfl, by decide +kernel, rfl, by decide +kernel, by decide +kernel⟩
def Lv : Nat → PyData → Prop
  | _, .none => True
  | _, .bool _ => True
  | _, .int _ => True
  | _, .str _ => True
  | n + 1, .list ds => ds.length ≤ 1000000 ∧ ∀ d ∈ ds, Lv n d
  | n + 1, .tuple ds => ds.length ≤ 1000000 ∧ ∀ d ∈ ds, Lv n d
  | _, _ => False
mutual
theorem Dp.same {H H' : Hp} (s : Same H H') : ∀ (d : PyData) (v : V), Dp K H v d → Dp K H' v d
  | .none, _, h => by
    cases h
    exact .non
  | .bool b, _, h => by
    cases h
    exact .bl b
  | .int i, _, h => by
    cases h
    exact .int i
  | .str x, _, h => by
    cases h
    exact .str x
  | .list ds, _, h => by
    cases h with
    | lst hs ha => exact .lst (s.seq hs) (Dp.sameAll s ds _ ha)
  | .tuple ds, _, h => by
    cases h with
    | tup hs ha => exact .tup (Same.seqT s hs) (Dp.sameAll s ds _ ha)
  | .dict _, _, h => by cases h
theorem Dp.sameAll {H H' : Hp} (s : Same H H') : ∀ (ds : List PyData) (vs : List V), DpAll K H vs ds → DpAll K H' vs ds
  | [], _, h => by
    cases h
    exact .nil
  | d :: ds, _, h => by
    cases h with
    | cons h1 h2 => exact .cons (Dp.same s d _ h1) (Dp.sameAll s ds _ h2)
end
theorem DpAll.len {H : Hp} : ∀ {ds : List PyData} {vs : List V}, DpAll K H vs ds → vs.length = ds.length
  | [], _, h => by
    cases h
    rfl
  | d :: ds, _, h => by
    cases h with
    | cons h1 h2 => rw [List.length_cons, List.length_cons, DpAll.len h2]
theorem DpAll.get {H : Hp} : ∀ {ds : List PyData} {vs : List V} {i : Nat} {x : V}, DpAll K H vs ds → vs[i]? = some x → ∃ d, ds[i]? = some d ∧ Dp K H x d
  | [], _, i, x, h, e => by
    cases h
    cases e
  | d :: ds, _, 0, x, h, e => by
    cases h with
    | cons h1 h2 =>
      cases e
      exact ⟨d, rfl, h1⟩
  | d :: ds, _, i + 1, x, h, e => by
    cases h with
    | @cons _ vs _ _ h1 h2 => exact DpAll.get (ds := ds) (vs := vs) h2 (show vs[i]? = some x from e)
theorem walk_zipT {a b : Addr} {xs ys : List V} {n : Nat} (hn : n = min xs.length ys.length) : Walk (RZ.ItzT K a b) n (fun H => SqT K H a xs ∧ SqT K H b ys) (YPair (fun i => xs[i]?) (fun i => ys[i]?)) := by
  subst hn
  refine ⟨fun i _ hi q => ?_, fun _ q => ⟨xs, ys, q.1, q.2, by omega⟩, fun i H v H' _ q y => ?_⟩
  · have h1 : i < xs.length := by omega
    have h2 : i < ys.length := by omega
    exact ⟨xs, ys, xs[i], ys[i], q.1, q.2, by simp [h1], by simp [h2]⟩
  · obtain ⟨T, x, z, h1, h2, h3, h4, h5⟩ := y
    exact ⟨T, x, z, h1, h2, h3, h4 xs q.1, h5 ys q.2⟩
theorem ty_lst {H : Hp} {a : Addr} {xs : List V} (h : SqL K H a xs) : TyX K H (.ref a) (.type "list") := by
  rcases h with (h | ⟨o, h⟩) | ⟨o, its, n, h1, h2, _⟩
  · exact .base (.lst h)
  · exact .base (.frz h)
  · exact .kList h1 h2
theorem ty_tup {H : Hp} {a : Addr} {xs : List V} (h : SqT K H a xs) : TyX K H (.ref a) (.type "tuple") := by
  rcases h with (h | ⟨o, h⟩) | ⟨o, its, n, h1, h2, _⟩
  · exact .base (.tup h)
  · exact .fTuple h
  · exact .kTuple h1 h2
def spSame (K : PySem.W.Frag) (k : Nat) : Sp := fun vs H Q _ => ∃ (x y : V) (d : PyData) (j : Nat), vs = [x, y] ∧ k = j + 1 ∧ Lv j d ∧ Dp K H x d ∧ Dp K H y d ∧ ∀ H', Same H H' → Q (.bl true) H'
theorem same_none {f : Addr} {fd : FuncData} : FnOk P w K mg base CX0 0 f fd ["_law_found", "_law_due"] (spSame K 0) := by
  have no : ∀ vs H Q E, ¬ spSame K 0 vs H Q E := fun vs H Q E h => by
    obtain ⟨x, y, d, j, _, h0, _⟩ := h
    omega
  exact ⟨fun vs H Q E h => absurd h (no vs H Q E), fun A outer s H args us vs Q E _ _ _ _ h => absurd h (no vs H Q E)⟩
theorem yesT {σ : L2.St} {H : Hp} {R S : Hp → Prop} (h : R H) : tYes σ H fun b H3 => if b = true then R H3 else S H3 := h
theorem repl_snoc {α : Type} (i : Nat) (x : α) : List.replicate i x ++ [x] = List.replicate (i + 1) x := List.replicate_succ'.symm
theorem all_repl (n : Nat) : (List.replicate n true).all id = true := by
  rw [List.all_eq_true]
  intro x hx
  rw [List.eq_of_mem_replicate hx]
  rfl
theorem kitLT {t : String} {r1 r2 : Bool} (h1 : kitB t "list" = some r1) (h2 : kitB t "tuple" = some r2) : PySem.W.kitAny K (.type t) [.type "list", .type "tuple"] = some (r1 || r2) := by
  refine kitAny_cons (kit_ty h1) (fun e => ?_) (fun e => by rw [e]; rfl)
  rw [e, Bool.false_or]
  refine kitAny_cons (kit_ty h2) (fun e => ?_) (fun e => e)
  rw [e]
  rfl
theorem ok_same1 {f : Addr} {fd : FuncData} {k : Nat} (F : Fun K "_law_same" "_law_same" sSame f fd) (G : FnOk P w K mg base CX0 k f fd ["_law_found", "_law_due"] (spSame K k)) (bf : Binds K fd ["_law_found", "_law_due"] []) (mf : mg "_law_same" = some (.ref f)) (B : Bl mg) :
    FnOk P w K mg base CX0 (k + 1) f fd ["_law_found", "_law_due"] (spSame K (k + 1)) := by
  refine F.ok scSame (fun vs H Q E h => ?_) (fun cdv A outer s H vs Q E hr h => ?_)
  · obtain ⟨x, y, d, j, rfl, _⟩ := h
    rfl
  obtain ⟨x, y, d, j, rfl, ej, lv, dx, dy, q⟩ := h
  obtain rfl : k = j := by omega
  refine ⟨_, pss_cons (ps_if (pt_val (pe_callB call_isiT (by rfl) B.isinstance boot_isinstance (pa_cons (pv 1) (pa_cons (pe_tup (pa_cons (pe_bltn (v := .ty "list") (by rfl) B.list PyProof.Rows.boot_list rfl) (pa_cons (pe_bltn (v := .ty "tuple") (by rfl) B.tuple PyProof.Rows.boot_tuple rfl) pa_nil))) pa_nil))))
      (pss_cons (ps_if (PW.pt (pw_or (pt_cmpR op_ne (pe_callB call_isi (by rfl) B.isinstance boot_isinstance (pa_cons (pv 0) (pa_cons (pe_bltn (v := .ty "list") (by rfl) B.list PyProof.Rows.boot_list rfl) pa_nil))) (pe_callB call_isi (by rfl) B.isinstance boot_isinstance (pa_cons (pv 1) (pa_cons (pe_bltn (v := .ty "list") (by rfl) B.list PyProof.Rows.boot_list rfl) pa_nil))) (nomark _))
          (pw_or1 (pt_cmpR op_ne (pe_callB call_isi (by rfl) B.isinstance boot_isinstance (pa_cons (pv 0) (pa_cons (pe_bltn (v := .ty "tuple") (by rfl) B.tuple PyProof.Rows.boot_tuple rfl) pa_nil))) (pe_callB call_isi (by rfl) B.isinstance boot_isinstance (pa_cons (pv 1) (pa_cons (pe_bltn (v := .ty "tuple") (by rfl) B.tuple PyProof.Rows.boot_tuple rfl) pa_nil))) (nomark _)))))
          (pss_one (ps_ret pe_bl)) pss_nil)
        (pss_one (ps_ret (pe_and (pe_cmpR op_eq (pe_callB call_len_seq (by rfl) B.len PySem.boot_len (pa_cons (pv 0) pa_nil)) (pe_callB call_len_seq (by rfl) B.len PySem.boot_len (pa_cons (pv 1) pa_nil)) (nomark _))
          (pe_one (pe_callB (cr_all rfl) (by rfl) B.all boot_all (pa_cons (pe_lc (own := [("_law_one", 2), ("_law_other", 3)]) (g := gTup K 2 (gCons (gName 2) (gCons (gName 3) gNil))) (by rfl) scSame.nd (RZ.pi_zipA (by rfl) B.zip (pa_cons (pv 0) (pa_cons (pv 1) pa_nil)))
            (blkOk_by (own := [("_law_one", 2), ("_law_other", 3)]) (N := ["_law_found", "_law_due", "_law_one", "_law_other"]) (sc := defScope sSame) (by decide +kernel))
            (fun _ _ _ _ _ => pg_tup rfl (pgs_cons (pg_name (i := 2) scSame.nd rfl (Or.inl rfl) (.inr rfl)) (pgs_cons (pg_name (i := 3) scSame.nd rfl (Or.inl rfl) (.inr rfl)) pgs_nil))) (fun _ _ _ _ _ => pts_nil)
            (fun _ _ _ _ _ => pe_call G hr (by rfl) mf F.kp bf .nil pass0 (pa_cons (pv 2) (pa_cons (pv 3) pa_nil)))) pa_nil))))))) pss_nil)
    (pss_cons (ps_if (PW.pt (pw_or (pt_cmpR op_isN (pv 1) pe_non (nomark _)) (pw_or1 (pt_val (pe_callB call_isi (by rfl) B.isinstance boot_isinstance (pa_cons (pv 1) (pa_cons (pe_bltn (v := .ty "str") (by rfl) B.str PyProof.Rows.boot_str rfl) pa_nil)))))))
      (pss_one (ps_ret (pe_and (pe_cmpR op_eq (pv 0) (pv 1) (nomark _)) (pe_one (pe_cmpR op_eq (pe_callB call_isi (by rfl) B.isinstance boot_isinstance (pa_cons (pv 0) (pa_cons (pe_bltn (v := .ty "str") (by rfl) B.str PyProof.Rows.boot_str rfl) pa_nil))) (pe_callB call_isi (by rfl) B.isinstance boot_isinstance (pa_cons (pv 1) (pa_cons (pe_bltn (v := .ty "str") (by rfl) B.str PyProof.Rows.boot_str rfl) pa_nil))) (nomark _)))))) pss_nil)
    (pss_one (ps_ret (pe_and (pe_callB call_isi (by rfl) B.isinstance boot_isinstance (pa_cons (pv 0) (pa_cons (pe_bltn (v := .ty "int") (by rfl) B.int PyProof.Rows.boot_int rfl) pa_nil))) (pe_and (pe_cmpR op_eq (pe_callB call_isi (by rfl) B.isinstance boot_isinstance (pa_cons (pv 0) (pa_cons (pe_bltn (v := .ty "bool") (by rfl) B.bool PyProof.Rows.boot_bool rfl) pa_nil))) (pe_callB call_isi (by rfl) B.isinstance boot_isinstance (pa_cons (pv 1) (pa_cons (pe_bltn (v := .ty "bool") (by rfl) B.bool PyProof.Rows.boot_bool rfl) pa_nil))) (nomark _))
      (pe_one (pe_cmpR op_eq (pv 0) (pv 1) (nomark _)))))))), ?_⟩
  have pr : Paired ClsV [.ty "list", .ty "tuple"] [.type "list", .type "tuple"] := .cons (.ty _) (.cons (.ty _) .nil)
  refine ⟨_, rfl, (by show 2 ≤ sizeLine; decide), fun tp ntp => ?_⟩
  have s0 : Same H (upd H tp (.tup [.ty "list", .ty "tuple"])) := same_upd ntp
  cases d with
  | none =>
    cases dx
    cases dy
    refine ⟨_, tp, _, _, _, _, rfl, upd_same, pr, .base .non, kitLT (t := "NoneType") (r1 := false) (r2 := false) (by decide +kernel) (by decide +kernel), _, rfl, iteF ?_⟩
    refine ⟨_, rfl, rfl, _, rfl, iteT (iteT ?_)⟩
    refine ⟨_, rfl, _, rfl, rfl, _, rfl, iteT ?_⟩
    refine ⟨_, rfl, _, _, _, _, _, rfl, .ty _, .base .non, kit_ty (by decide +kernel : kitB "NoneType" "str" = some false), _, rfl, _, _, _, _, _, rfl, .ty _, .base .non, kit_ty (by decide +kernel : kitB "NoneType" "str" = some false), rfl, q _ s0⟩
  | bool b =>
    cases dx
    cases dy
    refine ⟨_, tp, _, _, _, _, rfl, upd_same, pr, .base (.bl _), kitLT (t := "bool") (r1 := false) (r2 := false) (by decide +kernel) (by decide +kernel), _, rfl, iteF ?_⟩
    refine ⟨_, rfl, rfl, _, rfl, iteF ?_⟩
    refine ⟨_, rfl, _, _, _, _, _, rfl, .ty _, .base (.bl _), kit_ty (by decide +kernel : kitB "bool" "str" = some false), _, rfl, iteF ?_⟩
    refine ⟨_, rfl, _, _, _, _, _, rfl, .ty _, .base (.bl _), kit_ty (by decide +kernel : kitB "bool" "int" = some true), _, rfl, iteT ?_⟩
    refine ⟨_, rfl, _, _, _, _, _, rfl, .ty _, .base (.bl _), kit_ty (by decide +kernel : kitB "bool" "bool" = some true), _, rfl, _, _, _, _, _, rfl, .ty _, .base (.bl _), kit_ty (by decide +kernel : kitB "bool" "bool" = some true), rfl, _, rfl, iteT ?_⟩
    refine ⟨_, rfl, _, rfl, rfl, ?_⟩
    rw [decide_eq_true rfl]
    exact q _ s0
  | int i =>
    cases dx
    cases dy
    refine ⟨_, tp, _, _, _, _, rfl, upd_same, pr, .base (.int _), kitLT (t := "int") (r1 := false) (r2 := false) (by decide +kernel) (by decide +kernel), _, rfl, iteF ?_⟩
    refine ⟨_, rfl, rfl, _, rfl, iteF ?_⟩
    refine ⟨_, rfl, _, _, _, _, _, rfl, .ty _, .base (.int _), kit_ty (by decide +kernel : kitB "int" "str" = some false), _, rfl, iteF ?_⟩
    refine ⟨_, rfl, _, _, _, _, _, rfl, .ty _, .base (.int _), kit_ty (by decide +kernel : kitB "int" "int" = some true), _, rfl, iteT ?_⟩
    refine ⟨_, rfl, _, _, _, _, _, rfl, .ty _, .base (.int _), kit_ty (by decide +kernel : kitB "int" "bool" = some false), _, rfl, _, _, _, _, _, rfl, .ty _, .base (.int _), kit_ty (by decide +kernel : kitB "int" "bool" = some false), rfl, _, rfl, iteT ?_⟩
    refine ⟨_, rfl, _, rfl, rfl, ?_⟩
    rw [decide_eq_true rfl]
    exact q _ s0
  | str z =>
    cases dx
    cases dy
    refine ⟨_, tp, _, _, _, _, rfl, upd_same, pr, .base (.str _), kitLT (t := "str") (r1 := false) (r2 := false) (by decide +kernel) (by decide +kernel), _, rfl, iteF ?_⟩
    refine ⟨_, rfl, rfl, _, rfl, iteF ?_⟩
    refine ⟨_, rfl, _, _, _, _, _, rfl, .ty _, .base (.str _), kit_ty (by decide +kernel : kitB "str" "str" = some true), _, rfl, iteT ?_⟩
    refine ⟨_, rfl, _, rfl, rfl, ?_⟩
    rw [decide_eq_true rfl]
    refine ⟨_, rfl, iteT ?_⟩
    exact ⟨_, rfl, _, _, _, _, _, rfl, .ty _, .base (.str _), kit_ty (by decide +kernel : kitB "str" "str" = some true), _, rfl, _, _, _, _, _, rfl, .ty _, .base (.str _), kit_ty (by decide +kernel : kitB "str" "str" = some true), rfl, q _ s0⟩
  | list ds =>
    cases dx with
    | @lst a xs _ hx ax =>
    cases dy with
    | @lst b ys _ hy ay =>
    obtain ⟨i, rfl⟩ : ∃ i, k = i + 1 := by
      cases k with
      | zero => exact absurd lv id
      | succ i => exact ⟨i, rfl⟩
    have lx := DpAll.len ax
    have ly := DpAll.len ay
    have hx1 := s0.seq hx
    have hy1 := s0.seq hy
    refine ⟨_, tp, _, _, _, _, rfl, upd_same, pr, ty_lst hy1, kitLT (t := "list") (r1 := true) (r2 := false) (by decide +kernel) (by decide +kernel), _, rfl, iteT ?_⟩
    refine ⟨_, rfl, _, _, _, _, _, rfl, .ty _, ty_lst hx1, kit_ty (by decide +kernel : kitB "list" "list" = some true), _, rfl, _, _, _, _, _, rfl, .ty _, ty_lst hy1, kit_ty (by decide +kernel : kitB "list" "list" = some true), rfl, _, rfl, iteF ?_⟩
    refine ⟨_, rfl, _, _, _, _, _, rfl, .ty _, ty_lst hx1, kit_ty (by decide +kernel : kitB "list" "tuple" = some false), _, rfl, _, _, _, _, _, rfl, .ty _, ty_lst hy1, kit_ty (by decide +kernel : kitB "list" "tuple" = some false), rfl, _, rfl, iteF ?_⟩
    refine ⟨_, rfl, a, _, rfl, .inl hx1, _, rfl, b, _, rfl, .inl hy1, rfl, ?_⟩
    rw [decide_eq_true (by rw [lx, ly])]
    refine ⟨_, rfl, iteT ?_⟩
    refine ⟨_, rfl, _, rfl, a, b, xs, ys, rfl, .inl ⟨hx1, hy1, fun D nD => ?_⟩⟩
    have sD := s0.trans (same_upd (o := .lst []) nD)
    refine lc_it (walk_zip (K := K) (a := a) (b := b) (xs := xs) (ys := ys) rfl) (fun i H3 => Same H H3 ∧ H3 D = some (.lst (List.replicate i (.bl true)))) ⟨sD, upd_same⟩ (fun i H3 _ ⟨s3, _⟩ => ⟨s3.seq hx, s3.seq hy⟩) ?_ ?_
    · rintro i v H3 H4 hi ⟨s3, eD⟩ ⟨T, x, y, rfl, nT, rfl, e1, e2⟩
      obtain ⟨d1, g1, p1⟩ := DpAll.get ax e1
      obtain ⟨d2, g2, p2⟩ := DpAll.get ay e2
      obtain rfl : d1 = d2 := Option.some.inj (g1.symm.trans g2)
      have s4 := s3.trans (same_upd (o := .tup [x, y]) nT)
      refine ⟨T, _, rfl, .inl (.inl upd_same), rfl, _, _, rfl, _, _, rfl, rfl, rfl, ?_⟩
      refine yesT ?_
      refine ⟨_, rfl, _, rfl, x, y, d1, _, rfl, rfl, lv.2 d1 (List.mem_of_getElem? g1), Dp.same s4 _ _ p1, Dp.same s4 _ _ p2, fun H5 s5 => ?_⟩
      refine ⟨_, s5 _ _ (by rw [upd_ne (ne_of_none eD nT)]; exact eD), ?_, fun p o e => ?_, ?_⟩
      · rw [List.length_replicate]
        have := lv.1
        refine Nat.lt_of_lt_of_le (show i < 1000000 by omega) (by decide)
      · rw [upd_ne (ne_of_none e (s0.free nD))]
        exact s5 _ _ (s4 _ _ e)
      · rw [upd_same, repl_snoc]
    · rintro H3 ⟨s3, eD⟩
      refine ⟨D, List.replicate (min xs.length ys.length) true, rfl, .inl (.inl (by rw [List.map_replicate]; exact eD)), ?_⟩
      rw [all_repl]
      exact q _ s3
  | tuple ds =>
    cases dx with
    | @tup a xs _ hx ax =>
    cases dy with
    | @tup b ys _ hy ay =>
    obtain ⟨i, rfl⟩ : ∃ i, k = i + 1 := by
      cases k with
      | zero => exact absurd lv id
      | succ i => exact ⟨i, rfl⟩
    have lx := DpAll.len ax
    have ly := DpAll.len ay
    have hx1 := Same.seqT s0 hx
    have hy1 := Same.seqT s0 hy
    refine ⟨_, tp, _, _, _, _, rfl, upd_same, pr, ty_tup hy1, kitLT (t := "tuple") (r1 := false) (r2 := true) (by decide +kernel) (by decide +kernel), _, rfl, iteT ?_⟩
    refine ⟨_, rfl, _, _, _, _, _, rfl, .ty _, ty_tup hx1, kit_ty (by decide +kernel : kitB "tuple" "list" = some false), _, rfl, _, _, _, _, _, rfl, .ty _, ty_tup hy1, kit_ty (by decide +kernel : kitB "tuple" "list" = some false), rfl, _, rfl, iteF ?_⟩
    refine ⟨_, rfl, _, _, _, _, _, rfl, .ty _, ty_tup hx1, kit_ty (by decide +kernel : kitB "tuple" "tuple" = some true), _, rfl, _, _, _, _, _, rfl, .ty _, ty_tup hy1, kit_ty (by decide +kernel : kitB "tuple" "tuple" = some true), rfl, _, rfl, iteF ?_⟩
    refine ⟨_, rfl, a, _, rfl, .inr hx1, _, rfl, b, _, rfl, .inr hy1, rfl, ?_⟩
    rw [decide_eq_true (by rw [lx, ly])]
    refine ⟨_, rfl, iteT ?_⟩
    refine ⟨_, rfl, _, rfl, a, b, xs, ys, rfl, .inr ⟨hx1, hy1, fun D nD => ?_⟩⟩
    have sD := s0.trans (same_upd (o := .lst []) nD)
    refine lc_it (walk_zipT (K := K) (a := a) (b := b) (xs := xs) (ys := ys) rfl) (fun i H3 => Same H H3 ∧ H3 D = some (.lst (List.replicate i (.bl true)))) ⟨sD, upd_same⟩ (fun i H3 _ ⟨s3, _⟩ => ⟨Same.seqT s3 hx, Same.seqT s3 hy⟩) ?_ ?_
    · rintro i v H3 H4 hi ⟨s3, eD⟩ ⟨T, x, y, rfl, nT, rfl, e1, e2⟩
      obtain ⟨d1, g1, p1⟩ := DpAll.get ax e1
      obtain ⟨d2, g2, p2⟩ := DpAll.get ay e2
      obtain rfl : d1 = d2 := Option.some.inj (g1.symm.trans g2)
      have s4 := s3.trans (same_upd (o := .tup [x, y]) nT)
      refine ⟨T, _, rfl, .inl (.inl upd_same), rfl, _, _, rfl, _, _, rfl, rfl, rfl, ?_⟩
      refine yesT ?_
      refine ⟨_, rfl, _, rfl, x, y, d1, _, rfl, rfl, lv.2 d1 (List.mem_of_getElem? g1), Dp.same s4 _ _ p1, Dp.same s4 _ _ p2, fun H5 s5 => ?_⟩
      refine ⟨_, s5 _ _ (by rw [upd_ne (ne_of_none eD nT)]; exact eD), ?_, fun p o e => ?_, ?_⟩
      · rw [List.length_replicate]
        have := lv.1
        refine Nat.lt_of_lt_of_le (show i < 1000000 by omega) (by decide)
      · rw [upd_ne (ne_of_none e (s0.free nD))]
        exact s5 _ _ (s4 _ _ e)
      · rw [upd_same, repl_snoc]
    · rintro H3 ⟨s3, eD⟩
      refine ⟨D, List.replicate (min xs.length ys.length) true, rfl, .inl (.inl (by rw [List.map_replicate]; exact eD)), ?_⟩
      rw [all_repl]
      exact q _ s3
  | dict _ => cases dx
theorem ok_same {f : Addr} {fd : FuncData} (F : Fun K "_law_same" "_law_same" sSame f fd) (bf : Binds K fd ["_law_found", "_law_due"] []) (mf : mg "_law_same" = some (.ref f)) (B : Bl mg) : ∀ k : Nat, FnOk P w K mg base CX0 k f fd ["_law_found", "_law_due"] (spSame K k)
  | 0 => same_none
  | k + 1 => ok_same1 F (ok_same F bf mf B k) bf mf B
end
abbrev sMarksOf : Stmt := topS 1
abbrev sIsMark : Stmt := topS 2
abbrev sMarks : Stmt := topS 8
abbrev sSome : Stmt := topS 9
abbrev sRight : Stmt := topS 10
abbrev sLaw : Stmt := topS 11
/-! ### what a mark is -/
def ahd (ds : List Int) (i : Nat) : Int := if 0 < i then ds.getD (i - 1) 0 else 0
def bhd (ds : List Int) (i : Nat) : Int := ds.getD (i + 1) 0
def mk (ds : List Int) (i : Nat) : Bool := if ds.getD i 0 = 0 then false else !decide (V.int (bhd ds i) = V.int (if ahd ds i = 0 then -(ds.getD i 0) else ds.getD i 0))
def mkI (ds : List Int) (i : Nat) : Int := if mk ds i then 1 else 0
def marks (ds : List Int) : List Int := (List.range ds.length).map (mkI ds)
theorem marks_len (ds : List Int) : (marks ds).length = ds.length := by
  unfold marks
  rw [List.length_map, List.length_range]
theorem marks_take {ds : List Int} {i : Nat} (h : i < ds.length) : (marks ds).take (i + 1) = (marks ds).take i ++ [mkI ds i] := by
  have e : (marks ds)[i]? = some (mkI ds i) := by
    unfold marks
    rw [List.getElem?_map, List.getElem?_range h]
    rfl
  rw [List.take_add_one, e]
  rfl
theorem getD_of {ds : List Int} {i : Nat} {v : Int} (h : ds[i]? = some v) : ds.getD i 0 = v := by
  rw [List.getD_eq_getElem?_getD, h]
  rfl
theorem getD_out {ds : List Int} {i : Nat} (h : ds.length ≤ i) : ds.getD i 0 = 0 := by
  rw [List.getD_eq_getElem?_getD, List.getElem?_eq_none h]
  rfl
/-- the last digit that isn't 0 is a mark -/
theorem last_mark {ds : List Int} {i : Nat} (h : ds.getD i 0 ≠ 0) (hl : ∀ j, i < j → ds.getD j 0 = 0) : mk ds i = true := by
  unfold mk bhd
  rw [if_neg h, hl (i + 1) (by omega)]
  have n : ¬ (V.int 0 = V.int (if ahd ds i = 0 then -(ds.getD i 0) else ds.getD i 0)) := fun e => by
    have e2 := V.int.inj e
    split at e2 <;> omega
  rw [decide_eq_false n]
  rfl
theorem some_mark (ds : List Int) : ∀ n : Nat, (∀ j, n ≤ j → ds.getD j 0 = 0) → (∃ i, i < n ∧ ds.getD i 0 ≠ 0) → ∃ i, i < n ∧ mk ds i = true
  | 0, _, ⟨i, hi, _⟩ => absurd hi (Nat.not_lt_zero i)
  | n + 1, hz, ⟨i, hi, hd⟩ => by
    by_cases e : ds.getD n 0 = 0
    · have hin : i ≠ n := fun z => hd (by rw [z]; exact e)
      obtain ⟨m, hm, q⟩ := some_mark ds n (fun j hj => by
        by_cases z : j = n
        · rw [z]; exact e
        · exact hz j (by omega)) ⟨i, by omega, hd⟩
      exact ⟨m, by omega, q⟩
    · exact ⟨n, by omega, last_mark e fun j hj => hz j (by omega)⟩
theorem mk_digit {ds : List Int} {i : Nat} (h : mk ds i = true) : ds.getD i 0 ≠ 0 := fun e => by
  unfold mk at h
  rw [if_pos e] at h
  cases h
theorem marks_any (ds : List Int) : inV (.int 1) ((marks ds).map V.int) = (ds.map fun d => !decide (V.int d = V.int 0)).any id := by
  rw [Bool.eq_iff_iff]
  unfold inV
  rw [List.any_eq_true, List.any_eq_true]
  constructor
  · rintro ⟨x, hx, e⟩
    obtain ⟨y, hy, rfl⟩ := List.mem_map.mp hx
    have e1 : y = 1 := by
      have : (y == 1) = true := e
      simpa using this
    subst e1
    unfold marks at hy
    obtain ⟨i, hi, e2⟩ := List.mem_map.mp hy
    have hm : mk ds i = true := by
      unfold mkI at e2
      split at e2
      · assumption
      · cases e2
    have hd := mk_digit hm
    have hil : i < ds.length := List.mem_range.mp hi
    refine ⟨true, List.mem_map.mpr ⟨ds[i], List.getElem_mem hil, ?_⟩, rfl⟩
    rw [getD_of (List.getElem?_eq_getElem hil)] at hd
    rw [decide_eq_false (fun z => hd (V.int.inj z))]
    rfl
  · rintro ⟨b, hb, e⟩
    obtain ⟨d, hd, rfl⟩ := List.mem_map.mp hb
    have hd0 : d ≠ 0 := fun z => by
      subst z
      rw [decide_eq_true rfl] at e
      cases e
    obtain ⟨i, hi, e2⟩ := List.mem_iff_getElem.mp hd
    obtain ⟨m, hm, q⟩ := some_mark ds ds.length (fun j hj => getD_out hj) ⟨i, hi, by rw [getD_of (List.getElem?_eq_getElem hi), e2]; exact hd0⟩
    refine ⟨.int 1, List.mem_map.mpr ⟨1, ?_, rfl⟩, rfl⟩
    unfold marks
    exact List.mem_map.mpr ⟨m, List.mem_range.mpr hm, by unfold mkI; rw [if_pos q]⟩
section
variable {P : Program} {w : World} {K : PySem.W.Frag} {mg : Str → Option Value} {base : Heap}
/-- a list or a tuple of these ints -/
def Sq (K : PySem.W.Frag) (H : Hp) (a : Addr) (ds : List Int) : Prop := SqL K H a (ds.map V.int) ∨ SqT K H a (ds.map V.int)
theorem Sq.same {H H' : Hp} {a : Addr} {ds : List Int} (h : Sq K H a ds) (s : Same H H') : Sq K H' a ds := h.elim (fun h => .inl (s.seq h)) (fun h => .inr (Same.seqT s h))
/-- a conditional expression by its value -/
theorem if_ev {t : TT} {ta tb : TE} {σ : L2.St} {H : Hp} {Q : VK} (z : V) (h : ∀ Q : VK, Q z H → tIf t ta tb σ H Q) (q : Q z H) : tIf t ta tb σ H Q := h Q q
theorem Sq.ix {H : Hp} {a : Addr} {ds : List Int} {k : Int} {v : V} {Q : VK} (h : Sq K H a ds) (e : atI (ds.map V.int) k = some v) (q : Q v H) : rIx K (.ref a) (.int k) H Q := by
  rcases h with h | h
  · exact .inl ⟨a, _, _, _, rfl, rfl, h, e, q⟩
  · exact .inr (.inl ⟨a, _, _, _, rfl, rfl, h, e, q⟩)
theorem at_of_int {ds : List Int} {k : Int} {j : Nat} {v : Int} (e : k = (j : Int)) (h : ds[j]? = some v) : atI (ds.map V.int) k = some (.int v) := at_of e (by rw [List.getElem?_map, h]; rfl)
theorem ahd_pos {ds : List Int} {i : Nat} (h : 0 < i) (hi : i < ds.length) : ds[i - 1]? = some (ahd ds i) := by
  unfold ahd
  have hl : i - 1 < ds.length := by omega
  rw [if_pos h, getD_of (List.getElem?_eq_getElem hl)]
  exact List.getElem?_eq_getElem hl
theorem ahd_zero {ds : List Int} {i : Nat} (h : ¬ 0 < i) : ahd ds i = 0 := if_neg h
theorem bhd_in {ds : List Int} {i : Nat} (h : i + 1 < ds.length) : ds[i + 1]? = some (bhd ds i) := by
  unfold bhd
  rw [getD_of (List.getElem?_eq_getElem h)]
  exact List.getElem?_eq_getElem h
theorem bhd_out {ds : List Int} {i : Nat} (h : ¬ i + 1 < ds.length) : bhd ds i = 0 := getD_out (by omega)
/-! ### is_mark -/
theorem scIsMark : FnScope ["digits", "place", "digit", "ahead", "behind"] ["digits", "place"] (defScope sIsMark) := ⟨rfl, rfl, rfl, by decide +kernel, rfl, by decide +kernel, by decide +kernel⟩
def spIsMark (K : PySem.W.Frag) : Sp := fun vs H Q _ => ∃ (a : Addr) (ds : List Int) (i : Nat), vs = [.ref a, .int (i : Int)] ∧ Sq K H a ds ∧ i < ds.length ∧ Q (.bl (mk ds i)) H
theorem ok_isMark {f : Addr} {fd : FuncData} {k : Nat} (F : Fun K "is_mark" "is_mark" sIsMark f fd) (B : Bl mg) : FnOk P w K mg base CX0 (k + 1) f fd ["digits", "place"] (spIsMark K) := by
  refine F.ok scIsMark (fun vs H Q E h => ?_) (fun cdv A outer s H vs Q E hr h => ?_)
  · obtain ⟨a, ds, i, rfl, _⟩ := h
    rfl
  obtain ⟨a, ds, i, rfl, hS, hi, q⟩ := h
  refine ⟨_, pss_cons (ps_set (i := 2) scIsMark.nd rfl (.inl rfl) (pe_ix ix_seq (pv 0) (pv 1) (fun _ _ => rfl)))
    (pss_cons (ps_if (pt_cmpR op_eq (pv 2) pe_int (nomark _)) (pss_one (ps_ret pe_bl)) pss_nil)
    (pss_cons (ps_set (i := 3) scIsMark.nd rfl (.inl rfl) (pe_ifExp (pt_cmpR op_gt (pv 1) pe_int (nomark _)) (pe_ix ix_seq (pv 0) (pe_op op_sub (pv 1) pe_int) (fun _ _ => rfl)) pe_int))
    (pss_cons (ps_set (i := 4) scIsMark.nd rfl (.inl rfl) (pe_ifExp (pt_cmpR op_lt (pe_op op_add (pv 1) pe_int) (pe_callB call_len_seq (by rfl) B.len PySem.boot_len (pa_cons (pv 0) pa_nil)) (nomark _)) (pe_ix ix_seq (pv 0) (pe_op op_add (pv 1) pe_int) (fun _ _ => rfl)) pe_int))
    (pss_one (ps_ret (pe_cmpR op_ne (pv 4) (pe_ifExp (pt_cmpR op_eq (pv 3) pe_int (nomark _)) (pe_un un_neg (pv 2)) (pv 2)) (nomark _))))))), ?_⟩
  have e0 : ds[i]? = some ds[i] := List.getElem?_eq_getElem hi
  have g0 : ds.getD i 0 = ds[i] := getD_of e0
  refine ⟨_, rfl, _, rfl, hS.ix (at_of_int rfl e0) ?_⟩
  refine ⟨_, rfl, rfl, _, rfl, ite2 (fun c => ?_) (fun c => ?_)⟩
  · have c1 : ds[i] = 0 := V.int.inj (of_decide_eq_true c)
    have em : mk ds i = false := by
      unfold mk
      rw [g0, if_pos c1]
    rw [em] at q
    exact q
  have c1 : ¬ ds[i] = 0 := fun z => c (decide_eq_true (by rw [z]))
  try dsimp only [tNext, tSeq, tAsg, gName]
  refine if_ev (.int (ahd ds i)) (fun Q' q' => ?_) ?_
  · refine ⟨_, rfl, _, _, rfl, rfl, _, rfl, ite2 (fun d => ?_) (fun d => ?_)⟩
    · have d1 : (0 : Int) < (i : Int) := of_decide_eq_true d
      exact ⟨_, rfl, _, rfl, _, _, rfl, rfl, hS.ix (at_of_int (j := i - 1) (by omega) (ahd_pos (by omega) hi)) q'⟩
    · have d1 : ¬ (0 : Int) < (i : Int) := of_decide_eq_false (Bool.eq_false_iff.mpr d)
      rw [ahd_zero (by omega)] at q'
      exact q'
  try dsimp only [tNext, tSeq, tAsg, gName]
  refine if_ev (.int (bhd ds i)) (fun Q' q' => ?_) ?_
  · refine ⟨_, rfl, _, _, rfl, rfl, _, rfl, a, _, rfl, hS, _, _, rfl, rfl, _, rfl, ite2 (fun d => ?_) (fun d => ?_)⟩
    · have d1 : (i : Int) + 1 < (((ds.map V.int).length : Nat) : Int) := of_decide_eq_true d
      rw [List.length_map] at d1
      exact ⟨_, rfl, _, rfl, _, _, rfl, rfl, hS.ix (at_of_int (j := i + 1) (by omega) (bhd_in (by omega))) q'⟩
    · have d1 : ¬ (i : Int) + 1 < (((ds.map V.int).length : Nat) : Int) := of_decide_eq_false (Bool.eq_false_iff.mpr d)
      rw [List.length_map] at d1
      rw [bhd_out (by omega)] at q'
      exact q'
  have em : mk ds i = !decide (V.int (bhd ds i) = V.int (if ahd ds i = 0 then -ds[i] else ds[i])) := by
    unfold mk
    rw [g0, if_neg c1]
  rw [em] at q
  refine ⟨_, rfl, _, rfl, rfl, _, rfl, ite2 (fun d => ?_) (fun d => ?_)⟩
  · have d1 : ahd ds i = 0 := V.int.inj (of_decide_eq_true d)
    rw [if_pos d1] at q
    exact ⟨_, rfl, _, rfl, rfl, q⟩
  · have d1 : ¬ ahd ds i = 0 := fun z => d (decide_eq_true (by rw [z]))
    rw [if_neg d1] at q
    exact ⟨_, rfl, rfl, q⟩
/-! ### marks_of -/
theorem scMarksOf : FnScope ["digits", "place"] ["digits"] (defScope sMarksOf) := ⟨rfl, rfl, rfl, by decide +kernel, rfl, by decide +kernel, by decide +kernel⟩
def spMarksOf (K : PySem.W.Frag) : Sp := fun vs H Q _ => ∃ (a : Addr) (ds : List Int), vs = [.ref a] ∧ Sq K H a ds ∧ ds.length ≤ 1000 ∧
  ∀ (p : Addr) (H' : Hp), H p = none → Same H H' → H' p = some (.lst ((marks ds).map V.int)) → Q (.ref p) H'
theorem ok_marksOf {f g : Addr} {fd gd : FuncData} {k : Nat} (F : Fun K "marks_of" "marks_of" sMarksOf f fd) (FG : Fun K "is_mark" "is_mark" sIsMark g gd) (bG : Binds K gd ["digits", "place"] []) (mG : mg "is_mark" = some (.ref g)) (B : Bl mg) :
    FnOk P w K mg base CX0 (k + 2) f fd ["digits"] (spMarksOf K) := by
  have G : FnOk P w K mg base CX0 (k + 1) g gd ["digits", "place"] (spIsMark K) := ok_isMark FG B
  refine F.ok scMarksOf (fun vs H Q E h => ?_) (fun cdv A outer s H vs Q E hr h => ?_)
  · obtain ⟨a, ds, rfl, _⟩ := h
    rfl
  obtain ⟨a, ds, rfl, hS, hl, q⟩ := h
  refine ⟨_, pss_one (ps_ret (pe_lc (own := [("place", 1)]) (by rfl) scMarksOf.nd (pi_range1 (by rfl) B.range (pa_cons (pe_callB call_len_seq (by rfl) B.len PySem.boot_len (pa_cons (pv 0) pa_nil)) pa_nil))
    (blkOk_by (own := [("place", 1)]) (N := ["digits", "place"]) (sc := defScope sMarksOf) (by decide +kernel)) (fun _ _ _ _ _ => pg_name (i := 1) scMarksOf.nd rfl (Or.inl rfl)) (fun _ _ _ _ _ => pts_nil)
    (fun _ _ _ _ _ => pe_ifExp (pt_val (pe_call G hr (by rfl) mG FG.kp bG .nil pass0 (pa_cons (pv 0) (pa_cons (pv 1) pa_nil)))) pe_int pe_int))), ?_⟩
  refine ⟨_, rfl, a, _, rfl, hS, _, rfl, by omega, by rw [List.length_map]; omega, fun D nD => ?_⟩
  have sD : Same H (upd H D (.lst [])) := same_upd nD
  rw [List.length_map, Int.toNat_natCast]
  refine lc_range (fun i H3 => Same H H3 ∧ H3 D = some (.lst (((marks ds).take i).map V.int))) ⟨sD, upd_same⟩ ?_ ?_
  · rintro i H3 hi ⟨s3, eD⟩
    refine ⟨rfl, yesT ?_⟩
    refine ⟨_, rfl, _, rfl, a, ds, i, (by rw [Int.zero_add]; rfl), hS.same s3, hi, _, rfl, ?_⟩
    have fin : ∀ z : Int, z = mkI ds i → ∃ acc, H3 D = some (.lst acc) ∧ acc.length < sizeLine ∧ (Same H (upd H3 D (.lst (acc ++ [V.int z]))) ∧ (upd H3 D (.lst (acc ++ [V.int z]))) D = some (.lst (((marks ds).take (i + 1)).map V.int))) := fun z ez => by
      refine ⟨_, eD, ?_, fun b o e => ?_, ?_⟩
      · rw [List.length_map, List.length_take]
        exact Nat.lt_of_le_of_lt (Nat.min_le_left _ _) (small1000 (by omega))
      · rw [upd_ne (ne_of_none e nD)]
        exact s3 _ _ e
      · rw [upd_same, marks_take hi, ez, List.map_append]
        rfl
    refine ite2 (fun c => ?_) (fun c => ?_)
    · exact fin 1 (by unfold mkI; rw [if_pos c])
    · exact fin 0 (by unfold mkI; rw [if_neg c])
  · rintro H3 ⟨s3, eD⟩
    refine q D H3 nD s3 ?_
    rw [List.take_of_length_le (by rw [marks_len]; exact Nat.le_refl _)] at eD
    exact eD
/-! ### _law_marks -/
theorem scMarks : FnScope ["_law_digits", "_law_found", "_law_place", "_law_digit", "_law_ahead", "_law_behind", "_law_bar"] ["_law_digits"] (defScope sMarks) := ⟨rfl, rfl, rfl, by decide +kernel, rfl, by decide +kernel, by decide +kernel⟩
def spMarks (K : PySem.W.Frag) : Sp := fun vs H Q _ => ∃ (a : Addr) (ds : List Int), vs = [.ref a] ∧ SqL K H a (ds.map V.int) ∧ ds.length ≤ 1000 ∧
  ∀ (p : Addr) (H' : Hp), H p = none → Same H H' → H' p = some (.lst ((marks ds).map V.int)) → Q (.ref p) H'
theorem ok_marks {f : Addr} {fd : FuncData} {k : Nat} (F : Fun K "_law_marks" "_law_marks" sMarks f fd) (B : Bl mg) : FnOk P w K mg base CX0 (k + 1) f fd ["_law_digits"] (spMarks K) := by
  refine F.ok scMarks (fun vs H Q E h => ?_) (fun cdv A outer s H vs Q E hr h => ?_)
  · obtain ⟨a, ds, rfl, _⟩ := h
    rfl
  obtain ⟨a, ds, rfl, hS, hl, q⟩ := h
  refine ⟨_, pss_cons (ps_set (i := 1) scMarks.nd rfl (.inl rfl) (pe_lst pa_nil))
    (pss_cons (ps_for PassesOwn.never rfl (pi_enum (by rfl) B.enumerate (pa_cons (pv 0) pa_nil))
        (pg_tup rfl (pgs_cons (pg_name (i := 2) scMarks.nd rfl (.inl rfl)) (pgs_cons (pg_name (i := 3) scMarks.nd rfl (.inl rfl)) pgs_nil)))
      (pss_cons (ps_set (i := 4) scMarks.nd rfl (.inl rfl) (pe_ifExp (pt_cmpR op_gt (pv 2) pe_int (nomark _)) (pe_ix ix_list (pv 0) (pe_op op_sub (pv 2) pe_int) (fun _ _ => rfl)) pe_int))
      (pss_cons (ps_set (i := 5) scMarks.nd rfl (.inl rfl) (pe_ifExp (pt_cmpR op_lt (pe_op op_add (pv 2) pe_int) (pe_callB call_len_seq (by rfl) B.len PySem.boot_len (pa_cons (pv 0) pa_nil)) (nomark _)) (pe_ix ix_list (pv 0) (pe_op op_add (pv 2) pe_int) (fun _ _ => rfl)) pe_int))
      (pss_cons (ps_set (i := 6) scMarks.nd rfl (.inl rfl) (pe_ifExp (pt_cmpR op_ne (pv 4) pe_int (nomark _)) (pe_cmpR op_eq (pv 5) (pv 3) (nomark _)) (pe_cmpR op_eq (pe_op op_add (pv 5) (pv 3)) pe_int (nomark _))))
      (pss_one (ps_expr (pe_bm PySem.F.plainAttrs_list PySem.F.slot_list_append PySem.F.type_list_append mt_append (pv 1) (pa_cons (pe_callTy call_int1 (by rfl) B.int PyProof.Rows.boot_int (pa_cons (pe_and (pe_cmpR op_ne (pv 3) pe_int (nomark _)) (pe_one (pe_not (pv 6)))) pa_nil)) pa_nil))))))))
    (pss_one (ps_ret (pv 1)))), ?_⟩
  refine ⟨Nat.zero_le _, fun o no => ?_⟩
  have s1 : Same H (upd H o (.lst [])) := same_upd no
  refine ⟨_, rfl, a, _, rfl, s1.seq hS, ?_⟩
  refine for_it (walk_enum (K := K) (a := a) (xs := ds.map V.int)) (fun i σ H3 => ∃ (y2 y3 y4 y5 y6 : Option V), σ = [some (.ref a), some (.ref o), y2, y3, y4, y5, y6] ∧ Same H H3 ∧ H3 o = some (.lst (((marks ds).take i).map V.int)))
    ⟨none, none, none, none, none, rfl, s1, upd_same⟩ (fun i σ H3 _ ⟨_, _, _, _, _, _, s3, _⟩ => s3.seq hS) ?_ ?_
  · rintro i v σ H3 H4 hi ⟨y2, y3, y4, y5, y6, rfl, s3, eo⟩ ⟨T, x, y, rfl, nT, rfl, e1, e2⟩
    cases e1
    obtain ⟨z, e0, rfl⟩ := int_at e2
    rw [List.length_map] at hi
    have noT : o ≠ T := ne_of_none eo nT
    have sT : Same H3 (upd H3 T (.tup [.int (i : Nat), .int z])) := same_upd nT
    have s4 := s3.trans sT
    have hA := s4.seq hS
    have g0 : ds.getD i 0 = z := getD_of e0
    refine ⟨T, _, rfl, .inl (.inl upd_same), rfl, _, _, rfl, _, _, rfl, rfl, ?_⟩
    try dsimp only [tNext, tSeq, tAsg, gName]
    refine if_ev (.int (ahd ds i)) (fun Q' q' => ?_) ?_
    · refine ⟨_, rfl, _, _, rfl, rfl, _, rfl, ite2 (fun d => ?_) (fun d => ?_)⟩
      · have d1 : (0 : Int) < (i : Int) := of_decide_eq_true d
        exact ⟨_, rfl, _, rfl, _, _, rfl, rfl, a, _, _, _, rfl, rfl, hA, at_of_int (j := i - 1) (by omega) (ahd_pos (by omega) hi), q'⟩
      · have d1 : ¬ (0 : Int) < (i : Int) := of_decide_eq_false (Bool.eq_false_iff.mpr d)
        rw [ahd_zero (by omega)] at q'
        exact q'
    try dsimp only [tNext, tSeq, tAsg, gName]
    refine if_ev (.int (bhd ds i)) (fun Q' q' => ?_) ?_
    · refine ⟨_, rfl, _, _, rfl, rfl, _, rfl, a, _, rfl, .inl hA, _, _, rfl, rfl, _, rfl, ite2 (fun d => ?_) (fun d => ?_)⟩
      · have d1 : (i : Int) + 1 < (((ds.map V.int).length : Nat) : Int) := of_decide_eq_true d
        rw [List.length_map] at d1
        exact ⟨_, rfl, _, rfl, _, _, rfl, rfl, a, _, _, _, rfl, rfl, hA, at_of_int (j := i + 1) (by omega) (bhd_in (by omega)), q'⟩
      · have d1 : ¬ (i : Int) + 1 < (((ds.map V.int).length : Nat) : Int) := of_decide_eq_false (Bool.eq_false_iff.mpr d)
        rw [List.length_map] at d1
        rw [bhd_out (by omega)] at q'
        exact q'
    try dsimp only [tNext, tSeq, tAsg, gName]
    refine if_ev (.bl (decide (V.int (bhd ds i) = V.int (if ahd ds i = 0 then -z else z)))) (fun Q' q' => ?_) ?_
    · refine ⟨_, rfl, rfl, _, rfl, ite2 (fun d => ?_) (fun d => ?_)⟩
      · have d1 : ¬ ahd ds i = 0 := fun z => by
          rw [decide_eq_true (by rw [z])] at d
          cases d
        rw [if_neg d1] at q'
        exact ⟨_, rfl, _, rfl, rfl, q'⟩
      · have d1 : ahd ds i = 0 := by
          cases Decidable.em (V.int (ahd ds i) = V.int 0) with
          | inl e => exact V.int.inj e
          | inr e =>
            rw [decide_eq_false e] at d
            exact absurd rfl d
        rw [if_pos d1] at q'
        refine ⟨_, rfl, _, rfl, _, _, rfl, rfl, rfl, ?_⟩
        have ee : decide (V.int (bhd ds i + z) = V.int 0) = decide (V.int (bhd ds i) = V.int (-z)) := by
          rw [Bool.eq_iff_iff, decide_eq_true_iff, decide_eq_true_iff]
          constructor
          · intro h
            have := V.int.inj h
            exact congrArg V.int (by omega)
          · intro h
            have := V.int.inj h
            exact congrArg V.int (by omega)
        show Q' (.bl (decide (V.int (bhd ds i + z) = V.int 0))) _
        rw [ee]
        exact q'
    have eoT : (upd H3 T (.tup [.int (i : Nat), .int z])) o = some (.lst (((marks ds).take i).map V.int)) := sT _ _ eo
    have fin : ∀ b : Int, b = mkI ds i → ∃ (l : Addr) (xs : List V) (y : V), V.ref o = .ref l ∧ [V.int b] = [y] ∧ (upd H3 T (.tup [.int (i : Nat), .int z])) l = some (.lst xs) ∧ xs.length < sizeLine ∧
        ∃ (y2 y3 y4 y5 y6 : Option V), [some (V.ref a), some (.ref o), some (.int (i : Nat)), some (.int z), some (.int (ahd ds i)), some (.int (bhd ds i)), some (.bl (decide (V.int (bhd ds i) = V.int (if ahd ds i = 0 then -z else z))))] = [some (.ref a), some (.ref o), y2, y3, y4, y5, y6] ∧ Same H (upd (upd H3 T (.tup [.int (i : Nat), .int z])) l (.lst (xs ++ [y]))) ∧ (upd (upd H3 T (.tup [.int (i : Nat), .int z])) l (.lst (xs ++ [y]))) o = some (.lst (((marks ds).take (i + 1)).map V.int)) := fun b eb => by
      refine ⟨o, _, _, rfl, rfl, eoT, ?_, _, _, _, _, _, rfl, fun b o' e => ?_, ?_⟩
      · rw [List.length_map, List.length_take]
        exact Nat.lt_of_le_of_lt (Nat.min_le_left _ _) (small1000 (by omega))
      · rw [upd_ne (ne_of_none e no)]
        exact s4 _ _ e
      · rw [upd_same, marks_take hi, eb, List.map_append]
        rfl
    refine ⟨_, rfl, .inl ⟨rfl, _, .inl (.inl eoT)⟩, _, rfl, rfl, _, rfl, ite2 (fun c => ?_) (fun c => ?_)⟩
    · have c1 : ¬ z = 0 := fun e => by
        rw [decide_eq_true (by rw [e])] at c
        cases c
      refine ⟨_, rfl, _, rfl, .inr ⟨_, rfl, ?_⟩⟩
      refine fin _ ?_
      unfold mkI mk
      rw [g0, if_neg c1]
    · have c1 : z = 0 := by
        cases Decidable.em (V.int z = V.int 0) with
        | inl e => exact V.int.inj e
        | inr e =>
          rw [decide_eq_false e] at c
          exact absurd rfl c
      refine .inr ⟨_, rfl, ?_⟩
      refine fin _ ?_
      unfold mkI mk
      rw [g0, if_pos c1]
  · rintro σ H3 ⟨y2, y3, y4, y5, y6, rfl, s3, eo⟩
    rw [List.length_map, List.take_of_length_le (by rw [marks_len]; exact Nat.le_refl _)] at eo
    exact ⟨_, rfl, q o H3 no s3 eo⟩
end
section
variable {P : Program} {w : World} {K : PySem.W.Frag} {mg : Str → Option Value} {base : Heap}
theorem bx1 {c : Int} {H : Hp} {b : Addr} (h : BoxAt (c + 2 ^ (1 - 1)) H b) : BoxAt (c + 1) H b := h
/-! ### _law_some_digits -/
theorem scSome : FnScope ["_law_box_here", "_law_way", "_law_many", "_law_found", "_law_digit"] ["_law_box_here"] (defScope sSome) := ⟨rfl, rfl, rfl, by decide +kernel, rfl, by decide +kernel, by decide +kernel⟩
def spSome : Sp := fun vs H Q _ => ∃ (b : Addr) (c : Int), vs = [.ref b] ∧ BoxAt c H b ∧ c ≤ 900000000 ∧
  ∀ (p : Addr) (ds : List Int) (H' : Hp), p ≠ b → H p = none → H' p = some (.lst (ds.map V.int)) → ds.length ≤ 80 → BoxAt (c + 600) H' b → Keep b H H' → Q (.ref p) H'
theorem Keep.none {b p : Addr} {H H' : Hp} (k : Keep b H H') (n : p ≠ b) (h : H' p = none) : H p = none := by
  cases q : H p with
  | none => rfl
  | some o =>
    rw [k p o q n] at h
    cases h
theorem rep_map (k : Nat) (z : Int) : (List.replicate k ([V.int z] : List V)).flatten = (List.replicate k z).map V.int := by
  induction k with
  | zero => rfl
  | succ k ih =>
    rw [List.replicate_succ, List.replicate_succ, List.flatten_cons, ih]
    rfl
theorem ok_some {f g : Addr} {fd gd : FuncData} {k : Nat} (F : Fun K "_law_some_digits" "_law_some_digits" sSome f fd) (FT : Fun K "_law_take" "_law_take" sTake g gd) (bT : Binds K gd ["_law_box_here", "_law_size"] []) (mT : mg "_law_take" = some (.ref g)) (B : Bl mg) :
    FnOk P w K mg base CX0 2 f fd ["_law_box_here"] spSome := by
  have G : FnOk P w K mg base CX0 1 g gd ["_law_box_here", "_law_size"] (spTake 1) := ok_take FT bT mT B 1
  refine F.ok scSome (fun vs H Q E h => ?_) (fun cdv A outer s H vs Q E hr h => ?_)
  · obtain ⟨b, c, rfl, _⟩ := h
    rfl
  obtain ⟨b, c, rfl, hB, hc, q⟩ := h
  refine ⟨_, pss_cons (ps_par (by rfl) scSome.nd (i := 1) (j := 2) rfl rfl (by decide) rfl rfl (pa_cons (pe_call G hr (by rfl) mT FT.kp bT .nil pass0 (pa_cons (pv 0) (pa_cons pe_int pa_nil)))
      (pa_cons (pe_ix ix_list (pe_lst (pa_cons (pe_call G hr (by rfl) mT FT.kp bT .nil pass0 (pa_cons (pv 0) (pa_cons pe_int pa_nil))) (pa_cons (pe_call G hr (by rfl) mT FT.kp bT .nil pass0 (pa_cons (pv 0) (pa_cons pe_int pa_nil))) (pa_cons pe_int pa_nil)))) (pe_call G hr (by rfl) mT FT.kp bT .nil pass0 (pa_cons (pv 0) (pa_cons pe_int pa_nil))) (fun _ _ => rfl)) pa_nil)) (by rfl))
    (pss_cons (ps_set (i := 3) scSome.nd rfl (.inl rfl) (pe_lst pa_nil))
    (pss_cons (ps_while PassesOwn.never (pt_cmpR op_lt (pe_callB call_len_seq (by rfl) B.len PySem.boot_len (pa_cons (pv 3) pa_nil)) (pv 2) (nomark _))
      (pss_cons (ps_set (i := 4) scSome.nd rfl (.inl rfl) (pe_op op_sub (pe_call G hr (by rfl) mT FT.kp bT .nil pass0 (pa_cons (pv 0) (pa_cons pe_int pa_nil))) pe_int))
      (pss_one (ps_if (pt_cmpR op_eq (pv 1) pe_int (nomark _))
        (pss_one (ps_expr (pe_bm PySem.F.plainAttrs_list PySem.F.slot_list_append PySem.F.type_list_append mt_append (pv 3) (pa_cons (pv 4) pa_nil))))
        (pss_one (ps_if (pt_cmpR op_eq (pv 1) pe_int (nomark _))
          (pss_one (ps_expr (pe_bm PySem.F.plainAttrs_list PySem.F.slot_list_append PySem.F.type_list_append mt_append (pv 3) (pa_cons (pe_op op_mul (pv 4) (pe_callTy call_int1 (by rfl) B.int PyProof.Rows.boot_int (pa_cons (pe_cmpR op_eq (pe_call G hr (by rfl) mT FT.kp bT .nil pass0 (pa_cons (pv 0) (pa_cons pe_int pa_nil))) pe_int (nomark _)) pa_nil))) pa_nil))))
          (pss_one (ps_set (i := 3) scSome.nd rfl (.inl rfl) (pe_op op_cat (pe_op op_cat (pv 3) (pe_op op_rep (pe_lst (pa_cons (pv 4) pa_nil)) (pe_op op_add pe_int (pe_call G hr (by rfl) mT FT.kp bT .nil pass0 (pa_cons (pv 0) (pa_cons pe_int pa_nil))))))
            (pe_op op_rep (pe_lst (pa_cons (pe_op op_sub pe_int (pv 4)) pa_nil)) (pe_op op_mul (pe_call G hr (by rfl) mT FT.kp bT .nil pass0 (pa_cons (pv 0) (pa_cons pe_int pa_nil))) (pe_op op_sub (pv 1) pe_int))))))))))))
    (pss_one (ps_ret (pe_slice sl_list (pv 3) po_none (po_some (pv 2))))))), ?_⟩
  have nb : ∀ {c : Int} {H' : Hp}, BoxAt c H' b → ∃ o, H' b = some o := fun ⟨x0, x1, x2, e, _⟩ => ⟨_, e⟩
  refine ⟨_, rfl, b, _, _, rfl, hB, (by decide), (by decide), (by decide), (by omega), (by decide), fun way H1 w0 w1 B1 k1 => ?_⟩
  replace B1 := bx1 B1
  refine ⟨_, rfl, b, _, _, rfl, B1, (by decide), (by decide), (by decide), (by omega), (by decide), fun r1 H2 u0 u1 B2 k2 => ?_⟩
  replace B2 := bx1 B2
  refine ⟨_, rfl, b, _, _, rfl, B2, (by decide), (by decide), (by decide), (by omega), (by decide), fun r2 H3 v0 v1 B3 k3 => ?_⟩
  replace B3 := bx1 B3
  refine ⟨(by show 3 ≤ sizeLine; decide), fun m1 nm1 => ?_⟩
  have B3' := B3.same (same_upd (o := .lst [.int r1, .int r2, .int 80]) nm1)
  refine ⟨_, rfl, b, _, _, rfl, B3', (by decide), (by decide), (by decide), (by omega), (by decide), fun r3 H4 y0 y1 B4 k4 => ?_⟩
  replace B4 := bx1 B4
  have nbm : m1 ≠ b := (B3.ne nm1).symm
  have em : H4 m1 = some (.lst [.int r1, .int r2, .int 80]) := k4 _ _ upd_same nbm
  obtain ⟨many, hm, hm0, hm80⟩ : ∃ many : Int, atI ([.int r1, .int r2, .int 80] : List V) r3 = some (.int many) ∧ 0 ≤ many ∧ many ≤ 80 := by
    have c3 : r3 = 0 ∨ r3 = 1 ∨ r3 = 2 := by omega
    rcases c3 with z | z | z
    · subst z
      exact ⟨r1, rfl, by omega, by omega⟩
    · subst z
      exact ⟨r2, rfl, by omega, by omega⟩
    · subst z
      exact ⟨80, rfl, by omega, by omega⟩
  refine ⟨m1, _, _, _, rfl, rfl, SqL.of em, hm, _, _, rfl, ?_⟩
  have kA : Keep b H H4 := ((k1.trans (k2.trans k3)).trans (Keep.new nm1)).trans k4
  refine ⟨Nat.zero_le _, fun o no => ?_⟩
  have nob : o ≠ b := (B4.ne no).symm
  have noH : H o = none := kA.none nob no
  refine ⟨fun m σ H5 => ∃ (fs : List Int) (p : Addr) (y4 : Option V), σ = [some (.ref b), some (.int way), some (.int many), some (.ref p), y4] ∧ m + fs.length = 200 ∧ p ≠ b ∧ H p = none ∧ H5 p = some (.lst (fs.map V.int)) ∧ fs.length ≤ 90 ∧ BoxAt (c + 10 + 4 * fs.length) H5 b ∧ Keep b H H5,
    ⟨200, [], o, none, rfl, rfl, nob, noH, upd_same, by decide, (B4.same (same_upd no)).mono (by show c + 1 + 1 + 1 + 1 ≤ c + 10 + 4 * ((0 : Nat) : Int); omega), kA.trans (Keep.new no)⟩, ?_⟩
  rintro m σ H5 ⟨fs, p, y4, rfl, hm5, npb, npH, ep, hf, B5, k5⟩
  refine ⟨_, rfl, p, _, rfl, .inl (SqL.of ep), _, rfl, _, _, rfl, rfl, _, rfl, ite2 (fun cc => ?_) (fun cc => ?_)⟩
  · have c1 : (((fs.map V.int).length : Nat) : Int) < many := of_decide_eq_true cc
    rw [List.length_map] at c1
    refine ⟨fun σ' H' => ∃ (fs' : List Int) (p' : Addr) (y4 : Option V), σ' = [some (.ref b), some (.int way), some (.int many), some (.ref p'), y4] ∧ fs.length < fs'.length ∧ p' ≠ b ∧ H p' = none ∧ H' p' = some (.lst (fs'.map V.int)) ∧ fs'.length ≤ 90 ∧ BoxAt (c + 10 + 4 * fs'.length) H' b ∧ Keep b H H', fun σ' H' => ?_, ?_⟩
    · rintro ⟨fs', p', y4', e1, e2, e3, e4, e5, e6, e7, e8⟩
      exact ⟨200 - fs'.length, by omega, fs', p', y4', e1, by omega, e3, e4, e5, e6, e7, e8⟩
    refine ⟨_, rfl, b, _, _, rfl, B5, (by decide), (by decide), (by decide), (by omega), (by decide), fun d H6 d0 d1 B6 k6 => ?_⟩
    replace B6 := bx1 B6
    refine ⟨_, _, rfl, rfl, ?_⟩
    have ep6 := k6 _ _ ep npb
    have k56 := k5.trans k6
    -- one digit more behind what there was
    have one : ∀ (z : Int) (H7 : Hp), H7 p = some (.lst (fs.map V.int)) → BoxAt (c + 10 + 4 * fs.length + 2) H7 b → Keep b H H7 →
        ∃ (l : Addr) (xs : List V) (y : V), V.ref p = .ref l ∧ [V.int z] = [y] ∧ H7 l = some (.lst xs) ∧ xs.length < sizeLine ∧
          ∃ (fs' : List Int) (p' : Addr) (y4 : Option V), [some (.ref b), some (.int way), some (.int many), some (.ref p), some (.int (d - 1))] = [some (.ref b), some (.int way), some (.int many), some (.ref p'), y4] ∧ fs.length < fs'.length ∧ p' ≠ b ∧ H p' = none ∧ (upd H7 l (.lst (xs ++ [y]))) p' = some (.lst (fs'.map V.int)) ∧ fs'.length ≤ 90 ∧ BoxAt (c + 10 + 4 * fs'.length) (upd H7 l (.lst (xs ++ [y]))) b ∧ Keep b H (upd H7 l (.lst (xs ++ [y]))) := fun z H7 e7 B7 k7 => by
      refine ⟨p, _, _, rfl, rfl, e7, ?_, fs ++ [z], p, _, rfl, ?_, npb, npH, ?_, ?_, ?_, ?_⟩
      · rw [List.length_map]
        exact small1000 (by omega)
      · rw [List.length_append, List.length_singleton]
        omega
      · rw [upd_same, List.map_append]
        rfl
      · rw [List.length_append, List.length_singleton]
        omega
      · refine BoxAt.mono (B7.at (upd_ne npb.symm)) ?_
        rw [List.length_append, List.length_singleton]
        omega
      · intro x u e n
        rw [upd_ne (ne_of_none e npH)]
        exact k7 _ _ e n
    refine ⟨_, rfl, rfl, _, rfl, ite2 (fun cw => ?_) (fun cw => ?_)⟩
    · refine ⟨_, rfl, .inl ⟨rfl, _, SqL.of ep6⟩, _, rfl, ?_⟩
      exact one _ _ ep6 (B6.mono (by omega)) k56
    refine ⟨_, rfl, rfl, _, rfl, ite2 (fun cw2 => ?_) (fun cw2 => ?_)⟩
    · refine ⟨_, rfl, .inl ⟨rfl, _, SqL.of ep6⟩, _, rfl, _, rfl, b, _, _, rfl, B6, (by decide), (by decide), (by decide), (by omega), (by decide), fun e H7 e0 e1 B7 k7 => ?_⟩
      replace B7 := bx1 B7
      refine ⟨rfl, .inr ⟨_, rfl, ?_⟩⟩
      refine ⟨_, _, rfl, rfl, .inl ⟨by omega, by omega⟩, ?_⟩
      exact one _ _ (k7 _ _ ep6 npb) (B7.mono (by omega)) (k56.trans k7)
    · have w2 : way ≠ 0 := fun z => cw (decide_eq_true (by rw [z]))
      have w3 : way ≠ 1 := fun z => cw2 (decide_eq_true (by rw [z]))
      refine ⟨_, rfl, _, rfl, (by show 1 ≤ sizeLine; decide), fun l1 nl1 => ?_⟩
      have B6' := B6.same (same_upd (o := .lst [.int (d - 1)]) nl1)
      have np1 : p ≠ l1 := ne_of_none ep6 nl1
      refine ⟨_, rfl, b, _, _, rfl, B6', (by decide), (by decide), (by decide), (by omega), (by decide), fun r H7 e0 e1 B7 k7 => ?_⟩
      replace B7 := bx1 B7
      have nl1b : l1 ≠ b := (B6.ne nl1).symm
      have el7 : H7 l1 = some (.lst [.int (d - 1)]) := k7 _ _ upd_same nl1b
      have ep7 : H7 p = some (.lst (fs.map V.int)) := k7 _ _ (by rw [upd_ne np1]; exact ep6) npb
      have kk7 := (k56.trans (Keep.new nl1)).trans k7
      refine ⟨_, _, rfl, rfl, l1, _, _, rfl, rfl, el7, by omega, by omega, ?_, fun l2 nl2 => ?_⟩
      · show 1 * (1 + r).toNat ≤ sizeLine
        exact Nat.le_of_lt (small1000 (by omega))
      rw [rep_map]
      have B7' := B7.same (same_upd (o := .lst ((List.replicate (1 + r).toNat (d - 1)).map V.int)) nl2)
      have ep7' := same_upd (o := .lst ((List.replicate (1 + r).toNat (d - 1)).map V.int)) nl2 _ _ ep7
      refine ⟨p, l2, _, _, rfl, rfl, ep7', upd_same, ?_, fun l3 nl3 => ?_⟩
      · rw [List.length_map, List.length_map, List.length_replicate]
        exact Nat.le_of_lt (small1000 (by omega))
      rw [← List.map_append]
      have B8 := B7'.same (same_upd (o := .lst ((fs ++ List.replicate (1 + r).toNat (d - 1)).map V.int)) nl3)
      have kk8 := (kk7.trans (Keep.new (o := .lst ((List.replicate (1 + r).toNat (d - 1)).map V.int)) nl2)).trans (Keep.new (o := .lst ((fs ++ List.replicate (1 + r).toNat (d - 1)).map V.int)) nl3)
      refine ⟨_, rfl, _, _, rfl, rfl, (by show 1 ≤ sizeLine; decide), fun l4 nl4 => ?_⟩
      have n34 : l3 ≠ l4 := fun e => by
        subst e
        rw [upd_same] at nl4
        cases nl4
      have B9 := B8.same (same_upd (o := .lst [.int (0 - (d - 1))]) nl4)
      have nl3b : l3 ≠ b := (B7'.ne nl3).symm
      have nl4b : l4 ≠ b := (B8.ne nl4).symm
      refine ⟨_, rfl, b, _, _, rfl, B9, (by decide), (by decide), (by decide), (by omega), (by decide), fun t H8 t0 t1 B10 k8 => ?_⟩
      replace B10 := bx1 B10
      have el3 := k8 _ _ (show _ = some (HO.lst ((fs ++ List.replicate (1 + r).toNat (d - 1)).map V.int)) by rw [upd_ne n34]; exact upd_same) nl3b
      have el4 := k8 _ _ upd_same nl4b
      have kk9 := (kk8.trans (Keep.new nl4)).trans k8
      have hw : way = 2 ∨ way = 3 := by omega
      have hpr : 0 ≤ t * (way - 2) ∧ t * (way - 2) ≤ 2 := by
        rcases hw with z | z
        · subst z
          rw [show ((2 : Int) - 2) = 0 by decide, Int.mul_zero]
          decide
        · subst z
          rw [show ((3 : Int) - 2) = 1 by decide, Int.mul_one]
          omega
      refine ⟨_, rfl, _, _, rfl, rfl, _, _, rfl, rfl, .inl ⟨by omega, by omega⟩, l4, _, _, rfl, rfl, el4, by omega, by omega, ?_, fun l5 nl5 => ?_⟩
      · show 1 * (t * (way - 2)).toNat ≤ sizeLine
        exact Nat.le_of_lt (small1000 (by omega))
      rw [rep_map]
      have el3' := same_upd (o := .lst ((List.replicate (t * (way - 2)).toNat (0 - (d - 1))).map V.int)) nl5 _ _ el3
      refine ⟨l3, l5, _, _, rfl, rfl, el3', upd_same, ?_, fun l6 nl6 => ?_⟩
      · rw [List.length_map, List.length_map, List.length_append, List.length_replicate, List.length_replicate]
        exact Nat.le_of_lt (small1000 (by omega))
      have B11 := (B10.same (same_upd (o := .lst ((List.replicate (t * (way - 2)).toNat (0 - (d - 1))).map V.int)) nl5))
      have kk11 := kk9.trans (Keep.new (o := .lst ((List.replicate (t * (way - 2)).toNat (0 - (d - 1))).map V.int)) nl5)
      have nl6b : l6 ≠ b := (B11.ne nl6).symm
      refine ⟨fs ++ List.replicate (1 + r).toNat (d - 1) ++ List.replicate (t * (way - 2)).toNat (0 - (d - 1)), l6, _, rfl, ?_, nl6b, kk11.none nl6b nl6, ?_, ?_, BoxAt.mono (B11.same (same_upd nl6)) ?_, kk11.trans (Keep.new nl6)⟩
      · rw [List.length_append, List.length_append, List.length_replicate, List.length_replicate]
        omega
      · rw [upd_same, ← List.map_append]
      · rw [List.length_append, List.length_append, List.length_replicate, List.length_replicate]
        omega
      · rw [List.length_append, List.length_append, List.length_replicate, List.length_replicate]
        omega
  · -- found[:many]
    obtain ⟨mn, rfl⟩ : ∃ mn : Nat, many = (mn : Int) := ⟨many.toNat, by omega⟩
    refine ⟨_, rfl, _, rfl, _, rfl, p, _, rfl, SqL.of ep, fun p2 np2 => ?_⟩
    rw [cut_lo]
    have n2b : p2 ≠ b := (B5.ne np2).symm
    refine q p2 (fs.take mn) _ n2b (k5.none n2b np2) upd_same ?_ (BoxAt.mono (B5.same (same_upd np2)) (by omega)) (k5.trans (Keep.new np2))
    rw [List.length_take]
    omega
/-! ### _law_right -/
theorem scRight : FnScope ["_law_box_here", "_law_digits", "_law_due", "_law_handed", "_law_turn", "_law_found", "_law_digit"] ["_law_box_here"] (defScope sRight) := ⟨rfl, rfl, rfl, by decide +kernel, rfl, by decide +kernel, by decide +kernel⟩
def spRight : Sp := fun vs H Q _ => ∃ (b : Addr) (c : Int), vs = [.ref b] ∧ BoxAt c H b ∧ c ≤ 800000000 ∧
  ∀ (H' : Hp), BoxAt (c + 700) H' b → Keep b H H' → Q (.bl true) H'
theorem dp_ints {H : Hp} : ∀ ds : List Int, DpAll K H (ds.map V.int) (ds.map PyData.int)
  | [] => .nil
  | d :: ds => .cons (.int d) (dp_ints ds)
theorem lv_ints {n : Nat} (ds : List Int) (h : ds.length ≤ 1000) : Lv (n + 1) (.list (ds.map PyData.int)) := by
  refine ⟨by rw [List.length_map]; omega, fun d hd => ?_⟩
  obtain ⟨x, _, rfl⟩ := List.mem_map.mp hd
  cases n <;> trivial
theorem flat_ints : ∀ ds : List Int, (ds.map V.int).all flatV = true
  | [] => rfl
  | d :: ds => by
    rw [List.map_cons, List.all_cons, flat_ints ds]
    rfl
theorem eqv_ints (ds : List Int) : PyData.eqv (.list (ds.map PyData.int)) (.list (ds.map PyData.int)) = true := PySem.SeqAt.eqv_refl _ (PySem.SeqAt.canLay_of_shaped (PySem.W.shaped_ints ds))
theorem ok_right {f g1 g2 g3 g4 g5 g6 : Addr} {fd gd1 gd2 gd3 gd4 gd5 gd6 : FuncData} (F : Fun K "_law_right" "_law_right" sRight f fd) (B : Bl mg)
    (F1 : Fun K "_law_some_digits" "_law_some_digits" sSome g1 gd1) (b1 : Binds K gd1 ["_law_box_here"] []) (m1 : mg "_law_some_digits" = some (.ref g1))
    (F2 : Fun K "_law_take" "_law_take" sTake g2 gd2) (b2 : Binds K gd2 ["_law_box_here", "_law_size"] []) (m2 : mg "_law_take" = some (.ref g2))
    (F3 : Fun K "_law_marks" "_law_marks" sMarks g3 gd3) (b3 : Binds K gd3 ["_law_digits"] []) (m3 : mg "_law_marks" = some (.ref g3))
    (F4 : Fun K "marks_of" "marks_of" sMarksOf g4 gd4) (b4 : Binds K gd4 ["digits"] []) (m4 : mg "marks_of" = some (.ref g4))
    (F5 : Fun K "is_mark" "is_mark" sIsMark g5 gd5) (b5 : Binds K gd5 ["digits", "place"] []) (m5 : mg "is_mark" = some (.ref g5))
    (F6 : Fun K "_law_same" "_law_same" sSame g6 gd6) (b6 : Binds K gd6 ["_law_found", "_law_due"] []) (m6 : mg "_law_same" = some (.ref g6)) :
    FnOk P w K mg base CX0 3 f fd ["_law_box_here"] spRight := by
  have G1 : FnOk P w K mg base CX0 2 g1 gd1 ["_law_box_here"] spSome := ok_some (k := 0) F1 F2 b2 m2 B
  have G2 : FnOk P w K mg base CX0 1 g2 gd2 ["_law_box_here", "_law_size"] (spTake 1) := ok_take F2 b2 m2 B 1
  have G3 : FnOk P w K mg base CX0 2 g3 gd3 ["_law_digits"] (spMarks K) := ok_marks F3 B
  have G4 : FnOk P w K mg base CX0 2 g4 gd4 ["digits"] (spMarksOf K) := ok_marksOf F4 F5 b5 m5 B
  have G6 : FnOk P w K mg base CX0 2 g6 gd6 ["_law_found", "_law_due"] (spSame K 2) := ok_same F6 b6 m6 B 2
  refine F.ok scRight (fun vs H Q E h => ?_) (fun cdv A outer s H vs Q E hr h => ?_)
  · obtain ⟨b, c, rfl, _⟩ := h
    rfl
  obtain ⟨b, c, rfl, hB, hc, q⟩ := h
  have hr1 : Room 1 _ := hr.mono (by decide)
  refine ⟨_, pss_cons (ps_set (i := 1) scRight.nd rfl (.inl rfl) (pe_call G1 hr (by rfl) m1 F1.kp b1 .nil pass0 (pa_cons (pv 0) pa_nil)))
    (pss_cons (ps_par (by rfl) scRight.nd (i := 2) (j := 3) rfl rfl (by decide) rfl rfl (pa_cons (pe_call G3 hr (by rfl) m3 F3.kp b3 .nil pass0 (pa_cons (pv 1) pa_nil))
      (pa_cons (pe_ix ix_list (pe_lst (pa_cons (pe_callTy call_list_of (by rfl) B.list PyProof.Rows.boot_list (pa_cons (pv 1) pa_nil)) (pa_cons (pe_callTy call_tuple_of (by rfl) B.tuple PyProof.Rows.boot_tuple (pa_cons (pv 1) pa_nil)) pa_nil))) (pe_call G2 hr1 (by rfl) m2 F2.kp b2 .nil pass0 (pa_cons (pv 0) (pa_cons pe_int pa_nil))) (fun _ _ => rfl)) pa_nil)) (by rfl))
    (pss_cons (ps_for PassesOwn.never rfl (pi_range1 (by rfl) B.range (pa_cons pe_int pa_nil)) (pg_name (i := 4) scRight.nd rfl (.inl rfl))
      (pss_cons (ps_set (i := 5) scRight.nd rfl (.inl rfl) (pe_call G4 hr (by rfl) m4 F4.kp b4 .nil pass0 (pa_cons (pv 3) pa_nil)))
      (pss_cons (ps_if (PW.pt (pw_or (pt_not (pt_val (pe_call G6 hr (by rfl) m6 F6.kp b6 .nil pass0 (pa_cons (pv 5) (pa_cons (pv 2) pa_nil))))) (pw_or1 (pt_cmpR (op_neD hr.units) (pe_callTy call_list_of (by rfl) B.list PyProof.Rows.boot_list (pa_cons (pv 3) pa_nil)) (pv 1) (nomark _))))) (pss_one (ps_ret pe_bl)) pss_nil)
      (pss_cons (ps_expr (pe_bm PySem.F.plainAttrs_list PySem.F.slot_list_append PySem.F.type_list_append mt_append (pv 5) (pa_cons pe_int pa_nil)))
      (pss_one (ps_expr (pe_bm0 PySem.F.plainAttrs_list PySem.F.slot_list_reverse PySem.F.type_list_reverse mt_reverse (pv 5))))))))
    (pss_one (ps_ret (pe_cmpR op_eq (pe_cmpR op_in_seq pe_int (pv 2) (by rfl)) (pe_callB (cr_any rfl) (by rfl) B.any boot_any (pa_cons (pe_lc (own := [("_law_digit", 6)]) (by rfl) scRight.nd (pi_list (pv 1))
      (blkOk_by (own := [("_law_digit", 6)]) (N := ["_law_box_here", "_law_digits", "_law_due", "_law_handed", "_law_turn", "_law_found", "_law_digit"]) (sc := defScope sRight) (by decide +kernel)) (fun _ _ _ _ _ => pg_name (i := 6) scRight.nd rfl (Or.inl rfl)) (fun _ _ _ _ _ => pts_nil)
      (fun _ _ _ _ _ => pe_cmpR op_ne (pv 6) pe_int (nomark _))) pa_nil)) (nomark _)))))), ?_⟩
  refine ⟨_, rfl, b, c, rfl, hB, by omega, fun p ds H1 npb npH ep hl B1 k1 => ?_⟩
  refine ⟨_, rfl, p, ds, rfl, SqL.of ep, by omega, fun u H2 nu s2 eu => ?_⟩
  have ep2 := s2 _ _ ep
  have B2 := B1.same s2
  refine ⟨_, rfl, p, _, rfl, .inl (SqL.of ep2), fun l nl => ?_⟩
  have s3 := s2.trans (same_upd (o := .lst (ds.map V.int)) nl)
  have B3 := B2.same (same_upd (o := .lst (ds.map V.int)) nl)
  refine ⟨_, rfl, p, _, rfl, .inl ⟨SqL.of (s3 _ _ ep), fun t nt => ?_⟩⟩
  have nlt : l ≠ t := fun e => by
    subst e
    rw [upd_same] at nt
    cases nt
  refine ⟨(by show 2 ≤ sizeLine; decide), fun m nm => ?_⟩
  have B4 := B3.same (same_upd (o := .tup (ds.map V.int)) nt)
  have B5 := B4.same (same_upd (o := .lst [.ref l, .ref t]) nm)
  have nmb : m ≠ b := (B4.ne nm).symm
  have ntb : t ≠ b := (B3.ne nt).symm
  have nlb : l ≠ b := (B2.ne nl).symm
  have nub : u ≠ b := (B1.ne nu).symm
  have s5 : Same H2 (upd (upd (upd H2 l (.lst (ds.map V.int))) t (.tup (ds.map V.int))) m (.lst [.ref l, .ref t])) := (same_upd nl).trans ((same_upd nt).trans (same_upd nm))
  refine ⟨_, rfl, b, _, _, rfl, B5, (by decide), (by decide), (by decide), (by omega), (by decide), fun r H6 r0 r1 B6 k6 => ?_⟩
  replace B6 := bx1 B6
  have em : H6 m = some (.lst [.ref l, .ref t]) := k6 _ _ upd_same nmb
  have el : H6 l = some (.lst (ds.map V.int)) := k6 _ _ (same_upd nm _ _ (same_upd nt _ _ upd_same)) nlb
  have et : H6 t = some (.tup (ds.map V.int)) := k6 _ _ (same_upd nm _ _ upd_same) ntb
  have ep6 : H6 p = some (.lst (ds.map V.int)) := k6 _ _ (s5 _ _ ep2) npb
  have eu6 : H6 u = some (.lst ((marks ds).map V.int)) := k6 _ _ (s5 _ _ eu) nub
  have kA : Keep b H H6 := (k1.trans (Keep.ofSame (s2.trans s5))).trans k6
  obtain ⟨hd, eh, hS⟩ : ∃ hd : Addr, atI ([.ref l, .ref t] : List V) r = some (.ref hd) ∧ Sq K H6 hd ds := by
    have c3 : r = 0 ∨ r = 1 := by omega
    rcases c3 with z | z
    · subst z
      exact ⟨l, rfl, .inl (SqL.of el)⟩
    · subst z
      exact ⟨t, rfl, .inr (.inl (.inl et))⟩
  refine ⟨m, _, _, _, rfl, rfl, SqL.of em, eh, _, _, rfl, ?_⟩
  refine ⟨2, rfl, by decide, by decide, for_range (n := 2) (fun i σ H7 => ∃ (y4 y5 : Option V), σ = [some (.ref b), some (.ref p), some (.ref u), some (.ref hd), y4, y5, none] ∧ Same H6 H7) ⟨none, none, rfl, Same.refl _⟩ ?_ ?_⟩
  · rintro i σ H7 hi ⟨y4, y5, rfl, s7⟩
    refine ⟨_, rfl, hd, ds, rfl, hS.same s7, by omega, fun o H8 no s8 eo => ?_⟩
    have s68 := s7.trans s8
    refine ⟨_, rfl, _, rfl, _, _, .list ((marks ds).map PyData.int), 1, rfl, rfl, lv_ints _ (by rw [marks_len]; omega), .lst (SqL.of eo) (dp_ints _), .lst (SqL.of (s68 _ _ eu6)) (dp_ints _), fun H9 s9 => ?_⟩
    refine ⟨_, rfl, iteF ?_⟩
    have s69 := s68.trans s9
    refine ⟨_, rfl, hd, _, rfl, hS.same s69, fun l2 nl2 => ?_⟩
    have s10 := s69.trans (same_upd (o := .lst (ds.map V.int)) nl2)
    refine ⟨_, rfl, .list (ds.map PyData.int), .list (ds.map PyData.int), .lst (SqL.of upd_same) (dp_ints _), .lst (SqL.of (s10 _ _ ep6)) (dp_ints _), PySem.W.shaped_ints _, PySem.W.shaped_ints _, _, rfl, ?_⟩
    rw [eqv_ints]
    refine iteF ?_
    have eo10 : (upd H9 l2 (.lst (ds.map V.int))) o = some (.lst ((marks ds).map V.int)) := same_upd nl2 _ _ (s9 _ _ eo)
    have noH : ∀ x u', H6 x = some u' → x ≠ o := fun x u' e => ne_of_none (s7 _ _ e) no
    refine ⟨_, rfl, .inl ⟨rfl, _, SqL.of eo10⟩, o, _, _, rfl, rfl, eo10, ?_, ?_⟩
    · rw [List.length_map, marks_len]
      exact small1000 (by omega)
    refine ⟨_, rfl, .inl ⟨rfl, _, SqL.of upd_same⟩, o, _, rfl, rfl, upd_same, ?_⟩
    refine ⟨_, _, rfl, fun x u' e => ?_⟩
    rw [upd_ne (noH x u' e), upd_ne (noH x u' e)]
    exact s10 _ _ e
  · rintro σ H7 ⟨y4, y5, rfl, s7⟩
    refine ⟨_, rfl, u, _, rfl, .inl (SqL.of (s7 _ _ eu6)), rfl, flat_ints _, ?_⟩
    refine ⟨_, rfl, p, rfl, ⟨_, SqL.of (s7 _ _ ep6)⟩, fun D nD => ?_⟩
    have sD := s7.trans (same_upd (o := .lst []) nD)
    refine lc_list (K := K) (a := p) (xs := ds.map V.int) (fun i H8 => Same H6 H8 ∧ H8 D = some (.lst ((ds.take i).map fun d => .bl (!decide (V.int d = V.int 0))))) ⟨sD, upd_same⟩ (fun i H8 _ ⟨s8, _⟩ => SqL.of (s8 _ _ ep6)) ?_ ?_
    · rintro i x H8 hx ⟨s8, eD⟩
      obtain ⟨z, ez, rfl⟩ := int_at hx
      refine ⟨rfl, yesT ?_⟩
      refine ⟨_, rfl, rfl, _, eD, ?_, fun x u' e => ?_, ?_⟩
      · rw [List.length_map, List.length_take]
        exact Nat.lt_of_le_of_lt (Nat.min_le_right _ _) (small1000 (by omega))
      · rw [upd_ne (ne_of_none (s7 _ _ e) nD)]
        exact s8 _ _ e
      · rw [upd_same, List.take_add_one, ez, List.map_append]
        rfl
    · rintro H8 ⟨s8, eD⟩
      rw [List.length_map, List.take_length] at eD
      refine ⟨D, ds.map fun d => !decide (V.int d = V.int 0), rfl, SqL.of (by rw [eD, List.map_map]; rfl), rfl, ?_⟩
      have fin : V.bl (if false = true then !inV (.int 1) ((marks ds).map V.int) else inV (.int 1) ((marks ds).map V.int)) = V.bl ((ds.map fun d => !decide (V.int d = V.int 0)).any id) := by
        rw [if_neg Bool.false_ne_true, marks_any]
      rw [decide_eq_true fin]
      exact q _ ((B6.same s8).mono (by omega)) (kA.trans (Keep.ofSame s8))
/-! ### law -/
theorem scLaw : FnScope ["_law_script", "_law_cells", "_law_k", "_law_box_here", "_law_turn"] ["_law_script"] (defScope sLaw) := ⟨rfl, rfl, rfl, by decide +kernel, rfl, by decide +kernel, by decide +kernel⟩
def spLaw (K : PySem.W.Frag) : Sp := fun vs H Q _ => ∃ (a : Addr) (ns : List Int), vs = [.ref a] ∧ SqL K H a (ns.map V.int) ∧ ns.length ≤ 63 ∧ ∀ H', Q (.bl true) H'
theorem ok_law {f g1 g2 g3 : Addr} {fd gd1 gd2 gd3 : FuncData} (F : Fun K "law" "law" sLaw f fd) (B : Bl mg)
    (F1 : Fun K "_law_folded" "_law_folded" sFolded g1 gd1) (b1 : Binds K gd1 ["_law_script", "_law_size"] []) (m1 : mg "_law_folded" = some (.ref g1))
    (F2 : Fun K "_law_box" "_law_box" sBox g2 gd2) (b2 : Binds K gd2 ["_law_script", "_law_k"] []) (m2 : mg "_law_box" = some (.ref g2))
    (F3 : Fun K "_law_right" "_law_right" sRight g3 gd3) (b3 : Binds K gd3 ["_law_box_here"] []) (m3 : mg "_law_right" = some (.ref g3)) (G3 : FnOk P w K mg base CX0 3 g3 gd3 ["_law_box_here"] spRight) :
    FnOk P w K mg base CX0 4 f fd ["_law_script"] (spLaw K) := by
  have G1 : FnOk P w K mg base CX0 3 g1 gd1 ["_law_script", "_law_size"] (spFolded K) := ok_folded F1 B
  have G2 : FnOk P w K mg base CX0 3 g2 gd2 ["_law_script", "_law_k"] (spBox K) := ok_box F2 B
  refine F.ok scLaw (fun vs H Q E h => ?_) (fun cdv A outer s H vs Q E hr h => ?_)
  · obtain ⟨a, ns, rfl, _⟩ := h
    rfl
  obtain ⟨a, ns, rfl, hS, h63, q⟩ := h
  refine ⟨_, pss_cons (ps_set (i := 1) scLaw.nd rfl (.inl rfl) (pe_call G1 hr (by rfl) m1 F1.kp b1 .nil pass0 (pa_cons (pv 0) (pa_cons pe_int pa_nil))))
    (pss_cons (ps_for PassesOwn.never rfl (pi_range1 (by rfl) B.range (pa_cons (pe_callB (call_max2 rfl) (by rfl) B.max boot_max (pa_cons pe_int (pa_cons (pe_callB call_len_seq (by rfl) B.len PySem.boot_len (pa_cons (pv 1) pa_nil)) pa_nil))) pa_nil)) (pg_name (i := 2) scLaw.nd rfl (.inl rfl))
      (pss_cons (ps_set (i := 3) scLaw.nd rfl (.inr rfl) (pe_call G2 hr (by rfl) m2 F2.kp b2 .nil pass0 (pa_cons (pv 1) (pa_cons (pv 2) pa_nil))))
      (pss_one (ps_if (pt_not (pt_val (pe_callB (cr_all rfl) (by rfl) B.all boot_all (pa_cons (pe_lc (own := [("_law_turn", 4)]) (by rfl) scLaw.nd (pi_range1 (by rfl) B.range (pa_cons pe_int pa_nil))
        (blkOk_by (own := [("_law_turn", 4)]) (N := ["_law_script", "_law_cells", "_law_k", "_law_box_here", "_law_turn"]) (sc := defScope sLaw) (by decide +kernel)) (fun _ _ _ _ _ => pg_name (i := 4) scLaw.nd rfl (Or.inl rfl)) (fun _ _ _ _ _ => pts_nil)
        (fun _ _ _ _ _ => pe_call G3 hr (by rfl) m3 F3.kp b3 .nil pass0 (pa_cons (pv 3) pa_nil))) pa_nil)))) (pss_one (ps_ret pe_bl)) pss_nil))))
    (pss_one (ps_ret pe_bl))), ?_⟩
  refine ⟨_, rfl, a, ns, 4, rfl, hS, h63, by decide, by decide, fun p H1 zs np s1 ep lz => ?_⟩
  refine ⟨_, rfl, p, _, rfl, .inl (SqL.of ep), _, _, rfl, ?_⟩
  have lz2 : zs.length ≤ 4 := by omega
  obtain ⟨n, en, hn⟩ : ∃ n : Nat, (if (((zs.map V.int).length : Nat) : Int) > 1 then (((zs.map V.int).length : Nat) : Int) else 1) = (n : Int) ∧ n ≤ 4 := by
    rw [List.length_map]
    split
    · exact ⟨zs.length, rfl, lz2⟩
    · exact ⟨1, rfl, by decide⟩
  rw [en]
  refine ⟨_, rfl, by omega, by omega, ?_⟩
  rw [Int.toNat_natCast]
  refine for_range (n := n) (fun i σ H2 => ∃ (y2 y3 : Option V), σ = [some (.ref a), some (.ref p), y2, y3, none] ∧ Same H1 H2) ⟨none, none, rfl, Same.refl _⟩ ?_ ?_
  · rintro i σ H2 hi ⟨y2, y3, rfl, s2⟩
    refine ⟨_, rfl, _, rfl, p, zs, _, rfl, SqL.of (s2 _ _ ep), by omega, by omega, fun b H3 nb s3 B3 => ?_⟩
    refine ⟨8, rfl, by decide, by decide, fun D nD => ?_⟩
    have nDb : D ≠ b := (B3.ne nD).symm
    refine lc_range (n := 8) (fun j H4 => Keep b H3 H4 ∧ BoxAt (700 * j) H4 b ∧ H4 D = some (.lst (List.replicate j (.bl true)))) ⟨Keep.new nD, (B3.same (same_upd nD)).mono (by omega), upd_same⟩ ?_ ?_
    · rintro j H4 hj ⟨k4, B4, eD⟩
      refine ⟨rfl, yesT ?_⟩
      refine ⟨_, rfl, b, _, rfl, B4, by omega, fun H5 B5 k5 => ?_⟩
      refine ⟨_, k5 _ _ eD nDb, ?_, fun x u e n => ?_, BoxAt.mono (B5.at (upd_ne nDb.symm)) (by omega), ?_⟩
      · rw [List.length_replicate]
        exact small1000 (by omega)
      · rw [upd_ne (ne_of_none e nD)]
        exact k5 _ _ (k4 _ _ e n) n
      · rw [upd_same, repl_snoc]
    · rintro H4 ⟨k4, B4, eD⟩
      refine ⟨D, List.replicate 8 true, rfl, .inl (.inl (by rw [List.map_replicate]; exact eD)), _, rfl, ?_⟩
      refine iteF ?_
      exact ⟨_, _, rfl, fun x u e => k4 _ _ (s3 _ _ (s2 _ _ e)) (ne_of_none (s2 _ _ e) nb)⟩
  · rintro σ H2 ⟨y2, y3, rfl, s2⟩
    exact q _
end
theorem all_mk {l : PySem.W.OpenLaw} {w : World} {K : PySem.W.Frag} {h : Heap} {mg : Str → Option Value} {fa f1 f2 f3 f4 f5 f6 f7 f8 f9 f10 : Addr} (X : K.In h) (G : h.Ns mainGlobals mg) (hfa : mg "law" = some (.ref fa))
    {od1 an1 od2 an2 od3 an3 od4 an4 od5 an5 od6 an6 od7 an7 od8 an8 od9 an9 od10 an10 : Option Addr} {sl1 sl2 sl3 sl4 sl5 sl6 sl7 sl8 sl9 sl10 : Array (Option Value)} {oc1 kV1 dc1 pm1 cd1 ct1 oc2 kV2 dc2 pm2 cd2 ct2 oc3 kV3 dc3 pm3 cd3 ct3 oc4 kV4 dc4 pm4 cd4 ct4 oc5 kV5 dc5 pm5 cd5 ct5 oc6 kV6 dc6 pm6 cd6 ct6 oc7 kV7 dc7 pm7 cd7 ct7 oc8 kV8 dc8 pm8 cd8 ct8 oc9 kV9 dc9 pm9 cd9 ct9 oc10 kV10 dc10 pm10 cd10 ct10 : Value}
    (a1 : PySem.W.nsIn K mainGlobals "marks_of" = some (some (.ref f1))) (l1 : K.lookup f1 = some ⟨oc1, od1, .func (PySem.W.fnOf "marks_of" "marks_of" (defArgs sMarksOf) (defBody sMarksOf) (defScope sMarksOf) .none kV1 dc1 pm1 an1 cd1 ct1), sl1⟩) (c1 : PySem.W.codeIn K cd1 "marks_of" = true) (k1 : PySem.W.keepIn K (.ref f1) = true)
    (a2 : PySem.W.nsIn K mainGlobals "is_mark" = some (some (.ref f2))) (l2 : K.lookup f2 = some ⟨oc2, od2, .func (PySem.W.fnOf "is_mark" "is_mark" (defArgs sIsMark) (defBody sIsMark) (defScope sIsMark) .none kV2 dc2 pm2 an2 cd2 ct2), sl2⟩) (c2 : PySem.W.codeIn K cd2 "is_mark" = true) (k2 : PySem.W.keepIn K (.ref f2) = true)
    (a3 : PySem.W.nsIn K mainGlobals "_law_box" = some (some (.ref f3))) (l3 : K.lookup f3 = some ⟨oc3, od3, .func (PySem.W.fnOf "_law_box" "_law_box" (defArgs sBox) (defBody sBox) (defScope sBox) .none kV3 dc3 pm3 an3 cd3 ct3), sl3⟩) (c3 : PySem.W.codeIn K cd3 "_law_box" = true) (k3 : PySem.W.keepIn K (.ref f3) = true)
    (a4 : PySem.W.nsIn K mainGlobals "_law_take" = some (some (.ref f4))) (l4 : K.lookup f4 = some ⟨oc4, od4, .func (PySem.W.fnOf "_law_take" "_law_take" (defArgs sTake) (defBody sTake) (defScope sTake) .none kV4 dc4 pm4 an4 cd4 ct4), sl4⟩) (c4 : PySem.W.codeIn K cd4 "_law_take" = true) (k4 : PySem.W.keepIn K (.ref f4) = true)
    (a5 : PySem.W.nsIn K mainGlobals "_law_folded" = some (some (.ref f5))) (l5 : K.lookup f5 = some ⟨oc5, od5, .func (PySem.W.fnOf "_law_folded" "_law_folded" (defArgs sFolded) (defBody sFolded) (defScope sFolded) .none kV5 dc5 pm5 an5 cd5 ct5), sl5⟩) (c5 : PySem.W.codeIn K cd5 "_law_folded" = true) (k5 : PySem.W.keepIn K (.ref f5) = true)
    (a6 : PySem.W.nsIn K mainGlobals "_law_same" = some (some (.ref f6))) (l6 : K.lookup f6 = some ⟨oc6, od6, .func (PySem.W.fnOf "_law_same" "_law_same" (defArgs sSame) (defBody sSame) (defScope sSame) .none kV6 dc6 pm6 an6 cd6 ct6), sl6⟩) (c6 : PySem.W.codeIn K cd6 "_law_same" = true) (k6 : PySem.W.keepIn K (.ref f6) = true)
    (a7 : PySem.W.nsIn K mainGlobals "_law_marks" = some (some (.ref f7))) (l7 : K.lookup f7 = some ⟨oc7, od7, .func (PySem.W.fnOf "_law_marks" "_law_marks" (defArgs sMarks) (defBody sMarks) (defScope sMarks) .none kV7 dc7 pm7 an7 cd7 ct7), sl7⟩) (c7 : PySem.W.codeIn K cd7 "_law_marks" = true) (k7 : PySem.W.keepIn K (.ref f7) = true)
    (a8 : PySem.W.nsIn K mainGlobals "_law_some_digits" = some (some (.ref f8))) (l8 : K.lookup f8 = some ⟨oc8, od8, .func (PySem.W.fnOf "_law_some_digits" "_law_some_digits" (defArgs sSome) (defBody sSome) (defScope sSome) .none kV8 dc8 pm8 an8 cd8 ct8), sl8⟩) (c8 : PySem.W.codeIn K cd8 "_law_some_digits" = true) (k8 : PySem.W.keepIn K (.ref f8) = true)
    (a9 : PySem.W.nsIn K mainGlobals "_law_right" = some (some (.ref f9))) (l9 : K.lookup f9 = some ⟨oc9, od9, .func (PySem.W.fnOf "_law_right" "_law_right" (defArgs sRight) (defBody sRight) (defScope sRight) .none kV9 dc9 pm9 an9 cd9 ct9), sl9⟩) (c9 : PySem.W.codeIn K cd9 "_law_right" = true) (k9 : PySem.W.keepIn K (.ref f9) = true)
    (a10 : PySem.W.nsIn K mainGlobals "law" = some (some (.ref f10))) (l10 : K.lookup f10 = some ⟨oc10, od10, .func (PySem.W.fnOf "law" "law" (defArgs sLaw) (defBody sLaw) (defScope sLaw) .none kV10 dc10 pm10 an10 cd10 ct10), sl10⟩) (c10 : PySem.W.codeIn K cd10 "law" = true) (k10 : PySem.W.keepIn K (.ref f10) = true)
    (z1 : PySem.W.nsIn K mainGlobals "len" = some none)
    (z2 : PySem.W.nsIn K mainGlobals "abs" = some none)
    (z3 : PySem.W.nsIn K mainGlobals "int" = some none)
    (z4 : PySem.W.nsIn K mainGlobals "divmod" = some none)
    (z5 : PySem.W.nsIn K mainGlobals "list" = some none)
    (z6 : PySem.W.nsIn K mainGlobals "enumerate" = some none)
    (z7 : PySem.W.nsIn K mainGlobals "isinstance" = some none)
    (z8 : PySem.W.nsIn K mainGlobals "tuple" = some none)
    (z9 : PySem.W.nsIn K mainGlobals "str" = some none)
    (z10 : PySem.W.nsIn K mainGlobals "bool" = some none)
    (z11 : PySem.W.nsIn K mainGlobals "zip" = some none)
    (z12 : PySem.W.nsIn K mainGlobals "all" = some none)
    (z13 : PySem.W.nsIn K mainGlobals "range" = some none)
    (z14 : PySem.W.nsIn K mainGlobals "max" = some none)
    (z15 : PySem.W.nsIn K mainGlobals "any" = some none)
    : ∃ fd : FuncData, (∀ (s : Shared) (v : Value), BindsTo s fd ⟨[v], []⟩ [("_law_script", v)]) ∧ ∀ base : Heap, K.In base → base.Ns mainGlobals mg → FnOk l.prog w K mg base CX0 4 fa fd ["_law_script"] (spLaw K) := by
  have e := hfa.symm.trans (PySem.W.mg_of X G a10)
  cases e
  have F1 := fun_mk (st := sMarksOf) l1 c1 k1
  have b1 := F1.binds (ps := ["digits"]) fun _ _ _ _ _ _ us hl => match us, hl with | [_], _ => rfl
  have m1 := PySem.W.mg_of X G a1
  have F2 := fun_mk (st := sIsMark) l2 c2 k2
  have b2 := F2.binds (ps := ["digits", "place"]) fun _ _ _ _ _ _ us hl => match us, hl with | [_, _], _ => rfl
  have m2 := PySem.W.mg_of X G a2
  have F3 := fun_mk (st := sBox) l3 c3 k3
  have b3 := F3.binds (ps := ["_law_script", "_law_k"]) fun _ _ _ _ _ _ us hl => match us, hl with | [_, _], _ => rfl
  have m3 := PySem.W.mg_of X G a3
  have F4 := fun_mk (st := sTake) l4 c4 k4
  have b4 := F4.binds (ps := ["_law_box_here", "_law_size"]) fun _ _ _ _ _ _ us hl => match us, hl with | [_, _], _ => rfl
  have m4 := PySem.W.mg_of X G a4
  have F5 := fun_mk (st := sFolded) l5 c5 k5
  have b5 := F5.binds (ps := ["_law_script", "_law_size"]) fun _ _ _ _ _ _ us hl => match us, hl with | [_, _], _ => rfl
  have m5 := PySem.W.mg_of X G a5
  have F6 := fun_mk (st := sSame) l6 c6 k6
  have b6 := F6.binds (ps := ["_law_found", "_law_due"]) fun _ _ _ _ _ _ us hl => match us, hl with | [_, _], _ => rfl
  have m6 := PySem.W.mg_of X G a6
  have F7 := fun_mk (st := sMarks) l7 c7 k7
  have b7 := F7.binds (ps := ["_law_digits"]) fun _ _ _ _ _ _ us hl => match us, hl with | [_], _ => rfl
  have m7 := PySem.W.mg_of X G a7
  have F8 := fun_mk (st := sSome) l8 c8 k8
  have b8 := F8.binds (ps := ["_law_box_here"]) fun _ _ _ _ _ _ us hl => match us, hl with | [_], _ => rfl
  have m8 := PySem.W.mg_of X G a8
  have F9 := fun_mk (st := sRight) l9 c9 k9
  have b9 := F9.binds (ps := ["_law_box_here"]) fun _ _ _ _ _ _ us hl => match us, hl with | [_], _ => rfl
  have m9 := PySem.W.mg_of X G a9
  have F10 := fun_mk (st := sLaw) l10 c10 k10
  have B : Bl mg := ⟨PySem.W.mg_none_of X G z1, PySem.W.mg_none_of X G z2, PySem.W.mg_none_of X G z3, PySem.W.mg_none_of X G z4, PySem.W.mg_none_of X G z5, PySem.W.mg_none_of X G z6, PySem.W.mg_none_of X G z7, PySem.W.mg_none_of X G z8, PySem.W.mg_none_of X G z9, PySem.W.mg_none_of X G z10, PySem.W.mg_none_of X G z11, PySem.W.mg_none_of X G z12, PySem.W.mg_none_of X G z13, PySem.W.mg_none_of X G z14, PySem.W.mg_none_of X G z15⟩
  refine ⟨PySem.W.fnOf "law" "law" (defArgs sLaw) (defBody sLaw) (defScope sLaw) .none kV10 dc10 pm10 an10 cd10 ct10, fun s v => .of_eq rfl, fun base _ _ => ?_⟩
  have R : FnOk l.prog w K mg base CX0 3 f9 _ ["_law_box_here"] spRight := ok_right F9 B F8 b8 m8 F4 b4 m4 F7 b7 m7 F1 b1 m1 F2 b2 m2 F6 b6 m6
  exact ok_law F10 B F5 b5 m5 F3 b3 m3 F9 b9 m9 R
end GZ
open PySem PySem.W PyProof.Rows
set_option maxRecDepth 100000 in
set_option maxHeartbeats 0 in
theorem PySem.Challenge.cw_guessedzeros_k22_marks_of_digits_holds : PySem.Challenge.rw_guessedzeros_k22_marks_of_digits.Holds := by
  w_on; o_law; k_head; (case hw => w_witness2)
  k_fill
  refine L2.walk_of (l := PySem.Challenge.rw_guessedzeros_k22_marks_of_digits) (n := 63) (k := 4) (x := "_law_script") (CX := fun _ => L2.CX0) (sp := fun w => GZ.spLaw _) rfl (by decide) rfl ⟨rfl, by decide, by decide⟩ (fun w h Y => PySem.W.kIn_of Y) ?F (fun _ _ a ns hl _ hS => ⟨a, ns, rfl, hS, hl, fun _ => rfl⟩) (fun _ _ _ _ _ h => h)
  case F =>
    intro w mg fa h KX G hmg
    refine' GZ.all_mk KX G hmg ?a1 ?l1 ?c1 ?k1 ?a2 ?l2 ?c2 ?k2 ?a3 ?l3 ?c3 ?k3 ?a4 ?l4 ?c4 ?k4 ?a5 ?l5 ?c5 ?k5 ?a6 ?l6 ?c6 ?k6 ?a7 ?l7 ?c7 ?k7 ?a8 ?l8 ?c8 ?k8 ?a9 ?l9 ?c9 ?k9 ?a10 ?l10 ?c10 ?k10 ?z1 ?z2 ?z3 ?z4 ?z5 ?z6 ?z7 ?z8 ?z9 ?z10 ?z11 ?z12 ?z13 ?z14 ?z15
    (case a1 => k_is)
    (case l1 => k_is)
    (case c1 => k_is)
    (case k1 => k_is)
    (case a2 => k_is)
    (case l2 => k_is)
    (case c2 => k_is)
    (case k2 => k_is)
    (case a3 => k_is)
    (case l3 => k_is)
    (case c3 => k_is)
    (case k3 => k_is)
    (case a4 => k_is)
    (case l4 => k_is)
    (case c4 => k_is)
    (case k4 => k_is)
    (case a5 => k_is)
    (case l5 => k_is)
    (case c5 => k_is)
    (case k5 => k_is)
    (case a6 => k_is)
    (case l6 => k_is)
    (case c6 => k_is)
    (case k6 => k_is)
    (case a7 => k_is)
    (case l7 => k_is)
    (case c7 => k_is)
    (case k7 => k_is)
    (case a8 => k_is)
    (case l8 => k_is)
    (case c8 => k_is)
    (case k8 => k_is)
    (case a9 => k_is)
    (case l9 => k_is)
    (case c9 => k_is)
    (case k9 => k_is)
    (case a10 => k_is)
    (case l10 => k_is)
    (case c10 => k_is)
    (case k10 => k_is)
    (case z1 => k_is)
    (case z2 => k_is)
    (case z3 => k_is)
    (case z4 => k_is)
    (case z5 => k_is)
    (case z6 => k_is)
    (case z7 => k_is)
    (case z8 => k_is)
    (case z9 => k_is)
    (case z10 => k_is)
    (case z11 => k_is)
    (case z12 => k_is)
    (case z13 => k_is)
    (case z14 => k_is)
    (case z15 => k_is)

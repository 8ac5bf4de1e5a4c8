import PyProof.Rows.All
import Wide.All
import OpenK.AllK
import Wide.FinOn
import HandS.ForMost
import HandS.Walk
import HandS.Zip
import HandS.WideBits
import HandS.IsInst
import OpenK.KEqL
import HandS.More
import HandS.Flow
import HandS.NoneIn
import HandS.Defaults
import HandS.Wide
import HandS.Style
import PySem.Challenge.RW_guessedzeros_k11_all_worths_of_small_for
set_option Elab.async false
set_option linter.all false
set_option maxRecDepth 100000
set_option maxHeartbeats 4000000
namespace GZ
open PySem PySem.Spec PyProof.Rows L2
/-! ### the text by places -/
def topS (i : Nat) : Stmt := PySem.Challenge.pw_guessedzeros_k11_all_worths_of_small_for.main.body.getD i (.Pass ⟨0, 0, 0, 0⟩)
abbrev s_cut_off : Stmt := topS 9
theorem sc_cut_off : FnScope ["number", "by", "kept"] ["number", "by"] (defScope s_cut_off) := ⟨rfl, rfl, rfl, by decide +kernel, rfl, by decide +kernel, by decide +kernel⟩
abbrev s_last_power : Stmt := topS 10
theorem sc_last_power : FnScope ["form", "number", "power"] ["form", "number", "power"] (defScope s_last_power) := ⟨rfl, rfl, rfl, by decide +kernel, rfl, by decide +kernel, by decide +kernel⟩
abbrev s_least_power : Stmt := topS 11
theorem sc_least_power : FnScope ["form"] ["form"] (defScope s_least_power) := ⟨rfl, rfl, rfl, by decide +kernel, rfl, by decide +kernel, by decide +kernel⟩
abbrev s_rounded : Stmt := topS 12
theorem sc_rounded : FnScope ["form", "sign", "number", "power", "way", "more", "last", "many", "rest", "size"] ["form", "sign", "number", "power", "way", "more"] (defScope s_rounded) := ⟨rfl, rfl, rfl, by decide +kernel, rfl, by decide +kernel, by decide +kernel⟩
abbrev s_parted : Stmt := topS 13
theorem sc_parted : FnScope ["number", "by", "more", "halves", "below"] ["number", "by", "more"] (defScope s_parted) := ⟨rfl, rfl, rfl, by decide +kernel, rfl, by decide +kernel, by decide +kernel⟩
abbrev s_goes_up : Stmt := topS 14
theorem sc_goes_up : FnScope ["way", "sign", "many", "rest"] ["way", "sign", "many", "rest"] (defScope s_goes_up) := ⟨rfl, rfl, rfl, by decide +kernel, rfl, by decide +kernel, by decide +kernel⟩
abbrev s_goes_away : Stmt := topS 15
theorem sc_goes_away : FnScope ["way", "sign"] ["way", "sign"] (defScope s_goes_away) := ⟨rfl, rfl, rfl, by decide +kernel, rfl, by decide +kernel, by decide +kernel⟩
abbrev s_word_beyond : Stmt := topS 16
theorem sc_word_beyond : FnScope ["form", "sign", "way"] ["form", "sign", "way"] (defScope s_word_beyond) := ⟨rfl, rfl, rfl, by decide +kernel, rfl, by decide +kernel, by decide +kernel⟩
abbrev s_flags_of_rest : Stmt := topS 17
theorem sc_flags_of_rest : FnScope ["form", "number", "power", "rest"] ["form", "number", "power", "rest"] (defScope s_flags_of_rest) := ⟨rfl, rfl, rfl, by decide +kernel, rfl, by decide +kernel, by decide +kernel⟩
abbrev s_is_number : Stmt := topS 19
theorem sc_is_number : FnScope ["thing"] ["thing"] (defScope s_is_number) := ⟨rfl, rfl, rfl, by decide +kernel, rfl, by decide +kernel, by decide +kernel⟩
abbrev s_is_number_in : Stmt := topS 20
theorem sc_is_number_in : FnScope ["least", "greatest", "thing"] ["least", "greatest", "thing"] (defScope s_is_number_in) := ⟨rfl, rfl, rfl, by decide +kernel, rfl, by decide +kernel, by decide +kernel⟩
abbrev s_Form___init__ : Stmt := inClass (topS 22) 0
theorem sc_Form___init__ : FnScope ["self", "scale", "tail"] ["self", "scale", "tail"] (defScope s_Form___init__) := ⟨rfl, rfl, rfl, by decide +kernel, rfl, by decide +kernel, by decide +kernel⟩
abbrev s_Form_bias : Stmt := inClass (topS 22) 2
theorem sc_Form_bias : FnScope ["self"] ["self"] (defScope s_Form_bias) := ⟨rfl, rfl, rfl, by decide +kernel, rfl, by decide +kernel, by decide +kernel⟩
abbrev s_Form_top : Stmt := inClass (topS 22) 3
theorem sc_Form_top : FnScope ["self"] ["self"] (defScope s_Form_top) := ⟨rfl, rfl, rfl, by decide +kernel, rfl, by decide +kernel, by decide +kernel⟩
abbrev s_Form_word_of : Stmt := inClass (topS 22) 5
theorem sc_Form_word_of : FnScope ["self", "sign", "scale", "tail"] ["self", "sign", "scale", "tail"] (defScope s_Form_word_of) := ⟨rfl, rfl, rfl, by decide +kernel, rfl, by decide +kernel, by decide +kernel⟩
abbrev s_Form_nought : Stmt := inClass (topS 22) 8
theorem sc_Form_nought : FnScope ["self", "sign"] ["self", "sign"] (defScope s_Form_nought) := ⟨rfl, rfl, rfl, by decide +kernel, rfl, by decide +kernel, by decide +kernel⟩
abbrev s_Form_endless : Stmt := inClass (topS 22) 9
theorem sc_Form_endless : FnScope ["self", "sign"] ["self", "sign"] (defScope s_Form_endless) := ⟨rfl, rfl, rfl, by decide +kernel, rfl, by decide +kernel, by decide +kernel⟩
abbrev s_Form_greatest : Stmt := inClass (topS 22) 10
theorem sc_Form_greatest : FnScope ["self", "sign"] ["self", "sign"] (defScope s_Form_greatest) := ⟨rfl, rfl, rfl, by decide +kernel, rfl, by decide +kernel, by decide +kernel⟩
abbrev sBox : Stmt := topS 24
abbrev sTake : Stmt := topS 25
abbrev sFolded : Stmt := topS 26
abbrev sSame : Stmt := topS 27
abbrev s__law_least : Stmt := topS 28
theorem sc__law_least : FnScope ["_law_scale", "_law_tail"] ["_law_scale", "_law_tail"] (defScope s__law_least) := ⟨rfl, rfl, rfl, by decide +kernel, rfl, by decide +kernel, by decide +kernel⟩
abbrev s__law_table : Stmt := topS 29
theorem sc__law_table : FnScope ["_law_scale", "_law_tail", "_law_found", "_law_size", "_law_high", "_law_low"] ["_law_scale", "_law_tail"] (defScope s__law_table) := ⟨rfl, rfl, rfl, by decide +kernel, rfl, by decide +kernel, by decide +kernel⟩
abbrev s__law_due : Stmt := topS 30
theorem sc__law_due : FnScope ["_law_table_here", "_law_tail", "_law_worth", "_law_by", "_law_away", "_law_how", "_law_sizes", "_law_low", "_law_top", "_law_below", "_law_above", "_law_nearer", "_law_size", "_law_one"] ["_law_table_here", "_law_tail", "_law_worth", "_law_by", "_law_away", "_law_how"] (defScope s__law_due) := ⟨rfl, rfl, rfl, by decide +kernel, rfl, by decide +kernel, by decide +kernel⟩
abbrev s_law : Stmt := topS 31
theorem sc_law : FnScope ["_law_script", "_law_cells", "_law_k", "_law_box_here", "_law_scale", "_law_tail", "_law_sign", "_law_form", "_law_table_here", "_law_least_here", "_law_number", "_law_power", "_law_how", "_law_away", "_law_size", "_law_flags", "_law_due_here"] ["_law_script"] (defScope s_law) := ⟨rfl, rfl, rfl, by decide +kernel, rfl, by decide +kernel, by decide +kernel⟩
/-! ### built-in names that the text leaves alone -/
structure Bl (mg : Str → Option Value) : Prop where
  len : mg "len" = none
  abs : mg "abs" = none
  int : mg "int" = none
  divmod : mg "divmod" = none
  list : mg "list" = none
  enumerate : mg "enumerate" = none
  isinstance : mg "isinstance" = none
  tuple : mg "tuple" = none
  str : mg "str" = none
  bool : mg "bool" = none
  zip : mg "zip" = none
  all : mg "all" = none
  range : mg "range" = none
  max : mg "max" = none
  any : mg "any" = none
  min : mg "min" = none
  sum : mg "sum" = none
/-! ### rules with the written part told (for the blocks of comprehensions) -/
section
variable {X : Cx} {K : PySem.W.Frag}
theorem call_len_seqK (h : X.K = K := by rfl) : CallR X (.builtin "len") (fun xs H Q => ∃ p ys, xs = [.ref p] ∧ (SqL K H p ys ∨ SqT K H p ys) ∧ Q (.int ys.length) H) := by subst h; exact call_len_seq
theorem call_list_ofK (h : X.K = K := by rfl) : CallR X (.type "list") (fun xs H Q => ∃ p ys, xs = [.ref p] ∧ (SqL K H p ys ∨ SqT K H p ys) ∧ ∀ l, H l = none → Q (.ref l) (upd H l (.lst ys))) := by subst h; exact call_list_of
theorem call_tuple_ofK (h : X.K = K := by rfl) : CallR X (.type "tuple") (fun xs H Q => ∃ p ys, xs = [.ref p] ∧ ((SqL K H p ys ∧ ∀ l, H l = none → Q (.ref l) (upd H l (.tup ys))) ∨ (SqT K H p ys ∧ Q (.ref p) H))) := by subst h; exact call_tuple_of
theorem ix_listK (h : X.K = K := by rfl) : IxR X (rIxL K) := by subst h; exact ix_list
theorem ix_tupK (h : X.K = K := by rfl) : IxR X (rIxT K) := by subst h; exact ix_tup
theorem ix_seqK (h : X.K = K := by rfl) : IxR X (rIx K) := by subst h; exact ix_seq
theorem op_in_seqK (h : X.K = K := by rfl) : OpR X (compareOp .In) (rIn K false) := by subst h; exact op_in_seq
theorem op_notIn_seqK (h : X.K = K := by rfl) : OpR X (compareOp .NotIn) (rIn K true) := by subst h; exact op_notIn_seq
theorem sl_listK (h : X.K = K := by rfl) : SlR X (rSlL K) := by subst h; exact sl_list
theorem cr_sumK (hc : X.calm = true) (h : X.K = K := by rfl) : CallR X (.builtin "sum") (rSum K) := by subst h; exact cr_sum hc
theorem cr_allK (hc : X.calm = true) (h : X.K = K := by rfl) : CallR X (.builtin "all") (rAll K) := by subst h; exact cr_all hc
theorem cr_anyK (hc : X.calm = true) (h : X.K = K := by rfl) : CallR X (.builtin "any") (rAny K) := by subst h; exact cr_any hc
theorem call_isiK' (h : X.K = K := by rfl) : CallR X (.builtin "isinstance") (rIsi K) := by subst h; exact call_isi
theorem pi_listK {tg l : Expr} {tl : TE} (hl : PE X l tl) (h : X.K = K := by rfl) : PI X tg l (iList K tl) := by subst h; exact pi_list hl
theorem pi_tupK {tg l : Expr} {tl : TE} (hl : PE X l tl) (h : X.K = K := by rfl) : PI X tg l (iTup K tl) := by subst h; exact pi_tup hl
theorem pe_fldK {e : Expr} {ta : TE} {f : Str} {pos : Pos} (he : PE X e ta) (hb : attributeBase e f X.env (eval e X.env) = eval e X.env) (h : X.K = K := by rfl) : PE X (.Attribute e f pos) (tFld K ta f) := by subst h; exact pe_fld he hb
end
/-! ### heaps -/
theorem same_upd {H : Hp} {p : Addr} {o : HO} (h : H p = none) : Same H (upd H p o) := fun b x e => by
  rw [upd_ne (ne_of_none e h)]
  exact e
/-- all but what stands at b is as it was -/
def Keep (b : Addr) (H H' : Hp) : Prop := ∀ p o, H p = some o → p ≠ b → H' p = some o
theorem Keep.refl (b : Addr) (H : Hp) : Keep b H H := fun _ _ h _ => h
theorem Keep.trans {b : Addr} {H H1 H2 : Hp} (x : Keep b H H1) (y : Keep b H1 H2) : Keep b H H2 := fun p o h n => y p o (x p o h n) n
theorem Keep.ofSame {b : Addr} {H H1 : Hp} (x : Same H H1) : Keep b H H1 := fun p o h _ => x p o h
theorem Keep.upd {b : Addr} {H : Hp} {o : HO} : Keep b H (upd H b o) := fun p x h n => by
  rw [upd_ne n]
  exact h
theorem Keep.new {b p : Addr} {H : Hp} {o : HO} (h : H p = none) : Keep b H (L2.upd H p o) := .ofSame (same_upd h)
theorem Keep.seq {K : PySem.W.Frag} {b a : Addr} {H H' : Hp} {xs : List V} (e : Keep b H H') (n : a ≠ b) (h : SqL K H a xs) : SqL K H' a xs := by
  rcases h with (h | ⟨o, h⟩) | h
  · exact .inl (.inl (e _ _ h n))
  · exact .inl (.inr ⟨o, e _ _ h n⟩)
  · exact .inr h
theorem Keep.seqT {K : PySem.W.Frag} {b a : Addr} {H H' : Hp} {xs : List V} (e : Keep b H H') (n : a ≠ b) (h : SqT K H a xs) : SqT K H' a xs := by
  rcases h with (h | ⟨o, h⟩) | h
  · exact .inl (.inl (e _ _ h n))
  · exact .inl (.inr ⟨o, e _ _ h n⟩)
  · exact .inr h
theorem Same.seqT {K : PySem.W.Frag} {a : Addr} {H H' : Hp} {xs : List V} (e : Same H H') (h : SqT K H a xs) : SqT K H' a xs := by
  rcases h with (h | ⟨o, h⟩) | h
  · exact .inl (.inl (e _ _ h))
  · exact .inl (.inr ⟨o, e _ _ h⟩)
  · exact .inr h
/-- a drawing box: three ints, the last at most c -/
def BoxAt (c : Int) (H : Hp) (b : Addr) : Prop := ∃ x0 x1 x2 : Int, H b = some (.lst [.int x0, .int x1, .int x2]) ∧ 0 ≤ x0 ∧ 0 ≤ x1 ∧ x1 < 2147483647 ∧ 0 ≤ x2 ∧ x2 ≤ c
theorem BoxAt.mono {c d : Int} {H : Hp} {b : Addr} (h : BoxAt c H b) (l : c ≤ d) : BoxAt d H b := by
  obtain ⟨x0, x1, x2, e, a1, a2, a3, a4, a5⟩ := h
  exact ⟨x0, x1, x2, e, a1, a2, a3, a4, by omega⟩
theorem BoxAt.same {c : Int} {H H' : Hp} {b : Addr} (h : BoxAt c H b) (s : Same H H') : BoxAt c H' b := by
  obtain ⟨x0, x1, x2, e, r⟩ := h
  exact ⟨x0, x1, x2, s _ _ e, r⟩
theorem BoxAt.at {c : Int} {H H' : Hp} {b : Addr} (h : BoxAt c H b) (s : H' b = H b) : BoxAt c H' b := by
  obtain ⟨x0, x1, x2, e, r⟩ := h
  exact ⟨x0, x1, x2, by rw [s]; exact e, r⟩
theorem BoxAt.ne {c : Int} {H : Hp} {b p : Addr} (h : BoxAt c H b) (n : H p = none) : b ≠ p := by
  obtain ⟨x0, x1, x2, e, r⟩ := h
  exact ne_of_none e n
theorem e7 : (10 : Int) ^ ((7 : Int).toNat) = 10000000 := by decide
theorem e18 : (10 : Int) ^ ((18 : Int).toNat) = 1000000000000000000 := by decide
theorem divp_small {i j : Int} (h0 : 0 < j) (h1 : j < 2 ^ 250) : CDivP i j := by
  refine ⟨h0, ?_⟩
  show (decide ((if j == 0 then 0 else j.natAbs.log2 / 30 + 1) > 300) && _) = false
  rw [if_neg (show ¬ (j == 0) = true by simpa using (show j ≠ 0 by omega))]
  have hl : j.natAbs.log2 < 250 := PySem.Flt.log2_lt_of (by decide) (by omega)
  rw [decide_eq_false (show ¬ (j.natAbs.log2 / 30 + 1 > 300) by omega), Bool.false_and]
section
variable {P : Program} {w : World} {K : PySem.W.Frag} {mg : Str → Option Value} {base : Heap}
/-! ### _law_take -/
theorem scTake : FnScope ["_law_box_here", "_law_size", "_law_found", "_law_step", "_law_once", "_law_twice"] ["_law_box_here", "_law_size"] (defScope sTake) := ⟨rfl, rfl, rfl, by decide +kernel, rfl, by decide +kernel, by decide +kernel⟩
def spTake (k : Nat) : Sp := fun vs H Q _ => ∃ (b : Addr) (n c : Int), vs = [.ref b, .int n] ∧ BoxAt c H b ∧ 1 ≤ n ∧ n ≤ 10000000 ^ k ∧ n < 2 ^ 250 ∧ c + 2 ^ k ≤ 1000000000 ∧ 0 < k ∧
  ∀ (r : Int) (H' : Hp), 0 ≤ r → r < n → BoxAt (c + 2 ^ (k - 1)) H' b → Keep b H H' → Q (.int r) H'
theorem take_none {f : Addr} {fd : FuncData} : FnOk P w K mg base CX0 0 f fd ["_law_box_here", "_law_size"] (spTake 0) := by
  have no : ∀ vs H Q E, ¬ spTake 0 vs H Q E := fun vs H Q E h => by
    obtain ⟨b, n, c, _, _, _, _, _, _, h0, _⟩ := h
    omega
  exact ⟨fun vs H Q E h => absurd h (no vs H Q E), fun A outer s H args us vs Q E _ _ _ _ h => absurd h (no vs H Q E)⟩
theorem ok_take1 {f : Addr} {fd : FuncData} {k : Nat} (F : Fun K "_law_take" "_law_take" sTake f fd) (G : FnOk P w K mg base CX0 k f fd ["_law_box_here", "_law_size"] (spTake k)) (bf : Binds K fd ["_law_box_here", "_law_size"] []) (mf : mg "_law_take" = some (.ref f)) (B : Bl mg) :
    FnOk P w K mg base CX0 (k + 1) f fd ["_law_box_here", "_law_size"] (spTake (k + 1)) := by
  refine F.ok scTake (fun vs H Q E h => ?_) (fun cdv A outer s H vs Q E hr h => ?_)
  · obtain ⟨b, n, c, rfl, _⟩ := h
    rfl
  obtain ⟨b, n, c, rfl, hB, hn1, hnk, hn60, hc, _, q⟩ := h
  obtain ⟨x0, x1, x2, hb, h0, h1, h1', h2, h2'⟩ := hB
  have hp : (0 : Int) < 2 ^ k := Int.pow_pos (by decide)
  have hk2 : (2 : Int) ^ (k + 1) = 2 ^ k * 2 := Int.pow_succ 2 k
  refine ⟨_, pss_cons (ps_if (pt_cmpR op_gt (pe_ix ix_list (pv 0) pe_int (fun _ _ => rfl)) pe_int (nomark _))
      (pss_cons (ps_asg (pe_callB call_divmodW (by rfl) B.divmod boot_divmod (pa_cons (pe_ix ix_list (pv 0) pe_int (fun _ _ => rfl)) (pa_cons (pv 1) pa_nil)))
          (pg_tup (by rfl) (pgs_cons (pg_sub (pv 0) pe_int set_list) (pgs_cons (pg_name (i := 2) scTake.nd rfl (.inl rfl)) pgs_nil))))
        (pss_one (ps_ret (pv 2)))) pss_nil)
    (pss_cons (ps_if (pt_cmpR op_gt (pv 1) (pe_op op_pow pe_int pe_int) (nomark _))
      (pss_one (ps_ret (pe_op op_mod (pe_op op_add (pe_call G hr (by rfl) mf F.kp bf .nil pass0 (pa_cons (pv 0) (pa_cons (pe_op op_pow pe_int pe_int) pa_nil)))
          (pe_op op_mul (pe_op op_pow pe_int pe_int) (pe_call G hr (by rfl) mf F.kp bf .nil pass0 (pa_cons (pv 0) (pa_cons (pe_op op_add (pe_op op_fdiv (pe_op op_sub (pv 1) pe_int) (pe_op op_pow pe_int pe_int)) pe_int) pa_nil))))) (pv 1)))) pss_nil)
    (pss_cons (ps_asg (pe_op op_add (pe_ix ix_list (pv 0) pe_int (fun _ _ => rfl)) pe_int) (pg_sub (pv 0) pe_int set_list))
    (pss_cons (ps_set (i := 3) scTake.nd rfl (.inl rfl) (pe_op op_add pe_int (pe_op op_mul (pe_ix ix_list (pv 0) pe_int (fun _ _ => rfl)) (pe_ix ix_list (pv 0) pe_int (fun _ _ => rfl)))))
    (pss_cons (ps_set (i := 4) scTake.nd rfl (.inl rfl) (pe_op op_mod (pe_op op_mul (pe_op op_add (pe_ix ix_list (pv 0) pe_int (fun _ _ => rfl)) (pe_op op_mul pe_int (pe_ix ix_list (pv 0) pe_int (fun _ _ => rfl)))) (pv 3)) pe_int))
    (pss_cons (ps_set (i := 5) scTake.nd rfl (.inl rfl) (pe_op op_mod (pe_op op_add (pe_op op_mul (pv 4) (pe_op op_add (pe_op op_mod (pv 4) pe_int) pe_int)) (pe_ix ix_list (pv 0) pe_int (fun _ _ => rfl))) pe_int))
    (pss_one (ps_ret (pe_op op_mod (pe_op op_fdiv (pe_op op_mod (pe_op op_mul (pv 5) (pe_op op_add (pe_op op_mod (pv 5) pe_int) pe_int)) pe_int) pe_int) (pv 1))))))))), ?_⟩
  refine ⟨_, rfl, b, _, _, _, rfl, rfl, SqL.of hb, rfl, _, _, rfl, rfl, _, rfl, ite2 (fun cc => ?_) (fun cc => ?_)⟩
  · -- the great number's own digits
    refine ⟨_, rfl, b, _, _, _, rfl, rfl, SqL.of hb, rfl, _, rfl, _, _, rfl, divp_small (by omega) (by omega), fun p np => ?_⟩
    have nbp : b ≠ p := ne_of_none hb np
    refine ⟨p, _, rfl, .inl (.inl upd_same), rfl, _, _, rfl, _, rfl, b, _, _, 0, rfl, rfl, (by rw [upd_ne nbp]; exact hb), rfl, _, _, rfl, rfl, _, rfl, ?_⟩
    refine q _ _ (Int.emod_nonneg _ (by omega)) (Int.emod_lt_of_pos _ (by omega)) ⟨x0 / n, x1, x2, upd_same, Int.ediv_nonneg h0 (by omega), h1, h1', h2, by show x2 ≤ c + 2 ^ k; omega⟩ ?_
    exact Keep.trans (Keep.new np) Keep.upd
  · refine ⟨_, rfl, _, _, rfl, rfl, ⟨by decide, by decide, by decide⟩, _, _, rfl, rfl, _, rfl, ite2 (fun c2 => ?_) (fun c2 => ?_)⟩
    · -- two lesser draws
      have c3 : (10 : Int) ^ ((7 : Int).toNat) < n := of_decide_eq_true c2
      rw [e7] at c3
      have hk : 0 < k := by
        rcases Nat.eq_zero_or_pos k with z | z
        · subst z
          rw [show (10000000 : Int) ^ (0 + 1) = 10000000 by decide] at hnk
          omega
        · exact z
      obtain ⟨j, rfl⟩ : ∃ j, k = j + 1 := ⟨k - 1, by omega⟩
      have hj2 : (2 : Int) ^ (j + 1) = 2 ^ j * 2 := Int.pow_succ 2 j
      have hjp : (0 : Int) < 2 ^ j := Int.pow_pos (by decide)
      have h10 : (10000000 : Int) ≤ 10000000 ^ (j + 1) := by
        rw [Int.pow_succ]
        have : (0 : Int) < 10000000 ^ j := Int.pow_pos (by decide)
        omega
      have hdiv : (n - 1) / 10000000 + 1 ≤ 10000000 ^ (j + 1) := by
        rw [Int.pow_succ] at hnk
        have : n - 1 < 10000000 ^ (j + 1) * 10000000 := by omega
        have := Int.ediv_lt_of_lt_mul (by decide) this
        omega
      refine ⟨_, rfl, _, _, rfl, rfl, ⟨by decide, by decide, by decide⟩, b, _, c, rfl, ⟨x0, x1, x2, hb, h0, h1, h1', h2, h2'⟩, (by rw [e7]; decide), (by rw [e7]; exact h10), (by rw [e7]; decide), by omega, by omega, fun r1 H1 a1 a2 B1 k1 => ?_⟩
      refine ⟨_, _, rfl, rfl, ⟨by decide, by decide, by decide⟩, _, rfl, _, rfl, _, _, rfl, rfl, _, _, rfl, rfl, ⟨by decide, by decide, by decide⟩, _, _, rfl, rfl, (by rw [e7]; exact ⟨by decide, by decide⟩), _, _, rfl, rfl, ?_⟩
      rw [e7]
      refine ⟨b, _, c + 2 ^ j, rfl, B1, by omega, hdiv, by omega, by omega, by omega, fun r2 H2 a3 a4 B2 k2 => ?_⟩
      refine ⟨_, _, rfl, rfl, .inl ⟨by decide, by decide⟩, _, _, rfl, rfl, _, rfl, _, _, rfl, rfl, (by show (0 : Int) < n; omega), ?_⟩
      refine q _ _ (Int.emod_nonneg _ (by omega)) (Int.emod_lt_of_pos _ (by omega)) (B2.mono ?_) (k1.trans k2)
      show c + 2 ^ j + 2 ^ j ≤ c + 2 ^ (j + 1)
      omega
    · -- a turn of the wheel
      refine ⟨_, rfl, b, _, _, _, rfl, rfl, SqL.of hb, rfl, _, _, rfl, rfl, _, rfl, b, _, _, 2, rfl, rfl, hb, rfl, ?_⟩
      have hb2 : (upd H b (.lst [.int x0, .int x1, .int (x2 + 1)])) b = some (.lst [.int x0, .int x1, .int (x2 + 1)]) := upd_same
      refine ⟨_, rfl, b, _, _, _, rfl, rfl, SqL.of hb2, rfl, _, rfl, b, _, _, _, rfl, rfl, SqL.of hb2, rfl, _, _, rfl, rfl, .inl ⟨by omega, by omega⟩, _, _, rfl, rfl, ?_⟩
      refine ⟨_, rfl, b, _, _, _, rfl, rfl, SqL.of hb2, rfl, _, rfl, b, _, _, _, rfl, rfl, SqL.of hb2, rfl, _, _, rfl, rfl, .inl ⟨by omega, by omega⟩, _, _, rfl, rfl, _, rfl, _, _, rfl, rfl, .inl ⟨by omega, by omega⟩, _, _, rfl, rfl, (by show (0 : Int) < 2147483587; decide), ?_⟩
      generalize (x1 + 39373 * (x2 + 1)) * (69621 + (x2 + 1) * (x2 + 1)) = y
      have y1 := Int.emod_nonneg y (show (2147483587 : Int) ≠ 0 by decide)
      have y2 := Int.emod_lt_of_pos y (show (0 : Int) < 2147483587 by decide)
      refine ⟨_, rfl, _, rfl, _, _, rfl, rfl, (by show (0 : Int) < 30011; decide), _, _, rfl, rfl, _, _, rfl, rfl, .inl ⟨by omega, by omega⟩, _, rfl, b, _, _, _, rfl, rfl, SqL.of hb2, rfl, _, _, rfl, rfl, _, _, rfl, rfl, (by show (0 : Int) < 2147483563; decide), ?_⟩
      generalize (y % 2147483587 * (y % 2147483587 % 30011 + 5) + (x2 + 1)) = z
      have z1 := Int.emod_nonneg z (show (2147483563 : Int) ≠ 0 by decide)
      have z2 := Int.emod_lt_of_pos z (show (0 : Int) < 2147483563 by decide)
      refine ⟨_, rfl, _, rfl, _, _, rfl, rfl, (by show (0 : Int) < 1013; decide), _, _, rfl, rfl, _, _, rfl, rfl, .inl ⟨by omega, by omega⟩, _, _, rfl, rfl, (by show (0 : Int) < 998244353; decide), _, _, rfl, rfl, ⟨by decide, by decide⟩, _, rfl, _, _, rfl, rfl, (by show (0 : Int) < n; omega), ?_⟩
      refine q _ _ (Int.emod_nonneg _ (by omega)) (Int.emod_lt_of_pos _ (by omega)) ⟨x0, x1, x2 + 1, hb2, h0, h1, h1', by omega, by show x2 + 1 ≤ c + 2 ^ k; omega⟩ Keep.upd
theorem ok_take {f : Addr} {fd : FuncData} (F : Fun K "_law_take" "_law_take" sTake f fd) (bf : Binds K fd ["_law_box_here", "_law_size"] []) (mf : mg "_law_take" = some (.ref f)) (B : Bl mg) : ∀ k : Nat, FnOk P w K mg base CX0 k f fd ["_law_box_here", "_law_size"] (spTake k)
  | 0 => take_none
  | k + 1 => ok_take1 F (ok_take F bf mf B k) bf mf B
/-! ### _law_box -/
theorem scBox : FnScope ["_law_script", "_law_k", "_law_cell"] ["_law_script", "_law_k"] (defScope sBox) := ⟨rfl, rfl, rfl, by decide +kernel, rfl, by decide +kernel, by decide +kernel⟩
def spBox (K : PySem.W.Frag) : Sp := fun vs H Q _ => ∃ (a : Addr) (zs : List Int) (k : Int), vs = [.ref a, .int k] ∧ SqL K H a (zs.map V.int) ∧ 0 ≤ k ∧ k ≤ 1000 ∧
  ∀ (p : Addr) (H' : Hp), H p = none → Same H H' → BoxAt 0 H' p → Q (.ref p) H'
theorem b01 (b : Bool) : (-(2 ^ 64) < (if b = true then (1 : Int) else 0)) ∧ (if b = true then (1 : Int) else 0) < 2 ^ 64 := by cases b <;> decide
theorem b01n (b : Bool) : 0 ≤ (if b = true then (1 : Int) else 0) := by cases b <;> decide
theorem abs_nn (i : Int) : 0 ≤ (if i < 0 then -i else i) := by
  split <;> omega
theorem at_int {zs : List Int} {k : Int} (h0 : 0 ≤ k) (h : k < (zs.length : Int)) : ∃ v : Int, atI (zs.map V.int) k = some (.int v) ∧ zs[k.toNat]? = some v := by
  have hk : k.toNat < zs.length := by omega
  have ek : k = ((k.toNat : Nat) : Int) := by omega
  have q : atI (zs.map V.int) ((k.toNat : Nat) : Int) = some (.int zs[k.toNat]) := atI_nat (by rw [List.getElem?_map, List.getElem?_eq_getElem hk] <;> rfl)
  rw [← ek] at q
  exact ⟨zs[k.toNat], q, List.getElem?_eq_getElem hk⟩
theorem ok_box {f : Addr} {fd : FuncData} {k : Nat} (F : Fun K "_law_box" "_law_box" sBox f fd) (B : Bl mg) : FnOk P w K mg base CX0 (k + 1) f fd ["_law_script", "_law_k"] (spBox K) := by
  refine F.ok scBox (fun vs H Q E h => ?_) (fun cdv A outer s H vs Q E hr h => ?_)
  · obtain ⟨a, zs, k, rfl, _⟩ := h
    rfl
  obtain ⟨a, zs, k, rfl, hS, h0, h1, q⟩ := h
  refine ⟨_, pss_cons (ps_set (i := 2) scBox.nd rfl (.inl rfl) (pe_ifExp (pt_cmpR op_lt (pv 1) (pe_callB call_len_seq (by rfl) B.len PySem.boot_len (pa_cons (pv 0) pa_nil)) (nomark _)) (pe_ix ix_list (pv 0) (pv 1) (fun _ _ => rfl)) pe_int))
    (pss_one (ps_ret (pe_lst (pa_cons (pe_op op_mul (pe_callB call_abs (by rfl) B.abs boot_abs (pa_cons (pv 2) pa_nil)) (pe_callTy call_int1 (by rfl) B.int PyProof.Rows.boot_int (pa_cons (pe_cmpR op_ge (pe_callB call_abs (by rfl) B.abs boot_abs (pa_cons (pv 2) pa_nil)) (pe_op op_pow pe_int pe_int) (nomark _)) pa_nil)))
      (pa_cons (pe_op op_mod (pe_op op_mul (pe_op op_add (pe_op op_add (pe_op op_mod (pv 2) pe_int) (pe_op op_mul pe_int (pv 1))) pe_int) pe_int) pe_int) (pa_cons pe_int pa_nil)))))), ?_⟩
  refine ⟨_, rfl, _, rfl, a, _, rfl, .inl hS, _, _, rfl, rfl, _, rfl, ite2 (fun cc => ?_) (fun cc => ?_)⟩
  · have c1 : k < (((zs.map V.int).length : Nat) : Int) := of_decide_eq_true cc
    rw [List.length_map] at c1
    obtain ⟨v, hv, _⟩ := at_int h0 c1
    refine ⟨_, rfl, _, rfl, a, _, _, _, rfl, rfl, hS, hv, ?_⟩
    refine ⟨_, rfl, _, rfl, _, rfl, _, rfl, _, _, rfl, rfl, ⟨by decide, by decide, by decide⟩, _, _, rfl, rfl, .inr ⟨_, rfl, ?_⟩⟩
    refine ⟨_, _, rfl, rfl, .inr (b01 _), _, rfl, _, _, rfl, rfl, (by show (0 : Int) < 2147483629; decide), _, rfl, _, _, rfl, rfl, .inl ⟨by decide, by decide⟩, _, _, rfl, rfl, _, _, rfl, rfl, _, _, rfl, rfl, .inr ⟨by decide, by decide⟩, _, _, rfl, rfl, (by show (0 : Int) < 2147483647; decide), (by show 3 ≤ sizeLine; decide), fun p np => ?_⟩
    refine q p _ np (same_upd np) ⟨_, _, _, upd_same, Int.mul_nonneg (abs_nn v) (b01n _), Int.emod_nonneg _ (by decide), Int.emod_lt_of_pos _ (by decide), by decide, by decide⟩
  · refine ⟨_, rfl, _, rfl, _, rfl, _, rfl, _, _, rfl, rfl, ⟨by decide, by decide, by decide⟩, _, _, rfl, rfl, .inr ⟨_, rfl, ?_⟩⟩
    refine ⟨_, _, rfl, rfl, .inr (b01 _), _, rfl, _, _, rfl, rfl, (by show (0 : Int) < 2147483629; decide), _, rfl, _, _, rfl, rfl, .inl ⟨by decide, by decide⟩, _, _, rfl, rfl, _, _, rfl, rfl, _, _, rfl, rfl, .inr ⟨by decide, by decide⟩, _, _, rfl, rfl, (by show (0 : Int) < 2147483647; decide), (by show 3 ≤ sizeLine; decide), fun p np => ?_⟩
    refine q p _ np (same_upd np) ⟨_, _, _, upd_same, Int.mul_nonneg (abs_nn 0) (b01n _), Int.emod_nonneg _ (by decide), Int.emod_lt_of_pos _ (by decide), by decide, by decide⟩
/-! ### _law_folded -/
theorem scFolded : FnScope ["_law_script", "_law_size", "_law_cells", "_law_k", "_law_cell"] ["_law_script", "_law_size"] (defScope sFolded) := ⟨rfl, rfl, rfl, by decide +kernel, rfl, by decide +kernel, by decide +kernel⟩
def spFolded (K : PySem.W.Frag) : Sp := fun vs H Q _ => ∃ (a : Addr) (ns : List Int) (m : Nat), vs = [.ref a, .int (m : Int)] ∧ SqL K H a (ns.map V.int) ∧ ns.length ≤ 63 ∧ 1 ≤ m ∧ m ≤ 63 ∧
  ∀ (p : Addr) (H' : Hp) (zs : List Int), H p = none → Same H H' → H' p = some (.lst (zs.map V.int)) → zs.length = min ns.length m → Q (.ref p) H'
theorem cut_lo (ns : List Int) (m : Nat) : cutV (ns.map V.int) none (some (m : Int)) = (ns.take m).map V.int := by
  unfold cutV
  rw [HT.sIx_none, HT.sIx_nat, List.drop_zero, Nat.sub_zero, List.length_map, ← List.map_take]
  congr 1
  rw [List.take_eq_take_iff]
  omega
theorem cut_mid (ns : List Int) (m j : Nat) : ∃ ws : List Int, cutV (ns.map V.int) (some (m : Int)) (some (j : Int)) = ws.map V.int ∧ ws.length ≤ ns.length - m := by
  unfold cutV
  rw [HT.sIx_nat, HT.sIx_nat, List.length_map, ← List.map_drop, ← List.map_take]
  refine ⟨_, rfl, ?_⟩
  rw [List.length_take, List.length_drop]
  omega
theorem int_at {ws : List Int} {i : Nat} {x : V} (h : (ws.map V.int)[i]? = some x) : ∃ z, ws[i]? = some z ∧ x = .int z := by
  rw [List.getElem?_map] at h
  cases e : ws[i]? with
  | none =>
    rw [e] at h
    cases h
  | some z =>
    rw [e] at h
    exact ⟨z, rfl, (Option.some.inj h).symm⟩
theorem map_set (zs : List Int) (j : Nat) (v : Int) : (zs.map V.int).set j (.int v) = (zs.set j v).map V.int := List.map_set.symm
theorem ixN_nat {n j : Nat} (h : j < n) : ixN n (j : Int) = some j := by
  unfold ixN
  rw [if_pos (Int.natCast_nonneg j), if_pos (by omega), Int.toNat_natCast]
theorem ok_folded {f : Addr} {fd : FuncData} {k : Nat} (F : Fun K "_law_folded" "_law_folded" sFolded f fd) (B : Bl mg) : FnOk P w K mg base CX0 (k + 1) f fd ["_law_script", "_law_size"] (spFolded K) := by
  refine F.ok scFolded (fun vs H Q E h => ?_) (fun cdv A outer s H vs Q E hr h => ?_)
  · obtain ⟨a, ns, m, rfl, _⟩ := h
    rfl
  obtain ⟨a, ns, m, rfl, hS, h63, hm1, hm2, q⟩ := h
  refine ⟨_, pss_cons (ps_set (i := 2) scFolded.nd rfl (.inl rfl) (pe_callTy call_list_of (by rfl) B.list PyProof.Rows.boot_list (pa_cons (pe_slice sl_list (pv 0) po_none (po_some (pv 1))) pa_nil)))
    (pss_cons (ps_for PassesOwn.never rfl (pi_enum (by rfl) B.enumerate (pa_cons (pe_slice sl_list (pv 0) (po_some (pv 1)) (po_some pe_int)) pa_nil))
        (pg_tup rfl (pgs_cons (pg_name (i := 3) scFolded.nd rfl (.inl rfl)) (pgs_cons (pg_name (i := 4) scFolded.nd rfl (.inl rfl)) pgs_nil)))
      (pss_one (ps_asg (pe_op op_add (pe_ix ix_list (pv 2) (pe_op op_mod (pv 3) (pv 1)) (fun _ _ => rfl)) (pe_op op_mul (pv 4) (pe_op op_add (pv 3) pe_int))) (pg_sub (pv 2) (pe_op op_mod (pv 3) (pv 1)) set_list))))
    (pss_one (ps_ret (pv 2)))), ?_⟩
  refine ⟨_, rfl, _, rfl, _, rfl, a, _, rfl, hS, fun c0 nc0 => ?_⟩
  rw [cut_lo]
  have s0 : Same H (upd H c0 (.lst ((ns.take m).map V.int))) := same_upd nc0
  refine ⟨c0, _, rfl, .inl (.inl (.inl upd_same)), fun p np => ?_⟩
  have npH : H p = none := s0.free np
  have ne0 : c0 ≠ p := fun e => by
    subst e
    rw [upd_same] at np
    cases np
  have s1 := s0.trans (same_upd (o := .lst ((ns.take m).map V.int)) np)
  refine ⟨_, rfl, _, rfl, _, rfl, _, rfl, a, _, rfl, s1.seq hS, fun c nc => ?_⟩
  obtain ⟨ws, ew, lw⟩ := cut_mid ns m 63
  rw [show ((63 : Nat) : Int) = (63 : Int) from rfl] at ew
  rw [ew]
  have s2 := s1.trans (same_upd (o := .lst (ws.map V.int)) nc)
  have nec : c ≠ p := fun e => by
    subst e
    rw [upd_same] at nc
    cases nc
  refine ⟨c, _, rfl, .inl (.inl upd_same), ?_⟩
  refine for_it (walk_enum (K := K) (a := c) (xs := ws.map V.int)) (fun i σ H3 => ∃ (y3 y4 : Option V) (zs : List Int), σ = [some (.ref a), some (.int (m : Int)), some (.ref p), y3, y4] ∧ Same H H3 ∧ H3 c = some (.lst (ws.map V.int)) ∧ H3 p = some (.lst (zs.map V.int)) ∧ zs.length = min ns.length m)
    ⟨none, none, ns.take m, rfl, s2, upd_same, ?_, ?_⟩ (fun i σ H3 _ ⟨_, _, _, _, _, e, _⟩ => .inl (.inl e)) ?_ ?_
  · rw [upd_ne nec.symm]
    exact upd_same
  · rw [List.length_take, Nat.min_comm]
  · rintro i v σ H3 H4 hi ⟨y3, y4, zs, rfl, s3, ec, ep, el⟩ ⟨T, x, y, rfl, nT, rfl, e1, e2⟩
    cases e1
    obtain ⟨z, _, rfl⟩ := int_at e2
    rw [List.length_map] at hi
    have npT : p ≠ T := ne_of_none ep nT
    have ncT : c ≠ T := ne_of_none ec nT
    have sT : Same H3 (upd H3 T (.tup [.int (i : Nat), .int z])) := same_upd nT
    refine ⟨T, _, rfl, .inl (.inl upd_same), rfl, _, _, rfl, _, _, rfl, rfl, ?_⟩
    have lm : (i : Int) % (m : Int) = ((i % m : Nat) : Int) := rfl
    have hl : i % m < zs.length := by
      have := Nat.mod_lt i (show 0 < m by omega)
      omega
    have ev : (zs.map V.int)[i % m]? = some (.int zs[i % m]) := by
      rw [List.getElem?_map, List.getElem?_eq_getElem hl]
      rfl
    refine ⟨_, rfl, _, rfl, _, rfl, _, _, rfl, rfl, (by show (0 : Int) < (m : Int); omega), p, _, _, _, rfl, rfl, SqL.of (sT _ _ ep), (by rw [lm]; exact atI_nat ev), _, rfl, _, rfl, _, _, rfl, rfl, _, _, rfl, rfl, .inr ⟨by omega, by omega⟩, _, _, rfl, rfl, ?_⟩
    refine ⟨_, rfl, _, rfl, _, rfl, _, _, rfl, rfl, (by show (0 : Int) < (m : Int); omega), p, _, _, i % m, rfl, rfl, sT _ _ ep, (by rw [lm, List.length_map]; exact ixN_nat hl), ?_⟩
    refine ⟨_, _, zs.set (i % m) (zs[i % m] + z * ((i : Int) + 2)), rfl, fun b o e => ?_, ?_, ?_, ?_⟩
    · rw [upd_ne (ne_of_none e npH)]
      exact sT _ _ (s3 _ _ e)
    · rw [upd_ne nec]
      exact sT _ _ ec
    · rw [upd_same, map_set]
    · rw [List.length_set]
      exact el
  · rintro σ H3 ⟨y3, y4, zs, rfl, s3, ec, ep, el⟩
    exact ⟨_, rfl, q p H3 zs npH s3 ep el⟩
/-! ### _law_same: of two things of one kind and worth -/
theorem scSame : FnScope ["_law_found", "_law_due_here", "_law_one", "_law_other"] ["_law_found", "_law_due_here"] (defScope sSame) := ⟨rfl, rfl, rfl, by decide +kernel, rfl, by decide +kernel, by decide +kernel⟩
def Lv : Nat → PyData → Prop
  | _, .none => True
  | _, .bool _ => True
  | _, .int _ => True
  | _, .str _ => True
  | n + 1, .list ds => ds.length ≤ 1000000 ∧ ∀ d ∈ ds, Lv n d
  | n + 1, .tuple ds => ds.length ≤ 1000000 ∧ ∀ d ∈ ds, Lv n d
  | _, _ => False
mutual
theorem Dp.same {H H' : Hp} (s : Same H H') : ∀ (d : PyData) (v : V), Dp K H v d → Dp K H' v d
  | .none, _, h => by
    cases h
    exact .non
  | .bool b, _, h => by
    cases h
    exact .bl b
  | .int i, _, h => by
    cases h
    exact .int i
  | .str x, _, h => by
    cases h
    exact .str x
  | .list ds, _, h => by
    cases h with
    | lst hs ha => exact .lst (s.seq hs) (Dp.sameAll s ds _ ha)
  | .tuple ds, _, h => by
    cases h with
    | tup hs ha => exact .tup (Same.seqT s hs) (Dp.sameAll s ds _ ha)
  | .dict _, _, h => by cases h
theorem Dp.sameAll {H H' : Hp} (s : Same H H') : ∀ (ds : List PyData) (vs : List V), DpAll K H vs ds → DpAll K H' vs ds
  | [], _, h => by
    cases h
    exact .nil
  | d :: ds, _, h => by
    cases h with
    | cons h1 h2 => exact .cons (Dp.same s d _ h1) (Dp.sameAll s ds _ h2)
end
theorem DpAll.len {H : Hp} : ∀ {ds : List PyData} {vs : List V}, DpAll K H vs ds → vs.length = ds.length
  | [], _, h => by
    cases h
    rfl
  | d :: ds, _, h => by
    cases h with
    | cons h1 h2 => rw [List.length_cons, List.length_cons, DpAll.len h2]
theorem DpAll.get {H : Hp} : ∀ {ds : List PyData} {vs : List V} {i : Nat} {x : V}, DpAll K H vs ds → vs[i]? = some x → ∃ d, ds[i]? = some d ∧ Dp K H x d
  | [], _, i, x, h, e => by
    cases h
    cases e
  | d :: ds, _, 0, x, h, e => by
    cases h with
    | cons h1 h2 =>
      cases e
      exact ⟨d, rfl, h1⟩
  | d :: ds, _, i + 1, x, h, e => by
    cases h with
    | @cons _ vs _ _ h1 h2 => exact DpAll.get (ds := ds) (vs := vs) h2 (show vs[i]? = some x from e)
theorem walk_zipT {a b : Addr} {xs ys : List V} {n : Nat} (hn : n = min xs.length ys.length) : Walk (RZ.ItzT K a b) n (fun H => SqT K H a xs ∧ SqT K H b ys) (YPair (fun i => xs[i]?) (fun i => ys[i]?)) := by
  subst hn
  refine ⟨fun i _ hi q => ?_, fun _ q => ⟨xs, ys, q.1, q.2, by omega⟩, fun i H v H' _ q y => ?_⟩
  · have h1 : i < xs.length := by omega
    have h2 : i < ys.length := by omega
    exact ⟨xs, ys, xs[i], ys[i], q.1, q.2, by simp [h1], by simp [h2]⟩
  · obtain ⟨T, x, z, h1, h2, h3, h4, h5⟩ := y
    exact ⟨T, x, z, h1, h2, h3, h4 xs q.1, h5 ys q.2⟩
theorem ty_lst {H : Hp} {a : Addr} {xs : List V} (h : SqL K H a xs) : TyX K H (.ref a) (.type "list") := by
  rcases h with (h | ⟨o, h⟩) | ⟨o, its, n, h1, h2, _⟩
  · exact .base (.lst h)
  · exact .base (.frz h)
  · exact .kList h1 h2
theorem ty_tup {H : Hp} {a : Addr} {xs : List V} (h : SqT K H a xs) : TyX K H (.ref a) (.type "tuple") := by
  rcases h with (h | ⟨o, h⟩) | ⟨o, its, n, h1, h2, _⟩
  · exact .base (.tup h)
  · exact .fTuple h
  · exact .kTuple h1 h2
def spSame (K : PySem.W.Frag) (k : Nat) : Sp := fun vs H Q _ => ∃ (x y : V) (d : PyData) (j : Nat), vs = [x, y] ∧ k = j + 1 ∧ Lv j d ∧ Dp K H x d ∧ Dp K H y d ∧ ∀ H', Same H H' → Q (.bl true) H'
theorem same_none {f : Addr} {fd : FuncData} : FnOk P w K mg base CX0 0 f fd ["_law_found", "_law_due_here"] (spSame K 0) := by
  have no : ∀ vs H Q E, ¬ spSame K 0 vs H Q E := fun vs H Q E h => by
    obtain ⟨x, y, d, j, _, h0, _⟩ := h
    omega
  exact ⟨fun vs H Q E h => absurd h (no vs H Q E), fun A outer s H args us vs Q E _ _ _ _ h => absurd h (no vs H Q E)⟩
theorem yesT {σ : L2.St} {H : Hp} {R S : Hp → Prop} (h : R H) : tYes σ H fun b H3 => if b = true then R H3 else S H3 := h
theorem repl_snoc {α : Type} (i : Nat) (x : α) : List.replicate i x ++ [x] = List.replicate (i + 1) x := List.replicate_succ'.symm
theorem all_repl (n : Nat) : (List.replicate n true).all id = true := by
  rw [List.all_eq_true]
  intro x hx
  rw [List.eq_of_mem_replicate hx]
  rfl
theorem kitLT {t : String} {r1 r2 : Bool} (h1 : kitB t "list" = some r1) (h2 : kitB t "tuple" = some r2) : PySem.W.kitAny K (.type t) [.type "list", .type "tuple"] = some (r1 || r2) := by
  refine kitAny_cons (kit_ty h1) (fun e => ?_) (fun e => by rw [e]; rfl)
  rw [e, Bool.false_or]
  refine kitAny_cons (kit_ty h2) (fun e => ?_) (fun e => e)
  rw [e]
  rfl
theorem ok_same1 {f : Addr} {fd : FuncData} {k : Nat} (F : Fun K "_law_same" "_law_same" sSame f fd) (G : FnOk P w K mg base CX0 k f fd ["_law_found", "_law_due_here"] (spSame K k)) (bf : Binds K fd ["_law_found", "_law_due_here"] []) (mf : mg "_law_same" = some (.ref f)) (B : Bl mg) :
    FnOk P w K mg base CX0 (k + 1) f fd ["_law_found", "_law_due_here"] (spSame K (k + 1)) := by
  refine F.ok scSame (fun vs H Q E h => ?_) (fun cdv A outer s H vs Q E hr h => ?_)
  · obtain ⟨x, y, d, j, rfl, _⟩ := h
    rfl
  obtain ⟨x, y, d, j, rfl, ej, lv, dx, dy, q⟩ := h
  obtain rfl : k = j := by omega
  refine ⟨_, pss_cons (ps_if (pt_val (pe_callB call_isiT (by rfl) B.isinstance boot_isinstance (pa_cons (pv 1) (pa_cons (pe_tup (pa_cons (pe_bltn (v := .ty "list") (by rfl) B.list PyProof.Rows.boot_list rfl) (pa_cons (pe_bltn (v := .ty "tuple") (by rfl) B.tuple PyProof.Rows.boot_tuple rfl) pa_nil))) pa_nil))))
      (pss_cons (ps_if (PW.pt (pw_or (pt_cmpR op_ne (pe_callB call_isi (by rfl) B.isinstance boot_isinstance (pa_cons (pv 0) (pa_cons (pe_bltn (v := .ty "list") (by rfl) B.list PyProof.Rows.boot_list rfl) pa_nil))) (pe_callB call_isi (by rfl) B.isinstance boot_isinstance (pa_cons (pv 1) (pa_cons (pe_bltn (v := .ty "list") (by rfl) B.list PyProof.Rows.boot_list rfl) pa_nil))) (nomark _))
          (pw_or1 (pt_cmpR op_ne (pe_callB call_isi (by rfl) B.isinstance boot_isinstance (pa_cons (pv 0) (pa_cons (pe_bltn (v := .ty "tuple") (by rfl) B.tuple PyProof.Rows.boot_tuple rfl) pa_nil))) (pe_callB call_isi (by rfl) B.isinstance boot_isinstance (pa_cons (pv 1) (pa_cons (pe_bltn (v := .ty "tuple") (by rfl) B.tuple PyProof.Rows.boot_tuple rfl) pa_nil))) (nomark _)))))
          (pss_one (ps_ret pe_bl)) pss_nil)
        (pss_one (ps_ret (pe_and (pe_cmpR op_eq (pe_callB call_len_seq (by rfl) B.len PySem.boot_len (pa_cons (pv 0) pa_nil)) (pe_callB call_len_seq (by rfl) B.len PySem.boot_len (pa_cons (pv 1) pa_nil)) (nomark _))
          (pe_one (pe_callB (cr_all rfl) (by rfl) B.all boot_all (pa_cons (pe_lc (own := [("_law_one", 2), ("_law_other", 3)]) (g := gTup K 2 (gCons (gName 2) (gCons (gName 3) gNil))) (by rfl) scSame.nd (RZ.pi_zipA (by rfl) B.zip (pa_cons (pv 0) (pa_cons (pv 1) pa_nil)))
            (blkOk_by (own := [("_law_one", 2), ("_law_other", 3)]) (N := ["_law_found", "_law_due_here", "_law_one", "_law_other"]) (sc := defScope sSame) (by decide +kernel))
            (fun _ _ _ _ _ => pg_tup rfl (pgs_cons (pg_name (i := 2) scSame.nd rfl (Or.inl rfl) (.inr rfl)) (pgs_cons (pg_name (i := 3) scSame.nd rfl (Or.inl rfl) (.inr rfl)) pgs_nil))) (fun _ _ _ _ _ => pts_nil)
            (fun _ _ _ _ _ => pe_call G hr (by rfl) mf F.kp bf .nil pass0 (pa_cons (pv 2) (pa_cons (pv 3) pa_nil)))) pa_nil))))))) pss_nil)
    (pss_cons (ps_if (PW.pt (pw_or (pt_cmpR op_isN (pv 1) pe_non (nomark _)) (pw_or1 (pt_val (pe_callB call_isi (by rfl) B.isinstance boot_isinstance (pa_cons (pv 1) (pa_cons (pe_bltn (v := .ty "str") (by rfl) B.str PyProof.Rows.boot_str rfl) pa_nil)))))))
      (pss_one (ps_ret (pe_and (pe_cmpR op_eq (pv 0) (pv 1) (nomark _)) (pe_one (pe_cmpR op_eq (pe_callB call_isi (by rfl) B.isinstance boot_isinstance (pa_cons (pv 0) (pa_cons (pe_bltn (v := .ty "str") (by rfl) B.str PyProof.Rows.boot_str rfl) pa_nil))) (pe_callB call_isi (by rfl) B.isinstance boot_isinstance (pa_cons (pv 1) (pa_cons (pe_bltn (v := .ty "str") (by rfl) B.str PyProof.Rows.boot_str rfl) pa_nil))) (nomark _)))))) pss_nil)
    (pss_one (ps_ret (pe_and (pe_callB call_isi (by rfl) B.isinstance boot_isinstance (pa_cons (pv 0) (pa_cons (pe_bltn (v := .ty "int") (by rfl) B.int PyProof.Rows.boot_int rfl) pa_nil))) (pe_and (pe_cmpR op_eq (pe_callB call_isi (by rfl) B.isinstance boot_isinstance (pa_cons (pv 0) (pa_cons (pe_bltn (v := .ty "bool") (by rfl) B.bool PyProof.Rows.boot_bool rfl) pa_nil))) (pe_callB call_isi (by rfl) B.isinstance boot_isinstance (pa_cons (pv 1) (pa_cons (pe_bltn (v := .ty "bool") (by rfl) B.bool PyProof.Rows.boot_bool rfl) pa_nil))) (nomark _))
      (pe_one (pe_cmpR op_eq (pv 0) (pv 1) (nomark _)))))))), ?_⟩
  have pr : Paired ClsV [.ty "list", .ty "tuple"] [.type "list", .type "tuple"] := .cons (.ty _) (.cons (.ty _) .nil)
  refine ⟨_, rfl, (by show 2 ≤ sizeLine; decide), fun tp ntp => ?_⟩
  have s0 : Same H (upd H tp (.tup [.ty "list", .ty "tuple"])) := same_upd ntp
  cases d with
  | none =>
    cases dx
    cases dy
    refine ⟨_, tp, _, _, _, _, rfl, upd_same, pr, .base .non, kitLT (t := "NoneType") (r1 := false) (r2 := false) (by decide +kernel) (by decide +kernel), _, rfl, iteF ?_⟩
    refine ⟨_, rfl, rfl, _, rfl, iteT (iteT ?_)⟩
    refine ⟨_, rfl, _, rfl, rfl, _, rfl, iteT ?_⟩
    refine ⟨_, rfl, _, _, _, _, _, rfl, .ty _, .base .non, kit_ty (by decide +kernel : kitB "NoneType" "str" = some false), _, rfl, _, _, _, _, _, rfl, .ty _, .base .non, kit_ty (by decide +kernel : kitB "NoneType" "str" = some false), rfl, q _ s0⟩
  | bool b =>
    cases dx
    cases dy
    refine ⟨_, tp, _, _, _, _, rfl, upd_same, pr, .base (.bl _), kitLT (t := "bool") (r1 := false) (r2 := false) (by decide +kernel) (by decide +kernel), _, rfl, iteF ?_⟩
    refine ⟨_, rfl, rfl, _, rfl, iteF ?_⟩
    refine ⟨_, rfl, _, _, _, _, _, rfl, .ty _, .base (.bl _), kit_ty (by decide +kernel : kitB "bool" "str" = some false), _, rfl, iteF ?_⟩
    refine ⟨_, rfl, _, _, _, _, _, rfl, .ty _, .base (.bl _), kit_ty (by decide +kernel : kitB "bool" "int" = some true), _, rfl, iteT ?_⟩
    refine ⟨_, rfl, _, _, _, _, _, rfl, .ty _, .base (.bl _), kit_ty (by decide +kernel : kitB "bool" "bool" = some true), _, rfl, _, _, _, _, _, rfl, .ty _, .base (.bl _), kit_ty (by decide +kernel : kitB "bool" "bool" = some true), rfl, _, rfl, iteT ?_⟩
    refine ⟨_, rfl, _, rfl, rfl, ?_⟩
    rw [decide_eq_true rfl]
    exact q _ s0
  | int i =>
    cases dx
    cases dy
    refine ⟨_, tp, _, _, _, _, rfl, upd_same, pr, .base (.int _), kitLT (t := "int") (r1 := false) (r2 := false) (by decide +kernel) (by decide +kernel), _, rfl, iteF ?_⟩
    refine ⟨_, rfl, rfl, _, rfl, iteF ?_⟩
    refine ⟨_, rfl, _, _, _, _, _, rfl, .ty _, .base (.int _), kit_ty (by decide +kernel : kitB "int" "str" = some false), _, rfl, iteF ?_⟩
    refine ⟨_, rfl, _, _, _, _, _, rfl, .ty _, .base (.int _), kit_ty (by decide +kernel : kitB "int" "int" = some true), _, rfl, iteT ?_⟩
    refine ⟨_, rfl, _, _, _, _, _, rfl, .ty _, .base (.int _), kit_ty (by decide +kernel : kitB "int" "bool" = some false), _, rfl, _, _, _, _, _, rfl, .ty _, .base (.int _), kit_ty (by decide +kernel : kitB "int" "bool" = some false), rfl, _, rfl, iteT ?_⟩
    refine ⟨_, rfl, _, rfl, rfl, ?_⟩
    rw [decide_eq_true rfl]
    exact q _ s0
  | str z =>
    cases dx
    cases dy
    refine ⟨_, tp, _, _, _, _, rfl, upd_same, pr, .base (.str _), kitLT (t := "str") (r1 := false) (r2 := false) (by decide +kernel) (by decide +kernel), _, rfl, iteF ?_⟩
    refine ⟨_, rfl, rfl, _, rfl, iteF ?_⟩
    refine ⟨_, rfl, _, _, _, _, _, rfl, .ty _, .base (.str _), kit_ty (by decide +kernel : kitB "str" "str" = some true), _, rfl, iteT ?_⟩
    refine ⟨_, rfl, _, rfl, rfl, ?_⟩
    rw [decide_eq_true rfl]
    refine ⟨_, rfl, iteT ?_⟩
    exact ⟨_, rfl, _, _, _, _, _, rfl, .ty _, .base (.str _), kit_ty (by decide +kernel : kitB "str" "str" = some true), _, rfl, _, _, _, _, _, rfl, .ty _, .base (.str _), kit_ty (by decide +kernel : kitB "str" "str" = some true), rfl, q _ s0⟩
  | list ds =>
    cases dx with
    | @lst a xs _ hx ax =>
    cases dy with
    | @lst b ys _ hy ay =>
    obtain ⟨i, rfl⟩ : ∃ i, k = i + 1 := by
      cases k with
      | zero => exact absurd lv id
      | succ i => exact ⟨i, rfl⟩
    have lx := DpAll.len ax
    have ly := DpAll.len ay
    have hx1 := s0.seq hx
    have hy1 := s0.seq hy
    refine ⟨_, tp, _, _, _, _, rfl, upd_same, pr, ty_lst hy1, kitLT (t := "list") (r1 := true) (r2 := false) (by decide +kernel) (by decide +kernel), _, rfl, iteT ?_⟩
    refine ⟨_, rfl, _, _, _, _, _, rfl, .ty _, ty_lst hx1, kit_ty (by decide +kernel : kitB "list" "list" = some true), _, rfl, _, _, _, _, _, rfl, .ty _, ty_lst hy1, kit_ty (by decide +kernel : kitB "list" "list" = some true), rfl, _, rfl, iteF ?_⟩
    refine ⟨_, rfl, _, _, _, _, _, rfl, .ty _, ty_lst hx1, kit_ty (by decide +kernel : kitB "list" "tuple" = some false), _, rfl, _, _, _, _, _, rfl, .ty _, ty_lst hy1, kit_ty (by decide +kernel : kitB "list" "tuple" = some false), rfl, _, rfl, iteF ?_⟩
    refine ⟨_, rfl, a, _, rfl, .inl hx1, _, rfl, b, _, rfl, .inl hy1, rfl, ?_⟩
    rw [decide_eq_true (by rw [lx, ly])]
    refine ⟨_, rfl, iteT ?_⟩
    refine ⟨_, rfl, _, rfl, a, b, xs, ys, rfl, .inl ⟨hx1, hy1, fun D nD => ?_⟩⟩
    have sD := s0.trans (same_upd (o := .lst []) nD)
    refine lc_it (walk_zip (K := K) (a := a) (b := b) (xs := xs) (ys := ys) rfl) (fun i H3 => Same H H3 ∧ H3 D = some (.lst (List.replicate i (.bl true)))) ⟨sD, upd_same⟩ (fun i H3 _ ⟨s3, _⟩ => ⟨s3.seq hx, s3.seq hy⟩) ?_ ?_
    · rintro i v H3 H4 hi ⟨s3, eD⟩ ⟨T, x, y, rfl, nT, rfl, e1, e2⟩
      obtain ⟨d1, g1, p1⟩ := DpAll.get ax e1
      obtain ⟨d2, g2, p2⟩ := DpAll.get ay e2
      obtain rfl : d1 = d2 := Option.some.inj (g1.symm.trans g2)
      have s4 := s3.trans (same_upd (o := .tup [x, y]) nT)
      refine ⟨T, _, rfl, .inl (.inl upd_same), rfl, _, _, rfl, _, _, rfl, rfl, rfl, ?_⟩
      refine yesT ?_
      refine ⟨_, rfl, _, rfl, x, y, d1, _, rfl, rfl, lv.2 d1 (List.mem_of_getElem? g1), Dp.same s4 _ _ p1, Dp.same s4 _ _ p2, fun H5 s5 => ?_⟩
      refine ⟨_, s5 _ _ (by rw [upd_ne (ne_of_none eD nT)]; exact eD), ?_, fun p o e => ?_, ?_⟩
      · rw [List.length_replicate]
        have := lv.1
        refine Nat.lt_of_lt_of_le (show i < 1000000 by omega) (by decide)
      · rw [upd_ne (ne_of_none e (s0.free nD))]
        exact s5 _ _ (s4 _ _ e)
      · rw [upd_same, repl_snoc]
    · rintro H3 ⟨s3, eD⟩
      refine ⟨D, List.replicate (min xs.length ys.length) true, rfl, .inl (.inl (by rw [List.map_replicate]; exact eD)), ?_⟩
      rw [all_repl]
      exact q _ s3
  | tuple ds =>
    cases dx with
    | @tup a xs _ hx ax =>
    cases dy with
    | @tup b ys _ hy ay =>
    obtain ⟨i, rfl⟩ : ∃ i, k = i + 1 := by
      cases k with
      | zero => exact absurd lv id
      | succ i => exact ⟨i, rfl⟩
    have lx := DpAll.len ax
    have ly := DpAll.len ay
    have hx1 := Same.seqT s0 hx
    have hy1 := Same.seqT s0 hy
    refine ⟨_, tp, _, _, _, _, rfl, upd_same, pr, ty_tup hy1, kitLT (t := "tuple") (r1 := false) (r2 := true) (by decide +kernel) (by decide +kernel), _, rfl, iteT ?_⟩
    refine ⟨_, rfl, _, _, _, _, _, rfl, .ty _, ty_tup hx1, kit_ty (by decide +kernel : kitB "tuple" "list" = some false), _, rfl, _, _, _, _, _, rfl, .ty _, ty_tup hy1, kit_ty (by decide +kernel : kitB "tuple" "list" = some false), rfl, _, rfl, iteF ?_⟩
    refine ⟨_, rfl, _, _, _, _, _, rfl, .ty _, ty_tup hx1, kit_ty (by decide +kernel : kitB "tuple" "tuple" = some true), _, rfl, _, _, _, _, _, rfl, .ty _, ty_tup hy1, kit_ty (by decide +kernel : kitB "tuple" "tuple" = some true), rfl, _, rfl, iteF ?_⟩
    refine ⟨_, rfl, a, _, rfl, .inr hx1, _, rfl, b, _, rfl, .inr hy1, rfl, ?_⟩
    rw [decide_eq_true (by rw [lx, ly])]
    refine ⟨_, rfl, iteT ?_⟩
    refine ⟨_, rfl, _, rfl, a, b, xs, ys, rfl, .inr ⟨hx1, hy1, fun D nD => ?_⟩⟩
    have sD := s0.trans (same_upd (o := .lst []) nD)
    refine lc_it (walk_zipT (K := K) (a := a) (b := b) (xs := xs) (ys := ys) rfl) (fun i H3 => Same H H3 ∧ H3 D = some (.lst (List.replicate i (.bl true)))) ⟨sD, upd_same⟩ (fun i H3 _ ⟨s3, _⟩ => ⟨Same.seqT s3 hx, Same.seqT s3 hy⟩) ?_ ?_
    · rintro i v H3 H4 hi ⟨s3, eD⟩ ⟨T, x, y, rfl, nT, rfl, e1, e2⟩
      obtain ⟨d1, g1, p1⟩ := DpAll.get ax e1
      obtain ⟨d2, g2, p2⟩ := DpAll.get ay e2
      obtain rfl : d1 = d2 := Option.some.inj (g1.symm.trans g2)
      have s4 := s3.trans (same_upd (o := .tup [x, y]) nT)
      refine ⟨T, _, rfl, .inl (.inl upd_same), rfl, _, _, rfl, _, _, rfl, rfl, rfl, ?_⟩
      refine yesT ?_
      refine ⟨_, rfl, _, rfl, x, y, d1, _, rfl, rfl, lv.2 d1 (List.mem_of_getElem? g1), Dp.same s4 _ _ p1, Dp.same s4 _ _ p2, fun H5 s5 => ?_⟩
      refine ⟨_, s5 _ _ (by rw [upd_ne (ne_of_none eD nT)]; exact eD), ?_, fun p o e => ?_, ?_⟩
      · rw [List.length_replicate]
        have := lv.1
        refine Nat.lt_of_lt_of_le (show i < 1000000 by omega) (by decide)
      · rw [upd_ne (ne_of_none e (s0.free nD))]
        exact s5 _ _ (s4 _ _ e)
      · rw [upd_same, repl_snoc]
    · rintro H3 ⟨s3, eD⟩
      refine ⟨D, List.replicate (min xs.length ys.length) true, rfl, .inl (.inl (by rw [List.map_replicate]; exact eD)), ?_⟩
      rw [all_repl]
      exact q _ s3
  | dict _ => cases dx
theorem ok_same {f : Addr} {fd : FuncData} (F : Fun K "_law_same" "_law_same" sSame f fd) (bf : Binds K fd ["_law_found", "_law_due_here"] []) (mf : mg "_law_same" = some (.ref f)) (B : Bl mg) : ∀ k : Nat, FnOk P w K mg base CX0 k f fd ["_law_found", "_law_due_here"] (spSame K k)
  | 0 => same_none
  | k + 1 => ok_same1 F (ok_same F bf mf B k) bf mf B
end
end GZ
namespace GM
theorem pow_pos' (n : Nat) : (0 : Int) < 2 ^ n := Int.pow_pos (by decide)
theorem pow_s (n : Nat) : (2 : Int) ^ (n + 1) = 2 ^ n * 2 := Int.pow_succ 2 n
theorem pow_le' {m n : Nat} (h : m ≤ n) : (2 : Int) ^ m ≤ 2 ^ n := by
  induction n with
  | zero =>
    have : m = 0 := by omega
    rw [this]
    exact Int.le_refl _
  | succ n ih =>
    by_cases e : m = n + 1
    · rw [e]
      exact Int.le_refl _
    · have := ih (by omega)
      have := pow_s n
      have := pow_pos' n
      omega
theorem pow_add' (m n : Nat) : (2 : Int) ^ (m + n) = 2 ^ m * 2 ^ n := Int.pow_add 2 m n
theorem bits_pow {x : Nat} {e : Nat} (h : x < 2 ^ e) : PySem.Builtin.Int.intBits (x : Int) ≤ e := PyProof.Rows.intBits_le (by rw [Int.natAbs_natCast]; exact h)
theorem bits_le_pow {x : Nat} {e : Nat} (h : 2 ^ e ≤ x) : e + 1 ≤ PySem.Builtin.Int.intBits (x : Int) := by
  have hx : x ≠ 0 := by
    have := Nat.two_pow_pos e
    omega
  unfold PySem.Builtin.Int.intBits
  rw [if_neg (by simpa using hx), Int.natAbs_natCast]
  have := (Nat.le_log2 hx).mpr h
  omega
theorem bits_unique {x e : Nat} (h1 : 2 ^ e ≤ x) (h2 : x < 2 ^ (e + 1)) : PySem.Builtin.Int.intBits (x : Int) = e + 1 := by
  have := bits_pow h2
  have := bits_le_pow h1
  omega
theorem bits_ex {x : Nat} (h : 0 < x) : ∃ e, 2 ^ e ≤ x ∧ x < 2 ^ (e + 1) := ⟨x.log2, Nat.log2_self_le (by omega), Nat.lt_log2_self⟩
theorem bits_half {x : Nat} (h : 0 < x) : PySem.Builtin.Int.intBits (x : Int) = PySem.Builtin.Int.intBits ((x / 2 : Nat) : Int) + 1 := by
  obtain ⟨e, h1, h2⟩ := bits_ex h
  rw [bits_unique h1 h2]
  cases e with
  | zero =>
    have : x = 1 := by
      simp at h1 h2
      omega
    rw [this]
    rfl
  | succ e =>
    rw [bits_unique (x := x / 2) (e := e)]
    · rw [Nat.pow_succ] at h1
      omega
    · rw [Nat.pow_succ] at h2
      omega
theorem bits_double {x m : Nat} (h : 0 < x) (hm : m ≤ 1) : PySem.Builtin.Int.intBits ((2 * x + m : Nat) : Int) = PySem.Builtin.Int.intBits (x : Int) + 1 := by
  rw [bits_half (x := 2 * x + m) (by omega), show (2 * x + m) / 2 = x by omega]
theorem shr_lt {x : Int} {a b : Nat} (h0 : 0 ≤ x) (h : x < 2 ^ (a + b)) : 0 ≤ x / 2 ^ b ∧ x / 2 ^ b < 2 ^ a := by
  have hb := pow_pos' b
  refine ⟨Int.ediv_nonneg h0 (by omega), ?_⟩
  rw [pow_add'] at h
  exact Int.ediv_lt_of_lt_mul hb h
end GM
namespace GM
/-! ### words: a sign, a scale of m bits, a tail of t bits -/
def bit (a : Int) (n : Nat) : Int := a / 2 ^ n % 2
def blr (a : Int) : Nat → List Int
  | 0 => []
  | n + 1 => bit a n :: blr a n
def wv : List Int → Int
  | [] => 0
  | d :: r => d * 2 ^ r.length + wv r
theorem blr_len (a : Int) : ∀ n, (blr a n).length = n
  | 0 => rfl
  | n + 1 => by
    show (blr a n).length + 1 = n + 1
    rw [blr_len a n]
theorem div_div (w : Int) (t m : Nat) : w / 2 ^ t / 2 ^ m = w / 2 ^ (t + m) := by
  rw [pow_add', Int.ediv_ediv_of_nonneg (Int.le_of_lt (pow_pos' t))]
theorem bit_div (w : Int) (t m : Nat) : bit (w / 2 ^ t) m = bit w (m + t) := by
  unfold bit
  rw [div_div, Nat.add_comm t m]
theorem blr_take (w : Int) (t : Nat) : ∀ m, (blr w (m + t)).take m = blr (w / 2 ^ t) m
  | 0 => rfl
  | m + 1 => by
    show (blr w ((m + 1) + t)).take (m + 1) = bit (w / 2 ^ t) m :: blr (w / 2 ^ t) m
    rw [show m + 1 + t = (m + t) + 1 by omega]
    show bit w (m + t) :: (blr w (m + t)).take m = _
    rw [blr_take w t m, bit_div]
theorem blr_drop (w : Int) (t : Nat) : ∀ m, (blr w (m + t)).drop m = blr w t
  | 0 => by rw [Nat.zero_add]; rfl
  | m + 1 => by
    rw [show m + 1 + t = (m + t) + 1 by omega]
    show (blr w (m + t)).drop m = _
    exact blr_drop w t m
theorem mod_step (a : Int) (n : Nat) : bit a n * 2 ^ n + a % 2 ^ n = a % 2 ^ (n + 1) := by
  unfold bit
  have hp := pow_pos' n
  have e1 := Int.emod_add_mul_ediv a (2 ^ n)
  have e2 := Int.emod_add_mul_ediv (a / 2 ^ n) 2
  have h1 := Int.emod_nonneg a (show (2 : Int) ^ n ≠ 0 by omega)
  have h2 := Int.emod_lt_of_pos a hp
  have e3 : 2 ^ n * (a / 2 ^ n) = a / 2 ^ n % 2 * 2 ^ n + a / 2 ^ n / 2 * (2 ^ n * 2) := by
    conv => lhs; rw [← e2]
    rw [Int.mul_add, Int.mul_comm (2 ^ n) (a / 2 ^ n % 2), ← Int.mul_assoc, Int.mul_comm (2 ^ n * 2) _]
  have key : (a / 2 ^ n % 2 * 2 ^ n + a % 2 ^ n) + a / 2 ^ n / 2 * 2 ^ (n + 1) = a := by
    rw [pow_s]
    omega
  have hb : 0 ≤ a / 2 ^ n % 2 * 2 ^ n + a % 2 ^ n ∧ a / 2 ^ n % 2 * 2 ^ n + a % 2 ^ n < 2 ^ (n + 1) := by
    rw [pow_s]
    have : a / 2 ^ n % 2 = 0 ∨ a / 2 ^ n % 2 = 1 := by omega
    rcases this with z | z <;> rw [z] <;> omega
  have em := Int.add_mul_emod_self_right (a / 2 ^ n % 2 * 2 ^ n + a % 2 ^ n) (a / 2 ^ n / 2) (2 ^ (n + 1))
  rw [key, Int.emod_eq_of_lt hb.1 hb.2] at em
  exact em.symm
theorem wv_blr (a : Int) : ∀ n, wv (blr a n) = a % 2 ^ n
  | 0 => by
    show (0 : Int) = a % 1
    omega
  | n + 1 => by
    show bit a n * 2 ^ (blr a n).length + wv (blr a n) = _
    rw [blr_len, wv_blr a n, ← mod_step a n]
theorem fold2 : ∀ (ds : List Int) (w : Int), ds.foldl (fun a b => a * 2 + b) w = w * 2 ^ ds.length + wv ds
  | [], w => by
    show w = w * 2 ^ 0 + 0
    rw [Int.pow_zero]
    omega
  | d :: r, w => by
    show r.foldl (fun a b => a * 2 + b) (w * 2 + d) = w * 2 ^ (r.length + 1) + (d * 2 ^ r.length + wv r)
    rw [fold2 r, pow_s, Int.add_mul, Int.mul_assoc, Int.mul_comm 2 (2 ^ r.length)]
    omega
theorem wv_ones : ∀ k, wv (List.replicate k 1) = 2 ^ k - 1
  | 0 => rfl
  | k + 1 => by
    rw [List.replicate_succ]
    show 1 * 2 ^ (List.replicate k (1 : Int)).length + wv (List.replicate k 1) = _
    rw [List.length_replicate, wv_ones k, pow_s]
    omega
/-- sign, scale, tail of a word -/
def sgn (m t : Nat) (w : Int) : Int := w / 2 ^ (m + t) % 2
def scl (m t : Nat) (w : Int) : Int := w / 2 ^ t % 2 ^ m
def tlp (t : Nat) (w : Int) : Int := w % 2 ^ t
theorem scl_tlp (m t : Nat) (w : Int) : scl m t w * 2 ^ t + tlp t w = w % 2 ^ (m + t) := by
  induction m with
  | zero =>
    unfold scl tlp
    rw [Int.pow_zero, Int.emod_one, Int.zero_mul, Int.zero_add, Nat.zero_add]
  | succ m ih =>
    have e := mod_step (w / 2 ^ t) m
    have e2 := mod_step w (m + t)
    rw [bit_div] at e
    unfold scl at ih ⊢
    rw [← e, Int.add_mul, show m + 1 + t = (m + t) + 1 by omega, ← e2, ← ih, Int.mul_assoc, ← pow_add']
    omega
theorem sgn_01 {m t : Nat} {w : Int} : sgn m t w = 0 ∨ sgn m t w = 1 := by
  unfold sgn
  omega
theorem word_eq {m t : Nat} {w : Int} (h0 : 0 ≤ w) (h1 : w < 2 ^ (1 + m + t)) : sgn m t w * 2 ^ (m + t) + w % 2 ^ (m + t) = w := by
  have e := mod_step w (m + t)
  rw [show m + t + 1 = 1 + m + t by omega, Int.emod_eq_of_lt h0 h1] at e
  exact e
theorem scl_nn (m t : Nat) (w : Int) : 0 ≤ scl m t w ∧ scl m t w < 2 ^ m := ⟨Int.emod_nonneg _ (by have := pow_pos' m; omega), Int.emod_lt_of_pos _ (pow_pos' m)⟩
theorem tlp_nn (t : Nat) (w : Int) : 0 ≤ tlp t w ∧ tlp t w < 2 ^ t := ⟨Int.emod_nonneg _ (by have := pow_pos' t; omega), Int.emod_lt_of_pos _ (pow_pos' t)⟩
/-- with the other sign -/
def trn (m t : Nat) (w : Int) : Int := (1 - sgn m t w) * 2 ^ (m + t) + w % 2 ^ (m + t)
theorem mk_parts {m t : Nat} {s r : Int} (hs : s = 0 ∨ s = 1) (h0 : 0 ≤ r) (h1 : r < 2 ^ (m + t)) : 0 ≤ s * 2 ^ (m + t) + r ∧ s * 2 ^ (m + t) + r < 2 ^ (1 + m + t) ∧ sgn m t (s * 2 ^ (m + t) + r) = s ∧ (s * 2 ^ (m + t) + r) % 2 ^ (m + t) = r := by
  have hp := pow_pos' (m + t)
  have e : (2 : Int) ^ (1 + m + t) = 2 ^ (m + t) * 2 := by rw [← pow_s]; congr 1; omega
  have em : (s * 2 ^ (m + t) + r) % 2 ^ (m + t) = r := by
    rw [Int.add_comm, Int.add_mul_emod_self_right, Int.emod_eq_of_lt h0 h1]
  have ed : (s * 2 ^ (m + t) + r) / 2 ^ (m + t) = s := by
    rw [Int.add_comm, Int.add_mul_ediv_right _ _ (by omega), Int.ediv_eq_zero_of_lt h0 h1, Int.zero_add]
  refine ⟨?_, ?_, ?_, em⟩
  · rcases hs with z | z <;> subst z <;> omega
  · rw [e]
    rcases hs with z | z <;> subst z <;> omega
  · unfold sgn
    rw [ed]
    omega
theorem trn_trn {m t : Nat} {w : Int} (h0 : 0 ≤ w) (h1 : w < 2 ^ (1 + m + t)) : trn m t (trn m t w) = w ∧ 0 ≤ trn m t w ∧ trn m t w < 2 ^ (1 + m + t) := by
  have hp := pow_pos' (m + t)
  have hs : 1 - sgn m t w = 0 ∨ 1 - sgn m t w = 1 := by
    have := sgn_01 (m := m) (t := t) (w := w)
    omega
  obtain ⟨a, b, c, d⟩ := mk_parts (m := m) (t := t) hs (Int.emod_nonneg w (show (2 : Int) ^ (m + t) ≠ 0 by omega)) (Int.emod_lt_of_pos w hp)
  refine ⟨?_, a, b⟩
  show (1 - sgn m t (trn m t w)) * 2 ^ (m + t) + trn m t w % 2 ^ (m + t) = w
  rw [show sgn m t (trn m t w) = 1 - sgn m t w from c, show trn m t w % 2 ^ (m + t) = w % 2 ^ (m + t) from d, show 1 - (1 - sgn m t w) = sgn m t w by omega]
  exact word_eq h0 h1
end GM
namespace GR
open PySem
/-! ### the rounding, as a function -/
def bl (n : Int) : Int := (Builtin.Int.intBits n : Nat)
def cutQ (n b : Int) : Int := if b < 0 then n * 2 ^ (-b).toNat else n / 2 ^ b.toNat
def cutR (n b : Int) : Bool := if b < 0 then false else !decide (n / 2 ^ b.toNat * 2 ^ b.toNat = n)
def lea (sc tl : Nat) : Int := 1 - (2 ^ (sc - 1) - 1) - (tl : Int)
def lap (sc tl : Nat) (n p : Int) : Int := if lea sc tl > bl n + p - 1 - (tl : Int) then lea sc tl else bl n + p - 1 - (tl : Int)
def prQ (n b : Int) : Int := cutQ n (b - 1) / 2 ^ 1
def prR (n b : Int) (more : Bool) : Int := 2 * (cutQ n (b - 1) % 2 ^ 1) + (if cutR n (b - 1) || more then 1 else 0)
def away (way : Str) (s : Int) : Bool := if way = "cut" then false else decide (s = if way = "up" then 0 else 1)
def gup (way : Str) (s many rest : Int) : Bool := if way = "near" then decide (rest = 3) || (decide (rest = 2) && decide (many % 2 = 1)) else !decide (rest = 0) && away way s
def wrd (sc tl : Nat) (s m t : Int) : Int := s * 2 ^ (sc + tl) + (m * 2 ^ tl + t)
def bey (sc tl : Nat) (s : Int) (way : Str) : Int := if (decide (way = "near") || away way s) = true then wrd sc tl s (2 ^ sc - 1) 0 else wrd sc tl s (2 ^ sc - 1 - 1) (2 ^ tl - 1)
def flg (sc : Nat) (n p rest : Int) : List Str := if rest = 0 then [] else if bl n + p ≤ 1 - (2 ^ (sc - 1) - 1) then ["under", "rounded"] else ["rounded"]
def mny (sc tl : Nat) (s n p : Int) (way : Str) (more : Bool) : Int := if gup way s (prQ n (lap sc tl n p - p)) (prR n (lap sc tl n p - p) more) = true then prQ n (lap sc tl n p - p) + 1 else prQ n (lap sc tl n p - p)
def siz (sc tl : Nat) (s n p : Int) (way : Str) (more : Bool) : Int := (lap sc tl n p - lea sc tl) * 2 ^ tl + mny sc tl s n p way more
def rnd (sc tl : Nat) (s n p : Int) (way : Str) (more : Bool) : Int × List Str :=
  if n = 0 then (wrd sc tl s 0 0, [])
  else if siz sc tl s n p way more > wrd sc tl 0 (2 ^ sc - 1 - 1) (2 ^ tl - 1) then (bey sc tl s way, ["over", "rounded"])
  else (wrd sc tl s 0 0 + siz sc tl s n p way more, flg sc n p (prR n (lap sc tl n p - p) more))
theorem lap_ge (sc tl : Nat) (n p : Int) : lea sc tl ≤ lap sc tl n p := by
  unfold lap
  split <;> omega
end GR
namespace GZ
open PySem PySem.Spec PyProof.Rows L2
theorem val0 (t : Tok) : Vals [V.int 0] [Value.int 0 t] := .cons ⟨_, rfl⟩ .nil
/-! ### keyword-only parameters -/
theorem kbn_of {K : PySem.W.Frag} {x qual : Str} {st : Stmt} {D : Addr} {an : Option Addr} {doc pm cdv ct : Value} {ps ks : List Str} {n : Nat} {ml : List (Str × Value)} {g : List Value → List Value → List Value} {gV : List V → List V → List V} (hml : ∀ q ∈ ml, PySem.W.nsIn K D q.1 = some (some q.2))
    (h : ∀ us ws : List Value, us.length = n → ws.length = ks.length → KwChain D ml (bindArgs (PySem.W.fnOf x qual (defArgs st) (defBody st) (defScope st) .none (.ref D) doc pm an cdv ct) ⟨us, ks.zip ws⟩) (ps.zip (g us ws)))
    (rel : ∀ {vs : List V} {us : List Value} {zs : List V} {ws : List Value}, vs.length = n → zs.length = ks.length → Vals vs us → Vals zs ws → Vals (gV vs zs) (g us ws)) :
    ∀ (s : Shared) (us ws : List Value), K.In s.heap → us.length = n → ws.length = ks.length → BindsTo s (PySem.W.fnOf x qual (defArgs st) (defBody st) (defScope st) .none (.ref D) doc pm an cdv ct) ⟨us, ks.zip ws⟩ (ps.zip (g us ws)) :=
  fun s us ws X l1 l2 => BindsTo.of_looks fun M => KwChain.looks X hml (h us ws l1 l2)
theorem bnd_of {K : PySem.W.Frag} {x qual : Str} {st : Stmt} {D : Addr} {an : Option Addr} {doc pm cdv ct : Value} {ps : List Str} {ml : List (Str × Value)} {ds : List Value} (hml : ∀ q ∈ ml, PySem.W.nsIn K D q.1 = some (some q.2))
    (h : ∀ us : List Value, us.length + ds.length = ps.length → KwChain D ml (bindArgs (PySem.W.fnOf x qual (defArgs st) (defBody st) (defScope st) .none (.ref D) doc pm an cdv ct) ⟨us, []⟩) (ps.zip (us ++ ds))) :
    Binds K (PySem.W.fnOf x qual (defArgs st) (defBody st) (defScope st) .none (.ref D) doc pm an cdv ct) ps ds := fun s us X hl => by
  rw [List.length_append] at hl
  exact BindsTo.of_looks fun M => KwChain.looks X hml (h us hl)
/-! ### a def whose defaults aren't asked for -/
structure FunA (K : PySem.W.Frag) (x qual : Str) (st : Stmt) (f : Addr) (fd : FuncData) : Prop where
  ex : ∃ (oc : Value) (od : Option Addr) (dV kV doc pm : Value) (an : Option Addr) (cdv ct : Value) (osl : Array (Option Value)),
    fd = PySem.W.fnOf x qual (defArgs st) (defBody st) (defScope st) dV kV doc pm an cdv ct ∧ K.lookup f = some ⟨oc, od, .func fd, osl⟩ ∧ PySem.W.codeIn K cdv qual = true
  kp : PySem.W.keepIn K (.ref f) = true
theorem FunA.ok {P : Program} {w : World} {K : PySem.W.Frag} {mg : Str → Option Value} {base : Heap} {x qual : Str} {st : Stmt} {f : Addr} {fd : FuncData} {N ps : List Str} {k : Nat} {sp : Sp} (F : FunA K x qual st f fd) (S : FnScope N ps (defScope st)) (len : ∀ vs H Q E, sp vs H Q E → vs.length = ps.length)
    (hbody : ∀ (cdv : Value) (A : Around) (outer : List Env) (s : Shared) (H : Hp) (vs : List V) (Q : VK) (E : XK), Room k (A.deeper (envOfC qual (defScope st) s.heap.objs.size f cdv)) → sp vs H Q E →
      ∃ t, PSs (cxOf CX0 P w K mg base N qual (defScope st) f cdv A outer s H E).nox (defBody st) t ∧ t { nx := fun _ H' => Q .non H', rt := Q } (start N vs) H) : FnOk P w K mg base CX0 (k + 1) f fd ps sp := by
  obtain ⟨oc, od, dV, kV, doc, pm, an, cdv, ct, osl, rfl, lk, hcd⟩ := F.ex
  refine fn_of lk hcd S len fun A outer s H vs Q E hr hsp => ?_
  obtain ⟨t, h, q⟩ := hbody cdv A outer s H vs Q E hr hsp
  exact ⟨t, h.nox, q⟩
theorem bindsA {K : PySem.W.Frag} {x qual : Str} {st : Stmt} {f T : Addr} {oc oT vT : Value} {od an dT : Option Addr} {osl sT : Array (Option Value)} {kV doc pm cdv ct : Value} {nT : Nat} {ps : List Str} (l : K.lookup f = some ⟨oc, od, .func (PySem.W.fnOf x qual (defArgs st) (defBody st) (defScope st) (.ref T) kV doc pm an cdv ct), osl⟩)
    (lT : K.lookup T = some ⟨oT, dT, .seq #[vT] nT, sT⟩)
    (h : ∀ (kV doc pm : Value) (an : Option Addr) (cdv ct : Value) (us : List Value), us.length = ps.length → ∃ k, bindArgs (PySem.W.fnOf x qual (defArgs st) (defBody st) (defScope st) (.ref T) kV doc pm an cdv ct) ⟨us, []⟩ = seqItems? (.ref T) >>= k ∧ k (some #[vT]) = pure (ps.zip us)) : Binds K (PySem.W.fnOf x qual (defArgs st) (defBody st) (defScope st) (.ref T) kV doc pm an cdv ct) ps [] := by
  intro s us X hl
  rw [List.append_nil] at hl ⊢
  obtain ⟨k, e1, e2⟩ := h kV doc pm an cdv ct us hl
  refine BindsTo.of_looks fun M => ?_
  rw [e1]
  exact looks_items X lT rfl (.of_pure e2)
theorem bindsAD {K : PySem.W.Frag} {x qual : Str} {st : Stmt} {f T : Addr} {oc oT vT : Value} {od an dT : Option Addr} {osl sT : Array (Option Value)} {kV doc pm cdv ct : Value} {nT : Nat} {ps : List Str} (l : K.lookup f = some ⟨oc, od, .func (PySem.W.fnOf x qual (defArgs st) (defBody st) (defScope st) (.ref T) kV doc pm an cdv ct), osl⟩)
    (lT : K.lookup T = some ⟨oT, dT, .seq #[vT] nT, sT⟩)
    (h : ∀ (kV doc pm : Value) (an : Option Addr) (cdv ct : Value) (us : List Value), us.length + 1 = ps.length → ∃ k, bindArgs (PySem.W.fnOf x qual (defArgs st) (defBody st) (defScope st) (.ref T) kV doc pm an cdv ct) ⟨us, []⟩ = seqItems? (.ref T) >>= k ∧ k (some #[vT]) = pure (ps.zip (us ++ [vT]))) : Binds K (PySem.W.fnOf x qual (defArgs st) (defBody st) (defScope st) (.ref T) kV doc pm an cdv ct) ps [vT] := by
  intro s us X hl
  rw [List.length_append] at hl
  obtain ⟨k, e1, e2⟩ := h kV doc pm an cdv ct us hl
  refine BindsTo.of_looks fun M => ?_
  rw [e1]
  exact looks_items X lT rfl (.of_pure e2)
theorem kbindsA {x1 : Str} {K : PySem.W.Frag} {x qual : Str} {st : Stmt} {f T : Addr} {oc oT vT : Value} {od an dT : Option Addr} {osl sT : Array (Option Value)} {kV doc pm cdv ct : Value} {nT : Nat} {ps : List Str} (l : K.lookup f = some ⟨oc, od, .func (PySem.W.fnOf x qual (defArgs st) (defBody st) (defScope st) (.ref T) kV doc pm an cdv ct), osl⟩)
    (lT : K.lookup T = some ⟨oT, dT, .seq #[vT] nT, sT⟩)
    (h : ∀ (kV doc pm : Value) (an : Option Addr) (cdv ct u w : Value), ∃ k, bindArgs (PySem.W.fnOf x qual (defArgs st) (defBody st) (defScope st) (.ref T) kV doc pm an cdv ct) ⟨[u], [(x1, w)]⟩ = seqItems? (.ref T) >>= k ∧ k (some #[vT]) = pure (ps.zip [u, w])) : KBn K (PySem.W.fnOf x qual (defArgs st) (defBody st) (defScope st) (.ref T) kV doc pm an cdv ct) ps 1 [x1] (fun us ws => us ++ ws) (fun us ws => us ++ ws) := by
  refine ⟨fun s us ws X l1 l2 => ?_, fun r1 r2 => r1.append r2⟩
  match us, ws, l1, l2 with
  | [u], [w], _, _ =>
    obtain ⟨k, e1, e2⟩ := h kV doc pm an cdv ct u w
    refine BindsTo.of_looks fun M => ?_
    show PySem.W.Looks M s.heap (bindArgs (PySem.W.fnOf x qual (defArgs st) (defBody st) (defScope st) (.ref T) kV doc pm an cdv ct) ⟨[u], [(x1, w)]⟩) (ps.zip [u, w])
    rw [e1]
    exact looks_items X lT rfl (.of_pure e2)
theorem funA_mk {K : PySem.W.Frag} {x qual : Str} {st : Stmt} {f : Addr} {oc : Value} {od an : Option Addr} {osl : Array (Option Value)} {dV kV doc pm cdv ct : Value} (l : K.lookup f = some ⟨oc, od, .func (PySem.W.fnOf x qual (defArgs st) (defBody st) (defScope st) dV kV doc pm an cdv ct), osl⟩)
    (c : PySem.W.codeIn K cdv qual = true) (k : PySem.W.keepIn K (.ref f) = true) : FunA K x qual st f (PySem.W.fnOf x qual (defArgs st) (defBody st) (defScope st) dV kV doc pm an cdv ct) := ⟨⟨oc, od, dV, kV, doc, pm, an, cdv, ct, osl, rfl, l, c⟩, k⟩
/-! ### the module's own WAYS -/
def WL : List Str := ["near", "cut", "up", "down"]
structure WG (K : PySem.W.Frag) (mg : Str → Option Value) (fa : Addr) : Prop where
  mgW : mg "WAYS" = some (.ref fa)
  sq : ∀ H, SqT K H fa (WL.map V.str)
section
variable {P : Program} {w : World} {K : PySem.W.Frag} {mg : Str → Option Value} {base : Heap}
theorem bx1 {c : Int} {H : Hp} {b : Addr} (h : BoxAt (c + 2 ^ (1 - 1)) H b) : BoxAt (c + 1) H b := h
theorem Keep.none {b p : Addr} {H H' : Hp} (k : Keep b H H') (n : p ≠ b) (h : H' p = none) : H p = none := by
  cases q : H p with
  | none => rfl
  | some o =>
    rw [k p o q n] at h
    cases h
theorem dp_ints {H : Hp} : ∀ ds : List Int, DpAll K H (ds.map V.int) (ds.map PyData.int)
  | [] => .nil
  | d :: ds => .cons (.int d) (dp_ints ds)
theorem lv_ints {n : Nat} (ds : List Int) (h : ds.length ≤ 1000) : Lv (n + 1) (.list (ds.map PyData.int)) := by
  refine ⟨by rw [List.length_map]; omega, fun d hd => ?_⟩
  obtain ⟨x, _, rfl⟩ := List.mem_map.mp hd
  cases n <;> trivial
theorem eqv_ints (ds : List Int) : PyData.eqv (.list (ds.map PyData.int)) (.list (ds.map PyData.int)) = true := PySem.SeqAt.eqv_refl _ (PySem.SeqAt.canLay_of_shaped (PySem.W.shaped_ints ds))
/-! ### a form -/
/-- at x stands a Form of these two -/
def FAt (C : Addr) (H : Hp) (x : Addr) (sc tl : Nat) : Prop := ∃ dx, H x = some (.ins C dx [("scale", .int (sc : Int)), ("tail", .int (tl : Int))]) ∧ 2 ≤ sc ∧ sc ≤ 8 ∧ 1 ≤ tl ∧ tl ≤ 24
theorem FAt.keep {C : Addr} {b : Addr} {H H' : Hp} {x : Addr} {sc tl : Nat} (h : FAt C H x sc tl) (k : Keep b H H') (n : x ≠ b) : FAt C H' x sc tl := by
  obtain ⟨dx, e, r⟩ := h
  exact ⟨dx, k _ _ e n, r⟩
theorem FAt.same {C : Addr} {H H' : Hp} {x : Addr} {sc tl : Nat} (h : FAt C H x sc tl) (s : Same H H') : FAt C H' x sc tl := by
  obtain ⟨dx, e, r⟩ := h
  exact ⟨dx, s _ _ e, r⟩
structure FT (K : PySem.W.Frag) (mg : Str → Option Value) (C : Addr) : Prop where
  cl : Cls K C
  ns : NoAttr K C "scale"
  nt : NoAttr K C "tail"
  mgC : mg "Form" = some (.ref C)
theorem fl_s (a b : V) : List.lookup ("scale" : Str) ([("scale", a), ("tail", b)] : List (Str × V)) = some a := rfl
theorem fl_t (a b : V) : List.lookup ("tail" : Str) ([("scale", a), ("tail", b)] : List (Str × V)) = some b := rfl
/-- Form(scale, tail) makes one -/
theorem made {C : Addr} {H : Hp} {x dx : Addr} (nx : H x = none) (nd : H dx = none) (ne : dx ≠ x) {H' : Hp} (k : ∀ p o, (upd (upd H dx (.own x)) x (.ins C dx [])) p = some o → p ≠ x → H' p = some o) : Same H H' := fun p o e =>
  k p o (by rw [upd_ne (ne_of_none e nx), upd_ne (ne_of_none e nd)]; exact e) (ne_of_none e nx)
structure LL (K : PySem.W.Frag) (mg : Str → Option Value) (C : Addr) (a1 a2 a3 a4 a5 a6 a7 a8 a9 a10 a11 a12 a13 a14 a15 a16 a17 a18 a19 a20 a21 a22 a23 a24 a25 : Addr) (l1 l2 l3 l4 l5 l6 l7 l8 l9 l10 l11 l12 l13 l14 l15 l16 l17 l18 l19 l20 l21 l22 l23 l24 l25 : FuncData) (t23 t24 t25 tg_NEAR tg_CUT tg_UP : Tok) (fW : Addr) : Prop where
  F_cut_off : Fun K "cut_off" "cut_off" s_cut_off a1 l1
  m_cut_off : mg "cut_off" = some (.ref a1)
  b_cut_off : Binds K l1 ["number", "by"] []
  F_last_power : Fun K "last_power" "last_power" s_last_power a2 l2
  m_last_power : mg "last_power" = some (.ref a2)
  b_last_power : Binds K l2 ["form", "number", "power"] []
  F_least_power : Fun K "least_power" "least_power" s_least_power a3 l3
  m_least_power : mg "least_power" = some (.ref a3)
  b_least_power : Binds K l3 ["form"] []
  F_rounded : Fun K "rounded" "rounded" s_rounded a4 l4
  m_rounded : mg "rounded" = some (.ref a4)
  kb_rounded_way : ∃ g, KBn K l4 ["form", "sign", "number", "power", "way", "more"] 4 ["way"] g (fun vs zs => vs ++ (zs ++ [.bl false]))
  F_parted : Fun K "parted" "parted" s_parted a5 l5
  m_parted : mg "parted" = some (.ref a5)
  b_parted : Binds K l5 ["number", "by", "more"] []
  F_goes_up : Fun K "goes_up" "goes_up" s_goes_up a6 l6
  m_goes_up : mg "goes_up" = some (.ref a6)
  b_goes_up : Binds K l6 ["way", "sign", "many", "rest"] []
  F_goes_away : Fun K "goes_away" "goes_away" s_goes_away a7 l7
  m_goes_away : mg "goes_away" = some (.ref a7)
  b_goes_away : Binds K l7 ["way", "sign"] []
  F_word_beyond : Fun K "word_beyond" "word_beyond" s_word_beyond a8 l8
  m_word_beyond : mg "word_beyond" = some (.ref a8)
  b_word_beyond : Binds K l8 ["form", "sign", "way"] []
  F_flags_of_rest : Fun K "flags_of_rest" "flags_of_rest" s_flags_of_rest a9 l9
  m_flags_of_rest : mg "flags_of_rest" = some (.ref a9)
  b_flags_of_rest : Binds K l9 ["form", "number", "power", "rest"] []
  F_is_number : Fun K "is_number" "is_number" s_is_number a10 l10
  m_is_number : mg "is_number" = some (.ref a10)
  b_is_number : Binds K l10 ["thing"] []
  F_is_number_in : Fun K "is_number_in" "is_number_in" s_is_number_in a11 l11
  m_is_number_in : mg "is_number_in" = some (.ref a11)
  b_is_number_in : Binds K l11 ["least", "greatest", "thing"] []
  F__law_box : Fun K "_law_box" "_law_box" sBox a12 l12
  m__law_box : mg "_law_box" = some (.ref a12)
  b__law_box : Binds K l12 ["_law_script", "_law_k"] []
  F__law_take : Fun K "_law_take" "_law_take" sTake a13 l13
  m__law_take : mg "_law_take" = some (.ref a13)
  b__law_take : Binds K l13 ["_law_box_here", "_law_size"] []
  F__law_folded : Fun K "_law_folded" "_law_folded" sFolded a14 l14
  m__law_folded : mg "_law_folded" = some (.ref a14)
  b__law_folded : Binds K l14 ["_law_script", "_law_size"] []
  F__law_same : Fun K "_law_same" "_law_same" sSame a15 l15
  m__law_same : mg "_law_same" = some (.ref a15)
  b__law_same : Binds K l15 ["_law_found", "_law_due_here"] []
  F__law_least : Fun K "_law_least" "_law_least" s__law_least a16 l16
  m__law_least : mg "_law_least" = some (.ref a16)
  b__law_least : Binds K l16 ["_law_scale", "_law_tail"] []
  F__law_table : Fun K "_law_table" "_law_table" s__law_table a17 l17
  m__law_table : mg "_law_table" = some (.ref a17)
  b__law_table : Binds K l17 ["_law_scale", "_law_tail"] []
  F__law_due : Fun K "_law_due" "_law_due" s__law_due a18 l18
  m__law_due : mg "_law_due" = some (.ref a18)
  b__law_due : Binds K l18 ["_law_table_here", "_law_tail", "_law_worth", "_law_by", "_law_away", "_law_how"] []
  T : FT K mg C
  M : Mk K C a19
  F_Form___init__ : Fun K "__init__" "Form.__init__" s_Form___init__ a19 l19
  b_Form___init__ : Binds K l19 ["self", "scale", "tail"] []
  F_Form_bias : Fun K "bias" "Form.bias" s_Form_bias a20 l20
  b_Form_bias : Binds K l20 ["self"] []
  M_Form_bias : Meth K C "bias" a20
  F_Form_top : Fun K "top" "Form.top" s_Form_top a21 l21
  b_Form_top : Binds K l21 ["self"] []
  M_Form_top : Meth K C "top" a21
  F_Form_word_of : Fun K "word_of" "Form.word_of" s_Form_word_of a22 l22
  b_Form_word_of : Binds K l22 ["self", "sign", "scale", "tail"] []
  M_Form_word_of : Meth K C "word_of" a22
  F_Form_nought : FunA K "nought" "Form.nought" s_Form_nought a23 l23
  b_Form_nought : Binds K l23 ["self", "sign"] []
  M_Form_nought : Meth K C "nought" a23
  d_Form_nought : Binds K l23 ["self", "sign"] [.int 0 t23]
  F_Form_endless : FunA K "endless" "Form.endless" s_Form_endless a24 l24
  b_Form_endless : Binds K l24 ["self", "sign"] []
  M_Form_endless : Meth K C "endless" a24
  d_Form_endless : Binds K l24 ["self", "sign"] [.int 0 t24]
  F_Form_greatest : FunA K "greatest" "Form.greatest" s_Form_greatest a25 l25
  b_Form_greatest : Binds K l25 ["self", "sign"] []
  M_Form_greatest : Meth K C "greatest" a25
  d_Form_greatest : Binds K l25 ["self", "sign"] [.int 0 t25]
  g_NEAR : mg "NEAR" = some (.str "near" tg_NEAR)
  g_CUT : mg "CUT" = some (.str "cut" tg_CUT)
  g_UP : mg "UP" = some (.str "up" tg_UP)
  W : WG K mg fW
variable {C : Addr} {a1 a2 a3 a4 a5 a6 a7 a8 a9 a10 a11 a12 a13 a14 a15 a16 a17 a18 a19 a20 a21 a22 a23 a24 a25 : Addr} {l1 l2 l3 l4 l5 l6 l7 l8 l9 l10 l11 l12 l13 l14 l15 l16 l17 l18 l19 l20 l21 l22 l23 l24 l25 : FuncData} {t23 t24 t25 tg_NEAR tg_CUT tg_UP : Tok} {fW : Addr}

/-! ### is_number, is_number_in -/
inductive Th (K : PySem.W.Frag) (H : Hp) : V → Prop
  | non : Th K H .non
  | bl (b : Bool) : Th K H (.bl b)
  | int (i : Int) : Th K H (.int i)
  | str (x : Str) : Th K H (.str x)
def isI : V → Bool
  | .int _ => true
  | _ => false
def numIn (a b : Int) : V → Bool
  | .int z => decide (a ≤ z) && decide (z ≤ b)
  | _ => false
def spNum (K : PySem.W.Frag) : Sp := fun vs H Q _ => ∃ x : V, vs = [x] ∧ Th K H x ∧ Q (.bl (isI x)) H
theorem ok_is_number (B : Bl mg) (L : LL K mg C a1 a2 a3 a4 a5 a6 a7 a8 a9 a10 a11 a12 a13 a14 a15 a16 a17 a18 a19 a20 a21 a22 a23 a24 a25 l1 l2 l3 l4 l5 l6 l7 l8 l9 l10 l11 l12 l13 l14 l15 l16 l17 l18 l19 l20 l21 l22 l23 l24 l25 t23 t24 t25 tg_NEAR tg_CUT tg_UP fW) : FnOk P w K mg base CX0 1 a10 l10 ["thing"] (spNum K) := by
  refine L.F_is_number.ok sc_is_number (fun vs H Q E h => ?_) (fun cdv A outer s H vs Q E hr h => ?_)
  · obtain ⟨x, rfl, _⟩ := h
    rfl
  obtain ⟨x, rfl, hx, q⟩ := h
  refine ⟨_, (pss_one (ps_ret (pe_and (pe_callB call_isi (by rfl) B.isinstance boot_isinstance (pa_cons (pv 0) (pa_cons (pe_bltn (v := .ty "int") (by rfl) B.int PyProof.Rows.boot_int rfl) pa_nil))) (pe_one (pe_not (pe_callB call_isi (by rfl) B.isinstance boot_isinstance (pa_cons (pv 0) (pa_cons (pe_bltn (v := .ty "bool") (by rfl) B.bool PyProof.Rows.boot_bool rfl) pa_nil)))))))), ?_⟩
  cases hx with
  | non => exact ⟨_, rfl, _, _, _, _, _, rfl, .ty _, .base .non, kit_ty (by decide +kernel : kitB "NoneType" "int" = some false), _, rfl, iteF q⟩
  | bl b =>
    refine ⟨_, rfl, _, _, _, _, _, rfl, .ty _, .base (.bl _), kit_ty (by decide +kernel : kitB "bool" "int" = some true), _, rfl, iteT ?_⟩
    exact ⟨_, rfl, _, _, _, _, _, rfl, .ty _, .base (.bl _), kit_ty (by decide +kernel : kitB "bool" "bool" = some true), _, rfl, q⟩
  | int i =>
    refine ⟨_, rfl, _, _, _, _, _, rfl, .ty _, .base (.int _), kit_ty (by decide +kernel : kitB "int" "int" = some true), _, rfl, iteT ?_⟩
    exact ⟨_, rfl, _, _, _, _, _, rfl, .ty _, .base (.int _), kit_ty (by decide +kernel : kitB "int" "bool" = some false), _, rfl, q⟩
  | str z => exact ⟨_, rfl, _, _, _, _, _, rfl, .ty _, .base (.str _), kit_ty (by decide +kernel : kitB "str" "int" = some false), _, rfl, iteF q⟩
def spNumIn (K : PySem.W.Frag) : Sp := fun vs H Q _ => ∃ (a b : Int) (x : V), vs = [.int a, .int b, x] ∧ Th K H x ∧ Q (.bl (numIn a b x)) H
theorem ok_is_number_in (B : Bl mg) (L : LL K mg C a1 a2 a3 a4 a5 a6 a7 a8 a9 a10 a11 a12 a13 a14 a15 a16 a17 a18 a19 a20 a21 a22 a23 a24 a25 l1 l2 l3 l4 l5 l6 l7 l8 l9 l10 l11 l12 l13 l14 l15 l16 l17 l18 l19 l20 l21 l22 l23 l24 l25 t23 t24 t25 tg_NEAR tg_CUT tg_UP fW) : FnOk P w K mg base CX0 2 a11 l11 ["least", "greatest", "thing"] (spNumIn K) := by
  have G_is_number : FnOk P w K mg base CX0 1 a10 l10 ["thing"] (spNum K) := (ok_is_number B L).mono (by decide)
  refine L.F_is_number_in.ok sc_is_number_in (fun vs H Q E h => ?_) (fun cdv A outer s H vs Q E hr h => ?_)
  · obtain ⟨a, b, x, rfl, _⟩ := h
    rfl
  obtain ⟨a, b, x, rfl, hx, q⟩ := h
  refine ⟨_, (pss_one (ps_ret (pe_and (pe_call G_is_number hr (by rfl) L.m_is_number L.F_is_number.kp L.b_is_number .nil pass0 (pa_cons (pv 2) pa_nil)) (pe_one (pe_chain op_le op_le (pv 0) (pv 2) (pv 1)))))), ?_⟩
  refine ⟨_, rfl, _, rfl, hx, _, rfl, ?_⟩
  cases hx with
  | non => exact iteF q
  | bl b => exact iteF q
  | str z => exact iteF q
  | int z =>
    refine iteT ?_
    refine ⟨_, rfl, _, rfl, _, _, rfl, rfl, _, rfl, ite2 (fun c => ?_) (fun c => ?_)⟩
    · refine ⟨_, rfl, _, _, rfl, rfl, ?_⟩
      rw [show numIn a b (.int z) = decide (z ≤ b) by show (decide (a ≤ z) && decide (z ≤ b)) = _; rw [c]; rfl] at q
      exact q
    · rw [show numIn a b (.int z) = false by show (decide (a ≤ z) && decide (z ≤ b)) = _; rw [Bool.eq_false_iff.mpr c]; rfl] at q
      exact q
/-! ### Form(scale, tail) and its words -/
def spInit (C : Addr) : Sp := fun vs H Q _ => ∃ (x dx : Addr) (sc tl : Nat), vs = [.ref x, .int (sc : Int), .int (tl : Int)] ∧ H x = some (.ins C dx []) ∧ 2 ≤ sc ∧ sc ≤ 8 ∧ 1 ≤ tl ∧ tl ≤ 24 ∧
  ∀ H', FAt C H' x sc tl → (∀ p o, H p = some o → p ≠ x → H' p = some o) → Q .non H'
theorem numIn_t {a b z : Int} (h1 : a ≤ z) (h2 : z ≤ b) : numIn a b (.int z) = true := by
  show (decide (a ≤ z) && decide (z ≤ b)) = true
  rw [decide_eq_true h1, decide_eq_true h2]
  rfl
theorem ok_Form___init__ (B : Bl mg) (L : LL K mg C a1 a2 a3 a4 a5 a6 a7 a8 a9 a10 a11 a12 a13 a14 a15 a16 a17 a18 a19 a20 a21 a22 a23 a24 a25 l1 l2 l3 l4 l5 l6 l7 l8 l9 l10 l11 l12 l13 l14 l15 l16 l17 l18 l19 l20 l21 l22 l23 l24 l25 t23 t24 t25 tg_NEAR tg_CUT tg_UP fW) : FnOk P w K mg base CX0 3 a19 l19 ["self", "scale", "tail"] (spInit C) := by
  have G_is_number_in : FnOk P w K mg base CX0 2 a11 l11 ["least", "greatest", "thing"] (spNumIn K) := (ok_is_number_in B L).mono (by decide)
  refine L.F_Form___init__.ok sc_Form___init__ (fun vs H Q E h => ?_) (fun cdv A outer s H vs Q E hr h => ?_)
  · obtain ⟨x, dx, sc, tl, rfl, _⟩ := h
    rfl
  obtain ⟨x, dx, sc, tl, rfl, hx, h1, h2, h3, h4, q⟩ := h
  refine ⟨_, (pss_cons (ps_if (pt_not (pt_val (pe_call G_is_number_in hr (by rfl) L.m_is_number_in L.F_is_number_in.kp L.b_is_number_in .nil pass0 (pa_cons pe_int (pa_cons pe_int (pa_cons (pv 1) pa_nil)))))) (pss_one ps_never) pss_nil)
    (pss_cons (ps_if (pt_not (pt_val (pe_call G_is_number_in hr (by rfl) L.m_is_number_in L.F_is_number_in.kp L.b_is_number_in .nil pass0 (pa_cons pe_int (pa_cons pe_int (pa_cons (pv 2) pa_nil)))))) (pss_one ps_never) pss_nil)
    (pss_cons (ps_fld (pv 0) (pv 1) rfl)
    (pss_one (ps_fld (pv 0) (pv 2) rfl))))), ?_⟩
  refine ⟨_, rfl, _, _, _, rfl, .int _, ?_⟩
  rw [numIn_t (by omega) (by omega)]
  refine ⟨_, rfl, iteF ?_⟩
  refine ⟨_, rfl, _, _, _, rfl, .int _, ?_⟩
  rw [numIn_t (by omega) (by omega)]
  refine ⟨_, rfl, iteF ?_⟩
  refine ⟨_, rfl, _, rfl, x, C, dx, _, rfl, hx, L.T.cl, L.T.ns, (by decide), ?_⟩
  refine ⟨_, rfl, _, rfl, x, C, dx, _, rfl, upd_same, L.T.cl, L.T.nt, (by show 1 < 1000; decide), ?_⟩
  refine q _ ⟨dx, upd_same, h1, h2, h3, h4⟩ fun p o e n => ?_
  rw [upd_ne n, upd_ne n]
  exact e
def spBias (C : Addr) : Sp := fun vs H Q _ => ∃ (x : Addr) (sc tl : Nat), vs = [.ref x] ∧ FAt C H x sc tl ∧ Q (.int (2 ^ (sc - 1) - 1)) H
theorem ok_Form_bias (B : Bl mg) (L : LL K mg C a1 a2 a3 a4 a5 a6 a7 a8 a9 a10 a11 a12 a13 a14 a15 a16 a17 a18 a19 a20 a21 a22 a23 a24 a25 l1 l2 l3 l4 l5 l6 l7 l8 l9 l10 l11 l12 l13 l14 l15 l16 l17 l18 l19 l20 l21 l22 l23 l24 l25 t23 t24 t25 tg_NEAR tg_CUT tg_UP fW) : FnOk P w K mg base CX0 1 a20 l20 ["self"] (spBias C) := by
  refine L.F_Form_bias.ok sc_Form_bias (fun vs H Q E h => ?_) (fun cdv A outer s H vs Q E hr h => ?_)
  · obtain ⟨x, sc, tl, rfl, _⟩ := h
    rfl
  obtain ⟨x, sc, tl, rfl, ⟨dx, hx, h1, h2, h3, h4⟩, q⟩ := h
  refine ⟨_, (pss_one (ps_ret (pe_op op_sub (pe_op op_oneShl pe_int (pe_op op_sub (pe_fld (pv 0) rfl) pe_int)) pe_int))), ?_⟩
  exact ⟨_, rfl, x, C, dx, _, _, rfl, hx, L.T.cl, L.T.ns, fl_s _ _, _, _, rfl, rfl, sc - 1, rfl, congrArg V.int (by omega), by omega, _, _, rfl, rfl, q⟩
def spTop (C : Addr) : Sp := fun vs H Q _ => ∃ (x : Addr) (sc tl : Nat), vs = [.ref x] ∧ FAt C H x sc tl ∧ Q (.int (2 ^ sc - 1)) H
theorem ok_Form_top (B : Bl mg) (L : LL K mg C a1 a2 a3 a4 a5 a6 a7 a8 a9 a10 a11 a12 a13 a14 a15 a16 a17 a18 a19 a20 a21 a22 a23 a24 a25 l1 l2 l3 l4 l5 l6 l7 l8 l9 l10 l11 l12 l13 l14 l15 l16 l17 l18 l19 l20 l21 l22 l23 l24 l25 t23 t24 t25 tg_NEAR tg_CUT tg_UP fW) : FnOk P w K mg base CX0 1 a21 l21 ["self"] (spTop C) := by
  refine L.F_Form_top.ok sc_Form_top (fun vs H Q E h => ?_) (fun cdv A outer s H vs Q E hr h => ?_)
  · obtain ⟨x, sc, tl, rfl, _⟩ := h
    rfl
  obtain ⟨x, sc, tl, rfl, ⟨dx, hx, h1, h2, h3, h4⟩, q⟩ := h
  refine ⟨_, (pss_one (ps_ret (pe_op op_sub (pe_op op_oneShl pe_int (pe_fld (pv 0) rfl)) pe_int))), ?_⟩
  exact ⟨_, rfl, x, C, dx, _, _, rfl, hx, L.T.cl, L.T.ns, fl_s _ _, sc, rfl, rfl, by omega, _, _, rfl, rfl, q⟩
def spWordOf (C : Addr) : Sp := fun vs H Q _ => ∃ (x : Addr) (sc tl : Nat) (s m t : Int), vs = [.ref x, .int s, .int m, .int t] ∧ FAt C H x sc tl ∧ (s = 0 ∨ s = 1) ∧ 0 ≤ m ∧ m < 2 ^ sc ∧ 0 ≤ t ∧ t < 2 ^ tl ∧ Q (.int (s * 2 ^ (sc + tl) + (m * 2 ^ tl + t))) H
theorem ok_Form_word_of (B : Bl mg) (L : LL K mg C a1 a2 a3 a4 a5 a6 a7 a8 a9 a10 a11 a12 a13 a14 a15 a16 a17 a18 a19 a20 a21 a22 a23 a24 a25 l1 l2 l3 l4 l5 l6 l7 l8 l9 l10 l11 l12 l13 l14 l15 l16 l17 l18 l19 l20 l21 l22 l23 l24 l25 t23 t24 t25 tg_NEAR tg_CUT tg_UP fW) : FnOk P w K mg base CX0 1 a22 l22 ["self", "sign", "scale", "tail"] (spWordOf C) := by
  refine L.F_Form_word_of.ok sc_Form_word_of (fun vs H Q E h => ?_) (fun cdv A outer s H vs Q E hr h => ?_)
  · obtain ⟨x, sc, tl, s, m, t, rfl, _⟩ := h
    rfl
  obtain ⟨x, sc, tl, s, m, t, rfl, ⟨dx, hx, h1, h2, h3, h4⟩, hs, m0, m1, t0, t1, q⟩ := h
  refine ⟨_, (pss_one (ps_ret (pe_op op_orL (pe_op op_orL (pe_op op_shlN (pv 1) (pe_op op_add (pe_fld (pv 0) rfl) (pe_fld (pv 0) rfl))) (pe_op op_shlN (pv 2) (pe_fld (pv 0) rfl))) (pv 3)))), ?_⟩
  have p8 : (2 : Int) ^ sc ≤ 2 ^ 8 := GM.pow_le' h2
  have hp := GM.pow_pos' tl
  have hms : m * 2 ^ tl < 2 ^ (sc + tl) := by
    rw [GM.pow_add']
    exact Int.mul_lt_mul_of_pos_right m1 hp
  refine ⟨_, rfl, _, rfl, x, C, dx, _, _, rfl, hx, L.T.cl, L.T.ns, fl_s _ _, _, rfl, x, C, dx, _, _, rfl, hx, L.T.cl, L.T.nt, fl_t _ _, _, _, rfl, rfl, _, sc + tl, rfl, rfl, shl_ok (n := 1) (by omega) (by omega), ?_⟩
  refine ⟨_, rfl, _, rfl, x, C, dx, _, _, rfl, hx, L.T.cl, L.T.nt, fl_t _ _, _, tl, rfl, rfl, shl_ok (n := 9) (by omega) (by omega), ?_⟩
  refine ⟨s, _, sc + tl, rfl, rfl, ⟨by omega, Int.mul_nonneg m0 (by omega), hms⟩, ?_⟩
  have e : s * 2 ^ (sc + tl) + m * 2 ^ tl = (s * 2 ^ sc + m) * 2 ^ tl := by
    rw [GM.pow_add', Int.add_mul, Int.mul_assoc]
  refine ⟨_, rfl, s * 2 ^ sc + m, t, tl, congrArg V.int e, rfl, ⟨?_, t0, t1⟩, ?_⟩
  · have := GM.pow_pos' sc
    rcases hs with z | z <;> subst z <;> omega
  rw [← e, Int.add_assoc]
  exact q
/-- a named word: its sign, scale and tail -/
def spNm (C : Addr) (m t : Nat → Nat → Int) : Sp := fun vs H Q _ => ∃ (x : Addr) (sc tl : Nat) (g : Int), vs = [.ref x, .int g] ∧ FAt C H x sc tl ∧ (g = 0 ∨ g = 1) ∧ Q (.int (g * 2 ^ (sc + tl) + (m sc tl * 2 ^ tl + t sc tl))) H
def mNo : Nat → Nat → Int := fun _ _ => 0
def mEn : Nat → Nat → Int := fun sc _ => 2 ^ sc - 1
def mGr : Nat → Nat → Int := fun sc _ => 2 ^ sc - 1 - 1
def tGr : Nat → Nat → Int := fun _ tl => 2 ^ tl - 1
theorem ok_Form_nought (B : Bl mg) (L : LL K mg C a1 a2 a3 a4 a5 a6 a7 a8 a9 a10 a11 a12 a13 a14 a15 a16 a17 a18 a19 a20 a21 a22 a23 a24 a25 l1 l2 l3 l4 l5 l6 l7 l8 l9 l10 l11 l12 l13 l14 l15 l16 l17 l18 l19 l20 l21 l22 l23 l24 l25 t23 t24 t25 tg_NEAR tg_CUT tg_UP fW) : FnOk P w K mg base CX0 2 a23 l23 ["self", "sign"] (spNm C mNo mNo) := by
  have G_Form_word_of : FnOk P w K mg base CX0 1 a22 l22 ["self", "sign", "scale", "tail"] (spWordOf C) := (ok_Form_word_of B L).mono (by decide)
  refine L.F_Form_nought.ok sc_Form_nought (fun vs H Q E h => ?_) (fun cdv A outer s H vs Q E hr h => ?_)
  · obtain ⟨x, sc, tl, v, rfl, _⟩ := h
    rfl
  obtain ⟨x, sc, tl, g, rfl, hF, hg, q⟩ := h
  obtain ⟨dx, hx, h1, h2, h3, h4⟩ := id hF
  have pS := GM.pow_pos' sc
  have pT := GM.pow_pos' tl
  refine ⟨_, (pss_one (ps_ret (pe_meth (pv 0) L.T.cl L.M_Form_word_of G_Form_word_of hr L.b_Form_word_of .nil pass0 (pa_cons (pv 1) (pa_cons pe_int (pa_cons pe_int pa_nil)))))), ?_⟩
  exact ⟨_, rfl, x, dx, _, rfl, hx, rfl, _, rfl, x, sc, tl, _, _, _, rfl, hF, hg, by decide, pS, by decide, pT, q⟩
theorem ok_Form_endless (B : Bl mg) (L : LL K mg C a1 a2 a3 a4 a5 a6 a7 a8 a9 a10 a11 a12 a13 a14 a15 a16 a17 a18 a19 a20 a21 a22 a23 a24 a25 l1 l2 l3 l4 l5 l6 l7 l8 l9 l10 l11 l12 l13 l14 l15 l16 l17 l18 l19 l20 l21 l22 l23 l24 l25 t23 t24 t25 tg_NEAR tg_CUT tg_UP fW) : FnOk P w K mg base CX0 2 a24 l24 ["self", "sign"] (spNm C mEn mNo) := by
  have G_Form_word_of : FnOk P w K mg base CX0 1 a22 l22 ["self", "sign", "scale", "tail"] (spWordOf C) := (ok_Form_word_of B L).mono (by decide)
  have G_Form_top : FnOk P w K mg base CX0 1 a21 l21 ["self"] (spTop C) := (ok_Form_top B L).mono (by decide)
  refine L.F_Form_endless.ok sc_Form_endless (fun vs H Q E h => ?_) (fun cdv A outer s H vs Q E hr h => ?_)
  · obtain ⟨x, sc, tl, v, rfl, _⟩ := h
    rfl
  obtain ⟨x, sc, tl, g, rfl, hF, hg, q⟩ := h
  obtain ⟨dx, hx, h1, h2, h3, h4⟩ := id hF
  have pS := GM.pow_pos' sc
  have pT := GM.pow_pos' tl
  refine ⟨_, (pss_one (ps_ret (pe_meth (pv 0) L.T.cl L.M_Form_word_of G_Form_word_of hr L.b_Form_word_of .nil pass0 (pa_cons (pv 1) (pa_cons (pe_meth0 (pv 0) L.T.cl L.M_Form_top G_Form_top hr L.b_Form_top .nil pass0) (pa_cons pe_int pa_nil)))))), ?_⟩
  exact ⟨_, rfl, x, dx, _, rfl, hx, rfl, _, rfl, _, rfl, x, dx, _, rfl, hx, rfl, x, sc, tl, rfl, hF, x, sc, tl, _, _, _, rfl, hF, hg, by omega, by omega, by decide, pT, q⟩
theorem ok_Form_greatest (B : Bl mg) (L : LL K mg C a1 a2 a3 a4 a5 a6 a7 a8 a9 a10 a11 a12 a13 a14 a15 a16 a17 a18 a19 a20 a21 a22 a23 a24 a25 l1 l2 l3 l4 l5 l6 l7 l8 l9 l10 l11 l12 l13 l14 l15 l16 l17 l18 l19 l20 l21 l22 l23 l24 l25 t23 t24 t25 tg_NEAR tg_CUT tg_UP fW) : FnOk P w K mg base CX0 2 a25 l25 ["self", "sign"] (spNm C mGr tGr) := by
  have G_Form_word_of : FnOk P w K mg base CX0 1 a22 l22 ["self", "sign", "scale", "tail"] (spWordOf C) := (ok_Form_word_of B L).mono (by decide)
  have G_Form_top : FnOk P w K mg base CX0 1 a21 l21 ["self"] (spTop C) := (ok_Form_top B L).mono (by decide)
  refine L.F_Form_greatest.ok sc_Form_greatest (fun vs H Q E h => ?_) (fun cdv A outer s H vs Q E hr h => ?_)
  · obtain ⟨x, sc, tl, v, rfl, _⟩ := h
    rfl
  obtain ⟨x, sc, tl, g, rfl, hF, hg, q⟩ := h
  obtain ⟨dx, hx, h1, h2, h3, h4⟩ := id hF
  have pS : (2 : Int) ^ 2 ≤ 2 ^ sc := GM.pow_le' h1
  have pT := GM.pow_pos' tl
  refine ⟨_, (pss_one (ps_ret (pe_meth (pv 0) L.T.cl L.M_Form_word_of G_Form_word_of hr L.b_Form_word_of .nil pass0 (pa_cons (pv 1) (pa_cons (pe_op op_sub (pe_meth0 (pv 0) L.T.cl L.M_Form_top G_Form_top hr L.b_Form_top .nil pass0) pe_int) (pa_cons (pe_op op_sub (pe_op op_oneShl pe_int (pe_fld (pv 0) rfl)) pe_int) pa_nil)))))), ?_⟩
  refine ⟨_, rfl, x, dx, _, rfl, hx, rfl, _, rfl, _, rfl, x, dx, _, rfl, hx, rfl, x, sc, tl, rfl, hF, _, _, rfl, rfl, ?_⟩
  exact ⟨_, rfl, x, C, dx, _, _, rfl, hx, L.T.cl, L.T.nt, fl_t _ _, tl, rfl, rfl, by omega, _, _, rfl, rfl, x, sc, tl, _, _, _, rfl, hF, hg, by omega, by omega, by omega, by omega, q⟩
end
section
variable {P : Program} {w : World} {K : PySem.W.Frag} {mg : Str → Option Value} {base : Heap}
variable {C : Addr} {a1 a2 a3 a4 a5 a6 a7 a8 a9 a10 a11 a12 a13 a14 a15 a16 a17 a18 a19 a20 a21 a22 a23 a24 a25 : Addr} {l1 l2 l3 l4 l5 l6 l7 l8 l9 l10 l11 l12 l13 l14 l15 l16 l17 l18 l19 l20 l21 l22 l23 l24 l25 : FuncData} {t23 t24 t25 tg_NEAR tg_CUT tg_UP : Tok} {fW : Addr}
/-! ### numbers of no more than 4000 bits -/
def Fit (n : Int) : Prop := 0 ≤ n ∧ Builtin.Int.intBits n ≤ 4000
theorem fit_shl {n : Int} {j : Nat} (h : Fit n) (hj : j ≤ 100000) : CShl n (j : Int) := by
  refine shl_ok (n := 4000) ?_ (by omega)
  exact Nat.lt_of_lt_of_le (PyProof.Rows.natAbs_lt_pow_bits n) (Nat.pow_le_pow_right (by decide) h.2)
theorem fit_div {n : Int} {j : Nat} (h : Fit n) : Fit (n / 2 ^ j) := by
  have hp := GM.pow_pos' j
  have h0 : 0 ≤ n / 2 ^ j := Int.ediv_nonneg h.1 (by omega)
  have h1 : n / 2 ^ j ≤ n := Int.ediv_le_self _ h.1
  refine ⟨h0, ?_⟩
  refine Nat.le_trans (PyProof.Rows.intBits_le (k := Builtin.Int.intBits n) ?_) h.2
  have := PyProof.Rows.natAbs_lt_pow_bits n
  exact Nat.lt_of_le_of_lt (by omega) this
theorem dvi (a b : Int) : decide (V.int a = V.int b) = decide (a = b) := by
  by_cases c : a = b
  · rw [decide_eq_true c, decide_eq_true (congrArg V.int c)]
  · rw [decide_eq_false c, decide_eq_false (fun z => c (V.int.inj z))]
theorem dvs (a b : Str) : decide (V.str a = V.str b) = decide (a = b) := by
  by_cases c : a = b
  · rw [decide_eq_true c, decide_eq_true (congrArg V.str c)]
  · rw [decide_eq_false c, decide_eq_false (fun z => c (V.str.inj z))]
/-! ### cut_off -/
def spCut : Sp := fun vs H Q _ => ∃ n b : Int, vs = [.int n, .int b] ∧ Fit n ∧ -10000 ≤ b ∧ b ≤ 10000 ∧
  ∀ p, H p = none → Q (.ref p) (upd H p (.tup [.int (GR.cutQ n b), .bl (GR.cutR n b)]))
theorem ok_cut_off (B : Bl mg) (L : LL K mg C a1 a2 a3 a4 a5 a6 a7 a8 a9 a10 a11 a12 a13 a14 a15 a16 a17 a18 a19 a20 a21 a22 a23 a24 a25 l1 l2 l3 l4 l5 l6 l7 l8 l9 l10 l11 l12 l13 l14 l15 l16 l17 l18 l19 l20 l21 l22 l23 l24 l25 t23 t24 t25 tg_NEAR tg_CUT tg_UP fW) : FnOk P w K mg base CX0 1 a1 l1 ["number", "by"] spCut := by
  refine L.F_cut_off.ok sc_cut_off (fun vs H Q E h => ?_) (fun cdv A outer s H vs Q E hr h => ?_)
  · obtain ⟨n, b, rfl, _⟩ := h
    rfl
  obtain ⟨n, b, rfl, hf, h1, h2, q⟩ := h
  refine ⟨_, (pss_cons (ps_if (pt_cmpR op_lt (pv 1) pe_int (nomark _)) (pss_one (ps_ret (pe_tup (pa_cons (pe_op op_shlN (pv 0) (pe_un un_neg (pv 1))) (pa_cons pe_bl pa_nil))))) pss_nil)
    (pss_cons (ps_set (i := 2) sc_cut_off.nd rfl (.inl rfl) (pe_op op_shrN (pv 0) (pv 1)))
    (pss_one (ps_ret (pe_tup (pa_cons (pv 2) (pa_cons (pe_cmpR op_ne (pe_op op_shlN (pv 2) (pv 1)) (pv 0) (nomark _)) pa_nil))))))), ?_⟩
  refine ⟨_, rfl, _, _, rfl, rfl, _, rfl, ite2 (fun c => ?_) (fun c => ?_)⟩
  · have c1 : b < 0 := of_decide_eq_true c
    unfold GR.cutQ GR.cutR at q
    rw [if_pos c1, if_pos c1] at q
    refine ⟨_, rfl, _, rfl, _, rfl, _, (-b).toNat, rfl, congrArg V.int (by omega), fit_shl hf (by omega), (by show 2 ≤ sizeLine; decide), fun p np => ?_⟩
    exact q p np
  · have c1 : ¬ b < 0 := of_decide_eq_false (Bool.eq_false_iff.mpr c)
    unfold GR.cutQ GR.cutR at q
    rw [if_neg c1, if_neg c1] at q
    refine ⟨_, rfl, _, rfl, _, b.toNat, rfl, congrArg V.int (by omega), ?_⟩
    refine ⟨_, rfl, _, rfl, _, rfl, _, b.toNat, rfl, congrArg V.int (by omega), fit_shl (fit_div hf) (by omega), _, rfl, rfl, (by show 2 ≤ sizeLine; decide), fun p np => ?_⟩
    rw [dvi]
    exact q p np
/-! ### least_power, last_power -/
def spLea (C : Addr) : Sp := fun vs H Q _ => ∃ (x : Addr) (sc tl : Nat), vs = [.ref x] ∧ FAt C H x sc tl ∧ Q (.int (GR.lea sc tl)) H
theorem ok_least_power (B : Bl mg) (L : LL K mg C a1 a2 a3 a4 a5 a6 a7 a8 a9 a10 a11 a12 a13 a14 a15 a16 a17 a18 a19 a20 a21 a22 a23 a24 a25 l1 l2 l3 l4 l5 l6 l7 l8 l9 l10 l11 l12 l13 l14 l15 l16 l17 l18 l19 l20 l21 l22 l23 l24 l25 t23 t24 t25 tg_NEAR tg_CUT tg_UP fW) : FnOk P w K mg base CX0 2 a3 l3 ["form"] (spLea C) := by
  have G_Form_bias : FnOk P w K mg base CX0 1 a20 l20 ["self"] (spBias C) := (ok_Form_bias B L).mono (by decide)
  refine L.F_least_power.ok sc_least_power (fun vs H Q E h => ?_) (fun cdv A outer s H vs Q E hr h => ?_)
  · obtain ⟨x, sc, tl, rfl, _⟩ := h
    rfl
  obtain ⟨x, sc, tl, rfl, hF, q⟩ := h
  obtain ⟨dx, hx, h1, h2, h3, h4⟩ := id hF
  refine ⟨_, (pss_one (ps_ret (pe_op op_sub (pe_op op_sub pe_int (pe_meth0 (pv 0) L.T.cl L.M_Form_bias G_Form_bias hr L.b_Form_bias .nil pass0)) (pe_fld (pv 0) rfl)))), ?_⟩
  exact ⟨_, rfl, x, dx, _, rfl, hx, rfl, x, sc, tl, rfl, hF, _, _, rfl, rfl, _, rfl, x, C, dx, _, _, rfl, hx, L.T.cl, L.T.nt, fl_t _ _, _, _, rfl, rfl, q⟩
def spLap (C : Addr) : Sp := fun vs H Q _ => ∃ (x : Addr) (sc tl : Nat) (n p : Int), vs = [.ref x, .int n, .int p] ∧ FAt C H x sc tl ∧ Q (.int (GR.lap sc tl n p)) H
theorem ok_last_power (B : Bl mg) (L : LL K mg C a1 a2 a3 a4 a5 a6 a7 a8 a9 a10 a11 a12 a13 a14 a15 a16 a17 a18 a19 a20 a21 a22 a23 a24 a25 l1 l2 l3 l4 l5 l6 l7 l8 l9 l10 l11 l12 l13 l14 l15 l16 l17 l18 l19 l20 l21 l22 l23 l24 l25 t23 t24 t25 tg_NEAR tg_CUT tg_UP fW) : FnOk P w K mg base CX0 3 a2 l2 ["form", "number", "power"] (spLap C) := by
  have G_least_power : FnOk P w K mg base CX0 2 a3 l3 ["form"] (spLea C) := (ok_least_power B L).mono (by decide)
  refine L.F_last_power.ok sc_last_power (fun vs H Q E h => ?_) (fun cdv A outer s H vs Q E hr h => ?_)
  · obtain ⟨x, sc, tl, n, p, rfl, _⟩ := h
    rfl
  obtain ⟨x, sc, tl, n, p, rfl, hF, q⟩ := h
  obtain ⟨dx, hx, h1, h2, h3, h4⟩ := id hF
  refine ⟨_, (pss_one (ps_ret (pe_callB (call_max2 rfl) (by rfl) B.max boot_max (pa_cons (pe_op op_sub (pe_op op_sub (pe_op op_add (pe_bits (pv 1)) (pv 2)) pe_int) (pe_fld (pv 0) rfl)) (pa_cons (pe_call G_least_power hr (by rfl) L.m_least_power L.F_least_power.kp L.b_least_power .nil pass0 (pa_cons (pv 0) pa_nil)) pa_nil))))), ?_⟩
  exact ⟨_, rfl, _, rfl, _, rfl, _, _, rfl, rfl, _, _, rfl, rfl, _, rfl, x, C, dx, _, _, rfl, hx, L.T.cl, L.T.nt, fl_t _ _, _, _, rfl, rfl, _, rfl, x, sc, tl, rfl, hF, _, _, rfl, q⟩
/-! ### parted -/
def spPart : Sp := fun vs H Q _ => ∃ (n b : Int) (m : Bool), vs = [.int n, .int b, .bl m] ∧ Fit n ∧ -9999 ≤ b ∧ b ≤ 9999 ∧
  ∀ p H', H p = none → Same H H' → H' p = some (.tup [.int (GR.prQ n b), .int (GR.prR n b m)]) → Q (.ref p) H'
theorem ok_parted (B : Bl mg) (L : LL K mg C a1 a2 a3 a4 a5 a6 a7 a8 a9 a10 a11 a12 a13 a14 a15 a16 a17 a18 a19 a20 a21 a22 a23 a24 a25 l1 l2 l3 l4 l5 l6 l7 l8 l9 l10 l11 l12 l13 l14 l15 l16 l17 l18 l19 l20 l21 l22 l23 l24 l25 t23 t24 t25 tg_NEAR tg_CUT tg_UP fW) : FnOk P w K mg base CX0 2 a5 l5 ["number", "by", "more"] spPart := by
  have G_cut_off : FnOk P w K mg base CX0 1 a1 l1 ["number", "by"] spCut := (ok_cut_off B L).mono (by decide)
  refine L.F_parted.ok sc_parted (fun vs H Q E h => ?_) (fun cdv A outer s H vs Q E hr h => ?_)
  · obtain ⟨n, b, m, rfl, _⟩ := h
    rfl
  obtain ⟨n, b, m, rfl, hf, h1, h2, q⟩ := h
  refine ⟨_, (pss_cons (ps_asg (pe_call G_cut_off hr (by rfl) L.m_cut_off L.F_cut_off.kp L.b_cut_off .nil pass0 (pa_cons (pv 0) (pa_cons (pe_op op_sub (pv 1) pe_int) pa_nil))) (pg_tup (by rfl) (pgs_cons (pg_name (i := 3) sc_parted.nd rfl (.inl rfl)) (pgs_cons (pg_name (i := 4) sc_parted.nd rfl (.inl rfl)) pgs_nil))))
    (pss_one (ps_ret (pe_tup (pa_cons (pe_op op_shrN (pv 3) pe_int) (pa_cons (pe_op op_add (pe_op op_mul pe_int (pe_op op_andM (pv 3) pe_int)) (pe_ifExp (PW.pt (pw_or (pt_val (pv 4)) (pw_or1 (pt_val (pv 2))))) pe_int pe_int)) pa_nil)))))), ?_⟩
  refine ⟨_, rfl, _, rfl, _, _, rfl, rfl, n, b - 1, rfl, hf, by omega, by omega, fun t nt => ?_⟩
  have st := same_upd (o := .tup [.int (GR.cutQ n (b - 1)), .bl (GR.cutR n (b - 1))]) nt
  refine ⟨t, _, rfl, .inl (.inl upd_same), rfl, _, _, rfl, _, _, rfl, rfl, ?_⟩
  refine ⟨_, rfl, _, 1, rfl, rfl, _, rfl, _, 1, rfl, rfl, _, _, rfl, rfl, .inl ⟨by decide, by decide⟩, ?_⟩
  have fin : ∀ v : Int, (if (GR.cutR n (b - 1) || m) = true then (1 : Int) else 0) = v → ∀ p, (upd H t (.tup [.int (GR.cutQ n (b - 1)), .bl (GR.cutR n (b - 1))])) p = none →
      Q (.ref p) (upd (upd H t (.tup [.int (GR.cutQ n (b - 1)), .bl (GR.cutR n (b - 1))])) p (.tup [.int (GR.cutQ n (b - 1) / 2 ^ 1), .int (2 * (GR.cutQ n (b - 1) % 2 ^ 1) + v)])) := fun v hv p np => by
    refine q p _ (st.free np) (st.trans (same_upd np)) ?_
    rw [upd_same, ← hv]
    rfl
  refine ⟨_, rfl, _, rfl, ite2 (fun c => ?_) (fun c => ?_)⟩
  · refine ⟨_, _, rfl, rfl, (by show 2 ≤ sizeLine; decide), fun p np => fin 1 ?_ p np⟩
    rw [c]
    rfl
  · have c1 : GR.cutR n (b - 1) = false := Bool.eq_false_iff.mpr c
    refine ⟨_, rfl, _, rfl, ite2 (fun d => ?_) (fun d => ?_)⟩
    · refine ⟨_, _, rfl, rfl, (by show 2 ≤ sizeLine; decide), fun p np => fin 1 ?_ p np⟩
      rw [c1, d]
      rfl
    · refine ⟨_, _, rfl, rfl, (by show 2 ≤ sizeLine; decide), fun p np => fin 0 ?_ p np⟩
      rw [c1, Bool.eq_false_iff.mpr d]
      rfl
/-! ### goes_away, goes_up -/
def spAway : Sp := fun vs H Q _ => ∃ (w : Str) (s : Int), vs = [.str w, .int s] ∧ Q (.bl (GR.away w s)) H
theorem ok_goes_away (B : Bl mg) (L : LL K mg C a1 a2 a3 a4 a5 a6 a7 a8 a9 a10 a11 a12 a13 a14 a15 a16 a17 a18 a19 a20 a21 a22 a23 a24 a25 l1 l2 l3 l4 l5 l6 l7 l8 l9 l10 l11 l12 l13 l14 l15 l16 l17 l18 l19 l20 l21 l22 l23 l24 l25 t23 t24 t25 tg_NEAR tg_CUT tg_UP fW) : FnOk P w K mg base CX0 1 a7 l7 ["way", "sign"] spAway := by
  refine L.F_goes_away.ok sc_goes_away (fun vs H Q E h => ?_) (fun cdv A outer s H vs Q E hr h => ?_)
  · obtain ⟨w, s, rfl, _⟩ := h
    rfl
  obtain ⟨w, s, rfl, q⟩ := h
  refine ⟨_, (pss_cons (ps_if (pt_cmpR op_eq (pv 0) (pe_glob (v := .str "cut") rfl L.g_CUT ⟨_, rfl⟩) (nomark _)) (pss_one (ps_ret pe_bl)) pss_nil)
    (pss_one (ps_ret (pe_cmpR op_eq (pv 1) (pe_ifExp (pt_cmpR op_eq (pv 0) (pe_glob (v := .str "up") rfl L.g_UP ⟨_, rfl⟩) (nomark _)) pe_int pe_int) (nomark _))))), ?_⟩
  unfold GR.away at q
  refine ⟨_, rfl, rfl, _, rfl, ite2 (fun c => ?_) (fun c => ?_)⟩
  · have c1 : w = "cut" := V.str.inj (of_decide_eq_true c)
    rw [if_pos c1] at q
    exact q
  · have c1 : ¬ w = "cut" := fun z => c (decide_eq_true (by rw [z]))
    rw [if_neg c1] at q
    refine ⟨_, rfl, _, rfl, rfl, _, rfl, ite2 (fun d => ?_) (fun d => ?_)⟩
    · have d1 : w = "up" := V.str.inj (of_decide_eq_true d)
      rw [if_pos d1, ← dvi] at q
      exact ⟨rfl, q⟩
    · have d1 : ¬ w = "up" := fun z => d (decide_eq_true (by rw [z]))
      rw [if_neg d1, ← dvi] at q
      exact ⟨rfl, q⟩
def spUp : Sp := fun vs H Q _ => ∃ (w : Str) (s m r : Int), vs = [.str w, .int s, .int m, .int r] ∧ Q (.bl (GR.gup w s m r)) H
theorem ok_goes_up (B : Bl mg) (L : LL K mg C a1 a2 a3 a4 a5 a6 a7 a8 a9 a10 a11 a12 a13 a14 a15 a16 a17 a18 a19 a20 a21 a22 a23 a24 a25 l1 l2 l3 l4 l5 l6 l7 l8 l9 l10 l11 l12 l13 l14 l15 l16 l17 l18 l19 l20 l21 l22 l23 l24 l25 t23 t24 t25 tg_NEAR tg_CUT tg_UP fW) : FnOk P w K mg base CX0 2 a6 l6 ["way", "sign", "many", "rest"] spUp := by
  have G_goes_away : FnOk P w K mg base CX0 1 a7 l7 ["way", "sign"] spAway := (ok_goes_away B L).mono (by decide)
  refine L.F_goes_up.ok sc_goes_up (fun vs H Q E h => ?_) (fun cdv A outer s H vs Q E hr h => ?_)
  · obtain ⟨w, s, m, r, rfl, _⟩ := h
    rfl
  obtain ⟨w, s, m, r, rfl, q⟩ := h
  refine ⟨_, (pss_cons (ps_if (pt_cmpR op_eq (pv 0) (pe_glob (v := .str "near") rfl L.g_NEAR ⟨_, rfl⟩) (nomark _)) (pss_one (ps_ret (pe_or (pe_cmpR op_eq (pv 3) pe_int (nomark _)) (pe_one (pe_and (pe_cmpR op_eq (pv 3) pe_int (nomark _)) (pe_one (pe_cmpR op_eq (pe_op op_mod (pv 2) pe_int) pe_int (nomark _)))))))) pss_nil)
    (pss_one (ps_ret (pe_and (pe_cmpR op_ne (pv 3) pe_int (nomark _)) (pe_one (pe_call G_goes_away hr (by rfl) L.m_goes_away L.F_goes_away.kp L.b_goes_away .nil pass0 (pa_cons (pv 0) (pa_cons (pv 1) pa_nil)))))))), ?_⟩
  unfold GR.gup at q
  refine ⟨_, rfl, rfl, _, rfl, ite2 (fun c => ?_) (fun c => ?_)⟩
  · have c1 : w = "near" := V.str.inj (of_decide_eq_true c)
    rw [if_pos c1] at q
    refine ⟨_, rfl, rfl, _, rfl, ?_⟩
    by_cases d : r = 3
    · rw [decide_eq_true d, Bool.true_or] at q
      rw [dvi, decide_eq_true d]
      exact iteT q
    · rw [decide_eq_false d, Bool.false_or] at q
      rw [dvi, decide_eq_false d]
      refine iteF ?_
      refine ⟨_, rfl, rfl, _, rfl, ?_⟩
      by_cases e : r = 2
      · rw [decide_eq_true e, Bool.true_and, ← dvi] at q
        rw [dvi, decide_eq_true e]
        exact iteT ⟨_, rfl, _, _, rfl, rfl, (by show (0 : Int) < 2; decide), rfl, q⟩
      · rw [decide_eq_false e, Bool.false_and] at q
        rw [dvi, decide_eq_false e]
        exact iteF q
  · have c1 : ¬ w = "near" := fun z => c (decide_eq_true (by rw [z]))
    rw [if_neg c1] at q
    refine ⟨_, rfl, rfl, _, rfl, ?_⟩
    by_cases d : r = 0
    · rw [decide_eq_true d] at q
      rw [dvi, decide_eq_true d]
      exact iteF q
    · rw [decide_eq_false d] at q
      rw [dvi, decide_eq_false d]
      exact iteT ⟨_, rfl, _, rfl, _, _, rfl, q⟩
/-! ### word_beyond, flags_of_rest -/
def spBey (C : Addr) : Sp := fun vs H Q _ => ∃ (x : Addr) (sc tl : Nat) (s : Int) (w : Str), vs = [.ref x, .int s, .str w] ∧ FAt C H x sc tl ∧ (s = 0 ∨ s = 1) ∧ Q (.int (GR.bey sc tl s w)) H
theorem ok_word_beyond (B : Bl mg) (L : LL K mg C a1 a2 a3 a4 a5 a6 a7 a8 a9 a10 a11 a12 a13 a14 a15 a16 a17 a18 a19 a20 a21 a22 a23 a24 a25 l1 l2 l3 l4 l5 l6 l7 l8 l9 l10 l11 l12 l13 l14 l15 l16 l17 l18 l19 l20 l21 l22 l23 l24 l25 t23 t24 t25 tg_NEAR tg_CUT tg_UP fW) : FnOk P w K mg base CX0 3 a8 l8 ["form", "sign", "way"] (spBey C) := by
  have G_goes_away : FnOk P w K mg base CX0 2 a7 l7 ["way", "sign"] spAway := (ok_goes_away B L).mono (by decide)
  have G_Form_endless : FnOk P w K mg base CX0 2 a24 l24 ["self", "sign"] (spNm C mEn mNo) := (ok_Form_endless B L).mono (by decide)
  have G_Form_greatest : FnOk P w K mg base CX0 2 a25 l25 ["self", "sign"] (spNm C mGr tGr) := (ok_Form_greatest B L).mono (by decide)
  refine L.F_word_beyond.ok sc_word_beyond (fun vs H Q E h => ?_) (fun cdv A outer s H vs Q E hr h => ?_)
  · obtain ⟨x, sc, tl, s, w, rfl, _⟩ := h
    rfl
  obtain ⟨x, sc, tl, s, w, rfl, hF, hs, q⟩ := h
  obtain ⟨dx, hx, h1, h2, h3, h4⟩ := id hF
  refine ⟨_, (pss_cons (ps_if (PW.pt (pw_or (pt_cmpR op_eq (pv 2) (pe_glob (v := .str "near") rfl L.g_NEAR ⟨_, rfl⟩) (nomark _)) (pw_or1 (pt_val (pe_call G_goes_away hr (by rfl) L.m_goes_away L.F_goes_away.kp L.b_goes_away .nil pass0 (pa_cons (pv 2) (pa_cons (pv 1) pa_nil))))))) (pss_one (ps_ret (pe_meth (pv 0) L.T.cl L.M_Form_endless G_Form_endless hr L.b_Form_endless .nil pass0 (pa_cons (pv 1) pa_nil)))) pss_nil)
    (pss_one (ps_ret (pe_meth (pv 0) L.T.cl L.M_Form_greatest G_Form_greatest hr L.b_Form_greatest .nil pass0 (pa_cons (pv 1) pa_nil))))), ?_⟩
  unfold GR.bey at q
  have e1 : (decide (w = "near") || GR.away w s) = true → Q (.int (GR.wrd sc tl s (2 ^ sc - 1) 0)) H := fun z => by
    rw [if_pos z] at q
    exact q
  have e2 : ¬ (decide (w = "near") || GR.away w s) = true → Q (.int (GR.wrd sc tl s (2 ^ sc - 1 - 1) (2 ^ tl - 1))) H := fun z => by
    rw [if_neg z] at q
    exact q
  refine ⟨_, rfl, rfl, _, rfl, ite2 (fun c => ?_) (fun c => ?_)⟩
  · rw [dvs] at c
    exact ⟨_, rfl, x, dx, _, rfl, hx, rfl, _, rfl, x, sc, tl, s, rfl, hF, hs, e1 (by rw [c]; rfl)⟩
  · rw [dvs] at c
    refine ⟨_, rfl, _, rfl, _, _, rfl, _, rfl, ite2 (fun d => ?_) (fun d => ?_)⟩
    · exact ⟨_, rfl, x, dx, _, rfl, hx, rfl, _, rfl, x, sc, tl, s, rfl, hF, hs, e1 (by rw [d, Bool.or_true])⟩
    · exact ⟨_, rfl, x, dx, _, rfl, hx, rfl, _, rfl, x, sc, tl, s, rfl, hF, hs, e2 (by rw [Bool.eq_false_iff.mpr c, Bool.eq_false_iff.mpr d]; decide)⟩
def spFlg (C : Addr) : Sp := fun vs H Q _ => ∃ (x : Addr) (sc tl : Nat) (n p r : Int), vs = [.ref x, .int n, .int p, .int r] ∧ FAt C H x sc tl ∧
  ∀ t H', H t = none → Same H H' → H' t = some (.tup ((GR.flg sc n p r).map V.str)) → Q (.ref t) H'
theorem ok_flags_of_rest (B : Bl mg) (L : LL K mg C a1 a2 a3 a4 a5 a6 a7 a8 a9 a10 a11 a12 a13 a14 a15 a16 a17 a18 a19 a20 a21 a22 a23 a24 a25 l1 l2 l3 l4 l5 l6 l7 l8 l9 l10 l11 l12 l13 l14 l15 l16 l17 l18 l19 l20 l21 l22 l23 l24 l25 t23 t24 t25 tg_NEAR tg_CUT tg_UP fW) : FnOk P w K mg base CX0 2 a9 l9 ["form", "number", "power", "rest"] (spFlg C) := by
  have G_Form_bias : FnOk P w K mg base CX0 1 a20 l20 ["self"] (spBias C) := (ok_Form_bias B L).mono (by decide)
  refine L.F_flags_of_rest.ok sc_flags_of_rest (fun vs H Q E h => ?_) (fun cdv A outer s H vs Q E hr h => ?_)
  · obtain ⟨x, sc, tl, n, p, r, rfl, _⟩ := h
    rfl
  obtain ⟨x, sc, tl, n, p, r, rfl, hF, q⟩ := h
  obtain ⟨dx, hx, h1, h2, h3, h4⟩ := id hF
  refine ⟨_, (pss_cons (ps_if (pt_cmpR op_eq (pv 3) pe_int (nomark _)) (pss_one (ps_ret (pe_tup pa_nil))) pss_nil)
    (pss_cons (ps_if (pt_cmpR op_le (pe_op op_add (pe_bits (pv 1)) (pv 2)) (pe_op op_sub pe_int (pe_meth0 (pv 0) L.T.cl L.M_Form_bias G_Form_bias hr L.b_Form_bias .nil pass0)) (nomark _)) (pss_one (ps_ret (pe_tup (pa_cons pe_str (pa_cons pe_str pa_nil))))) pss_nil)
    (pss_one (ps_ret (pe_tup (pa_cons pe_str pa_nil)))))), ?_⟩
  unfold GR.flg at q
  refine ⟨_, rfl, rfl, _, rfl, ite2 (fun c => ?_) (fun c => ?_)⟩
  · rw [dvi] at c
    rw [if_pos (of_decide_eq_true c)] at q
    exact ⟨Nat.zero_le _, fun t nt => q t _ nt (same_upd nt) upd_same⟩
  · rw [dvi] at c
    rw [if_neg (of_decide_eq_false (Bool.eq_false_iff.mpr c))] at q
    refine ⟨_, rfl, _, rfl, _, rfl, _, _, rfl, rfl, _, rfl, x, dx, _, rfl, hx, rfl, x, sc, tl, rfl, hF, _, _, rfl, rfl, _, _, rfl, rfl, _, rfl, ite2 (fun d => ?_) (fun d => ?_)⟩
    · have d1 := of_decide_eq_true d
      unfold GR.bl at q
      rw [if_pos d1] at q
      exact ⟨(by show 2 ≤ sizeLine; decide), fun t nt => q t _ nt (same_upd nt) upd_same⟩
    · have d1 := of_decide_eq_false (Bool.eq_false_iff.mpr d)
      unfold GR.bl at q
      rw [if_neg d1] at q
      exact ⟨(by show 1 ≤ sizeLine; decide), fun t nt => q t _ nt (same_upd nt) upd_same⟩
/-! ### rounded -/
theorem cutP {A B : Prop} (h1 : A) (h2 : A → B) : B := h2 h1
/-- at p stands a pair of a word and its flags -/
def PairAt (H : Hp) (p : Addr) (r : Int × List Str) : Prop := ∃ f, H p = some (.tup [.int r.1, .ref f]) ∧ H f = some (.tup (r.2.map V.str))
def spRnd (C : Addr) : Sp := fun vs H Q _ => ∃ (x : Addr) (sc tl : Nat) (s n p : Int) (w : Str) (m : Bool), vs = [.ref x, .int s, .int n, .int p, .str w, .bl m] ∧ FAt C H x sc tl ∧ (s = 0 ∨ s = 1) ∧ Fit n ∧ -4000 ≤ p ∧ p ≤ 4000 ∧ (m = true → n ≠ 0 ∧ p < GR.lap sc tl n p) ∧
  ∀ t H', H t = none → Same H H' → PairAt H' t (GR.rnd sc tl s n p w m) → Q (.ref t) H'
theorem lap_in {sc tl : Nat} {n p : Int} (hf : Fit n) (h1 : -4000 ≤ p) (h2 : p ≤ 4000) (hs : sc ≤ 8) (ht : tl ≤ 24) : -300 ≤ GR.lap sc tl n p ∧ GR.lap sc tl n p ≤ 8000 ∧ GR.lap sc tl n p - p ≤ 5000 ∧ -300 ≤ GR.lea sc tl ∧ GR.lea sc tl ≤ 2 ∧ GR.lea sc tl ≤ GR.lap sc tl n p := by
  have p8 : (2 : Int) ^ (sc - 1) ≤ 2 ^ 7 := GM.pow_le' (by omega)
  have p0 := GM.pow_pos' (sc - 1)
  have hb : GR.bl n ≤ 4000 := by
    have := hf.2
    unfold GR.bl
    omega
  have hb0 : 0 ≤ GR.bl n := by
    unfold GR.bl
    omega
  unfold GR.lap GR.lea
  split <;> omega
theorem cutQ_nn {n b : Int} (h : 0 ≤ n) : 0 ≤ GR.cutQ n b := by
  unfold GR.cutQ
  split
  · exact Int.mul_nonneg h (by have := GM.pow_pos' (-b).toNat; omega)
  · exact Int.ediv_nonneg h (by have := GM.pow_pos' b.toNat; omega)
theorem ok_rounded (B : Bl mg) (L : LL K mg C a1 a2 a3 a4 a5 a6 a7 a8 a9 a10 a11 a12 a13 a14 a15 a16 a17 a18 a19 a20 a21 a22 a23 a24 a25 l1 l2 l3 l4 l5 l6 l7 l8 l9 l10 l11 l12 l13 l14 l15 l16 l17 l18 l19 l20 l21 l22 l23 l24 l25 t23 t24 t25 tg_NEAR tg_CUT tg_UP fW) : FnOk P w K mg base CX0 4 a4 l4 ["form", "sign", "number", "power", "way", "more"] (spRnd C) := by
  have G_last_power : FnOk P w K mg base CX0 3 a2 l2 ["form", "number", "power"] (spLap C) := (ok_last_power B L).mono (by decide)
  have G_Form_nought : FnOk P w K mg base CX0 3 a23 l23 ["self", "sign"] (spNm C mNo mNo) := (ok_Form_nought B L).mono (by decide)
  have G_parted : FnOk P w K mg base CX0 3 a5 l5 ["number", "by", "more"] spPart := (ok_parted B L).mono (by decide)
  have G_goes_up : FnOk P w K mg base CX0 3 a6 l6 ["way", "sign", "many", "rest"] spUp := (ok_goes_up B L).mono (by decide)
  have G_least_power : FnOk P w K mg base CX0 3 a3 l3 ["form"] (spLea C) := (ok_least_power B L).mono (by decide)
  have G_Form_greatest : FnOk P w K mg base CX0 3 a25 l25 ["self", "sign"] (spNm C mGr tGr) := (ok_Form_greatest B L).mono (by decide)
  have G_word_beyond : FnOk P w K mg base CX0 3 a8 l8 ["form", "sign", "way"] (spBey C) := (ok_word_beyond B L).mono (by decide)
  have G_flags_of_rest : FnOk P w K mg base CX0 3 a9 l9 ["form", "number", "power", "rest"] (spFlg C) := (ok_flags_of_rest B L).mono (by decide)
  refine L.F_rounded.ok sc_rounded (fun vs H Q E h => ?_) (fun cdv A outer s H vs Q E hr h => ?_)
  · obtain ⟨x, sc, tl, s, n, p, w, m, rfl, _⟩ := h
    rfl
  obtain ⟨x, sc, tl, s, n, p, w, m, rfl, hF, hs, hf, hp1, hp2, hm, q⟩ := h
  obtain ⟨dx, hx, h1, h2, h3, h4⟩ := id hF
  refine ⟨_, (pss_cons (ps_if (PW.pt (pw_and (pt_val (pv 5)) (pw_and1 (PW.pt (pw_or (pt_cmpR op_eq (pv 2) pe_int (nomark _)) (pw_or1 (pt_cmpR op_ge (pv 3) (pe_call G_last_power hr (by rfl) L.m_last_power L.F_last_power.kp L.b_last_power .nil pass0 (pa_cons (pv 0) (pa_cons (pv 2) (pa_cons (pv 3) pa_nil)))) (nomark _)))))))) (pss_one ps_never) pss_nil)
    (pss_cons (ps_if (pt_cmpR op_eq (pv 2) pe_int (nomark _)) (pss_one (ps_ret (pe_tup (pa_cons (pe_meth (pv 0) L.T.cl L.M_Form_nought G_Form_nought hr L.b_Form_nought .nil pass0 (pa_cons (pv 1) pa_nil)) (pa_cons (pe_tup pa_nil) pa_nil))))) pss_nil)
    (pss_cons (ps_set (i := 6) sc_rounded.nd rfl (.inl rfl) (pe_call G_last_power hr (by rfl) L.m_last_power L.F_last_power.kp L.b_last_power .nil pass0 (pa_cons (pv 0) (pa_cons (pv 2) (pa_cons (pv 3) pa_nil)))))
    (pss_cons (ps_asg (pe_call G_parted hr (by rfl) L.m_parted L.F_parted.kp L.b_parted .nil pass0 (pa_cons (pv 2) (pa_cons (pe_op op_sub (pv 6) (pv 3)) (pa_cons (pv 5) pa_nil)))) (pg_tup (by rfl) (pgs_cons (pg_name (i := 7) sc_rounded.nd rfl (.inl rfl)) (pgs_cons (pg_name (i := 8) sc_rounded.nd rfl (.inl rfl)) pgs_nil))))
    (pss_cons (ps_if (pt_val (pe_call G_goes_up hr (by rfl) L.m_goes_up L.F_goes_up.kp L.b_goes_up .nil pass0 (pa_cons (pv 4) (pa_cons (pv 1) (pa_cons (pv 7) (pa_cons (pv 8) pa_nil)))))) (pss_one (ps_aug (i := 7) sc_rounded.nd rfl (.inl rfl) pe_int iop_add)) pss_nil)
    (pss_cons (ps_set (i := 9) sc_rounded.nd rfl (.inl rfl) (pe_op op_add (pe_op op_shlN (pe_op op_sub (pv 6) (pe_call G_least_power hr (by rfl) L.m_least_power L.F_least_power.kp L.b_least_power .nil pass0 (pa_cons (pv 0) pa_nil))) (pe_fld (pv 0) rfl)) (pv 7)))
    (pss_cons (ps_if (pt_cmpR op_gt (pv 9) (pe_meth0 (pv 0) L.T.cl L.M_Form_greatest G_Form_greatest hr L.d_Form_greatest (val0 _) pass0) (nomark _)) (pss_one (ps_ret (pe_tup (pa_cons (pe_call G_word_beyond hr (by rfl) L.m_word_beyond L.F_word_beyond.kp L.b_word_beyond .nil pass0 (pa_cons (pv 0) (pa_cons (pv 1) (pa_cons (pv 4) pa_nil)))) (pa_cons (pe_tup (pa_cons pe_str (pa_cons pe_str pa_nil))) pa_nil))))) pss_nil)
    (pss_one (ps_ret (pe_tup (pa_cons (pe_op op_add (pe_meth (pv 0) L.T.cl L.M_Form_nought G_Form_nought hr L.b_Form_nought .nil pass0 (pa_cons (pv 1) pa_nil)) (pv 9)) (pa_cons (pe_call G_flags_of_rest hr (by rfl) L.m_flags_of_rest L.F_flags_of_rest.kp L.b_flags_of_rest .nil pass0 (pa_cons (pv 0) (pa_cons (pv 2) (pa_cons (pv 3) (pa_cons (pv 8) pa_nil))))) pa_nil)))))))))))), ?_⟩
  obtain ⟨i1, i2, i3, i4, i5, i6⟩ := lap_in (sc := sc) (tl := tl) hf hp1 hp2 h2 h4
  -- no refusal
  apply cutP
  case h2 =>
    intro rest
    refine ⟨_, rfl, _, rfl, ite2 (fun c => ?_) (fun c => rest)⟩
    obtain ⟨m1, m2⟩ := hm c
    refine ⟨_, rfl, rfl, _, rfl, ?_⟩
    rw [dvi, decide_eq_false m1]
    refine iteF ?_
    refine ⟨_, rfl, _, rfl, _, rfl, _, rfl, x, sc, tl, n, p, rfl, hF, _, _, rfl, rfl, _, rfl, ?_⟩
    rw [decide_eq_false (by omega)]
    exact iteF rest
  unfold GR.rnd at q
  refine ⟨_, rfl, rfl, _, rfl, ite2 (fun c => ?_) (fun c => ?_)⟩
  · rw [dvi] at c
    rw [if_pos (of_decide_eq_true c)] at q
    refine ⟨_, rfl, x, dx, _, rfl, hx, rfl, _, rfl, x, sc, tl, s, rfl, hF, hs, Nat.zero_le _, fun e ne => ?_⟩
    refine ⟨(by show 2 ≤ sizeLine; decide), fun t nt => ?_⟩
    have se := same_upd (o := .tup []) ne
    have st := same_upd (o := .tup [.int (GR.wrd sc tl s 0 0), .ref e]) nt
    exact q t _ (se.free nt) (se.trans st) ⟨e, upd_same, st _ _ upd_same⟩
  rw [dvi] at c
  rw [if_neg (of_decide_eq_false (Bool.eq_false_iff.mpr c))] at q
  refine ⟨_, rfl, _, rfl, _, rfl, x, sc, tl, n, p, rfl, hF, ?_⟩
  refine ⟨_, rfl, _, rfl, _, rfl, _, _, rfl, rfl, _, rfl, n, _, m, rfl, hf, by omega, by omega, fun pr H1 npr s1 epr => ?_⟩
  refine ⟨pr, _, rfl, .inl (.inl epr), rfl, _, _, rfl, _, _, rfl, rfl, ?_⟩
  have hF1 := hF.same s1
  have hx1 := s1 _ _ hx
  -- behind the step up
  apply cutP
  case h2 =>
    intro rest
    refine ⟨_, rfl, _, rfl, _, rfl, _, rfl, w, s, _, _, rfl, _, rfl, ite2 (fun c2 => ?_) (fun c2 => ?_)⟩
    · refine ⟨_, rfl, _, _, rfl, rfl, ?_⟩
      have e : GR.prQ n (GR.lap sc tl n p - p) + 1 = GR.mny sc tl s n p w m := by
        unfold GR.mny
        rw [if_pos c2]
      dsimp only
      rw [e]
      exact rest
    · have e : GR.prQ n (GR.lap sc tl n p - p) = GR.mny sc tl s n p w m := by
        unfold GR.mny
        rw [if_neg c2]
      dsimp only
      rw [e]
      exact rest
  refine ⟨_, rfl, _, rfl, x, sc, tl, rfl, hF1, _, _, rfl, rfl, _, rfl, x, C, dx, _, _, rfl, hx1, L.T.cl, L.T.nt, fl_t _ _, _, tl, rfl, rfl, shl_ok (n := 14) (by omega) (by omega), _, rfl, _, _, rfl, rfl, ?_⟩
  refine ⟨_, rfl, _, rfl, x, dx, _, rfl, hx1, rfl, x, sc, tl, 0, rfl, hF1, .inl rfl, _, _, rfl, rfl, _, rfl, ite2 (fun c3 => ?_) (fun c3 => ?_)⟩
  · have c4 : GR.siz sc tl s n p w m > GR.wrd sc tl 0 (2 ^ sc - 1 - 1) (2 ^ tl - 1) := of_decide_eq_true c3
    rw [if_pos c4] at q
    refine ⟨_, rfl, _, rfl, _, rfl, x, sc, tl, s, w, rfl, hF1, hs, (by show 2 ≤ sizeLine; decide), fun e ne => ?_⟩
    refine ⟨(by show 2 ≤ sizeLine; decide), fun t nt => ?_⟩
    have se := same_upd (o := .tup [.str "over", .str "rounded"]) ne
    have st := same_upd (o := .tup [.int (GR.bey sc tl s w), .ref e]) nt
    exact q t _ (s1.free (se.free nt)) (s1.trans (se.trans st)) ⟨e, upd_same, st _ _ upd_same⟩
  · have c4 : ¬ GR.siz sc tl s n p w m > GR.wrd sc tl 0 (2 ^ sc - 1 - 1) (2 ^ tl - 1) := of_decide_eq_false (Bool.eq_false_iff.mpr c3)
    rw [if_neg c4] at q
    refine ⟨_, rfl, x, dx, _, rfl, hx1, rfl, _, rfl, x, sc, tl, s, rfl, hF1, hs, _, rfl, _, _, rfl, rfl, ?_⟩
    refine ⟨_, rfl, _, rfl, _, rfl, _, rfl, x, sc, tl, n, p, _, rfl, hF1, fun e H2 ne s2 ee => ?_⟩
    refine ⟨(by show 2 ≤ sizeLine; decide), fun t nt => ?_⟩
    have st := same_upd (o := .tup [.int (GR.wrd sc tl s 0 0 + GR.siz sc tl s n p w m), .ref e]) nt
    exact q t _ (s1.free (s2.free nt)) (s1.trans (s2.trans st)) ⟨e, upd_same, st _ _ ee⟩
end
section
variable {P : Program} {w : World} {K : PySem.W.Frag} {mg : Str → Option Value} {base : Heap}
variable {C : Addr} {a1 a2 a3 a4 a5 a6 a7 a8 a9 a10 a11 a12 a13 a14 a15 a16 a17 a18 a19 a20 a21 a22 a23 a24 a25 : Addr} {l1 l2 l3 l4 l5 l6 l7 l8 l9 l10 l11 l12 l13 l14 l15 l16 l17 l18 l19 l20 l21 l22 l23 l24 l25 : FuncData} {t23 t24 t25 tg_NEAR tg_CUT tg_UP : Tok} {fW : Addr}
/-! ### the law's own table -/
def spLeast : Sp := fun vs H Q _ => ∃ (sc tl : Nat), vs = [.int (sc : Int), .int (tl : Int)] ∧ 2 ≤ sc ∧ sc ≤ 8 ∧ Q (.int (GR.lea sc tl)) H
theorem ok__law_least (B : Bl mg) (L : LL K mg C a1 a2 a3 a4 a5 a6 a7 a8 a9 a10 a11 a12 a13 a14 a15 a16 a17 a18 a19 a20 a21 a22 a23 a24 a25 l1 l2 l3 l4 l5 l6 l7 l8 l9 l10 l11 l12 l13 l14 l15 l16 l17 l18 l19 l20 l21 l22 l23 l24 l25 t23 t24 t25 tg_NEAR tg_CUT tg_UP fW) : FnOk P w K mg base CX0 1 a16 l16 ["_law_scale", "_law_tail"] spLeast := by
  refine L.F__law_least.ok sc__law_least (fun vs H Q E h => ?_) (fun cdv A outer s H vs Q E hr h => ?_)
  · obtain ⟨sc, tl, rfl, _⟩ := h
    rfl
  obtain ⟨sc, tl, rfl, h1, h2, q⟩ := h
  refine ⟨_, (pss_one (ps_ret (pe_op op_sub (pe_op op_sub pe_int (pe_op op_oneShl pe_int (pe_op op_sub (pv 0) pe_int))) (pv 1)))), ?_⟩
  rw [show GR.lea sc tl = 2 - 2 ^ (sc - 1) - (tl : Int) by unfold GR.lea; omega] at q
  exact ⟨_, rfl, _, _, rfl, rfl, sc - 1, rfl, congrArg V.int (by omega), by omega, _, _, rfl, rfl, _, rfl, _, _, rfl, rfl, q⟩
def tb (tl : Nat) (j : Nat) : Int := if (j : Int) / 2 ^ tl = 0 then (j : Int) % 2 ^ tl else (2 ^ tl + (j : Int) % 2 ^ tl) * 2 ^ ((j : Int) / 2 ^ tl - 1).toNat
def tbn (sc tl : Nat) : Nat := (2 ^ sc - 1) * 2 ^ tl + 1
def tbl (sc tl : Nat) : List Int := (List.range (tbn sc tl)).map (tb tl)
theorem pow_in (sc tl : Nat) (h1 : 2 ≤ sc) (h2 : sc ≤ 3) (h3 : 1 ≤ tl) (h4 : tl ≤ 2) : (((2 : Int) ^ sc - 1) * 2 ^ tl + 1) = (tbn sc tl : Int) ∧ tbn sc tl ≤ 30 := by
  have a : sc = 2 ∨ sc = 3 := by omega
  have b : tl = 1 ∨ tl = 2 := by omega
  rcases a with z | z <;> rcases b with y | y <;> subst z <;> subst y <;> decide
def spTable : Sp := fun vs H Q _ => ∃ (sc tl : Nat), vs = [.int (sc : Int), .int (tl : Int)] ∧ 2 ≤ sc ∧ sc ≤ 3 ∧ 1 ≤ tl ∧ tl ≤ 2 ∧
  ∀ p H', H p = none → Same H H' → H' p = some (.lst ((tbl sc tl).map V.int)) → Q (.ref p) H'
theorem ok__law_table (B : Bl mg) (L : LL K mg C a1 a2 a3 a4 a5 a6 a7 a8 a9 a10 a11 a12 a13 a14 a15 a16 a17 a18 a19 a20 a21 a22 a23 a24 a25 l1 l2 l3 l4 l5 l6 l7 l8 l9 l10 l11 l12 l13 l14 l15 l16 l17 l18 l19 l20 l21 l22 l23 l24 l25 t23 t24 t25 tg_NEAR tg_CUT tg_UP fW) : FnOk P w K mg base CX0 1 a17 l17 ["_law_scale", "_law_tail"] spTable := by
  refine L.F__law_table.ok sc__law_table (fun vs H Q E h => ?_) (fun cdv A outer s H vs Q E hr h => ?_)
  · obtain ⟨sc, tl, rfl, _⟩ := h
    rfl
  obtain ⟨sc, tl, rfl, h1, h2, h3, h4, q⟩ := h
  refine ⟨_, (pss_cons (ps_set (i := 2) sc__law_table.nd rfl (.inl rfl) (pe_lst pa_nil))
    (pss_cons (ps_for PassesOwn.never rfl (pi_range1 (by rfl) B.range (pa_cons (pe_op op_add (pe_op op_shlN (pe_op op_sub (pe_op op_oneShl pe_int (pv 0)) pe_int) (pv 1)) pe_int) pa_nil)) (pg_name (i := 3) sc__law_table.nd rfl (.inl rfl)) (pss_cons (ps_par (by rfl) sc__law_table.nd (i := 4) (j := 5) rfl rfl (by decide) rfl rfl (pa_cons (pe_op op_shrN (pv 3) (pv 1)) (pa_cons (pe_op op_andM (pv 3) (pe_op op_sub (pe_op op_oneShl pe_int (pv 1)) pe_int)) pa_nil)) (by rfl))
    (pss_one (ps_expr (pe_bm PySem.F.plainAttrs_list PySem.F.slot_list_append PySem.F.type_list_append mt_append (pv 2) (pa_cons (pe_ifExp (pt_cmpR op_eq (pv 4) pe_int (nomark _)) (pv 5) (pe_op op_shlN (pe_op op_add (pe_op op_oneShl pe_int (pv 1)) (pv 5)) (pe_op op_sub (pv 4) pe_int))) pa_nil))))))
    (pss_one (ps_ret (pv 2))))), ?_⟩
  obtain ⟨en, ln⟩ := pow_in sc tl h1 h2 h3 h4
  have p3 : (2 : Int) ^ sc ≤ 2 ^ 3 := GM.pow_le' h2
  have p0 := GM.pow_pos' sc
  have q3 : (2 : Int) ^ tl ≤ 2 ^ 2 := GM.pow_le' h4
  have q0 := GM.pow_pos' tl
  refine ⟨Nat.zero_le _, fun o no => ?_⟩
  refine ⟨_, rfl, sc, rfl, rfl, by omega, _, _, rfl, rfl, _, rfl, _, tl, rfl, rfl, shl_ok (n := 4) (by omega) (by omega), _, _, rfl, rfl, ((tbn sc tl : Nat) : Int), congrArg (fun z => [V.int z]) en, by omega, by omega, ?_⟩
  rw [Int.toNat_natCast]
  refine for_range (n := tbn sc tl) (fun i σ H3 => ∃ (y3 y4 y5 : Option V), σ = [some (.int (sc : Int)), some (.int (tl : Int)), some (.ref o), y3, y4, y5] ∧ Same H H3 ∧ H3 o = some (.lst (((List.range i).map (tb tl)).map V.int))) ⟨none, none, none, rfl, same_upd no, (upd_same : (upd H o (.lst [])) o = some (.lst []))⟩ ?_ ?_
  · rintro i σ H3 hi ⟨y3, y4, y5, rfl, s3, eo⟩
    show gName _ (V.int (0 + (i : Int))) _ _ _
    rw [Int.zero_add]
    have hd : (i : Int) / 2 ^ tl ≤ i := Int.ediv_le_self _ (by omega)
    have hd0 : 0 ≤ (i : Int) / 2 ^ tl := Int.ediv_nonneg (by omega) (by omega)
    have hm0 := Int.emod_nonneg (i : Int) (show (2 : Int) ^ tl ≠ 0 by omega)
    have hm1 := Int.emod_lt_of_pos (i : Int) q0
    refine ⟨_, rfl, _, rfl, _, tl, rfl, rfl, _, rfl, _, rfl, tl, rfl, rfl, by omega, _, _, rfl, rfl, _, tl, rfl, rfl, _, _, rfl, ?_⟩
    have fin : ∀ z : Int, tb tl i = z → (∃ (l : Addr) (xs : List V) (y : V), V.ref o = .ref l ∧ [V.int z] = [y] ∧ H3 l = some (.lst xs) ∧ xs.length < sizeLine ∧ ∃ (y3' y4' y5' : Option V), [some (V.int (sc : Int)), some (.int (tl : Int)), some (.ref o), some (.int (i : Int)), some (.int ((i : Int) / 2 ^ tl)), some (.int ((i : Int) % 2 ^ tl))] = [some (.int (sc : Int)), some (.int (tl : Int)), some (.ref o), y3', y4', y5'] ∧ Same H (upd H3 l (.lst (xs ++ [y]))) ∧ (upd H3 l (.lst (xs ++ [y]))) o = some (.lst (((List.range (i + 1)).map (tb tl)).map V.int))) := fun z hz => by
      refine ⟨o, _, _, rfl, rfl, eo, ?_, _, _, _, rfl, fun x u e => ?_, ?_⟩
      · rw [List.length_map, List.length_map, List.length_range]
        exact small1000 (by omega)
      · rw [upd_ne (ne_of_none e no)]
        exact s3 _ _ e
      · rw [upd_same, List.range_succ, List.map_append, List.map_append, ← hz]
        rfl
    refine ⟨_, rfl, .inl ⟨rfl, _, SqL.of eo⟩, _, rfl, rfl, _, rfl, ite2 (fun c => ?_) (fun c => ?_)⟩
    · rw [dvi] at c
      have c1 := of_decide_eq_true c
      exact ⟨_, rfl, fin _ (by unfold tb; rw [if_pos c1])⟩
    · rw [dvi] at c
      have c1 := of_decide_eq_false (Bool.eq_false_iff.mpr c)
      refine ⟨_, rfl, tl, rfl, rfl, by omega, _, rfl, _, _, rfl, rfl, _, rfl, _, _, rfl, rfl, _, ((i : Int) / 2 ^ tl - 1).toNat, rfl, congrArg V.int (by omega), shl_ok (n := 4) (by omega) (by omega), fin _ ?_⟩
      unfold tb
      rw [if_neg c1]
  · rintro σ H3 ⟨y3, y4, y5, rfl, s3, eo⟩
    exact ⟨_, rfl, q o H3 no s3 eo⟩
/-! ### what the law says is due -/
def lows (tb : List Int) (b : Nat) (wo : Int) : Nat → List Int
  | 0 => []
  | i + 1 => if (tb.getD i 0) * 2 ^ b ≤ wo then lows tb b wo i ++ [(i : Int)] else lows tb b wo i
def low (tb : List Int) (b : Nat) (wo : Int) : Nat → Nat
  | 0 => 0
  | i + 1 => if (tb.getD i 0) * 2 ^ b ≤ wo then i else low tb b wo i
theorem lows_low (tb : List Int) (b : Nat) (wo : Int) (h0 : tb.getD 0 0 * 2 ^ b ≤ wo) : ∀ n, ∃ r, lows tb b wo (n + 1) = r ++ [(low tb b wo (n + 1) : Int)] ∧ low tb b wo (n + 1) ≤ n
  | 0 => by
    refine ⟨[], ?_, ?_⟩
    · unfold lows low
      rw [if_pos h0, if_pos h0]
      rfl
    · unfold low
      rw [if_pos h0]
      exact Nat.le_refl _
  | n + 1 => by
    obtain ⟨r, e, hl⟩ := lows_low tb b wo h0 n
    by_cases c : (tb.getD (n + 1) 0) * 2 ^ b ≤ wo
    · refine ⟨lows tb b wo (n + 1), ?_, ?_⟩
      · rw [show lows tb b wo (n + 1 + 1) = lows tb b wo (n + 1) ++ [((n + 1 : Nat) : Int)] by rw [lows, if_pos c], show low tb b wo (n + 1 + 1) = n + 1 by rw [low, if_pos c]]
      · rw [show low tb b wo (n + 1 + 1) = n + 1 by rw [low, if_pos c]]
        exact Nat.le_refl _
    · refine ⟨r, ?_, ?_⟩
      · rw [show lows tb b wo (n + 1 + 1) = lows tb b wo (n + 1) by rw [lows, if_neg c], show low tb b wo (n + 1 + 1) = low tb b wo (n + 1) by rw [low, if_neg c]]
        exact e
      · rw [show low tb b wo (n + 1 + 1) = low tb b wo (n + 1) by rw [low, if_neg c]]
        omega
theorem lows_len (tb : List Int) (b : Nat) (wo : Int) : ∀ n, (lows tb b wo n).length ≤ n
  | 0 => Nat.le_refl _
  | n + 1 => by
    have := lows_len tb b wo n
    unfold lows
    split
    · rw [List.length_append, List.length_singleton]
      omega
    · omega
def nea (be ab : Int) (lo : Nat) : Bool := decide (ab < be) || (decide (ab = be) && decide ((lo : Int) % 2 = 1))
def dueL (tb : List Int) (tl b : Nat) (wo : Int) (aw : Bool) (how : Str) (lo : Nat) : Int × List Str :=
  if (lo : Int) = ((tb.length : Nat) : Int) - 1 then (if (aw || decide (how = "near")) = true then ((tb.length : Nat) : Int) - 1 else ((tb.length : Nat) : Int) - 1 - 1, ["over", "rounded"])
  else if wo - tb.getD lo 0 * 2 ^ b = 0 then ((lo : Int), [])
  else if (lo : Int) + (if (aw || (decide (how = "near") && nea (wo - tb.getD lo 0 * 2 ^ b) (tb.getD (lo + 1) 0 * 2 ^ b - wo) lo)) = true then 1 else 0) = ((tb.length : Nat) : Int) - 1 then ((lo : Int) + (if (aw || (decide (how = "near") && nea (wo - tb.getD lo 0 * 2 ^ b) (tb.getD (lo + 1) 0 * 2 ^ b - wo) lo)) = true then 1 else 0), ["over", "rounded"])
  else ((lo : Int) + (if (aw || (decide (how = "near") && nea (wo - tb.getD lo 0 * 2 ^ b) (tb.getD (lo + 1) 0 * 2 ^ b - wo) lo)) = true then 1 else 0), if wo < 2 ^ (tl + b) then ["under", "rounded"] else ["rounded"])
def dueN (tb : List Int) (tl b : Nat) (wo : Int) (aw : Bool) (how : Str) : Int × List Str := dueL tb tl b wo aw how (low tb b wo tb.length)
def spDue (K : PySem.W.Frag) : Sp := fun vs H Q _ => ∃ (a : Addr) (ts : List Int) (tl b : Nat) (wo : Int) (aw : Bool) (how : Str), vs = [.ref a, .int (tl : Int), .int wo, .int (b : Int), .bl aw, .str how] ∧ SqL K H a (ts.map V.int) ∧ 0 < ts.length ∧ ts.length ≤ 100 ∧ (∀ t ∈ ts, 0 ≤ t ∧ t < 2 ^ 30) ∧ ts.getD 0 0 = 0 ∧ b ≤ 100 ∧ tl ≤ 100 ∧ 0 ≤ wo ∧
  ∀ t H', H t = none → Same H H' → PairAt H' t (dueN ts tl b wo aw how) → Q (.ref t) H'
theorem getD_mem {ts : List Int} {i : Nat} (h : i < ts.length) : ts.getD i 0 ∈ ts ∧ ts[i]? = some (ts.getD i 0) := by
  have e : ts.getD i 0 = ts[i] := by simp [List.getD, List.getElem?_eq_getElem h]
  rw [e]
  exact ⟨List.getElem_mem h, List.getElem?_eq_getElem h⟩
theorem at_get {ts : List Int} {i : Nat} (h : i < ts.length) : atI (ts.map V.int) (i : Int) = some (.int (ts.getD i 0)) := by
  refine atI_nat ?_
  rw [List.getElem?_map, (getD_mem h).2]
  rfl
theorem ok__law_due (B : Bl mg) (L : LL K mg C a1 a2 a3 a4 a5 a6 a7 a8 a9 a10 a11 a12 a13 a14 a15 a16 a17 a18 a19 a20 a21 a22 a23 a24 a25 l1 l2 l3 l4 l5 l6 l7 l8 l9 l10 l11 l12 l13 l14 l15 l16 l17 l18 l19 l20 l21 l22 l23 l24 l25 t23 t24 t25 tg_NEAR tg_CUT tg_UP fW) : FnOk P w K mg base CX0 1 a18 l18 ["_law_table_here", "_law_tail", "_law_worth", "_law_by", "_law_away", "_law_how"] (spDue K) := by
  refine L.F__law_due.ok sc__law_due (fun vs H Q E h => ?_) (fun cdv A outer s H vs Q E hr h => ?_)
  · obtain ⟨a, ts, tl, b, wo, aw, how, rfl, _⟩ := h
    rfl
  obtain ⟨a, ts, tl, b, wo, aw, how, rfl, hS, hl0, hl, hts, ht0, hb, htl, hw, q⟩ := h
  refine ⟨_, (pss_cons (ps_setLc (i := 6) (own := [("_law_size", 12), ("_law_one", 13)]) (g := gTup K 2 (gCons (gName 12) (gCons (gName 13) gNil))) (by rfl) sc__law_due.nd rfl rfl (sw_true rfl rfl rfl (by decide +kernel)) (pi_enum (by rfl) B.enumerate (pa_cons (pv 0) pa_nil)) (blkOk_by (own := [("_law_size", 12), ("_law_one", 13)]) (N := ["_law_table_here", "_law_tail", "_law_worth", "_law_by", "_law_away", "_law_how", "_law_sizes", "_law_low", "_law_top", "_law_below", "_law_above", "_law_nearer", "_law_size", "_law_one"]) (sc := defScope s__law_due) (by decide +kernel)) (fun _ _ _ _ _ => pg_tup rfl (pgs_cons (pg_name (i := 12) sc__law_due.nd rfl (Or.inl rfl) (.inr rfl)) (pgs_cons (pg_name (i := 13) sc__law_due.nd rfl (Or.inl rfl) (.inr rfl)) pgs_nil))) (fun _ _ _ _ _ => pts_one (pt_cmpR op_le (pe_op op_shlN (pv 13) (pv 3)) (pv 2) (nomark _))) (fun _ _ _ _ _ => (pv 12)))
    (pss_cons (ps_par (by rfl) sc__law_due.nd (i := 7) (j := 8) rfl rfl (by decide) rfl rfl (pa_cons (pe_ix ix_list (pv 6) (pe_un un_neg pe_int) (fun _ _ => rfl)) (pa_cons (pe_op op_sub (pe_callB call_len_seq (by rfl) B.len PySem.boot_len (pa_cons (pv 0) pa_nil)) pe_int) pa_nil)) (by rfl))
    (pss_cons (ps_if (pt_cmpR op_eq (pv 7) (pv 8) (nomark _)) (pss_one (ps_ret (pe_tup (pa_cons (pe_ifExp (PW.pt (pw_or (pt_val (pv 4)) (pw_or1 (pt_cmpR op_eq (pv 5) pe_str (nomark _))))) (pv 8) (pe_op op_sub (pv 8) pe_int)) (pa_cons (pe_tup (pa_cons pe_str (pa_cons pe_str pa_nil))) pa_nil))))) pss_nil)
    (pss_cons (ps_set (i := 9) sc__law_due.nd rfl (.inl rfl) (pe_op op_sub (pv 2) (pe_op op_shlN (pe_ix ix_list (pv 0) (pv 7) (fun _ _ => rfl)) (pv 3))))
    (pss_cons (ps_set (i := 10) sc__law_due.nd rfl (.inl rfl) (pe_op op_sub (pe_op op_shlN (pe_ix ix_list (pv 0) (pe_op op_add (pv 7) pe_int) (fun _ _ => rfl)) (pv 3)) (pv 2)))
    (pss_cons (ps_if (pt_cmpR op_eq (pv 9) pe_int (nomark _)) (pss_one (ps_ret (pe_tup (pa_cons (pv 7) (pa_cons (pe_tup pa_nil) pa_nil))))) pss_nil)
    (pss_cons (ps_set (i := 11) sc__law_due.nd rfl (.inl rfl) (pe_or (pe_cmpR op_lt (pv 10) (pv 9) (nomark _)) (pe_one (pe_and (pe_cmpR op_eq (pv 10) (pv 9) (nomark _)) (pe_one (pe_cmpR op_eq (pe_op op_andM (pv 7) pe_int) pe_int (nomark _)))))))
    (pss_cons (ps_set (i := 12) sc__law_due.nd rfl (.inl rfl) (pe_op op_add (pv 7) (pe_callTy call_int1 (by rfl) B.int PyProof.Rows.boot_int (pa_cons (pe_or (pv 4) (pe_one (pe_and (pe_cmpR op_eq (pv 5) pe_str (nomark _)) (pe_one (pv 11))))) pa_nil))))
    (pss_cons (ps_if (pt_cmpR op_eq (pv 12) (pv 8) (nomark _)) (pss_one (ps_ret (pe_tup (pa_cons (pv 12) (pa_cons (pe_tup (pa_cons pe_str (pa_cons pe_str pa_nil))) pa_nil))))) pss_nil)
    (pss_one (ps_ret (pe_tup (pa_cons (pv 12) (pa_cons (pe_ifExp (pt_cmpR op_lt (pv 2) (pe_op op_oneShl pe_int (pe_op op_add (pv 1) (pv 3))) (nomark _)) (pe_tup (pa_cons pe_str (pa_cons pe_str pa_nil))) (pe_tup (pa_cons pe_str pa_nil))) pa_nil)))))))))))))), ?_⟩
  have shl : ∀ z ∈ ts, CShl z (b : Int) := fun z hz => by
    have := hts z hz
    exact shl_ok (n := 30) (by omega) (by omega)
  refine ⟨_, rfl, a, _, rfl, hS, fun D nD => ?_⟩
  refine lc_it (walk_enum (K := K) (a := a) (xs := ts.map V.int)) (fun i H3 => Same H H3 ∧ H3 D = some (.lst ((lows ts b wo i).map V.int))) ⟨same_upd nD, upd_same⟩ (fun i H3 _ ⟨s3, _⟩ => s3.seq hS) ?_ ?_
  · rintro i x H3 H4 hi ⟨s3, eD⟩ ⟨T, x1, x2, rfl, nT, rfl, e1, e2⟩
    cases e1
    rw [List.length_map] at hi
    obtain ⟨z, hz, rfl⟩ := int_at e2
    rw [(getD_mem hi).2] at hz
    cases hz
    have sT := same_upd (o := .tup [.int (i : Nat), .int (ts.getD i 0)]) nT
    have eDT := sT _ _ eD
    have st : lows ts b wo (i + 1) = if ts.getD i 0 * 2 ^ b ≤ wo then lows ts b wo i ++ [(i : Int)] else lows ts b wo i := rfl
    refine ⟨T, _, rfl, .inl (.inl upd_same), rfl, _, _, rfl, _, _, rfl, rfl, rfl, ?_⟩
    refine ⟨_, rfl, _, rfl, _, b, rfl, rfl, shl _ (getD_mem hi).1, _, rfl, _, _, rfl, rfl, _, rfl, ite2 (fun c => ?_) (fun c => ?_)⟩
    · have c1 := of_decide_eq_true c
      refine ⟨_, rfl, _, eDT, ?_, fun p u e => ?_, ?_⟩
      · rw [List.length_map]
        have := lows_len ts b wo i
        exact small1000 (by omega)
      · rw [upd_ne (ne_of_none e nD)]
        exact sT _ _ (s3 _ _ e)
      · rw [upd_same, st, if_pos c1, List.map_append]
        rfl
    · have c1 := of_decide_eq_false (Bool.eq_false_iff.mpr c)
      refine ⟨s3.trans sT, ?_⟩
      rw [st, if_neg c1]
      exact eDT
  rintro H3 ⟨s3, eD⟩
  rw [List.length_map] at eD
  obtain ⟨n, en⟩ : ∃ n, ts.length = n + 1 := ⟨ts.length - 1, by omega⟩
  obtain ⟨r, er, hlo⟩ := lows_low ts b wo (by rw [ht0, Int.zero_mul]; exact hw) n
  have q' : ∀ lo, low ts b wo (n + 1) = lo → ∀ t H', H t = none → Same H H' → PairAt H' t (dueL ts tl b wo aw how lo) → Q (.ref t) H' := fun lo e => by
    rw [← e, ← en]
    exact q
  rw [en, er, List.map_append] at eD
  generalize low ts b wo (n + 1) = lo at eD hlo q'
  replace q := q' lo rfl
  have hS3 := s3.seq hS
  refine ⟨_, rfl, _, rfl, D, _, _, _, rfl, rfl, SqL.of eD, atI_last _ _, _, rfl, a, _, rfl, .inl hS3, _, _, rfl, rfl, _, _, rfl, ?_⟩
  rw [List.length_map]
  unfold dueL at q
  have pair : ∀ (H5 : Hp) (e : Addr) (r : Int × List Str), Same H H5 → H5 e = some (.tup (r.2.map V.str)) → (∀ t H', H t = none → Same H H' → PairAt H' t r → Q (.ref t) H') → ∀ t, H5 t = none → Q (.ref t) (upd H5 t (.tup [.int r.1, .ref e])) := fun H5 e r s5 he hq t nt =>
    hq t _ (s5.free nt) (s5.trans (same_upd nt)) ⟨e, upd_same, same_upd nt _ _ he⟩
  refine ⟨_, rfl, _, rfl, rfl, _, rfl, ite2 (fun c => ?_) (fun c => ?_)⟩
  · rw [dvi] at c
    rw [if_pos (of_decide_eq_true c)] at q
    apply cutP
    case h2 =>
      intro rest
      refine ⟨_, rfl, _, rfl, ite2 (fun d => ?_) (fun d => ?_)⟩
      · rw [if_pos (by rw [d]; rfl)] at q
        refine ⟨_, rfl, (by show 2 ≤ sizeLine; decide), fun e ne => ⟨(by show 2 ≤ sizeLine; decide), fun t nt => ?_⟩⟩
        exact pair _ e (_, ["over", "rounded"]) (s3.trans (same_upd ne)) upd_same q t nt
      · refine ⟨_, rfl, rfl, _, rfl, ite2 (fun d2 => ?_) (fun d2 => ?_)⟩
        · rw [dvs] at d2
          rw [if_pos (by rw [d2, Bool.or_true])] at q
          refine ⟨_, rfl, (by show 2 ≤ sizeLine; decide), fun e ne => ⟨(by show 2 ≤ sizeLine; decide), fun t nt => ?_⟩⟩
          exact pair _ e (_, ["over", "rounded"]) (s3.trans (same_upd ne)) upd_same q t nt
        · rw [dvs] at d2
          rw [if_neg (by rw [Bool.eq_false_iff.mpr d, Bool.eq_false_iff.mpr d2]; decide)] at q
          refine ⟨_, rfl, _, _, rfl, rfl, (by show 2 ≤ sizeLine; decide), fun e ne => ⟨(by show 2 ≤ sizeLine; decide), fun t nt => ?_⟩⟩
          exact pair _ e (_, ["over", "rounded"]) (s3.trans (same_upd ne)) upd_same q t nt
    exact trivial
  rw [dvi] at c
  have c1 := of_decide_eq_false (Bool.eq_false_iff.mpr c)
  rw [if_neg c1] at q
  have hlo1 : lo < ts.length := by omega
  have hlo2 : lo + 1 < ts.length := by omega
  refine ⟨_, rfl, _, rfl, _, rfl, a, _, _, _, rfl, rfl, hS3, at_get hlo1, _, rfl, _, b, rfl, rfl, shl _ (getD_mem hlo1).1, _, _, rfl, rfl, ?_⟩
  refine ⟨_, rfl, _, rfl, _, _, rfl, rfl, a, _, _, _, rfl, rfl, hS3, at_get hlo2, _, rfl, _, b, rfl, rfl, shl _ (getD_mem hlo2).1, _, rfl, _, _, rfl, rfl, ?_⟩
  refine ⟨_, rfl, rfl, _, rfl, ite2 (fun d => ?_) (fun d => ?_)⟩
  · rw [dvi] at d
    rw [if_pos (of_decide_eq_true d)] at q
    refine ⟨_, rfl, Nat.zero_le _, fun e ne => ⟨(by show 2 ≤ sizeLine; decide), fun t nt => ?_⟩⟩
    exact pair _ e (_, []) (s3.trans (same_upd ne)) upd_same q t nt
  rw [dvi] at d
  rw [if_neg (of_decide_eq_false (Bool.eq_false_iff.mpr d))] at q
  -- nearer
  apply cutP
  case h2 =>
    intro rest
    refine ⟨_, rfl, _, rfl, _, _, rfl, rfl, _, rfl, ?_⟩
    by_cases e1 : ts.getD (lo + 1) 0 * 2 ^ b - wo < wo - ts.getD lo 0 * 2 ^ b
    · rw [decide_eq_true e1]
      refine iteT ?_
      rw [show V.bl true = V.bl (nea (wo - ts.getD lo 0 * 2 ^ b) (ts.getD (lo + 1) 0 * 2 ^ b - wo) lo) by unfold nea; rw [decide_eq_true e1]; rfl]
      exact rest
    · rw [decide_eq_false e1]
      refine iteF ⟨_, rfl, _, rfl, rfl, _, rfl, ?_⟩
      by_cases e2 : ts.getD (lo + 1) 0 * 2 ^ b - wo = wo - ts.getD lo 0 * 2 ^ b
      · rw [dvi, decide_eq_true e2]
        refine iteT ⟨_, rfl, _, 1, rfl, rfl, rfl, ?_⟩
        dsimp only
        rw [dvi, show decide ((lo : Int) % 2 ^ 1 = 1) = nea (wo - ts.getD lo 0 * 2 ^ b) (ts.getD (lo + 1) 0 * 2 ^ b - wo) lo by unfold nea; rw [decide_eq_false e1, decide_eq_true e2]; rfl]
        exact rest
      · rw [dvi, decide_eq_false e2]
        refine iteF ?_
        rw [show V.bl false = V.bl (nea (wo - ts.getD lo 0 * 2 ^ b) (ts.getD (lo + 1) 0 * 2 ^ b - wo) lo) by unfold nea; rw [decide_eq_false e1, decide_eq_false e2]; rfl]
        exact rest
  generalize nea (wo - ts.getD lo 0 * 2 ^ b) (ts.getD (lo + 1) 0 * 2 ^ b - wo) lo = nr at q ⊢
  apply cutP
  case h2 =>
    intro rest
    refine ⟨_, rfl, _, rfl, _, rfl, ite2 (fun e1 => ?_) (fun e1 => ?_)⟩
    · refine .inr ⟨_, rfl, _, _, rfl, rfl, ?_⟩
      have e0 : (lo : Int) + (if true = true then (1 : Int) else 0) = (lo : Int) + (if (aw || (decide (how = "near") && nr)) = true then (1 : Int) else 0) := by rw [e1]; rfl
      dsimp only
      rw [e0]
      exact rest
    · refine ⟨_, rfl, rfl, _, rfl, ?_⟩
      rw [dvs]
      have e1' := Bool.eq_false_iff.mpr e1
      by_cases e2 : how = "near"
      · rw [decide_eq_true e2]
        refine iteT ⟨_, rfl, .inr ⟨_, rfl, _, _, rfl, rfl, ?_⟩⟩
        have e0 : (lo : Int) + (if nr = true then (1 : Int) else 0) = (lo : Int) + (if (aw || (decide (how = "near") && nr)) = true then (1 : Int) else 0) := by rw [e1', decide_eq_true e2, Bool.false_or, Bool.true_and]
        dsimp only
        rw [e0]
        exact rest
      · rw [decide_eq_false e2]
        refine iteF (.inr ⟨_, rfl, _, _, rfl, rfl, ?_⟩)
        have e0 : (lo : Int) + (if false = true then (1 : Int) else 0) = (lo : Int) + (if (aw || (decide (how = "near") && nr)) = true then (1 : Int) else 0) := by rw [e1', decide_eq_false e2, Bool.false_or, Bool.false_and]
        dsimp only
        rw [e0]
        exact rest
  generalize (lo : Int) + (if (aw || (decide (how = "near") && nr)) = true then (1 : Int) else 0) = si at q ⊢
  refine ⟨_, rfl, _, rfl, rfl, _, rfl, ite2 (fun e1 => ?_) (fun e1 => ?_)⟩
  · rw [dvi] at e1
    rw [if_pos (of_decide_eq_true e1)] at q
    refine ⟨_, rfl, (by show 2 ≤ sizeLine; decide), fun e ne => ⟨(by show 2 ≤ sizeLine; decide), fun t nt => ?_⟩⟩
    exact pair _ e (_, ["over", "rounded"]) (s3.trans (same_upd ne)) upd_same q t nt
  rw [dvi] at e1
  rw [if_neg (of_decide_eq_false (Bool.eq_false_iff.mpr e1))] at q
  refine ⟨_, rfl, _, rfl, _, rfl, _, rfl, _, _, rfl, rfl, tl + b, rfl, rfl, by omega, _, _, rfl, rfl, _, rfl, ite2 (fun e2 => ?_) (fun e2 => ?_)⟩
  · rw [if_pos (of_decide_eq_true e2)] at q
    refine ⟨(by show 2 ≤ sizeLine; decide), fun e ne => ⟨(by show 2 ≤ sizeLine; decide), fun t nt => ?_⟩⟩
    exact pair _ e (_, ["under", "rounded"]) (s3.trans (same_upd ne)) upd_same q t nt
  · rw [if_neg (of_decide_eq_false (Bool.eq_false_iff.mpr e2))] at q
    refine ⟨(by show 1 ≤ sizeLine; decide), fun e ne => ⟨(by show 2 ≤ sizeLine; decide), fun t nt => ?_⟩⟩
    exact pair _ e (_, ["rounded"]) (s3.trans (same_upd ne)) upd_same q t nt
end
section
variable {P : Program} {w : World} {K : PySem.W.Frag} {mg : Str → Option Value} {base : Heap}
variable {C : Addr} {a1 a2 a3 a4 a5 a6 a7 a8 a9 a10 a11 a12 a13 a14 a15 a16 a17 a18 a19 a20 a21 a22 a23 a24 a25 : Addr} {l1 l2 l3 l4 l5 l6 l7 l8 l9 l10 l11 l12 l13 l14 l15 l16 l17 l18 l19 l20 l21 l22 l23 l24 l25 : FuncData} {t23 t24 t25 tg_NEAR tg_CUT tg_UP : Tok} {fW : Addr}
/-! ### the law -/
def aww (how : Str) (s : Int) : Bool := (decide (how = "up") && decide (s = 0)) || (decide (how = "down") && decide (s = 1))
def chk (sc tl : Nat) (s n : Nat) (pw : Nat) (how : Str) : Bool :=
  decide (GR.rnd sc tl s n (GR.lea sc tl + (-4 + (pw : Int))) how false = ((s : Int) * 2 ^ (sc + tl) + (dueN (tbl sc tl) tl 4 ((n : Int) * 2 ^ pw) (aww how s) how).1, (dueN (tbl sc tl) tl 4 ((n : Int) * 2 ^ pw) (aww how s) how).2))
theorem chk_all : ([2, 3].all fun sc => [1, 2].all fun tl => [0, 1].all fun s => WL.all fun how => (List.range 16).all fun n => (List.range 14).all fun pw => chk sc tl s n pw how) = true := by decide +kernel
theorem chk_at {sc tl s n pw : Nat} {how : Str} (h1 : 2 ≤ sc) (h2 : sc ≤ 3) (h3 : 1 ≤ tl) (h4 : tl ≤ 2) (h5 : s ≤ 1) (h6 : how ∈ WL) (h7 : n < 16) (h8 : pw < 14) :
    GR.rnd sc tl s n (GR.lea sc tl + (-4 + (pw : Int))) how false = ((s : Int) * 2 ^ (sc + tl) + (dueN (tbl sc tl) tl 4 ((n : Int) * 2 ^ pw) (aww how s) how).1, (dueN (tbl sc tl) tl 4 ((n : Int) * 2 ^ pw) (aww how s) how).2) := by
  have a := chk_all
  have a1 := List.all_eq_true.mp a sc (by have : sc = 2 ∨ sc = 3 := by omega
                                          rcases this with z | z <;> subst z <;> decide)
  have a2 := List.all_eq_true.mp a1 tl (by have : tl = 1 ∨ tl = 2 := by omega
                                           rcases this with z | z <;> subst z <;> decide)
  have a3 := List.all_eq_true.mp a2 s (by have : s = 0 ∨ s = 1 := by omega
                                          rcases this with z | z <;> subst z <;> decide)
  have a4 := List.all_eq_true.mp a3 how h6
  have a5 := List.all_eq_true.mp a4 n (List.mem_range.mpr h7)
  have a6 := List.all_eq_true.mp a5 pw (List.mem_range.mpr h8)
  exact of_decide_eq_true a6
theorem tbl_len (sc tl : Nat) : (tbl sc tl).length = tbn sc tl := by
  unfold tbl
  rw [List.length_map, List.length_range]
theorem tbl_ok {sc tl : Nat} (h1 : 2 ≤ sc) (h2 : sc ≤ 3) (h3 : 1 ≤ tl) (h4 : tl ≤ 2) : (∀ t ∈ tbl sc tl, 0 ≤ t ∧ t < 2 ^ 30) ∧ (tbl sc tl).getD 0 0 = 0 ∧ 0 < (tbl sc tl).length ∧ (tbl sc tl).length ≤ 100 := by
  have a : sc = 2 ∨ sc = 3 := by omega
  have b : tl = 1 ∨ tl = 2 := by omega
  rcases a with z | z <;> rcases b with y | y <;> subst z <;> subst y <;> decide +kernel
theorem dp_pair {H : Hp} {p : Addr} {r : Int × List Str} (h : PairAt H p r) : Dp K H (.ref p) (.tuple [.int r.1, .tuple (r.2.map PyData.str)]) := by
  obtain ⟨f, e1, e2⟩ := h
  refine .tup (.inl (.inl e1)) (.cons (.int _) (.cons (.tup (.inl (.inl e2)) ?_) .nil))
  generalize r.2 = l
  induction l with
  | nil => exact .nil
  | cons x l ih => exact .cons (.str x) ih
theorem lv_pair (r : Int × List Str) (h : r.2.length ≤ 1000) : Lv 2 (.tuple [.int r.1, .tuple (r.2.map PyData.str)]) := by
  refine ⟨by show 2 ≤ 1000000; decide, fun d hd => ?_⟩
  rcases List.mem_cons.mp hd with e | hd
  · rw [e]
    trivial
  · rcases List.mem_cons.mp hd with e | hd
    · rw [e]
      refine ⟨by rw [List.length_map]; omega, fun d hd => ?_⟩
      obtain ⟨x, _, rfl⟩ := List.mem_map.mp hd
      trivial
    · exact nomatch hd
theorem due_len (tb : List Int) (tl b : Nat) (wo : Int) (aw : Bool) (how : Str) : (dueN tb tl b wo aw how).2.length ≤ 1000 := by
  unfold dueN dueL
  repeat' split
  all_goals first | exact (by decide : 2 ≤ 1000) | exact (by decide : 0 ≤ 1000) | exact (by decide : 1 ≤ 1000)
theorem gB {i : Nat} {v u : Bool} {σ : L2.St} {H : Hp} {D : L2.St → Hp → Prop} (e : v = u) (h : gName i (V.bl u) σ H D) : gName i (V.bl v) σ H D := e ▸ h
def spLaw (K : PySem.W.Frag) : Sp := fun vs H Q _ => ∃ (a : Addr) (ns : List Int), vs = [.ref a] ∧ SqL K H a (ns.map V.int) ∧ ns.length ≤ 63 ∧ ∀ H', Q (.bl true) H'
theorem ok_law {f : Addr} {fd : FuncData} (F : Fun K "law" "law" s_law f fd) (B : Bl mg) (L : LL K mg C a1 a2 a3 a4 a5 a6 a7 a8 a9 a10 a11 a12 a13 a14 a15 a16 a17 a18 a19 a20 a21 a22 a23 a24 a25 l1 l2 l3 l4 l5 l6 l7 l8 l9 l10 l11 l12 l13 l14 l15 l16 l17 l18 l19 l20 l21 l22 l23 l24 l25 t23 t24 t25 tg_NEAR tg_CUT tg_UP fW) : FnOk P w K mg base CX0 6 f fd ["_law_script"] (spLaw K) := by
  have G__law_folded : FnOk P w K mg base CX0 5 a14 l14 ["_law_script", "_law_size"] (spFolded K) := ok_folded L.F__law_folded B
  have G__law_box : FnOk P w K mg base CX0 5 a12 l12 ["_law_script", "_law_k"] (spBox K) := ok_box L.F__law_box B
  have G__law_take : FnOk P w K mg base CX0 5 a13 l13 ["_law_box_here", "_law_size"] (spTake 1) := (ok_take L.F__law_take L.b__law_take L.m__law_take B 1).mono (by decide)
  have G__law_same : FnOk P w K mg base CX0 5 a15 l15 ["_law_found", "_law_due_here"] (spSame K 3) := (ok_same L.F__law_same L.b__law_same L.m__law_same B 3).mono (by decide)
  have G_Form___init__ : FnOk P w K mg base CX0 4 a19 l19 ["self", "scale", "tail"] (spInit C) := (ok_Form___init__ B L).mono (by decide)
  have G__law_table : FnOk P w K mg base CX0 5 a17 l17 ["_law_scale", "_law_tail"] spTable := (ok__law_table B L).mono (by decide)
  have G__law_least : FnOk P w K mg base CX0 5 a16 l16 ["_law_scale", "_law_tail"] spLeast := (ok__law_least B L).mono (by decide)
  have G__law_due : FnOk P w K mg base CX0 5 a18 l18 ["_law_table_here", "_law_tail", "_law_worth", "_law_by", "_law_away", "_law_how"] (spDue K) := (ok__law_due B L).mono (by decide)
  have G_rounded : FnOk P w K mg base CX0 5 a4 l4 ["form", "sign", "number", "power", "way", "more"] (spRnd C) := (ok_rounded B L).mono (by decide)
  refine F.ok sc_law (fun vs H Q E h => ?_) (fun cdv A outer s H vs Q E hr h => ?_)
  · obtain ⟨a, ns, rfl, _⟩ := h
    rfl
  obtain ⟨a, ns, rfl, hS, h63, q⟩ := h
  refine ⟨_, (pss_cons (ps_set (i := 1) sc_law.nd rfl (.inl rfl) (pe_call G__law_folded hr (by rfl) L.m__law_folded L.F__law_folded.kp L.b__law_folded .nil pass0 (pa_cons (pv 0) (pa_cons pe_int pa_nil))))
    (pss_cons (ps_for PassesOwn.never rfl (pi_range1 (by rfl) B.range (pa_cons (pe_callB (call_max2 rfl) (by rfl) B.max boot_max (pa_cons pe_int (pa_cons (pe_callB call_len_seq (by rfl) B.len PySem.boot_len (pa_cons (pv 1) pa_nil)) pa_nil))) pa_nil)) (pg_name (i := 2) sc_law.nd rfl (.inl rfl)) (pss_cons (ps_set (i := 3) sc_law.nd rfl (.inl rfl) (pe_call G__law_box hr (by rfl) L.m__law_box L.F__law_box.kp L.b__law_box .nil pass0 (pa_cons (pv 1) (pa_cons (pv 2) pa_nil))))
    (pss_cons (ps_par3 (by rfl) sc_law.nd (i := 4) (j := 5) (l := 6) rfl rfl rfl (by decide) (by decide) (by decide) rfl rfl rfl (pa_cons (pe_op op_add pe_int (pe_call G__law_take hr (by rfl) L.m__law_take L.F__law_take.kp L.b__law_take .nil pass0 (pa_cons (pv 3) (pa_cons pe_int pa_nil)))) (pa_cons (pe_op op_add pe_int (pe_call G__law_take hr (by rfl) L.m__law_take L.F__law_take.kp L.b__law_take .nil pass0 (pa_cons (pv 3) (pa_cons pe_int pa_nil)))) (pa_cons (pe_call G__law_take hr (by rfl) L.m__law_take L.F__law_take.kp L.b__law_take .nil pass0 (pa_cons (pv 3) (pa_cons pe_int pa_nil))) pa_nil))) (by rfl))
    (pss_cons (ps_par3 (by rfl) sc_law.nd (i := 7) (j := 8) (l := 9) rfl rfl rfl (by decide) (by decide) (by decide) rfl rfl rfl (pa_cons (pe_make L.M G_Form___init__ hr (by rfl) L.T.mgC L.b_Form___init__ .nil pass0 (pa_cons (pv 4) (pa_cons (pv 5) pa_nil))) (pa_cons (pe_call G__law_table hr (by rfl) L.m__law_table L.F__law_table.kp L.b__law_table .nil pass0 (pa_cons (pv 4) (pa_cons (pv 5) pa_nil))) (pa_cons (pe_call G__law_least hr (by rfl) L.m__law_least L.F__law_least.kp L.b__law_least .nil pass0 (pa_cons (pv 4) (pa_cons (pv 5) pa_nil))) pa_nil))) (by rfl))
    (pss_one (ps_for PassesOwn.never rfl (pi_range1 (by rfl) B.range (pa_cons pe_int pa_nil)) (pg_name (i := 10) sc_law.nd rfl (.inl rfl)) (pss_one (ps_for PassesOwn.never rfl (pi_range2 (by rfl) B.range (pa_cons (pe_un un_neg pe_int) (pa_cons (pe_op op_add (pe_op op_oneShl pe_int (pv 4)) (pv 5)) pa_nil))) (pg_name (i := 11) sc_law.nd rfl (.inl rfl)) (pss_one (ps_for PassesOwn.never rfl (pi_tup (pe_glob (v := .ref fW) rfl L.W.mgW rfl)) (pg_name (i := 12) sc_law.nd rfl (.inl rfl)) (pss_cons (ps_set (i := 13) sc_law.nd rfl (.inl rfl) (pe_or (pe_and (pe_cmpR op_eq (pv 12) pe_str (nomark _)) (pe_one (pe_cmpR op_eq (pv 6) pe_int (nomark _)))) (pe_one (pe_and (pe_cmpR op_eq (pv 12) pe_str (nomark _)) (pe_one (pe_cmpR op_eq (pv 6) pe_int (nomark _)))))))
    (pss_cons (ps_asg (pe_call G__law_due hr (by rfl) L.m__law_due L.F__law_due.kp L.b__law_due .nil pass0 (pa_cons (pv 8) (pa_cons (pv 5) (pa_cons (pe_op op_shlN (pv 10) (pe_op op_add (pv 11) pe_int)) (pa_cons pe_int (pa_cons (pv 13) (pa_cons (pv 12) pa_nil))))))) (pg_tup (by rfl) (pgs_cons (pg_name (i := 14) sc_law.nd rfl (.inl rfl)) (pgs_cons (pg_name (i := 15) sc_law.nd rfl (.inl rfl)) pgs_nil))))
    (pss_cons (ps_set (i := 16) sc_law.nd rfl (.inl rfl) (pe_tup (pa_cons (pe_op op_add (pe_op op_shlN (pv 6) (pe_op op_add (pv 4) (pv 5))) (pv 14)) (pa_cons (pv 15) pa_nil))))
    (pss_one (ps_if (pt_not (pt_val (pe_call G__law_same hr (by rfl) L.m__law_same L.F__law_same.kp L.b__law_same .nil pass0 (pa_cons (pe_callN G_rounded hr (by rfl) L.m_rounded L.F_rounded.kp (L.kb_rounded_way).choose_spec pass0 (pa_cons (pv 7) (pa_cons (pv 6) (pa_cons (pv 10) (pa_cons (pe_op op_add (pv 9) (pv 11)) pa_nil)))) (pk_cons (pv 12) pk_nil)) (pa_cons (pv 16) pa_nil))))) (pss_one (ps_ret pe_bl)) pss_nil)))))))))))))))
    (pss_one (ps_ret pe_bl)))), ?_⟩
  refine ⟨_, rfl, a, ns, 2, rfl, hS, h63, by decide, by decide, fun p H1 zs np s1 ep lz => ?_⟩
  have lz2 : zs.length ≤ 2 := by omega
  refine ⟨_, rfl, p, _, rfl, .inl (SqL.of ep), _, _, rfl, ?_⟩
  obtain ⟨n, en, hn⟩ : ∃ n : Nat, (if (((zs.map V.int).length : Nat) : Int) > 1 then (((zs.map V.int).length : Nat) : Int) else 1) = (n : Int) ∧ n ≤ 2 := by
    rw [List.length_map]
    split
    · exact ⟨zs.length, rfl, lz2⟩
    · exact ⟨1, rfl, by decide⟩
  rw [en]
  refine ⟨_, rfl, by omega, by omega, ?_⟩
  rw [Int.toNat_natCast]
  refine for_range (n := n) (fun i σ H5 => ∃ (y2 y3 y4 y5 y6 y7 y8 y9 y10 y11 y12 y13 y14 y15 y16 : Option V), σ = [some (.ref a), some (.ref p), y2, y3, y4, y5, y6, y7, y8, y9, y10, y11, y12, y13, y14, y15, y16] ∧ Same H1 H5) ⟨none, none, none, none, none, none, none, none, none, none, none, none, none, none, none, rfl, Same.refl _⟩ ?_ ?_
  · rintro i σ H5 hi ⟨y2, y3, y4, y5, y6, y7, y8, y9, y10, y11, y12, y13, y14, y15, y16, rfl, s5⟩
    refine ⟨_, rfl, _, rfl, p, zs, _, rfl, SqL.of (s5 _ _ ep), by omega, by omega, fun b H6 nb s6 B6 => ?_⟩
    refine ⟨_, rfl, b, _, _, rfl, B6, (by decide), (by decide), (by decide), (by omega), (by decide), fun r1 H7 u0 u1 B7 k7 => ?_⟩
    replace B7 := bx1 B7
    refine ⟨_, _, rfl, rfl, _, rfl, b, _, _, rfl, B7, (by decide), (by decide), (by decide), (by omega), (by decide), fun r2 H8 v0 v1 B8 k8 => ?_⟩
    replace B8 := bx1 B8
    refine ⟨_, _, rfl, rfl, _, rfl, b, _, _, rfl, B8, (by decide), (by decide), (by decide), (by omega), (by decide), fun r3 H9 w0 w1 B9 k9 => ?_⟩
    obtain ⟨sc, esc, h1, h2⟩ : ∃ sc : Nat, 2 + r1 = (sc : Int) ∧ 2 ≤ sc ∧ sc ≤ 3 := ⟨(2 + r1).toNat, by omega, by omega, by omega⟩
    obtain ⟨tl, etl, h3, h4⟩ : ∃ tl : Nat, 1 + r2 = (tl : Int) ∧ 1 ≤ tl ∧ tl ≤ 2 := ⟨(1 + r2).toNat, by omega, by omega, by omega⟩
    obtain ⟨s, es, h5⟩ : ∃ s : Nat, r3 = (s : Int) ∧ s ≤ 1 := ⟨r3.toNat, by omega, by omega⟩
    refine ⟨.int (sc : Int), .int (tl : Int), .int (s : Int), by show [V.int (2 + r1), V.int (1 + r2), V.int r3] = _; rw [esc, etl, es], ?_⟩
    have kA : Keep b H6 H9 := k7.trans (k8.trans k9)
    have p3 : (2 : Int) ^ sc ≤ 2 ^ 3 := GM.pow_le' h2
    have p0 := GM.pow_pos' sc
    refine ⟨_, rfl, _, rfl, fun x dx nx ndx ne => ?_⟩
    refine ⟨x, dx, sc, tl, rfl, upd_same, h1, by omega, h3, by omega, fun H10 F10 kp => ⟨rfl, ?_⟩⟩
    have s10 : Same H9 H10 := made nx ndx ne kp
    refine ⟨_, rfl, _, rfl, sc, tl, rfl, h1, h2, h3, h4, fun tp H11 ntp s11 etp => ?_⟩
    refine ⟨_, rfl, _, rfl, sc, tl, rfl, h1, by omega, ?_⟩
    refine ⟨_, _, _, rfl, ?_⟩
    have F11 := F10.same s11
    obtain ⟨t1, t2, t3, t4⟩ := tbl_ok h1 h2 h3 h4
    refine ⟨16, rfl, by decide, by decide, for_range (n := 16) (fun j σ H12 => ∃ (y10 y11 y12 y13 y14 y15 y16 : Option V), σ = [some (.ref a), some (.ref p), some (.int (0 + (i : Int))), some (.ref b), some (.int (sc : Int)), some (.int (tl : Int)), some (.int (s : Int)), some (.ref x), some (.ref tp), some (.int (GR.lea sc tl)), y10, y11, y12, y13, y14, y15, y16] ∧ Same H11 H12) ⟨y10, y11, y12, y13, y14, y15, y16, rfl, Same.refl _⟩ ?_ ?_⟩
    · rintro j σ H12 hj ⟨y10, y11, y12, y13, y14, y15, y16, rfl, s12⟩
      show gName _ (V.int (0 + (j : Int))) _ _ _
      rw [Int.zero_add]
      refine ⟨_, rfl, _, rfl, sc, rfl, rfl, by omega, _, rfl, _, _, rfl, rfl, _, _, rfl, ⟨by decide, by decide, by omega, by omega⟩, ?_⟩
      obtain ⟨m, em, hm⟩ : ∃ m : Nat, ((2 : Int) ^ sc + (tl : Int) - -4).toNat = m ∧ m ≤ 14 := ⟨_, rfl, by omega⟩
      rw [em]
      refine for_range (n := m) (fun g σ H13 => ∃ (y11 y12 y13 y14 y15 y16 : Option V), σ = [some (.ref a), some (.ref p), some (.int (0 + (i : Int))), some (.ref b), some (.int (sc : Int)), some (.int (tl : Int)), some (.int (s : Int)), some (.ref x), some (.ref tp), some (.int (GR.lea sc tl)), some (.int (j : Int)), y11, y12, y13, y14, y15, y16] ∧ Same H11 H13) ⟨y11, y12, y13, y14, y15, y16, rfl, s12⟩ ?_ ?_
      · rintro g σ H13 hg ⟨y11, y12, y13, y14, y15, y16, rfl, s13⟩
        refine ⟨fW, rfl, ⟨_, L.W.sq _⟩, for_tup (K := K) (a := fW) (xs := WL.map V.str) (fun h σ H14 => ∃ (y12 y13 y14 y15 y16 : Option V), σ = [some (.ref a), some (.ref p), some (.int (0 + (i : Int))), some (.ref b), some (.int (sc : Int)), some (.int (tl : Int)), some (.int (s : Int)), some (.ref x), some (.ref tp), some (.int (GR.lea sc tl)), some (.int (j : Int)), some (.int (-4 + (g : Int))), y12, y13, y14, y15, y16] ∧ Same H11 H14) ⟨y12, y13, y14, y15, y16, rfl, s13⟩ (fun h σ H14 _ _ => L.W.sq _) ?_ ?_⟩
        · rintro h v σ H14 hv ⟨y12, y13, y14, y15, y16, rfl, s14⟩
          obtain ⟨how, hh, rfl⟩ : ∃ how, how ∈ WL ∧ v = .str how := by
            rw [List.getElem?_map] at hv
            cases e : WL[h]? with
            | none => rw [e] at hv; cases hv
            | some z => rw [e] at hv; exact ⟨z, List.mem_of_getElem? e, (Option.some.inj hv).symm⟩
          -- away
          apply cutP
          case h2 =>
            intro rest
            refine ⟨_, rfl, rfl, _, rfl, ?_⟩
            rw [dvs]
            by_cases e1 : how = "up"
            · rw [decide_eq_true e1]
              refine iteT ⟨_, rfl, rfl, _, rfl, ?_⟩
              rw [dvi]
              by_cases e2 : (s : Int) = 0
              · rw [decide_eq_true e2]
                exact iteT (gB (show true = aww how s by unfold aww; rw [decide_eq_true e1, decide_eq_true e2]; rfl) rest)
              · rw [decide_eq_false e2]
                refine iteF ⟨_, rfl, rfl, _, rfl, ?_⟩
                rw [dvs, decide_eq_false (show ¬ how = "down" by rw [e1]; decide)]
                exact iteF (gB (show false = aww how s by unfold aww; rw [decide_eq_true e1, decide_eq_false e2, decide_eq_false (show ¬ how = "down" by rw [e1]; decide)]; rfl) rest)
            · rw [decide_eq_false e1]
              refine iteF ⟨_, rfl, iteF ⟨_, rfl, rfl, _, rfl, ?_⟩⟩
              rw [dvs]
              by_cases e2 : how = "down"
              · rw [decide_eq_true e2]
                exact iteT ⟨_, rfl, rfl, gB (show decide (V.int (s : Int) = V.int 1) = aww how s by rw [dvi]; unfold aww; rw [decide_eq_false e1, decide_eq_true e2]; rfl) rest⟩
              · rw [decide_eq_false e2]
                exact iteF (gB (show false = aww how s by unfold aww; rw [decide_eq_false e1, decide_eq_false e2]; rfl) rest)
          -- what is due
          have F14 := F11.same s14
          refine ⟨_, rfl, _, rfl, _, rfl, _, rfl, _, _, rfl, rfl, _, g, rfl, congrArg V.int (by omega), shl_ok (n := 5) (by omega) (by omega), _, rfl, _, rfl, tp, tbl sc tl, tl, 4, _, aww how s, how, rfl, SqL.of (s14 _ _ etp), t3, t4, t1, t2, by decide, by omega, Int.mul_nonneg (by omega) (by have := GM.pow_pos' g; omega), fun du H15 ndu s15 ⟨fl, edu, efl⟩ => ?_⟩
          refine ⟨du, _, rfl, .inl (.inl edu), rfl, _, _, rfl, _, _, rfl, rfl, ?_⟩
          refine ⟨_, rfl, _, rfl, _, rfl, _, _, rfl, rfl, _, sc + tl, rfl, rfl, shl_ok (n := 1) (by omega) (by omega), _, rfl, _, _, rfl, rfl, _, rfl, (by show 2 ≤ sizeLine; decide), fun dh ndh => ?_⟩
          have s16 := same_upd (o := .tup [.int ((s : Int) * 2 ^ (sc + tl) + (dueN (tbl sc tl) tl 4 ((j : Int) * 2 ^ g) (aww how s) how).1), .ref fl]) ndh
          have s17 := s14.trans (s15.trans s16)
          have hfit : Fit (j : Int) := ⟨by omega, Nat.le_trans (PyProof.Rows.intBits_le (k := 5) (by omega)) (by decide)⟩
          have hle := lap_in (sc := sc) (tl := tl) (p := 0) hfit (by decide) (by decide) (by omega) (by omega)
          refine ⟨_, rfl, _, rfl, _, rfl, _, rfl, _, rfl, _, _, rfl, rfl, _, rfl, rfl, rfl, x, sc, tl, (s : Int), _, _, how, false, rfl, F11.same s17, by omega, hfit, by omega, by omega, (fun z => nomatch z), fun ro H18 nro s18 hro => ?_⟩
          have ck := chk_at h1 h2 h3 h4 h5 hh (show j < 16 from hj) (show g < 14 by omega)
          rw [ck] at hro
          refine ⟨_, rfl, _, _, _, 2, rfl, rfl, lv_pair ((s : Int) * 2 ^ (sc + tl) + (dueN (tbl sc tl) tl 4 ((j : Int) * 2 ^ g) (aww how s) how).1, (dueN (tbl sc tl) tl 4 ((j : Int) * 2 ^ g) (aww how s) how).2) (due_len (tbl sc tl) tl 4 ((j : Int) * 2 ^ g) (aww how s) how), dp_pair hro, dp_pair (r := ((s : Int) * 2 ^ (sc + tl) + (dueN (tbl sc tl) tl 4 ((j : Int) * 2 ^ g) (aww how s) how).1, (dueN (tbl sc tl) tl 4 ((j : Int) * 2 ^ g) (aww how s) how).2)) ⟨fl, s18 _ _ upd_same, s18 _ _ (s16 _ _ efl)⟩, fun H19 s19 => ?_⟩
          refine ⟨_, rfl, iteF ?_⟩
          exact ⟨_, _, _, _, _, rfl, s17.trans (s18.trans s19)⟩
        · rintro σ H14 ⟨y12, y13, y14, y15, y16, rfl, s14⟩
          exact ⟨_, _, _, _, _, _, rfl, s14⟩
      · rintro σ H13 ⟨y11, y12, y13, y14, y15, y16, rfl, s13⟩
        exact ⟨_, _, _, _, _, _, _, rfl, s13⟩
    · rintro σ H12 ⟨y10, y11, y12, y13, y14, y15, y16, rfl, s12⟩
      refine ⟨_, _, _, _, _, _, _, _, _, _, _, _, _, _, _, rfl, fun y u e => ?_⟩
      exact s12 _ _ (s11 _ _ (s10 _ _ (kA _ _ (s6 _ _ (s5 _ _ e)) (ne_of_none (s5 _ _ e) nb))))
  · rintro σ H5 ⟨y2, y3, y4, y5, y6, y7, y8, y9, y10, y11, y12, y13, y14, y15, y16, rfl, s5⟩
    exact q _
end
theorem all_mk {l : PySem.W.OpenLaw} {w : World} {K : PySem.W.Frag} {h : Heap} {mg : Str → Option Value} {fa f1 f2 f3 f4 f5 f6 f7 f8 f9 f10 f11 f12 f13 f14 f15 f16 f17 f18 f19 f20 f21 f22 f23 f24 f25 f26 C : Addr} (X : K.In h) (G : h.Ns mainGlobals mg) (hfa : mg "law" = some (.ref fa))
    {od1 an1 od2 an2 od3 an3 od4 an4 od5 an5 od6 an6 od7 an7 od8 an8 od9 an9 od10 an10 od11 an11 od12 an12 od13 an13 od14 an14 od15 an15 od16 an16 od17 an17 od18 an18 od19 an19 od20 an20 od21 an21 od22 an22 od23 an23 od24 an24 od25 an25 od26 an26 : Option Addr} {sl1 sl2 sl3 sl4 sl5 sl6 sl7 sl8 sl9 sl10 sl11 sl12 sl13 sl14 sl15 sl16 sl17 sl18 sl19 sl20 sl21 sl22 sl23 sl24 sl25 sl26 : Array (Option Value)} {oc1 kV1 dc1 pm1 cd1 ct1 oc2 kV2 dc2 pm2 cd2 ct2 oc3 kV3 dc3 pm3 cd3 ct3 oc4 dc4 pm4 cd4 ct4 oc5 kV5 dc5 pm5 cd5 ct5 oc6 kV6 dc6 pm6 cd6 ct6 oc7 kV7 dc7 pm7 cd7 ct7 oc8 kV8 dc8 pm8 cd8 ct8 oc9 kV9 dc9 pm9 cd9 ct9 oc10 kV10 dc10 pm10 cd10 ct10 oc11 kV11 dc11 pm11 cd11 ct11 oc12 kV12 dc12 pm12 cd12 ct12 oc13 kV13 dc13 pm13 cd13 ct13 oc14 kV14 dc14 pm14 cd14 ct14 oc15 kV15 dc15 pm15 cd15 ct15 oc16 kV16 dc16 pm16 cd16 ct16 oc17 kV17 dc17 pm17 cd17 ct17 oc18 kV18 dc18 pm18 cd18 ct18 oc19 kV19 dc19 pm19 cd19 ct19 oc20 kV20 dc20 pm20 cd20 ct20 oc21 kV21 dc21 pm21 cd21 ct21 oc22 kV22 dc22 pm22 cd22 ct22 oc23 kV23 dc23 pm23 cd23 ct23 oc24 kV24 dc24 pm24 cd24 ct24 oc25 kV25 dc25 pm25 cd25 ct25 oc26 kV26 dc26 pm26 cd26 ct26 oT24 oT25 oT26 : Value}
    {vT24 vT25 vT26 : Tok}
    {T24 T25 T26 : Addr} {dT24 dT25 dT26 : Option Addr} {nT24 nT25 nT26 : Nat} {sT24 sT25 sT26 : Array (Option Value)}
    {fF : Addr} {odF : Option Addr} {slF : Array (Option Value)} {nF : Nat} {u1 u2 u3 u4 : Tok} {tgNEAR tgCUT tgUP : Tok}
    {Dk4 : Addr} {tk4_0 : Tok}
    (a1 : PySem.W.nsIn K mainGlobals "cut_off" = some (some (.ref f1))) (l1 : K.lookup f1 = some ⟨oc1, od1, .func (PySem.W.fnOf "cut_off" "cut_off" (defArgs s_cut_off) (defBody s_cut_off) (defScope s_cut_off) .none kV1 dc1 pm1 an1 cd1 ct1), sl1⟩) (c1 : PySem.W.codeIn K cd1 "cut_off" = true) (k1 : PySem.W.keepIn K (.ref f1) = true)
    (a2 : PySem.W.nsIn K mainGlobals "last_power" = some (some (.ref f2))) (l2 : K.lookup f2 = some ⟨oc2, od2, .func (PySem.W.fnOf "last_power" "last_power" (defArgs s_last_power) (defBody s_last_power) (defScope s_last_power) .none kV2 dc2 pm2 an2 cd2 ct2), sl2⟩) (c2 : PySem.W.codeIn K cd2 "last_power" = true) (k2 : PySem.W.keepIn K (.ref f2) = true)
    (a3 : PySem.W.nsIn K mainGlobals "least_power" = some (some (.ref f3))) (l3 : K.lookup f3 = some ⟨oc3, od3, .func (PySem.W.fnOf "least_power" "least_power" (defArgs s_least_power) (defBody s_least_power) (defScope s_least_power) .none kV3 dc3 pm3 an3 cd3 ct3), sl3⟩) (c3 : PySem.W.codeIn K cd3 "least_power" = true) (k3 : PySem.W.keepIn K (.ref f3) = true)
    (a4 : PySem.W.nsIn K mainGlobals "rounded" = some (some (.ref f4))) (l4 : K.lookup f4 = some ⟨oc4, od4, .func (PySem.W.fnOf "rounded" "rounded" (defArgs s_rounded) (defBody s_rounded) (defScope s_rounded) .none (.ref Dk4) dc4 pm4 an4 cd4 ct4), sl4⟩) (c4 : PySem.W.codeIn K cd4 "rounded" = true) (k4 : PySem.W.keepIn K (.ref f4) = true)
    (w4_0 : PySem.W.nsIn K Dk4 "way" = some (some (.str "near" tk4_0)))
    (w4_1 : PySem.W.nsIn K Dk4 "more" = some (some (.bool false)))
    (a5 : PySem.W.nsIn K mainGlobals "parted" = some (some (.ref f5))) (l5 : K.lookup f5 = some ⟨oc5, od5, .func (PySem.W.fnOf "parted" "parted" (defArgs s_parted) (defBody s_parted) (defScope s_parted) .none kV5 dc5 pm5 an5 cd5 ct5), sl5⟩) (c5 : PySem.W.codeIn K cd5 "parted" = true) (k5 : PySem.W.keepIn K (.ref f5) = true)
    (a6 : PySem.W.nsIn K mainGlobals "goes_up" = some (some (.ref f6))) (l6 : K.lookup f6 = some ⟨oc6, od6, .func (PySem.W.fnOf "goes_up" "goes_up" (defArgs s_goes_up) (defBody s_goes_up) (defScope s_goes_up) .none kV6 dc6 pm6 an6 cd6 ct6), sl6⟩) (c6 : PySem.W.codeIn K cd6 "goes_up" = true) (k6 : PySem.W.keepIn K (.ref f6) = true)
    (a7 : PySem.W.nsIn K mainGlobals "goes_away" = some (some (.ref f7))) (l7 : K.lookup f7 = some ⟨oc7, od7, .func (PySem.W.fnOf "goes_away" "goes_away" (defArgs s_goes_away) (defBody s_goes_away) (defScope s_goes_away) .none kV7 dc7 pm7 an7 cd7 ct7), sl7⟩) (c7 : PySem.W.codeIn K cd7 "goes_away" = true) (k7 : PySem.W.keepIn K (.ref f7) = true)
    (a8 : PySem.W.nsIn K mainGlobals "word_beyond" = some (some (.ref f8))) (l8 : K.lookup f8 = some ⟨oc8, od8, .func (PySem.W.fnOf "word_beyond" "word_beyond" (defArgs s_word_beyond) (defBody s_word_beyond) (defScope s_word_beyond) .none kV8 dc8 pm8 an8 cd8 ct8), sl8⟩) (c8 : PySem.W.codeIn K cd8 "word_beyond" = true) (k8 : PySem.W.keepIn K (.ref f8) = true)
    (a9 : PySem.W.nsIn K mainGlobals "flags_of_rest" = some (some (.ref f9))) (l9 : K.lookup f9 = some ⟨oc9, od9, .func (PySem.W.fnOf "flags_of_rest" "flags_of_rest" (defArgs s_flags_of_rest) (defBody s_flags_of_rest) (defScope s_flags_of_rest) .none kV9 dc9 pm9 an9 cd9 ct9), sl9⟩) (c9 : PySem.W.codeIn K cd9 "flags_of_rest" = true) (k9 : PySem.W.keepIn K (.ref f9) = true)
    (a10 : PySem.W.nsIn K mainGlobals "is_number" = some (some (.ref f10))) (l10 : K.lookup f10 = some ⟨oc10, od10, .func (PySem.W.fnOf "is_number" "is_number" (defArgs s_is_number) (defBody s_is_number) (defScope s_is_number) .none kV10 dc10 pm10 an10 cd10 ct10), sl10⟩) (c10 : PySem.W.codeIn K cd10 "is_number" = true) (k10 : PySem.W.keepIn K (.ref f10) = true)
    (a11 : PySem.W.nsIn K mainGlobals "is_number_in" = some (some (.ref f11))) (l11 : K.lookup f11 = some ⟨oc11, od11, .func (PySem.W.fnOf "is_number_in" "is_number_in" (defArgs s_is_number_in) (defBody s_is_number_in) (defScope s_is_number_in) .none kV11 dc11 pm11 an11 cd11 ct11), sl11⟩) (c11 : PySem.W.codeIn K cd11 "is_number_in" = true) (k11 : PySem.W.keepIn K (.ref f11) = true)
    (a12 : PySem.W.nsIn K mainGlobals "_law_box" = some (some (.ref f12))) (l12 : K.lookup f12 = some ⟨oc12, od12, .func (PySem.W.fnOf "_law_box" "_law_box" (defArgs sBox) (defBody sBox) (defScope sBox) .none kV12 dc12 pm12 an12 cd12 ct12), sl12⟩) (c12 : PySem.W.codeIn K cd12 "_law_box" = true) (k12 : PySem.W.keepIn K (.ref f12) = true)
    (a13 : PySem.W.nsIn K mainGlobals "_law_take" = some (some (.ref f13))) (l13 : K.lookup f13 = some ⟨oc13, od13, .func (PySem.W.fnOf "_law_take" "_law_take" (defArgs sTake) (defBody sTake) (defScope sTake) .none kV13 dc13 pm13 an13 cd13 ct13), sl13⟩) (c13 : PySem.W.codeIn K cd13 "_law_take" = true) (k13 : PySem.W.keepIn K (.ref f13) = true)
    (a14 : PySem.W.nsIn K mainGlobals "_law_folded" = some (some (.ref f14))) (l14 : K.lookup f14 = some ⟨oc14, od14, .func (PySem.W.fnOf "_law_folded" "_law_folded" (defArgs sFolded) (defBody sFolded) (defScope sFolded) .none kV14 dc14 pm14 an14 cd14 ct14), sl14⟩) (c14 : PySem.W.codeIn K cd14 "_law_folded" = true) (k14 : PySem.W.keepIn K (.ref f14) = true)
    (a15 : PySem.W.nsIn K mainGlobals "_law_same" = some (some (.ref f15))) (l15 : K.lookup f15 = some ⟨oc15, od15, .func (PySem.W.fnOf "_law_same" "_law_same" (defArgs sSame) (defBody sSame) (defScope sSame) .none kV15 dc15 pm15 an15 cd15 ct15), sl15⟩) (c15 : PySem.W.codeIn K cd15 "_law_same" = true) (k15 : PySem.W.keepIn K (.ref f15) = true)
    (a16 : PySem.W.nsIn K mainGlobals "_law_least" = some (some (.ref f16))) (l16 : K.lookup f16 = some ⟨oc16, od16, .func (PySem.W.fnOf "_law_least" "_law_least" (defArgs s__law_least) (defBody s__law_least) (defScope s__law_least) .none kV16 dc16 pm16 an16 cd16 ct16), sl16⟩) (c16 : PySem.W.codeIn K cd16 "_law_least" = true) (k16 : PySem.W.keepIn K (.ref f16) = true)
    (a17 : PySem.W.nsIn K mainGlobals "_law_table" = some (some (.ref f17))) (l17 : K.lookup f17 = some ⟨oc17, od17, .func (PySem.W.fnOf "_law_table" "_law_table" (defArgs s__law_table) (defBody s__law_table) (defScope s__law_table) .none kV17 dc17 pm17 an17 cd17 ct17), sl17⟩) (c17 : PySem.W.codeIn K cd17 "_law_table" = true) (k17 : PySem.W.keepIn K (.ref f17) = true)
    (a18 : PySem.W.nsIn K mainGlobals "_law_due" = some (some (.ref f18))) (l18 : K.lookup f18 = some ⟨oc18, od18, .func (PySem.W.fnOf "_law_due" "_law_due" (defArgs s__law_due) (defBody s__law_due) (defScope s__law_due) .none kV18 dc18 pm18 an18 cd18 ct18), sl18⟩) (c18 : PySem.W.codeIn K cd18 "_law_due" = true) (k18 : PySem.W.keepIn K (.ref f18) = true)
    (a19 : PySem.W.nsIn K mainGlobals "law" = some (some (.ref f19))) (l19 : K.lookup f19 = some ⟨oc19, od19, .func (PySem.W.fnOf "law" "law" (defArgs s_law) (defBody s_law) (defScope s_law) .none kV19 dc19 pm19 an19 cd19 ct19), sl19⟩) (c19 : PySem.W.codeIn K cd19 "law" = true) (k19 : PySem.W.keepIn K (.ref f19) = true)
    (aC : PySem.W.nsIn K mainGlobals "Form" = some (some (.ref C)))
    (pgC : PySem.W.plainGet K C Str.empty = true) (hdC : PySem.W.hasDictIn K C = true) (poC : PySem.W.plainOver K C = true) (saC : PySem.W.findIn K (.ref C) "__setattr__" = some (some (.builtin "object.__setattr__"))) (mkC : PySem.W.makesIn K C = true) (kcC : PySem.W.keepIn K (.ref C) = true)
    (naC0 : PySem.W.findIn K (.ref C) "scale" = some none)
    (naC1 : PySem.W.findIn K (.ref C) "tail" = some none)
    (a20 : PySem.W.findIn K (.ref C) "__init__" = some (some (.ref f20))) (i20 : PySem.W.isFn K (.ref f20) = true) (l20 : K.lookup f20 = some ⟨oc20, od20, .func (PySem.W.fnOf "__init__" "Form.__init__" (defArgs s_Form___init__) (defBody s_Form___init__) (defScope s_Form___init__) .none kV20 dc20 pm20 an20 cd20 ct20), sl20⟩) (c20 : PySem.W.codeIn K cd20 "Form.__init__" = true) (k20 : PySem.W.keepIn K (.ref f20) = true)
    (a21 : PySem.W.findIn K (.ref C) "bias" = some (some (.ref f21))) (i21 : PySem.W.isFn K (.ref f21) = true) (l21 : K.lookup f21 = some ⟨oc21, od21, .func (PySem.W.fnOf "bias" "Form.bias" (defArgs s_Form_bias) (defBody s_Form_bias) (defScope s_Form_bias) .none kV21 dc21 pm21 an21 cd21 ct21), sl21⟩) (c21 : PySem.W.codeIn K cd21 "Form.bias" = true) (k21 : PySem.W.keepIn K (.ref f21) = true)
    (a22 : PySem.W.findIn K (.ref C) "top" = some (some (.ref f22))) (i22 : PySem.W.isFn K (.ref f22) = true) (l22 : K.lookup f22 = some ⟨oc22, od22, .func (PySem.W.fnOf "top" "Form.top" (defArgs s_Form_top) (defBody s_Form_top) (defScope s_Form_top) .none kV22 dc22 pm22 an22 cd22 ct22), sl22⟩) (c22 : PySem.W.codeIn K cd22 "Form.top" = true) (k22 : PySem.W.keepIn K (.ref f22) = true)
    (a23 : PySem.W.findIn K (.ref C) "word_of" = some (some (.ref f23))) (i23 : PySem.W.isFn K (.ref f23) = true) (l23 : K.lookup f23 = some ⟨oc23, od23, .func (PySem.W.fnOf "word_of" "Form.word_of" (defArgs s_Form_word_of) (defBody s_Form_word_of) (defScope s_Form_word_of) .none kV23 dc23 pm23 an23 cd23 ct23), sl23⟩) (c23 : PySem.W.codeIn K cd23 "Form.word_of" = true) (k23 : PySem.W.keepIn K (.ref f23) = true)
    (a24 : PySem.W.findIn K (.ref C) "nought" = some (some (.ref f24))) (i24 : PySem.W.isFn K (.ref f24) = true) (l24 : K.lookup f24 = some ⟨oc24, od24, .func (PySem.W.fnOf "nought" "Form.nought" (defArgs s_Form_nought) (defBody s_Form_nought) (defScope s_Form_nought) (.ref T24) kV24 dc24 pm24 an24 cd24 ct24), sl24⟩) (c24 : PySem.W.codeIn K cd24 "Form.nought" = true) (k24 : PySem.W.keepIn K (.ref f24) = true)
    (t24 : K.lookup T24 = some ⟨oT24, dT24, .seq #[.int 0 vT24] nT24, sT24⟩)
    (a25 : PySem.W.findIn K (.ref C) "endless" = some (some (.ref f25))) (i25 : PySem.W.isFn K (.ref f25) = true) (l25 : K.lookup f25 = some ⟨oc25, od25, .func (PySem.W.fnOf "endless" "Form.endless" (defArgs s_Form_endless) (defBody s_Form_endless) (defScope s_Form_endless) (.ref T25) kV25 dc25 pm25 an25 cd25 ct25), sl25⟩) (c25 : PySem.W.codeIn K cd25 "Form.endless" = true) (k25 : PySem.W.keepIn K (.ref f25) = true)
    (t25 : K.lookup T25 = some ⟨oT25, dT25, .seq #[.int 0 vT25] nT25, sT25⟩)
    (a26 : PySem.W.findIn K (.ref C) "greatest" = some (some (.ref f26))) (i26 : PySem.W.isFn K (.ref f26) = true) (l26 : K.lookup f26 = some ⟨oc26, od26, .func (PySem.W.fnOf "greatest" "Form.greatest" (defArgs s_Form_greatest) (defBody s_Form_greatest) (defScope s_Form_greatest) (.ref T26) kV26 dc26 pm26 an26 cd26 ct26), sl26⟩) (c26 : PySem.W.codeIn K cd26 "Form.greatest" = true) (k26 : PySem.W.keepIn K (.ref f26) = true)
    (t26 : K.lookup T26 = some ⟨oT26, dT26, .seq #[.int 0 vT26] nT26, sT26⟩)
    (z1 : PySem.W.nsIn K mainGlobals "len" = some none)
    (z2 : PySem.W.nsIn K mainGlobals "abs" = some none)
    (z3 : PySem.W.nsIn K mainGlobals "int" = some none)
    (z4 : PySem.W.nsIn K mainGlobals "divmod" = some none)
    (z5 : PySem.W.nsIn K mainGlobals "list" = some none)
    (z6 : PySem.W.nsIn K mainGlobals "enumerate" = some none)
    (z7 : PySem.W.nsIn K mainGlobals "isinstance" = some none)
    (z8 : PySem.W.nsIn K mainGlobals "tuple" = some none)
    (z9 : PySem.W.nsIn K mainGlobals "str" = some none)
    (z10 : PySem.W.nsIn K mainGlobals "bool" = some none)
    (z11 : PySem.W.nsIn K mainGlobals "zip" = some none)
    (z12 : PySem.W.nsIn K mainGlobals "all" = some none)
    (z13 : PySem.W.nsIn K mainGlobals "range" = some none)
    (z14 : PySem.W.nsIn K mainGlobals "max" = some none)
    (z15 : PySem.W.nsIn K mainGlobals "any" = some none)
    (z16 : PySem.W.nsIn K mainGlobals "min" = some none)
    (z17 : PySem.W.nsIn K mainGlobals "sum" = some none)
    (gNEAR : PySem.W.nsIn K mainGlobals "NEAR" = some (some (.str "near" tgNEAR)))
    (gCUT : PySem.W.nsIn K mainGlobals "CUT" = some (some (.str "cut" tgCUT)))
    (gUP : PySem.W.nsIn K mainGlobals "UP" = some (some (.str "up" tgUP)))
    (aW : PySem.W.nsIn K mainGlobals "WAYS" = some (some (.ref fF)))
    (lW : K.lookup fF = some ⟨.type "tuple", odF, .seq #[.str "near" u1, .str "cut" u2, .str "up" u3, .str "down" u4] nF, slF⟩)
    : ∃ fd : FuncData, (∀ (s : Shared) (v : Value), BindsTo s fd ⟨[v], []⟩ [("_law_script", v)]) ∧ ∀ base : Heap, K.In base → base.Ns mainGlobals mg → FnOk l.prog w K mg base CX0 6 fa fd ["_law_script"] (spLaw K) := by
  have e := hfa.symm.trans (PySem.W.mg_of X G a19)
  cases e
  have F1 := fun_mk (st := s_cut_off) l1 c1 k1
  have b1 := F1.binds (ps := ["number", "by"]) fun _ _ _ _ _ _ us hl => match us, hl with | [_, _], _ => rfl
  have m1 := PySem.W.mg_of X G a1
  have F2 := fun_mk (st := s_last_power) l2 c2 k2
  have b2 := F2.binds (ps := ["form", "number", "power"]) fun _ _ _ _ _ _ us hl => match us, hl with | [_, _, _], _ => rfl
  have m2 := PySem.W.mg_of X G a2
  have F3 := fun_mk (st := s_least_power) l3 c3 k3
  have b3 := F3.binds (ps := ["form"]) fun _ _ _ _ _ _ us hl => match us, hl with | [_], _ => rfl
  have m3 := PySem.W.mg_of X G a3
  have F4 := fun_mk (st := s_rounded) l4 c4 k4
  have m4 := PySem.W.mg_of X G a4
  have F5 := fun_mk (st := s_parted) l5 c5 k5
  have b5 := F5.binds (ps := ["number", "by", "more"]) fun _ _ _ _ _ _ us hl => match us, hl with | [_, _, _], _ => rfl
  have m5 := PySem.W.mg_of X G a5
  have F6 := fun_mk (st := s_goes_up) l6 c6 k6
  have b6 := F6.binds (ps := ["way", "sign", "many", "rest"]) fun _ _ _ _ _ _ us hl => match us, hl with | [_, _, _, _], _ => rfl
  have m6 := PySem.W.mg_of X G a6
  have F7 := fun_mk (st := s_goes_away) l7 c7 k7
  have b7 := F7.binds (ps := ["way", "sign"]) fun _ _ _ _ _ _ us hl => match us, hl with | [_, _], _ => rfl
  have m7 := PySem.W.mg_of X G a7
  have F8 := fun_mk (st := s_word_beyond) l8 c8 k8
  have b8 := F8.binds (ps := ["form", "sign", "way"]) fun _ _ _ _ _ _ us hl => match us, hl with | [_, _, _], _ => rfl
  have m8 := PySem.W.mg_of X G a8
  have F9 := fun_mk (st := s_flags_of_rest) l9 c9 k9
  have b9 := F9.binds (ps := ["form", "number", "power", "rest"]) fun _ _ _ _ _ _ us hl => match us, hl with | [_, _, _, _], _ => rfl
  have m9 := PySem.W.mg_of X G a9
  have F10 := fun_mk (st := s_is_number) l10 c10 k10
  have b10 := F10.binds (ps := ["thing"]) fun _ _ _ _ _ _ us hl => match us, hl with | [_], _ => rfl
  have m10 := PySem.W.mg_of X G a10
  have F11 := fun_mk (st := s_is_number_in) l11 c11 k11
  have b11 := F11.binds (ps := ["least", "greatest", "thing"]) fun _ _ _ _ _ _ us hl => match us, hl with | [_, _, _], _ => rfl
  have m11 := PySem.W.mg_of X G a11
  have F12 := fun_mk (st := sBox) l12 c12 k12
  have b12 := F12.binds (ps := ["_law_script", "_law_k"]) fun _ _ _ _ _ _ us hl => match us, hl with | [_, _], _ => rfl
  have m12 := PySem.W.mg_of X G a12
  have F13 := fun_mk (st := sTake) l13 c13 k13
  have b13 := F13.binds (ps := ["_law_box_here", "_law_size"]) fun _ _ _ _ _ _ us hl => match us, hl with | [_, _], _ => rfl
  have m13 := PySem.W.mg_of X G a13
  have F14 := fun_mk (st := sFolded) l14 c14 k14
  have b14 := F14.binds (ps := ["_law_script", "_law_size"]) fun _ _ _ _ _ _ us hl => match us, hl with | [_, _], _ => rfl
  have m14 := PySem.W.mg_of X G a14
  have F15 := fun_mk (st := sSame) l15 c15 k15
  have b15 := F15.binds (ps := ["_law_found", "_law_due_here"]) fun _ _ _ _ _ _ us hl => match us, hl with | [_, _], _ => rfl
  have m15 := PySem.W.mg_of X G a15
  have F16 := fun_mk (st := s__law_least) l16 c16 k16
  have b16 := F16.binds (ps := ["_law_scale", "_law_tail"]) fun _ _ _ _ _ _ us hl => match us, hl with | [_, _], _ => rfl
  have m16 := PySem.W.mg_of X G a16
  have F17 := fun_mk (st := s__law_table) l17 c17 k17
  have b17 := F17.binds (ps := ["_law_scale", "_law_tail"]) fun _ _ _ _ _ _ us hl => match us, hl with | [_, _], _ => rfl
  have m17 := PySem.W.mg_of X G a17
  have F18 := fun_mk (st := s__law_due) l18 c18 k18
  have b18 := F18.binds (ps := ["_law_table_here", "_law_tail", "_law_worth", "_law_by", "_law_away", "_law_how"]) fun _ _ _ _ _ _ us hl => match us, hl with | [_, _, _, _, _, _], _ => rfl
  have m18 := PySem.W.mg_of X G a18
  have F19 := fun_mk (st := s_law) l19 c19 k19
  have F20 := fun_mk (st := s_Form___init__) l20 c20 k20
  have b20 := F20.binds (ps := ["self", "scale", "tail"]) fun _ _ _ _ _ _ us hl => match us, hl with | [_, _, _], _ => rfl
  have M20 : Meth K C "__init__" f20 := ⟨a20, i20, k20⟩
  have F21 := fun_mk (st := s_Form_bias) l21 c21 k21
  have b21 := F21.binds (ps := ["self"]) fun _ _ _ _ _ _ us hl => match us, hl with | [_], _ => rfl
  have M21 : Meth K C "bias" f21 := ⟨a21, i21, k21⟩
  have F22 := fun_mk (st := s_Form_top) l22 c22 k22
  have b22 := F22.binds (ps := ["self"]) fun _ _ _ _ _ _ us hl => match us, hl with | [_], _ => rfl
  have M22 : Meth K C "top" f22 := ⟨a22, i22, k22⟩
  have F23 := fun_mk (st := s_Form_word_of) l23 c23 k23
  have b23 := F23.binds (ps := ["self", "sign", "scale", "tail"]) fun _ _ _ _ _ _ us hl => match us, hl with | [_, _, _, _], _ => rfl
  have M23 : Meth K C "word_of" f23 := ⟨a23, i23, k23⟩
  have F24 := funA_mk (st := s_Form_nought) l24 c24 k24
  have b24 := bindsA (st := s_Form_nought) (ps := ["self", "sign"]) l24 t24 fun _ _ _ _ _ _ us hl => match us, hl with | [_, _], _ => ⟨_, rfl, rfl⟩
  have d24 := bindsAD (st := s_Form_nought) (ps := ["self", "sign"]) l24 t24 fun _ _ _ _ _ _ us hl => match us, hl with | [_], _ => ⟨_, rfl, rfl⟩
  have kb24 := kbindsA (x1 := "sign") (st := s_Form_nought) (ps := ["self", "sign"]) l24 t24 fun _ _ _ _ _ _ _ _ => ⟨_, rfl, rfl⟩
  have M24 : Meth K C "nought" f24 := ⟨a24, i24, k24⟩
  have F25 := funA_mk (st := s_Form_endless) l25 c25 k25
  have b25 := bindsA (st := s_Form_endless) (ps := ["self", "sign"]) l25 t25 fun _ _ _ _ _ _ us hl => match us, hl with | [_, _], _ => ⟨_, rfl, rfl⟩
  have d25 := bindsAD (st := s_Form_endless) (ps := ["self", "sign"]) l25 t25 fun _ _ _ _ _ _ us hl => match us, hl with | [_], _ => ⟨_, rfl, rfl⟩
  have kb25 := kbindsA (x1 := "sign") (st := s_Form_endless) (ps := ["self", "sign"]) l25 t25 fun _ _ _ _ _ _ _ _ => ⟨_, rfl, rfl⟩
  have M25 : Meth K C "endless" f25 := ⟨a25, i25, k25⟩
  have F26 := funA_mk (st := s_Form_greatest) l26 c26 k26
  have b26 := bindsA (st := s_Form_greatest) (ps := ["self", "sign"]) l26 t26 fun _ _ _ _ _ _ us hl => match us, hl with | [_, _], _ => ⟨_, rfl, rfl⟩
  have d26 := bindsAD (st := s_Form_greatest) (ps := ["self", "sign"]) l26 t26 fun _ _ _ _ _ _ us hl => match us, hl with | [_], _ => ⟨_, rfl, rfl⟩
  have kb26 := kbindsA (x1 := "sign") (st := s_Form_greatest) (ps := ["self", "sign"]) l26 t26 fun _ _ _ _ _ _ _ _ => ⟨_, rfl, rfl⟩
  have M26 : Meth K C "greatest" f26 := ⟨a26, i26, k26⟩
  have clC : Cls K C := ⟨pgC, hdC, poC, saC⟩
  have mgC := PySem.W.mg_of X G aC
  have B : Bl mg := ⟨PySem.W.mg_none_of X G z1, PySem.W.mg_none_of X G z2, PySem.W.mg_none_of X G z3, PySem.W.mg_none_of X G z4, PySem.W.mg_none_of X G z5, PySem.W.mg_none_of X G z6, PySem.W.mg_none_of X G z7, PySem.W.mg_none_of X G z8, PySem.W.mg_none_of X G z9, PySem.W.mg_none_of X G z10, PySem.W.mg_none_of X G z11, PySem.W.mg_none_of X G z12, PySem.W.mg_none_of X G z13, PySem.W.mg_none_of X G z14, PySem.W.mg_none_of X G z15, PySem.W.mg_none_of X G z16, PySem.W.mg_none_of X G z17⟩
  refine ⟨PySem.W.fnOf "law" "law" (defArgs s_law) (defBody s_law) (defScope s_law) .none kV19 dc19 pm19 an19 cd19 ct19, fun s v => .of_eq rfl, fun base _ _ => ?_⟩
  have kb4_way : ∃ g, KBn K (PySem.W.fnOf "rounded" "rounded" (defArgs s_rounded) (defBody s_rounded) (defScope s_rounded) .none (.ref Dk4) dc4 pm4 an4 cd4 ct4) ["form", "sign", "number", "power", "way", "more"] 4 ["way"] g (fun vs zs => vs ++ (zs ++ [.bl false])) := ⟨fun vs zs => vs ++ (zs ++ [.bool false]), ⟨kbn_of (st := s_rounded) (ml := [("more", .bool false)]) (gV := fun vs zs => vs ++ (zs ++ [.bl false])) (fun q hq => by rcases List.mem_cons.mp hq with rfl | hq; exact w4_1; exact nomatch hq) (fun us ws l1 l2 => match us, ws, l1, l2 with | [_, _, _, _], [_], _, _ => ⟨_, _, _, _, _, _, rfl, rfl, (show _ = pure _ from rfl)⟩) (fun _ _ r1 r2 => r1.append (r2.append (.cons rfl .nil))), fun r1 r2 => r1.append (r2.append (.cons rfl .nil))⟩⟩
  have L : LL K mg C f1 f2 f3 f4 f5 f6 f7 f8 f9 f10 f11 f12 f13 f14 f15 f16 f17 f18 f20 f21 f22 f23 f24 f25 f26 _ _ _ _ _ _ _ _ _ _ _ _ _ _ _ _ _ _ _ _ _ _ _ _ _ vT24 vT25 vT26 tgNEAR tgCUT tgUP fF := ⟨F1, m1, b1, F2, m2, b2, F3, m3, b3, F4, m4, kb4_way, F5, m5, b5, F6, m6, b6, F7, m7, b7, F8, m8, b8, F9, m9, b9, F10, m10, b10, F11, m11, b11, F12, m12, b12, F13, m13, b13, F14, m14, b14, F15, m15, b15, F16, m16, b16, F17, m17, b17, F18, m18, b18, ⟨clC, naC0, naC1, mgC⟩, ⟨mkC, a20, i20, kcC⟩, F20, b20, F21, b21, M21, F22, b22, M22, F23, b23, M23, F24, b24, M24, d24, F25, b25, M25, d25, F26, b26, M26, d26, PySem.W.mg_of X G gNEAR, PySem.W.mg_of X G gCUT, PySem.W.mg_of X G gUP, ⟨PySem.W.mg_of X G aW, fun H => .inr ⟨_, _, _, lW, rfl, rfl, (by show 4 ≤ sizeLine; decide), .cons ⟨_, rfl⟩ (.cons ⟨_, rfl⟩ (.cons ⟨_, rfl⟩ (.cons ⟨_, rfl⟩ .nil)))⟩⟩⟩
  exact ok_law F19 B L
end GZ
open PySem PySem.W PyProof.Rows
set_option maxRecDepth 100000 in
set_option maxHeartbeats 0 in
theorem PySem.Challenge.cw_guessedzeros_k11_all_worths_of_small_for_holds : PySem.Challenge.rw_guessedzeros_k11_all_worths_of_small_for.Holds := by
  w_on; o_law; k_head; (case hw => w_witness2)
  k_fill
  refine L2.walk_of (l := PySem.Challenge.rw_guessedzeros_k11_all_worths_of_small_for) (n := 63) (k := 6) (x := "_law_script") (CX := fun _ => L2.CX0) (sp := fun w => GZ.spLaw _) rfl (by decide) rfl ⟨rfl, by decide, by decide⟩ (fun w h Y => PySem.W.kIn_of Y) ?F (fun _ _ a ns hl _ hS => ⟨a, ns, rfl, hS, hl, fun _ => rfl⟩) (fun _ _ _ _ _ h => h)
  case F =>
    intro w mg fa h KX G hmg
    refine' GZ.all_mk KX G hmg ?a1 ?l1 ?c1 ?k1 ?a2 ?l2 ?c2 ?k2 ?a3 ?l3 ?c3 ?k3 ?a4 ?l4 ?c4 ?k4 ?w4_0 ?w4_1 ?a5 ?l5 ?c5 ?k5 ?a6 ?l6 ?c6 ?k6 ?a7 ?l7 ?c7 ?k7 ?a8 ?l8 ?c8 ?k8 ?a9 ?l9 ?c9 ?k9 ?a10 ?l10 ?c10 ?k10 ?a11 ?l11 ?c11 ?k11 ?a12 ?l12 ?c12 ?k12 ?a13 ?l13 ?c13 ?k13 ?a14 ?l14 ?c14 ?k14 ?a15 ?l15 ?c15 ?k15 ?a16 ?l16 ?c16 ?k16 ?a17 ?l17 ?c17 ?k17 ?a18 ?l18 ?c18 ?k18 ?a19 ?l19 ?c19 ?k19 ?aC ?pgC ?hdC ?poC ?saC ?mkC ?kcC ?naC0 ?naC1 ?a20 ?i20 ?l20 ?c20 ?k20 ?a21 ?i21 ?l21 ?c21 ?k21 ?a22 ?i22 ?l22 ?c22 ?k22 ?a23 ?i23 ?l23 ?c23 ?k23 ?a24 ?i24 ?l24 ?c24 ?k24 ?t24 ?a25 ?i25 ?l25 ?c25 ?k25 ?t25 ?a26 ?i26 ?l26 ?c26 ?k26 ?t26 ?z1 ?z2 ?z3 ?z4 ?z5 ?z6 ?z7 ?z8 ?z9 ?z10 ?z11 ?z12 ?z13 ?z14 ?z15 ?z16 ?z17 ?gNEAR ?gCUT ?gUP ?aW ?lW
    (case a1 => k_is)
    (case l1 => k_is)
    (case c1 => k_is)
    (case k1 => k_is)
    (case a2 => k_is)
    (case l2 => k_is)
    (case c2 => k_is)
    (case k2 => k_is)
    (case a3 => k_is)
    (case l3 => k_is)
    (case c3 => k_is)
    (case k3 => k_is)
    (case a4 => k_is)
    (case l4 => k_is)
    (case c4 => k_is)
    (case k4 => k_is)
    (case w4_0 => k_is)
    (case w4_1 => k_is)
    (case a5 => k_is)
    (case l5 => k_is)
    (case c5 => k_is)
    (case k5 => k_is)
    (case a6 => k_is)
    (case l6 => k_is)
    (case c6 => k_is)
    (case k6 => k_is)
    (case a7 => k_is)
    (case l7 => k_is)
    (case c7 => k_is)
    (case k7 => k_is)
    (case a8 => k_is)
    (case l8 => k_is)
    (case c8 => k_is)
    (case k8 => k_is)
    (case a9 => k_is)
    (case l9 => k_is)
    (case c9 => k_is)
    (case k9 => k_is)
    (case a10 => k_is)
    (case l10 => k_is)
    (case c10 => k_is)
    (case k10 => k_is)
    (case a11 => k_is)
    (case l11 => k_is)
    (case c11 => k_is)
    (case k11 => k_is)
    (case a12 => k_is)
    (case l12 => k_is)
    (case c12 => k_is)
    (case k12 => k_is)
    (case a13 => k_is)
    (case l13 => k_is)
    (case c13 => k_is)
    (case k13 => k_is)
    (case a14 => k_is)
    (case l14 => k_is)
    (case c14 => k_is)
    (case k14 => k_is)
    (case a15 => k_is)
    (case l15 => k_is)
    (case c15 => k_is)
    (case k15 => k_is)
    (case a16 => k_is)
    (case l16 => k_is)
    (case c16 => k_is)
    (case k16 => k_is)
    (case a17 => k_is)
    (case l17 => k_is)
    (case c17 => k_is)
    (case k17 => k_is)
    (case a18 => k_is)
    (case l18 => k_is)
    (case c18 => k_is)
    (case k18 => k_is)
    (case a19 => k_is)
    (case l19 => k_is)
    (case c19 => k_is)
    (case k19 => k_is)
    (case aC => k_is)
    (case pgC => k_is)
    (case hdC => k_is)
    (case poC => k_is)
    (case saC => k_is)
    (case mkC => k_is)
    (case kcC => k_is)
    (case naC0 => k_is)
    (case naC1 => k_is)
    (case a20 => k_is)
    (case i20 => k_is)
    (case l20 => k_is)
    (case c20 => k_is)
    (case k20 => k_is)
    (case a21 => k_is)
    (case i21 => k_is)
    (case l21 => k_is)
    (case c21 => k_is)
    (case k21 => k_is)
    (case a22 => k_is)
    (case i22 => k_is)
    (case l22 => k_is)
    (case c22 => k_is)
    (case k22 => k_is)
    (case a23 => k_is)
    (case i23 => k_is)
    (case l23 => k_is)
    (case c23 => k_is)
    (case k23 => k_is)
    (case a24 => k_is)
    (case i24 => k_is)
    (case l24 => k_is)
    (case c24 => k_is)
    (case k24 => k_is)
    (case t24 => k_is)
    (case a25 => k_is)
    (case i25 => k_is)
    (case l25 => k_is)
    (case c25 => k_is)
    (case k25 => k_is)
    (case t25 => k_is)
    (case a26 => k_is)
    (case i26 => k_is)
    (case l26 => k_is)
    (case c26 => k_is)
    (case k26 => k_is)
    (case t26 => k_is)
    (case z1 => k_is)
    (case z2 => k_is)
    (case z3 => k_is)
    (case z4 => k_is)
    (case z5 => k_is)
    (case z6 => k_is)
    (case z7 => k_is)
    (case z8 => k_is)
    (case z9 => k_is)
    (case z10 => k_is)
    (case z11 => k_is)
    (case z12 => k_is)
    (case z13 => k_is)
    (case z14 => k_is)
    (case z15 => k_is)
    (case z16 => k_is)
    (case z17 => k_is)
    (case gNEAR => k_is)
    (case gCUT => k_is)
    (case gUP => k_is)
    (case aW => k_is)
    (case lW => k_is)

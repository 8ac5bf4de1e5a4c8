import PyProof.Rows.All
import Wide.All
import OpenK.AllK
import Wide.FinOn
import HandS.ForMost
import HandS.Walk
import HandS.Zip
import HandS.WideBits
import HandS.IsInst
import OpenK.KEqL
import HandS.More
import HandS.Flow
import HandS.NoneIn
import HandS.Defaults
import HandS.FStr
import HandS.Codes
import PySem.Challenge.RW_guessedzeros_k05_worths_written
set_option Elab.async false
set_option linter.all false
set_option maxRecDepth 100000
set_option maxHeartbeats 4000000
namespace GZ
open PySem PySem.Spec PyProof.Rows L2
/-! ### the text by places -/
def topS (i : Nat) : Stmt := PySem.Challenge.pw_guessedzeros_k05_worths_written.main.body.getD i (.Pass ⟨0, 0, 0, 0⟩)
abbrev s_worth_text : Stmt := topS 4
theorem sc_worth_text : FnScope ["form", "word", "sort", "ahead", "number", "power"] ["form", "word"] (defScope s_worth_text) := ⟨rfl, rfl, rfl, by decide +kernel, rfl, by decide +kernel, by decide +kernel⟩
abbrev s_is_number : Stmt := topS 6
theorem sc_is_number : FnScope ["thing"] ["thing"] (defScope s_is_number) := ⟨rfl, rfl, rfl, by decide +kernel, rfl, by decide +kernel, by decide +kernel⟩
abbrev s_is_number_in : Stmt := topS 7
theorem sc_is_number_in : FnScope ["least", "greatest", "thing"] ["least", "greatest", "thing"] (defScope s_is_number_in) := ⟨rfl, rfl, rfl, by decide +kernel, rfl, by decide +kernel, by decide +kernel⟩
abbrev s_Form___init__ : Stmt := inClass (topS 9) 0
theorem sc_Form___init__ : FnScope ["self", "scale", "tail"] ["self", "scale", "tail"] (defScope s_Form___init__) := ⟨rfl, rfl, rfl, by decide +kernel, rfl, by decide +kernel, by decide +kernel⟩
abbrev s_Form_bias : Stmt := inClass (topS 9) 2
theorem sc_Form_bias : FnScope ["self"] ["self"] (defScope s_Form_bias) := ⟨rfl, rfl, rfl, by decide +kernel, rfl, by decide +kernel, by decide +kernel⟩
abbrev s_Form_top : Stmt := inClass (topS 9) 3
theorem sc_Form_top : FnScope ["self"] ["self"] (defScope s_Form_top) := ⟨rfl, rfl, rfl, by decide +kernel, rfl, by decide +kernel, by decide +kernel⟩
abbrev s_Form_parts : Stmt := inClass (topS 9) 4
theorem sc_Form_parts : FnScope ["self", "word", "sign", "scale", "tail"] ["self", "word"] (defScope s_Form_parts) := ⟨rfl, rfl, rfl, by decide +kernel, rfl, by decide +kernel, by decide +kernel⟩
abbrev s_Form_word_of : Stmt := inClass (topS 9) 5
theorem sc_Form_word_of : FnScope ["self", "sign", "scale", "tail"] ["self", "sign", "scale", "tail"] (defScope s_Form_word_of) := ⟨rfl, rfl, rfl, by decide +kernel, rfl, by decide +kernel, by decide +kernel⟩
abbrev s_Form_sort_of : Stmt := inClass (topS 9) 7
theorem sc_Form_sort_of : FnScope ["self", "word", "sign", "scale", "tail"] ["self", "word"] (defScope s_Form_sort_of) := ⟨rfl, rfl, rfl, by decide +kernel, rfl, by decide +kernel, by decide +kernel⟩
abbrev s_Form_nought : Stmt := inClass (topS 9) 8
theorem sc_Form_nought : FnScope ["self", "sign"] ["self", "sign"] (defScope s_Form_nought) := ⟨rfl, rfl, rfl, by decide +kernel, rfl, by decide +kernel, by decide +kernel⟩
abbrev s_Form_greatest : Stmt := inClass (topS 9) 10
theorem sc_Form_greatest : FnScope ["self", "sign"] ["self", "sign"] (defScope s_Form_greatest) := ⟨rfl, rfl, rfl, by decide +kernel, rfl, by decide +kernel, by decide +kernel⟩
abbrev s_Form_least_plain : Stmt := inClass (topS 9) 11
theorem sc_Form_least_plain : FnScope ["self", "sign"] ["self", "sign"] (defScope s_Form_least_plain) := ⟨rfl, rfl, rfl, by decide +kernel, rfl, by decide +kernel, by decide +kernel⟩
abbrev s_Form_none_word : Stmt := inClass (topS 9) 12
theorem sc_Form_none_word : FnScope ["self"] ["self"] (defScope s_Form_none_word) := ⟨rfl, rfl, rfl, by decide +kernel, rfl, by decide +kernel, by decide +kernel⟩
abbrev s_Form_turned : Stmt := inClass (topS 9) 13
theorem sc_Form_turned : FnScope ["self", "word", "sign", "scale", "tail"] ["self", "word"] (defScope s_Form_turned) := ⟨rfl, rfl, rfl, by decide +kernel, rfl, by decide +kernel, by decide +kernel⟩
abbrev s_Form_worth : Stmt := inClass (topS 9) 14
theorem sc_Form_worth : FnScope ["self", "word", "sign", "scale", "tail", "number", "power"] ["self", "word"] (defScope s_Form_worth) := ⟨rfl, rfl, rfl, by decide +kernel, rfl, by decide +kernel, by decide +kernel⟩
abbrev sBox : Stmt := topS 11
abbrev sTake : Stmt := topS 12
abbrev sFolded : Stmt := topS 13
abbrev sSame : Stmt := topS 14
abbrev s__law_form : Stmt := topS 15
theorem sc__law_form : FnScope ["_law_box_here", "_law_some"] ["_law_box_here"] (defScope s__law_form) := ⟨rfl, rfl, rfl, by decide +kernel, rfl, by decide +kernel, by decide +kernel⟩
abbrev s__law_word : Stmt := topS 16
theorem sc__law_word : FnScope ["_law_box_here", "_law_scale", "_law_tail", "_law_top", "_law_some", "_law_way", "_law_word_here"] ["_law_box_here", "_law_scale", "_law_tail"] (defScope s__law_word) := ⟨rfl, rfl, rfl, by decide +kernel, rfl, by decide +kernel, by decide +kernel⟩
abbrev s__law_sort : Stmt := topS 17
theorem sc__law_sort : FnScope ["_law_word_here", "_law_scale", "_law_tail", "_law_size", "_law_top"] ["_law_word_here", "_law_scale", "_law_tail"] (defScope s__law_sort) := ⟨rfl, rfl, rfl, by decide +kernel, rfl, by decide +kernel, by decide +kernel⟩
abbrev s__law_size_of : Stmt := topS 18
theorem sc__law_size_of : FnScope ["_law_size", "_law_scale", "_law_tail", "_law_high", "_law_low", "_law_bias"] ["_law_size", "_law_scale", "_law_tail"] (defScope s__law_size_of) := ⟨rfl, rfl, rfl, by decide +kernel, rfl, by decide +kernel, by decide +kernel⟩
abbrev s__law_text : Stmt := topS 19
theorem sc__law_text : FnScope ["_law_word_here", "_law_scale", "_law_tail", "_law_sort_here", "_law_size", "_law_ahead", "_law_number", "_law_power", "_law_turn"] ["_law_word_here", "_law_scale", "_law_tail"] (defScope s__law_text) := ⟨rfl, rfl, rfl, by decide +kernel, rfl, by decide +kernel, by decide +kernel⟩
abbrev s__law_right : Stmt := topS 20
theorem sc__law_right : FnScope ["_law_box_here", "_law_scale", "_law_tail", "_law_form_here", "_law_words", "_law_word_here", "_law_text_here", "_law_other", "_law_turn"] ["_law_box_here"] (defScope s__law_right) := ⟨rfl, rfl, rfl, by decide +kernel, rfl, by decide +kernel, by decide +kernel⟩
abbrev s_law : Stmt := topS 21
theorem sc_law : FnScope ["_law_script", "_law_cells", "_law_k"] ["_law_script"] (defScope s_law) := ⟨rfl, rfl, rfl, by decide +kernel, rfl, by decide +kernel, by decide +kernel⟩
/-! ### built-in names that the text leaves alone -/
structure Bl (mg : Str → Option Value) : Prop where
  len : mg "len" = none
  abs : mg "abs" = none
  int : mg "int" = none
  divmod : mg "divmod" = none
  list : mg "list" = none
  enumerate : mg "enumerate" = none
  isinstance : mg "isinstance" = none
  tuple : mg "tuple" = none
  str : mg "str" = none
  bool : mg "bool" = none
  zip : mg "zip" = none
  all : mg "all" = none
  range : mg "range" = none
  max : mg "max" = none
  any : mg "any" = none
  min : mg "min" = none
  sum : mg "sum" = none
/-! ### rules with the written part told (for the blocks of comprehensions) -/
section
variable {X : Cx} {K : PySem.W.Frag}
theorem call_len_seqK (h : X.K = K := by rfl) : CallR X (.builtin "len") (fun xs H Q => ∃ p ys, xs = [.ref p] ∧ (SqL K H p ys ∨ SqT K H p ys) ∧ Q (.int ys.length) H) := by subst h; exact call_len_seq
theorem call_list_ofK (h : X.K = K := by rfl) : CallR X (.type "list") (fun xs H Q => ∃ p ys, xs = [.ref p] ∧ (SqL K H p ys ∨ SqT K H p ys) ∧ ∀ l, H l = none → Q (.ref l) (upd H l (.lst ys))) := by subst h; exact call_list_of
theorem call_tuple_ofK (h : X.K = K := by rfl) : CallR X (.type "tuple") (fun xs H Q => ∃ p ys, xs = [.ref p] ∧ ((SqL K H p ys ∧ ∀ l, H l = none → Q (.ref l) (upd H l (.tup ys))) ∨ (SqT K H p ys ∧ Q (.ref p) H))) := by subst h; exact call_tuple_of
theorem ix_listK (h : X.K = K := by rfl) : IxR X (rIxL K) := by subst h; exact ix_list
theorem ix_tupK (h : X.K = K := by rfl) : IxR X (rIxT K) := by subst h; exact ix_tup
theorem ix_seqK (h : X.K = K := by rfl) : IxR X (rIx K) := by subst h; exact ix_seq
theorem op_in_seqK (h : X.K = K := by rfl) : OpR X (compareOp .In) (rIn K false) := by subst h; exact op_in_seq
theorem op_notIn_seqK (h : X.K = K := by rfl) : OpR X (compareOp .NotIn) (rIn K true) := by subst h; exact op_notIn_seq
theorem sl_listK (h : X.K = K := by rfl) : SlR X (rSlL K) := by subst h; exact sl_list
theorem cr_sumK (hc : X.calm = true) (h : X.K = K := by rfl) : CallR X (.builtin "sum") (rSum K) := by subst h; exact cr_sum hc
theorem cr_allK (hc : X.calm = true) (h : X.K = K := by rfl) : CallR X (.builtin "all") (rAll K) := by subst h; exact cr_all hc
theorem cr_anyK (hc : X.calm = true) (h : X.K = K := by rfl) : CallR X (.builtin "any") (rAny K) := by subst h; exact cr_any hc
theorem call_isiK' (h : X.K = K := by rfl) : CallR X (.builtin "isinstance") (rIsi K) := by subst h; exact call_isi
theorem pi_listK {tg l : Expr} {tl : TE} (hl : PE X l tl) (h : X.K = K := by rfl) : PI X tg l (iList K tl) := by subst h; exact pi_list hl
theorem pi_tupK {tg l : Expr} {tl : TE} (hl : PE X l tl) (h : X.K = K := by rfl) : PI X tg l (iTup K tl) := by subst h; exact pi_tup hl
theorem pe_fldK {e : Expr} {ta : TE} {f : Str} {pos : Pos} (he : PE X e ta) (hb : attributeBase e f X.env (eval e X.env) = eval e X.env) (h : X.K = K := by rfl) : PE X (.Attribute e f pos) (tFld K ta f) := by subst h; exact pe_fld he hb
end
/-! ### heaps -/
theorem same_upd {H : Hp} {p : Addr} {o : HO} (h : H p = none) : Same H (upd H p o) := fun b x e => by
  rw [upd_ne (ne_of_none e h)]
  exact e
/-- all but what stands at b is as it was -/
def Keep (b : Addr) (H H' : Hp) : Prop := ∀ p o, H p = some o → p ≠ b → H' p = some o
theorem Keep.refl (b : Addr) (H : Hp) : Keep b H H := fun _ _ h _ => h
theorem Keep.trans {b : Addr} {H H1 H2 : Hp} (x : Keep b H H1) (y : Keep b H1 H2) : Keep b H H2 := fun p o h n => y p o (x p o h n) n
theorem Keep.ofSame {b : Addr} {H H1 : Hp} (x : Same H H1) : Keep b H H1 := fun p o h _ => x p o h
theorem Keep.upd {b : Addr} {H : Hp} {o : HO} : Keep b H (upd H b o) := fun p x h n => by
  rw [upd_ne n]
  exact h
theorem Keep.new {b p : Addr} {H : Hp} {o : HO} (h : H p = none) : Keep b H (L2.upd H p o) := .ofSame (same_upd h)
theorem Keep.seq {K : PySem.W.Frag} {b a : Addr} {H H' : Hp} {xs : List V} (e : Keep b H H') (n : a ≠ b) (h : SqL K H a xs) : SqL K H' a xs := by
  rcases h with (h | ⟨o, h⟩) | h
  · exact .inl (.inl (e _ _ h n))
  · exact .inl (.inr ⟨o, e _ _ h n⟩)
  · exact .inr h
theorem Keep.seqT {K : PySem.W.Frag} {b a : Addr} {H H' : Hp} {xs : List V} (e : Keep b H H') (n : a ≠ b) (h : SqT K H a xs) : SqT K H' a xs := by
  rcases h with (h | ⟨o, h⟩) | h
  · exact .inl (.inl (e _ _ h n))
  · exact .inl (.inr ⟨o, e _ _ h n⟩)
  · exact .inr h
theorem Same.seqT {K : PySem.W.Frag} {a : Addr} {H H' : Hp} {xs : List V} (e : Same H H') (h : SqT K H a xs) : SqT K H' a xs := by
  rcases h with (h | ⟨o, h⟩) | h
  · exact .inl (.inl (e _ _ h))
  · exact .inl (.inr ⟨o, e _ _ h⟩)
  · exact .inr h
/-- a drawing box: three ints, the last at most c -/
def BoxAt (c : Int) (H : Hp) (b : Addr) : Prop := ∃ x0 x1 x2 : Int, H b = some (.lst [.int x0, .int x1, .int x2]) ∧ 0 ≤ x0 ∧ 0 ≤ x1 ∧ x1 < 2147483647 ∧ 0 ≤ x2 ∧ x2 ≤ c
theorem BoxAt.mono {c d : Int} {H : Hp} {b : Addr} (h : BoxAt c H b) (l : c ≤ d) : BoxAt d H b := by
  obtain ⟨x0, x1, x2, e, a1, a2, a3, a4, a5⟩ := h
  exact ⟨x0, x1, x2, e, a1, a2, a3, a4, by omega⟩
theorem BoxAt.same {c : Int} {H H' : Hp} {b : Addr} (h : BoxAt c H b) (s : Same H H') : BoxAt c H' b := by
  obtain ⟨x0, x1, x2, e, r⟩ := h
  exact ⟨x0, x1, x2, s _ _ e, r⟩
theorem BoxAt.at {c : Int} {H H' : Hp} {b : Addr} (h : BoxAt c H b) (s : H' b = H b) : BoxAt c H' b := by
  obtain ⟨x0, x1, x2, e, r⟩ := h
  exact ⟨x0, x1, x2, by rw [s]; exact e, r⟩
theorem BoxAt.ne {c : Int} {H : Hp} {b p : Addr} (h : BoxAt c H b) (n : H p = none) : b ≠ p := by
  obtain ⟨x0, x1, x2, e, r⟩ := h
  exact ne_of_none e n
theorem e7 : (10 : Int) ^ ((7 : Int).toNat) = 10000000 := by decide
theorem e18 : (10 : Int) ^ ((18 : Int).toNat) = 1000000000000000000 := by decide
theorem divp_small {i j : Int} (h0 : 0 < j) (h1 : j < 2 ^ 64) : CDivP i j := by
  refine ⟨h0, ?_⟩
  show (decide ((if j == 0 then 0 else j.natAbs.log2 / 30 + 1) > 300) && _) = false
  rw [if_neg (show ¬ (j == 0) = true by simpa using (show j ≠ 0 by omega))]
  have hl : j.natAbs.log2 < 64 := PySem.Flt.log2_lt_of (by decide) (by omega)
  rw [decide_eq_false (show ¬ (j.natAbs.log2 / 30 + 1 > 300) by omega), Bool.false_and]
section
variable {P : Program} {w : World} {K : PySem.W.Frag} {mg : Str → Option Value} {base : Heap}
/-! ### _law_take -/
theorem scTake : FnScope ["_law_box_here", "_law_size", "_law_found", "_law_step", "_law_once", "_law_twice"] ["_law_box_here", "_law_size"] (defScope sTake) := ⟨rfl, rfl, rfl, by decide +kernel, rfl, by decide +kernel, by decide +kernel⟩
def spTake (k : Nat) : Sp := fun vs H Q _ => ∃ (b : Addr) (n c : Int), vs = [.ref b, .int n] ∧ BoxAt c H b ∧ 1 ≤ n ∧ n ≤ 10000000 ^ k ∧ n < 2 ^ 60 ∧ c + 2 ^ k ≤ 1000000000 ∧ 0 < k ∧
  ∀ (r : Int) (H' : Hp), 0 ≤ r → r < n → BoxAt (c + 2 ^ (k - 1)) H' b → Keep b H H' → Q (.int r) H'
theorem take_none {f : Addr} {fd : FuncData} : FnOk P w K mg base CX0 0 f fd ["_law_box_here", "_law_size"] (spTake 0) := by
  have no : ∀ vs H Q E, ¬ spTake 0 vs H Q E := fun vs H Q E h => by
    obtain ⟨b, n, c, _, _, _, _, _, _, h0, _⟩ := h
    omega
  exact ⟨fun vs H Q E h => absurd h (no vs H Q E), fun A outer s H args us vs Q E _ _ _ _ h => absurd h (no vs H Q E)⟩
theorem ok_take1 {f : Addr} {fd : FuncData} {k : Nat} (F : Fun K "_law_take" "_law_take" sTake f fd) (G : FnOk P w K mg base CX0 k f fd ["_law_box_here", "_law_size"] (spTake k)) (bf : Binds K fd ["_law_box_here", "_law_size"] []) (mf : mg "_law_take" = some (.ref f)) (B : Bl mg) :
    FnOk P w K mg base CX0 (k + 1) f fd ["_law_box_here", "_law_size"] (spTake (k + 1)) := by
  refine F.ok scTake (fun vs H Q E h => ?_) (fun cdv A outer s H vs Q E hr h => ?_)
  · obtain ⟨b, n, c, rfl, _⟩ := h
    rfl
  obtain ⟨b, n, c, rfl, hB, hn1, hnk, hn60, hc, _, q⟩ := h
  obtain ⟨x0, x1, x2, hb, h0, h1, h1', h2, h2'⟩ := hB
  have hp : (0 : Int) < 2 ^ k := Int.pow_pos (by decide)
  have hk2 : (2 : Int) ^ (k + 1) = 2 ^ k * 2 := Int.pow_succ 2 k
  refine ⟨_, pss_cons (ps_if (pt_cmpR op_gt (pe_ix ix_list (pv 0) pe_int (fun _ _ => rfl)) pe_int (nomark _))
      (pss_cons (ps_asg (pe_callB call_divmodW (by rfl) B.divmod boot_divmod (pa_cons (pe_ix ix_list (pv 0) pe_int (fun _ _ => rfl)) (pa_cons (pv 1) pa_nil)))
          (pg_tup (by rfl) (pgs_cons (pg_sub (pv 0) pe_int set_list) (pgs_cons (pg_name (i := 2) scTake.nd rfl (.inl rfl)) pgs_nil))))
        (pss_one (ps_ret (pv 2)))) pss_nil)
    (pss_cons (ps_if (pt_cmpR op_gt (pv 1) (pe_op op_pow pe_int pe_int) (nomark _))
      (pss_one (ps_ret (pe_op op_mod (pe_op op_add (pe_call G hr (by rfl) mf F.kp bf .nil pass0 (pa_cons (pv 0) (pa_cons (pe_op op_pow pe_int pe_int) pa_nil)))
          (pe_op op_mul (pe_op op_pow pe_int pe_int) (pe_call G hr (by rfl) mf F.kp bf .nil pass0 (pa_cons (pv 0) (pa_cons (pe_op op_add (pe_op op_fdiv (pe_op op_sub (pv 1) pe_int) (pe_op op_pow pe_int pe_int)) pe_int) pa_nil))))) (pv 1)))) pss_nil)
    (pss_cons (ps_asg (pe_op op_add (pe_ix ix_list (pv 0) pe_int (fun _ _ => rfl)) pe_int) (pg_sub (pv 0) pe_int set_list))
    (pss_cons (ps_set (i := 3) scTake.nd rfl (.inl rfl) (pe_op op_add pe_int (pe_op op_mul (pe_ix ix_list (pv 0) pe_int (fun _ _ => rfl)) (pe_ix ix_list (pv 0) pe_int (fun _ _ => rfl)))))
    (pss_cons (ps_set (i := 4) scTake.nd rfl (.inl rfl) (pe_op op_mod (pe_op op_mul (pe_op op_add (pe_ix ix_list (pv 0) pe_int (fun _ _ => rfl)) (pe_op op_mul pe_int (pe_ix ix_list (pv 0) pe_int (fun _ _ => rfl)))) (pv 3)) pe_int))
    (pss_cons (ps_set (i := 5) scTake.nd rfl (.inl rfl) (pe_op op_mod (pe_op op_add (pe_op op_mul (pv 4) (pe_op op_add (pe_op op_mod (pv 4) pe_int) pe_int)) (pe_ix ix_list (pv 0) pe_int (fun _ _ => rfl))) pe_int))
    (pss_one (ps_ret (pe_op op_mod (pe_op op_fdiv (pe_op op_mod (pe_op op_mul (pv 5) (pe_op op_add (pe_op op_mod (pv 5) pe_int) pe_int)) pe_int) pe_int) (pv 1))))))))), ?_⟩
  refine ⟨_, rfl, b, _, _, _, rfl, rfl, SqL.of hb, rfl, _, _, rfl, rfl, _, rfl, ite2 (fun cc => ?_) (fun cc => ?_)⟩
  · -- the great number's own digits
    refine ⟨_, rfl, b, _, _, _, rfl, rfl, SqL.of hb, rfl, _, rfl, _, _, rfl, divp_small (by omega) (by omega), fun p np => ?_⟩
    have nbp : b ≠ p := ne_of_none hb np
    refine ⟨p, _, rfl, .inl (.inl upd_same), rfl, _, _, rfl, _, rfl, b, _, _, 0, rfl, rfl, (by rw [upd_ne nbp]; exact hb), rfl, _, _, rfl, rfl, _, rfl, ?_⟩
    refine q _ _ (Int.emod_nonneg _ (by omega)) (Int.emod_lt_of_pos _ (by omega)) ⟨x0 / n, x1, x2, upd_same, Int.ediv_nonneg h0 (by omega), h1, h1', h2, by show x2 ≤ c + 2 ^ k; omega⟩ ?_
    exact Keep.trans (Keep.new np) Keep.upd
  · refine ⟨_, rfl, _, _, rfl, rfl, ⟨by decide, by decide, by decide⟩, _, _, rfl, rfl, _, rfl, ite2 (fun c2 => ?_) (fun c2 => ?_)⟩
    · -- two lesser draws
      have c3 : (10 : Int) ^ ((7 : Int).toNat) < n := of_decide_eq_true c2
      rw [e7] at c3
      have hk : 0 < k := by
        rcases Nat.eq_zero_or_pos k with z | z
        · subst z
          rw [show (10000000 : Int) ^ (0 + 1) = 10000000 by decide] at hnk
          omega
        · exact z
      obtain ⟨j, rfl⟩ : ∃ j, k = j + 1 := ⟨k - 1, by omega⟩
      have hj2 : (2 : Int) ^ (j + 1) = 2 ^ j * 2 := Int.pow_succ 2 j
      have hjp : (0 : Int) < 2 ^ j := Int.pow_pos (by decide)
      have h10 : (10000000 : Int) ≤ 10000000 ^ (j + 1) := by
        rw [Int.pow_succ]
        have : (0 : Int) < 10000000 ^ j := Int.pow_pos (by decide)
        omega
      have hdiv : (n - 1) / 10000000 + 1 ≤ 10000000 ^ (j + 1) := by
        rw [Int.pow_succ] at hnk
        have : n - 1 < 10000000 ^ (j + 1) * 10000000 := by omega
        have := Int.ediv_lt_of_lt_mul (by decide) this
        omega
      refine ⟨_, rfl, _, _, rfl, rfl, ⟨by decide, by decide, by decide⟩, b, _, c, rfl, ⟨x0, x1, x2, hb, h0, h1, h1', h2, h2'⟩, (by rw [e7]; decide), (by rw [e7]; exact h10), (by rw [e7]; decide), by omega, by omega, fun r1 H1 a1 a2 B1 k1 => ?_⟩
      refine ⟨_, _, rfl, rfl, ⟨by decide, by decide, by decide⟩, _, rfl, _, rfl, _, _, rfl, rfl, _, _, rfl, rfl, ⟨by decide, by decide, by decide⟩, _, _, rfl, rfl, (by rw [e7]; exact ⟨by decide, by decide⟩), _, _, rfl, rfl, ?_⟩
      rw [e7]
      refine ⟨b, _, c + 2 ^ j, rfl, B1, by omega, hdiv, by omega, by omega, by omega, fun r2 H2 a3 a4 B2 k2 => ?_⟩
      refine ⟨_, _, rfl, rfl, .inl ⟨by decide, by decide⟩, _, _, rfl, rfl, _, rfl, _, _, rfl, rfl, (by show (0 : Int) < n; omega), ?_⟩
      refine q _ _ (Int.emod_nonneg _ (by omega)) (Int.emod_lt_of_pos _ (by omega)) (B2.mono ?_) (k1.trans k2)
      show c + 2 ^ j + 2 ^ j ≤ c + 2 ^ (j + 1)
      omega
    · -- a turn of the wheel
      refine ⟨_, rfl, b, _, _, _, rfl, rfl, SqL.of hb, rfl, _, _, rfl, rfl, _, rfl, b, _, _, 2, rfl, rfl, hb, rfl, ?_⟩
      have hb2 : (upd H b (.lst [.int x0, .int x1, .int (x2 + 1)])) b = some (.lst [.int x0, .int x1, .int (x2 + 1)]) := upd_same
      refine ⟨_, rfl, b, _, _, _, rfl, rfl, SqL.of hb2, rfl, _, rfl, b, _, _, _, rfl, rfl, SqL.of hb2, rfl, _, _, rfl, rfl, .inl ⟨by omega, by omega⟩, _, _, rfl, rfl, ?_⟩
      refine ⟨_, rfl, b, _, _, _, rfl, rfl, SqL.of hb2, rfl, _, rfl, b, _, _, _, rfl, rfl, SqL.of hb2, rfl, _, _, rfl, rfl, .inl ⟨by omega, by omega⟩, _, _, rfl, rfl, _, rfl, _, _, rfl, rfl, .inl ⟨by omega, by omega⟩, _, _, rfl, rfl, (by show (0 : Int) < 2147483587; decide), ?_⟩
      generalize (x1 + 39373 * (x2 + 1)) * (69621 + (x2 + 1) * (x2 + 1)) = y
      have y1 := Int.emod_nonneg y (show (2147483587 : Int) ≠ 0 by decide)
      have y2 := Int.emod_lt_of_pos y (show (0 : Int) < 2147483587 by decide)
      refine ⟨_, rfl, _, rfl, _, _, rfl, rfl, (by show (0 : Int) < 30011; decide), _, _, rfl, rfl, _, _, rfl, rfl, .inl ⟨by omega, by omega⟩, _, rfl, b, _, _, _, rfl, rfl, SqL.of hb2, rfl, _, _, rfl, rfl, _, _, rfl, rfl, (by show (0 : Int) < 2147483563; decide), ?_⟩
      generalize (y % 2147483587 * (y % 2147483587 % 30011 + 5) + (x2 + 1)) = z
      have z1 := Int.emod_nonneg z (show (2147483563 : Int) ≠ 0 by decide)
      have z2 := Int.emod_lt_of_pos z (show (0 : Int) < 2147483563 by decide)
      refine ⟨_, rfl, _, rfl, _, _, rfl, rfl, (by show (0 : Int) < 1013; decide), _, _, rfl, rfl, _, _, rfl, rfl, .inl ⟨by omega, by omega⟩, _, _, rfl, rfl, (by show (0 : Int) < 998244353; decide), _, _, rfl, rfl, ⟨by decide, by decide⟩, _, rfl, _, _, rfl, rfl, (by show (0 : Int) < n; omega), ?_⟩
      refine q _ _ (Int.emod_nonneg _ (by omega)) (Int.emod_lt_of_pos _ (by omega)) ⟨x0, x1, x2 + 1, hb2, h0, h1, h1', by omega, by show x2 + 1 ≤ c + 2 ^ k; omega⟩ Keep.upd
theorem ok_take {f : Addr} {fd : FuncData} (F : Fun K "_law_take" "_law_take" sTake f fd) (bf : Binds K fd ["_law_box_here", "_law_size"] []) (mf : mg "_law_take" = some (.ref f)) (B : Bl mg) : ∀ k : Nat, FnOk P w K mg base CX0 k f fd ["_law_box_here", "_law_size"] (spTake k)
  | 0 => take_none
  | k + 1 => ok_take1 F (ok_take F bf mf B k) bf mf B
/-! ### _law_box -/
theorem scBox : FnScope ["_law_script", "_law_k", "_law_cell"] ["_law_script", "_law_k"] (defScope sBox) := ⟨rfl, rfl, rfl, by decide +kernel, rfl, by decide +kernel, by decide +kernel⟩
def spBox (K : PySem.W.Frag) : Sp := fun vs H Q _ => ∃ (a : Addr) (zs : List Int) (k : Int), vs = [.ref a, .int k] ∧ SqL K H a (zs.map V.int) ∧ 0 ≤ k ∧ k ≤ 1000 ∧
  ∀ (p : Addr) (H' : Hp), H p = none → Same H H' → BoxAt 0 H' p → Q (.ref p) H'
theorem b01 (b : Bool) : (-(2 ^ 64) < (if b = true then (1 : Int) else 0)) ∧ (if b = true then (1 : Int) else 0) < 2 ^ 64 := by cases b <;> decide
theorem b01n (b : Bool) : 0 ≤ (if b = true then (1 : Int) else 0) := by cases b <;> decide
theorem abs_nn (i : Int) : 0 ≤ (if i < 0 then -i else i) := by
  split <;> omega
theorem at_int {zs : List Int} {k : Int} (h0 : 0 ≤ k) (h : k < (zs.length : Int)) : ∃ v : Int, atI (zs.map V.int) k = some (.int v) ∧ zs[k.toNat]? = some v := by
  have hk : k.toNat < zs.length := by omega
  have ek : k = ((k.toNat : Nat) : Int) := by omega
  have q : atI (zs.map V.int) ((k.toNat : Nat) : Int) = some (.int zs[k.toNat]) := atI_nat (by rw [List.getElem?_map, List.getElem?_eq_getElem hk] <;> rfl)
  rw [← ek] at q
  exact ⟨zs[k.toNat], q, List.getElem?_eq_getElem hk⟩
theorem ok_box {f : Addr} {fd : FuncData} {k : Nat} (F : Fun K "_law_box" "_law_box" sBox f fd) (B : Bl mg) : FnOk P w K mg base CX0 (k + 1) f fd ["_law_script", "_law_k"] (spBox K) := by
  refine F.ok scBox (fun vs H Q E h => ?_) (fun cdv A outer s H vs Q E hr h => ?_)
  · obtain ⟨a, zs, k, rfl, _⟩ := h
    rfl
  obtain ⟨a, zs, k, rfl, hS, h0, h1, q⟩ := h
  refine ⟨_, pss_cons (ps_set (i := 2) scBox.nd rfl (.inl rfl) (pe_ifExp (pt_cmpR op_lt (pv 1) (pe_callB call_len_seq (by rfl) B.len PySem.boot_len (pa_cons (pv 0) pa_nil)) (nomark _)) (pe_ix ix_list (pv 0) (pv 1) (fun _ _ => rfl)) pe_int))
    (pss_one (ps_ret (pe_lst (pa_cons (pe_op op_mul (pe_callB call_abs (by rfl) B.abs boot_abs (pa_cons (pv 2) pa_nil)) (pe_callTy call_int1 (by rfl) B.int PyProof.Rows.boot_int (pa_cons (pe_cmpR op_ge (pe_callB call_abs (by rfl) B.abs boot_abs (pa_cons (pv 2) pa_nil)) (pe_op op_pow pe_int pe_int) (nomark _)) pa_nil)))
      (pa_cons (pe_op op_mod (pe_op op_mul (pe_op op_add (pe_op op_add (pe_op op_mod (pv 2) pe_int) (pe_op op_mul pe_int (pv 1))) pe_int) pe_int) pe_int) (pa_cons pe_int pa_nil)))))), ?_⟩
  refine ⟨_, rfl, _, rfl, a, _, rfl, .inl hS, _, _, rfl, rfl, _, rfl, ite2 (fun cc => ?_) (fun cc => ?_)⟩
  · have c1 : k < (((zs.map V.int).length : Nat) : Int) := of_decide_eq_true cc
    rw [List.length_map] at c1
    obtain ⟨v, hv, _⟩ := at_int h0 c1
    refine ⟨_, rfl, _, rfl, a, _, _, _, rfl, rfl, hS, hv, ?_⟩
    refine ⟨_, rfl, _, rfl, _, rfl, _, rfl, _, _, rfl, rfl, ⟨by decide, by decide, by decide⟩, _, _, rfl, rfl, .inr ⟨_, rfl, ?_⟩⟩
    refine ⟨_, _, rfl, rfl, .inr (b01 _), _, rfl, _, _, rfl, rfl, (by show (0 : Int) < 2147483629; decide), _, rfl, _, _, rfl, rfl, .inl ⟨by decide, by decide⟩, _, _, rfl, rfl, _, _, rfl, rfl, _, _, rfl, rfl, .inr ⟨by decide, by decide⟩, _, _, rfl, rfl, (by show (0 : Int) < 2147483647; decide), (by show 3 ≤ sizeLine; decide), fun p np => ?_⟩
    refine q p _ np (same_upd np) ⟨_, _, _, upd_same, Int.mul_nonneg (abs_nn v) (b01n _), Int.emod_nonneg _ (by decide), Int.emod_lt_of_pos _ (by decide), by decide, by decide⟩
  · refine ⟨_, rfl, _, rfl, _, rfl, _, rfl, _, _, rfl, rfl, ⟨by decide, by decide, by decide⟩, _, _, rfl, rfl, .inr ⟨_, rfl, ?_⟩⟩
    refine ⟨_, _, rfl, rfl, .inr (b01 _), _, rfl, _, _, rfl, rfl, (by show (0 : Int) < 2147483629; decide), _, rfl, _, _, rfl, rfl, .inl ⟨by decide, by decide⟩, _, _, rfl, rfl, _, _, rfl, rfl, _, _, rfl, rfl, .inr ⟨by decide, by decide⟩, _, _, rfl, rfl, (by show (0 : Int) < 2147483647; decide), (by show 3 ≤ sizeLine; decide), fun p np => ?_⟩
    refine q p _ np (same_upd np) ⟨_, _, _, upd_same, Int.mul_nonneg (abs_nn 0) (b01n _), Int.emod_nonneg _ (by decide), Int.emod_lt_of_pos _ (by decide), by decide, by decide⟩
/-! ### _law_folded -/
theorem scFolded : FnScope ["_law_script", "_law_size", "_law_cells", "_law_k", "_law_cell"] ["_law_script", "_law_size"] (defScope sFolded) := ⟨rfl, rfl, rfl, by decide +kernel, rfl, by decide +kernel, by decide +kernel⟩
def spFolded (K : PySem.W.Frag) : Sp := fun vs H Q _ => ∃ (a : Addr) (ns : List Int) (m : Nat), vs = [.ref a, .int (m : Int)] ∧ SqL K H a (ns.map V.int) ∧ ns.length ≤ 63 ∧ 1 ≤ m ∧ m ≤ 63 ∧
  ∀ (p : Addr) (H' : Hp) (zs : List Int), H p = none → Same H H' → H' p = some (.lst (zs.map V.int)) → zs.length = min ns.length m → Q (.ref p) H'
theorem cut_lo (ns : List Int) (m : Nat) : cutV (ns.map V.int) none (some (m : Int)) = (ns.take m).map V.int := by
  unfold cutV
  rw [HT.sIx_none, HT.sIx_nat, List.drop_zero, Nat.sub_zero, List.length_map, ← List.map_take]
  congr 1
  rw [List.take_eq_take_iff]
  omega
theorem cut_mid (ns : List Int) (m j : Nat) : ∃ ws : List Int, cutV (ns.map V.int) (some (m : Int)) (some (j : Int)) = ws.map V.int ∧ ws.length ≤ ns.length - m := by
  unfold cutV
  rw [HT.sIx_nat, HT.sIx_nat, List.length_map, ← List.map_drop, ← List.map_take]
  refine ⟨_, rfl, ?_⟩
  rw [List.length_take, List.length_drop]
  omega
theorem int_at {ws : List Int} {i : Nat} {x : V} (h : (ws.map V.int)[i]? = some x) : ∃ z, ws[i]? = some z ∧ x = .int z := by
  rw [List.getElem?_map] at h
  cases e : ws[i]? with
  | none =>
    rw [e] at h
    cases h
  | some z =>
    rw [e] at h
    exact ⟨z, rfl, (Option.some.inj h).symm⟩
theorem map_set (zs : List Int) (j : Nat) (v : Int) : (zs.map V.int).set j (.int v) = (zs.set j v).map V.int := List.map_set.symm
theorem ixN_nat {n j : Nat} (h : j < n) : ixN n (j : Int) = some j := by
  unfold ixN
  rw [if_pos (Int.natCast_nonneg j), if_pos (by omega), Int.toNat_natCast]
theorem ok_folded {f : Addr} {fd : FuncData} {k : Nat} (F : Fun K "_law_folded" "_law_folded" sFolded f fd) (B : Bl mg) : FnOk P w K mg base CX0 (k + 1) f fd ["_law_script", "_law_size"] (spFolded K) := by
  refine F.ok scFolded (fun vs H Q E h => ?_) (fun cdv A outer s H vs Q E hr h => ?_)
  · obtain ⟨a, ns, m, rfl, _⟩ := h
    rfl
  obtain ⟨a, ns, m, rfl, hS, h63, hm1, hm2, q⟩ := h
  refine ⟨_, pss_cons (ps_set (i := 2) scFolded.nd rfl (.inl rfl) (pe_callTy call_list_of (by rfl) B.list PyProof.Rows.boot_list (pa_cons (pe_slice sl_list (pv 0) po_none (po_some (pv 1))) pa_nil)))
    (pss_cons (ps_for PassesOwn.never rfl (pi_enum (by rfl) B.enumerate (pa_cons (pe_slice sl_list (pv 0) (po_some (pv 1)) (po_some pe_int)) pa_nil))
        (pg_tup rfl (pgs_cons (pg_name (i := 3) scFolded.nd rfl (.inl rfl)) (pgs_cons (pg_name (i := 4) scFolded.nd rfl (.inl rfl)) pgs_nil)))
      (pss_one (ps_asg (pe_op op_add (pe_ix ix_list (pv 2) (pe_op op_mod (pv 3) (pv 1)) (fun _ _ => rfl)) (pe_op op_mul (pv 4) (pe_op op_add (pv 3) pe_int))) (pg_sub (pv 2) (pe_op op_mod (pv 3) (pv 1)) set_list))))
    (pss_one (ps_ret (pv 2)))), ?_⟩
  refine ⟨_, rfl, _, rfl, _, rfl, a, _, rfl, hS, fun c0 nc0 => ?_⟩
  rw [cut_lo]
  have s0 : Same H (upd H c0 (.lst ((ns.take m).map V.int))) := same_upd nc0
  refine ⟨c0, _, rfl, .inl (.inl (.inl upd_same)), fun p np => ?_⟩
  have npH : H p = none := s0.free np
  have ne0 : c0 ≠ p := fun e => by
    subst e
    rw [upd_same] at np
    cases np
  have s1 := s0.trans (same_upd (o := .lst ((ns.take m).map V.int)) np)
  refine ⟨_, rfl, _, rfl, _, rfl, _, rfl, a, _, rfl, s1.seq hS, fun c nc => ?_⟩
  obtain ⟨ws, ew, lw⟩ := cut_mid ns m 63
  rw [show ((63 : Nat) : Int) = (63 : Int) from rfl] at ew
  rw [ew]
  have s2 := s1.trans (same_upd (o := .lst (ws.map V.int)) nc)
  have nec : c ≠ p := fun e => by
    subst e
    rw [upd_same] at nc
    cases nc
  refine ⟨c, _, rfl, .inl (.inl upd_same), ?_⟩
  refine for_it (walk_enum (K := K) (a := c) (xs := ws.map V.int)) (fun i σ H3 => ∃ (y3 y4 : Option V) (zs : List Int), σ = [some (.ref a), some (.int (m : Int)), some (.ref p), y3, y4] ∧ Same H H3 ∧ H3 c = some (.lst (ws.map V.int)) ∧ H3 p = some (.lst (zs.map V.int)) ∧ zs.length = min ns.length m)
    ⟨none, none, ns.take m, rfl, s2, upd_same, ?_, ?_⟩ (fun i σ H3 _ ⟨_, _, _, _, _, e, _⟩ => .inl (.inl e)) ?_ ?_
  · rw [upd_ne nec.symm]
    exact upd_same
  · rw [List.length_take, Nat.min_comm]
  · rintro i v σ H3 H4 hi ⟨y3, y4, zs, rfl, s3, ec, ep, el⟩ ⟨T, x, y, rfl, nT, rfl, e1, e2⟩
    cases e1
    obtain ⟨z, _, rfl⟩ := int_at e2
    rw [List.length_map] at hi
    have npT : p ≠ T := ne_of_none ep nT
    have ncT : c ≠ T := ne_of_none ec nT
    have sT : Same H3 (upd H3 T (.tup [.int (i : Nat), .int z])) := same_upd nT
    refine ⟨T, _, rfl, .inl (.inl upd_same), rfl, _, _, rfl, _, _, rfl, rfl, ?_⟩
    have lm : (i : Int) % (m : Int) = ((i % m : Nat) : Int) := rfl
    have hl : i % m < zs.length := by
      have := Nat.mod_lt i (show 0 < m by omega)
      omega
    have ev : (zs.map V.int)[i % m]? = some (.int zs[i % m]) := by
      rw [List.getElem?_map, List.getElem?_eq_getElem hl]
      rfl
    refine ⟨_, rfl, _, rfl, _, rfl, _, _, rfl, rfl, (by show (0 : Int) < (m : Int); omega), p, _, _, _, rfl, rfl, SqL.of (sT _ _ ep), (by rw [lm]; exact atI_nat ev), _, rfl, _, rfl, _, _, rfl, rfl, _, _, rfl, rfl, .inr ⟨by omega, by omega⟩, _, _, rfl, rfl, ?_⟩
    refine ⟨_, rfl, _, rfl, _, rfl, _, _, rfl, rfl, (by show (0 : Int) < (m : Int); omega), p, _, _, i % m, rfl, rfl, sT _ _ ep, (by rw [lm, List.length_map]; exact ixN_nat hl), ?_⟩
    refine ⟨_, _, zs.set (i % m) (zs[i % m] + z * ((i : Int) + 2)), rfl, fun b o e => ?_, ?_, ?_, ?_⟩
    · rw [upd_ne (ne_of_none e npH)]
      exact sT _ _ (s3 _ _ e)
    · rw [upd_ne nec]
      exact sT _ _ ec
    · rw [upd_same, map_set]
    · rw [List.length_set]
      exact el
  · rintro σ H3 ⟨y3, y4, zs, rfl, s3, ec, ep, el⟩
    exact ⟨_, rfl, q p H3 zs npH s3 ep el⟩
/-! ### _law_same: of two things of one kind and worth -/
theorem scSame : FnScope ["_law_found", "_law_due", "_law_one", "_law_other"] ["_law_found", "_law_due"] (defScope sSame) := ⟨rfl, rfl, rfl, by decide +kernel, rfl, by decide +kernel, by decide +kernel⟩
def Lv : Nat → PyData → Prop
  | _, .none => True
  | _, .bool _ => True
  | _, .int _ => True
  | _, .str _ => True
  | n + 1, .list ds => ds.length ≤ 1000000 ∧ ∀ d ∈ ds, Lv n d
  | n + 1, .tuple ds => ds.length ≤ 1000000 ∧ ∀ d ∈ ds, Lv n d
  | _, _ => False
mutual
theorem Dp.same {H H' : Hp} (s : Same H H') : ∀ (d : PyData) (v : V), Dp K H v d → Dp K H' v d
  | .none, _, h => by
    cases h
    exact .non
  | .bool b, _, h => by
    cases h
    exact .bl b
  | .int i, _, h => by
    cases h
    exact .int i
  | .str x, _, h => by
    cases h
    exact .str x
  | .list ds, _, h => by
    cases h with
    | lst hs ha => exact .lst (s.seq hs) (Dp.sameAll s ds _ ha)
  | .tuple ds, _, h => by
    cases h with
    | tup hs ha => exact .tup (Same.seqT s hs) (Dp.sameAll s ds _ ha)
  | .dict _, _, h => by cases h
theorem Dp.sameAll {H H' : Hp} (s : Same H H') : ∀ (ds : List PyData) (vs : List V), DpAll K H vs ds → DpAll K H' vs ds
  | [], _, h => by
    cases h
    exact .nil
  | d :: ds, _, h => by
    cases h with
    | cons h1 h2 => exact .cons (Dp.same s d _ h1) (Dp.sameAll s ds _ h2)
end
theorem DpAll.len {H : Hp} : ∀ {ds : List PyData} {vs : List V}, DpAll K H vs ds → vs.length = ds.length
  | [], _, h => by
    cases h
    rfl
  | d :: ds, _, h => by
    cases h with
    | cons h1 h2 => rw [List.length_cons, List.length_cons, DpAll.len h2]
theorem DpAll.get {H : Hp} : ∀ {ds : List PyData} {vs : List V} {i : Nat} {x : V}, DpAll K H vs ds → vs[i]? = some x → ∃ d, ds[i]? = some d ∧ Dp K H x d
  | [], _, i, x, h, e => by
    cases h
    cases e
  | d :: ds, _, 0, x, h, e => by
    cases h with
    | cons h1 h2 =>
      cases e
      exact ⟨d, rfl, h1⟩
  | d :: ds, _, i + 1, x, h, e => by
    cases h with
    | @cons _ vs _ _ h1 h2 => exact DpAll.get (ds := ds) (vs := vs) h2 (show vs[i]? = some x from e)
theorem walk_zipT {a b : Addr} {xs ys : List V} {n : Nat} (hn : n = min xs.length ys.length) : Walk (RZ.ItzT K a b) n (fun H => SqT K H a xs ∧ SqT K H b ys) (YPair (fun i => xs[i]?) (fun i => ys[i]?)) := by
  subst hn
  refine ⟨fun i _ hi q => ?_, fun _ q => ⟨xs, ys, q.1, q.2, by omega⟩, fun i H v H' _ q y => ?_⟩
  · have h1 : i < xs.length := by omega
    have h2 : i < ys.length := by omega
    exact ⟨xs, ys, xs[i], ys[i], q.1, q.2, by simp [h1], by simp [h2]⟩
  · obtain ⟨T, x, z, h1, h2, h3, h4, h5⟩ := y
    exact ⟨T, x, z, h1, h2, h3, h4 xs q.1, h5 ys q.2⟩
theorem ty_lst {H : Hp} {a : Addr} {xs : List V} (h : SqL K H a xs) : TyX K H (.ref a) (.type "list") := by
  rcases h with (h | ⟨o, h⟩) | ⟨o, its, n, h1, h2, _⟩
  · exact .base (.lst h)
  · exact .base (.frz h)
  · exact .kList h1 h2
theorem ty_tup {H : Hp} {a : Addr} {xs : List V} (h : SqT K H a xs) : TyX K H (.ref a) (.type "tuple") := by
  rcases h with (h | ⟨o, h⟩) | ⟨o, its, n, h1, h2, _⟩
  · exact .base (.tup h)
  · exact .fTuple h
  · exact .kTuple h1 h2
def spSame (K : PySem.W.Frag) (k : Nat) : Sp := fun vs H Q _ => ∃ (x y : V) (d : PyData) (j : Nat), vs = [x, y] ∧ k = j + 1 ∧ Lv j d ∧ Dp K H x d ∧ Dp K H y d ∧ ∀ H', Same H H' → Q (.bl true) H'
theorem same_none {f : Addr} {fd : FuncData} : FnOk P w K mg base CX0 0 f fd ["_law_found", "_law_due"] (spSame K 0) := by
  have no : ∀ vs H Q E, ¬ spSame K 0 vs H Q E := fun vs H Q E h => by
    obtain ⟨x, y, d, j, _, h0, _⟩ := h
    omega
  exact ⟨fun vs H Q E h => absurd h (no vs H Q E), fun A outer s H args us vs Q E _ _ _ _ h => absurd h (no vs H Q E)⟩
theorem yesT {σ : L2.St} {H : Hp} {R S : Hp → Prop} (h : R H) : tYes σ H fun b H3 => if b = true then R H3 else S H3 := h
theorem repl_snoc {α : Type} (i : Nat) (x : α) : List.replicate i x ++ [x] = List.replicate (i + 1) x := List.replicate_succ'.symm
theorem all_repl (n : Nat) : (List.replicate n true).all id = true := by
  rw [List.all_eq_true]
  intro x hx
  rw [List.eq_of_mem_replicate hx]
  rfl
theorem kitLT {t : String} {r1 r2 : Bool} (h1 : kitB t "list" = some r1) (h2 : kitB t "tuple" = some r2) : PySem.W.kitAny K (.type t) [.type "list", .type "tuple"] = some (r1 || r2) := by
  refine kitAny_cons (kit_ty h1) (fun e => ?_) (fun e => by rw [e]; rfl)
  rw [e, Bool.false_or]
  refine kitAny_cons (kit_ty h2) (fun e => ?_) (fun e => e)
  rw [e]
  rfl
theorem ok_same1 {f : Addr} {fd : FuncData} {k : Nat} (F : Fun K "_law_same" "_law_same" sSame f fd) (G : FnOk P w K mg base CX0 k f fd ["_law_found", "_law_due"] (spSame K k)) (bf : Binds K fd ["_law_found", "_law_due"] []) (mf : mg "_law_same" = some (.ref f)) (B : Bl mg) :
    FnOk P w K mg base CX0 (k + 1) f fd ["_law_found", "_law_due"] (spSame K (k + 1)) := by
  refine F.ok scSame (fun vs H Q E h => ?_) (fun cdv A outer s H vs Q E hr h => ?_)
  · obtain ⟨x, y, d, j, rfl, _⟩ := h
    rfl
  obtain ⟨x, y, d, j, rfl, ej, lv, dx, dy, q⟩ := h
  obtain rfl : k = j := by omega
  refine ⟨_, pss_cons (ps_if (pt_val (pe_callB call_isiT (by rfl) B.isinstance boot_isinstance (pa_cons (pv 1) (pa_cons (pe_tup (pa_cons (pe_bltn (v := .ty "list") (by rfl) B.list PyProof.Rows.boot_list rfl) (pa_cons (pe_bltn (v := .ty "tuple") (by rfl) B.tuple PyProof.Rows.boot_tuple rfl) pa_nil))) pa_nil))))
      (pss_cons (ps_if (PW.pt (pw_or (pt_cmpR op_ne (pe_callB call_isi (by rfl) B.isinstance boot_isinstance (pa_cons (pv 0) (pa_cons (pe_bltn (v := .ty "list") (by rfl) B.list PyProof.Rows.boot_list rfl) pa_nil))) (pe_callB call_isi (by rfl) B.isinstance boot_isinstance (pa_cons (pv 1) (pa_cons (pe_bltn (v := .ty "list") (by rfl) B.list PyProof.Rows.boot_list rfl) pa_nil))) (nomark _))
          (pw_or1 (pt_cmpR op_ne (pe_callB call_isi (by rfl) B.isinstance boot_isinstance (pa_cons (pv 0) (pa_cons (pe_bltn (v := .ty "tuple") (by rfl) B.tuple PyProof.Rows.boot_tuple rfl) pa_nil))) (pe_callB call_isi (by rfl) B.isinstance boot_isinstance (pa_cons (pv 1) (pa_cons (pe_bltn (v := .ty "tuple") (by rfl) B.tuple PyProof.Rows.boot_tuple rfl) pa_nil))) (nomark _)))))
          (pss_one (ps_ret pe_bl)) pss_nil)
        (pss_one (ps_ret (pe_and (pe_cmpR op_eq (pe_callB call_len_seq (by rfl) B.len PySem.boot_len (pa_cons (pv 0) pa_nil)) (pe_callB call_len_seq (by rfl) B.len PySem.boot_len (pa_cons (pv 1) pa_nil)) (nomark _))
          (pe_one (pe_callB (cr_all rfl) (by rfl) B.all boot_all (pa_cons (pe_lc (own := [("_law_one", 2), ("_law_other", 3)]) (g := gTup K 2 (gCons (gName 2) (gCons (gName 3) gNil))) (by rfl) scSame.nd (RZ.pi_zipA (by rfl) B.zip (pa_cons (pv 0) (pa_cons (pv 1) pa_nil)))
            (blkOk_by (own := [("_law_one", 2), ("_law_other", 3)]) (N := ["_law_found", "_law_due", "_law_one", "_law_other"]) (sc := defScope sSame) (by decide +kernel))
            (fun _ _ _ _ _ => pg_tup rfl (pgs_cons (pg_name (i := 2) scSame.nd rfl (Or.inl rfl) (.inr rfl)) (pgs_cons (pg_name (i := 3) scSame.nd rfl (Or.inl rfl) (.inr rfl)) pgs_nil))) (fun _ _ _ _ _ => pts_nil)
            (fun _ _ _ _ _ => pe_call G hr (by rfl) mf F.kp bf .nil pass0 (pa_cons (pv 2) (pa_cons (pv 3) pa_nil)))) pa_nil))))))) pss_nil)
    (pss_cons (ps_if (PW.pt (pw_or (pt_cmpR op_isN (pv 1) pe_non (nomark _)) (pw_or1 (pt_val (pe_callB call_isi (by rfl) B.isinstance boot_isinstance (pa_cons (pv 1) (pa_cons (pe_bltn (v := .ty "str") (by rfl) B.str PyProof.Rows.boot_str rfl) pa_nil)))))))
      (pss_one (ps_ret (pe_and (pe_cmpR op_eq (pv 0) (pv 1) (nomark _)) (pe_one (pe_cmpR op_eq (pe_callB call_isi (by rfl) B.isinstance boot_isinstance (pa_cons (pv 0) (pa_cons (pe_bltn (v := .ty "str") (by rfl) B.str PyProof.Rows.boot_str rfl) pa_nil))) (pe_callB call_isi (by rfl) B.isinstance boot_isinstance (pa_cons (pv 1) (pa_cons (pe_bltn (v := .ty "str") (by rfl) B.str PyProof.Rows.boot_str rfl) pa_nil))) (nomark _)))))) pss_nil)
    (pss_one (ps_ret (pe_and (pe_callB call_isi (by rfl) B.isinstance boot_isinstance (pa_cons (pv 0) (pa_cons (pe_bltn (v := .ty "int") (by rfl) B.int PyProof.Rows.boot_int rfl) pa_nil))) (pe_and (pe_cmpR op_eq (pe_callB call_isi (by rfl) B.isinstance boot_isinstance (pa_cons (pv 0) (pa_cons (pe_bltn (v := .ty "bool") (by rfl) B.bool PyProof.Rows.boot_bool rfl) pa_nil))) (pe_callB call_isi (by rfl) B.isinstance boot_isinstance (pa_cons (pv 1) (pa_cons (pe_bltn (v := .ty "bool") (by rfl) B.bool PyProof.Rows.boot_bool rfl) pa_nil))) (nomark _))
      (pe_one (pe_cmpR op_eq (pv 0) (pv 1) (nomark _)))))))), ?_⟩
  have pr : Paired ClsV [.ty "list", .ty "tuple"] [.type "list", .type "tuple"] := .cons (.ty _) (.cons (.ty _) .nil)
  refine ⟨_, rfl, (by show 2 ≤ sizeLine; decide), fun tp ntp => ?_⟩
  have s0 : Same H (upd H tp (.tup [.ty "list", .ty "tuple"])) := same_upd ntp
  cases d with
  | none =>
    cases dx
    cases dy
    refine ⟨_, tp, _, _, _, _, rfl, upd_same, pr, .base .non, kitLT (t := "NoneType") (r1 := false) (r2 := false) (by decide +kernel) (by decide +kernel), _, rfl, iteF ?_⟩
    refine ⟨_, rfl, rfl, _, rfl, iteT (iteT ?_)⟩
    refine ⟨_, rfl, _, rfl, rfl, _, rfl, iteT ?_⟩
    refine ⟨_, rfl, _, _, _, _, _, rfl, .ty _, .base .non, kit_ty (by decide +kernel : kitB "NoneType" "str" = some false), _, rfl, _, _, _, _, _, rfl, .ty _, .base .non, kit_ty (by decide +kernel : kitB "NoneType" "str" = some false), rfl, q _ s0⟩
  | bool b =>
    cases dx
    cases dy
    refine ⟨_, tp, _, _, _, _, rfl, upd_same, pr, .base (.bl _), kitLT (t := "bool") (r1 := false) (r2 := false) (by decide +kernel) (by decide +kernel), _, rfl, iteF ?_⟩
    refine ⟨_, rfl, rfl, _, rfl, iteF ?_⟩
    refine ⟨_, rfl, _, _, _, _, _, rfl, .ty _, .base (.bl _), kit_ty (by decide +kernel : kitB "bool" "str" = some false), _, rfl, iteF ?_⟩
    refine ⟨_, rfl, _, _, _, _, _, rfl, .ty _, .base (.bl _), kit_ty (by decide +kernel : kitB "bool" "int" = some true), _, rfl, iteT ?_⟩
    refine ⟨_, rfl, _, _, _, _, _, rfl, .ty _, .base (.bl _), kit_ty (by decide +kernel : kitB "bool" "bool" = some true), _, rfl, _, _, _, _, _, rfl, .ty _, .base (.bl _), kit_ty (by decide +kernel : kitB "bool" "bool" = some true), rfl, _, rfl, iteT ?_⟩
    refine ⟨_, rfl, _, rfl, rfl, ?_⟩
    rw [decide_eq_true rfl]
    exact q _ s0
  | int i =>
    cases dx
    cases dy
    refine ⟨_, tp, _, _, _, _, rfl, upd_same, pr, .base (.int _), kitLT (t := "int") (r1 := false) (r2 := false) (by decide +kernel) (by decide +kernel), _, rfl, iteF ?_⟩
    refine ⟨_, rfl, rfl, _, rfl, iteF ?_⟩
    refine ⟨_, rfl, _, _, _, _, _, rfl, .ty _, .base (.int _), kit_ty (by decide +kernel : kitB "int" "str" = some false), _, rfl, iteF ?_⟩
    refine ⟨_, rfl, _, _, _, _, _, rfl, .ty _, .base (.int _), kit_ty (by decide +kernel : kitB "int" "int" = some true), _, rfl, iteT ?_⟩
    refine ⟨_, rfl, _, _, _, _, _, rfl, .ty _, .base (.int _), kit_ty (by decide +kernel : kitB "int" "bool" = some false), _, rfl, _, _, _, _, _, rfl, .ty _, .base (.int _), kit_ty (by decide +kernel : kitB "int" "bool" = some false), rfl, _, rfl, iteT ?_⟩
    refine ⟨_, rfl, _, rfl, rfl, ?_⟩
    rw [decide_eq_true rfl]
    exact q _ s0
  | str z =>
    cases dx
    cases dy
    refine ⟨_, tp, _, _, _, _, rfl, upd_same, pr, .base (.str _), kitLT (t := "str") (r1 := false) (r2 := false) (by decide +kernel) (by decide +kernel), _, rfl, iteF ?_⟩
    refine ⟨_, rfl, rfl, _, rfl, iteF ?_⟩
    refine ⟨_, rfl, _, _, _, _, _, rfl, .ty _, .base (.str _), kit_ty (by decide +kernel : kitB "str" "str" = some true), _, rfl, iteT ?_⟩
    refine ⟨_, rfl, _, rfl, rfl, ?_⟩
    rw [decide_eq_true rfl]
    refine ⟨_, rfl, iteT ?_⟩
    exact ⟨_, rfl, _, _, _, _, _, rfl, .ty _, .base (.str _), kit_ty (by decide +kernel : kitB "str" "str" = some true), _, rfl, _, _, _, _, _, rfl, .ty _, .base (.str _), kit_ty (by decide +kernel : kitB "str" "str" = some true), rfl, q _ s0⟩
  | list ds =>
    cases dx with
    | @lst a xs _ hx ax =>
    cases dy with
    | @lst b ys _ hy ay =>
    obtain ⟨i, rfl⟩ : ∃ i, k = i + 1 := by
      cases k with
      | zero => exact absurd lv id
      | succ i => exact ⟨i, rfl⟩
    have lx := DpAll.len ax
    have ly := DpAll.len ay
    have hx1 := s0.seq hx
    have hy1 := s0.seq hy
    refine ⟨_, tp, _, _, _, _, rfl, upd_same, pr, ty_lst hy1, kitLT (t := "list") (r1 := true) (r2 := false) (by decide +kernel) (by decide +kernel), _, rfl, iteT ?_⟩
    refine ⟨_, rfl, _, _, _, _, _, rfl, .ty _, ty_lst hx1, kit_ty (by decide +kernel : kitB "list" "list" = some true), _, rfl, _, _, _, _, _, rfl, .ty _, ty_lst hy1, kit_ty (by decide +kernel : kitB "list" "list" = some true), rfl, _, rfl, iteF ?_⟩
    refine ⟨_, rfl, _, _, _, _, _, rfl, .ty _, ty_lst hx1, kit_ty (by decide +kernel : kitB "list" "tuple" = some false), _, rfl, _, _, _, _, _, rfl, .ty _, ty_lst hy1, kit_ty (by decide +kernel : kitB "list" "tuple" = some false), rfl, _, rfl, iteF ?_⟩
    refine ⟨_, rfl, a, _, rfl, .inl hx1, _, rfl, b, _, rfl, .inl hy1, rfl, ?_⟩
    rw [decide_eq_true (by rw [lx, ly])]
    refine ⟨_, rfl, iteT ?_⟩
    refine ⟨_, rfl, _, rfl, a, b, xs, ys, rfl, .inl ⟨hx1, hy1, fun D nD => ?_⟩⟩
    have sD := s0.trans (same_upd (o := .lst []) nD)
    refine lc_it (walk_zip (K := K) (a := a) (b := b) (xs := xs) (ys := ys) rfl) (fun i H3 => Same H H3 ∧ H3 D = some (.lst (List.replicate i (.bl true)))) ⟨sD, upd_same⟩ (fun i H3 _ ⟨s3, _⟩ => ⟨s3.seq hx, s3.seq hy⟩) ?_ ?_
    · rintro i v H3 H4 hi ⟨s3, eD⟩ ⟨T, x, y, rfl, nT, rfl, e1, e2⟩
      obtain ⟨d1, g1, p1⟩ := DpAll.get ax e1
      obtain ⟨d2, g2, p2⟩ := DpAll.get ay e2
      obtain rfl : d1 = d2 := Option.some.inj (g1.symm.trans g2)
      have s4 := s3.trans (same_upd (o := .tup [x, y]) nT)
      refine ⟨T, _, rfl, .inl (.inl upd_same), rfl, _, _, rfl, _, _, rfl, rfl, rfl, ?_⟩
      refine yesT ?_
      refine ⟨_, rfl, _, rfl, x, y, d1, _, rfl, rfl, lv.2 d1 (List.mem_of_getElem? g1), Dp.same s4 _ _ p1, Dp.same s4 _ _ p2, fun H5 s5 => ?_⟩
      refine ⟨_, s5 _ _ (by rw [upd_ne (ne_of_none eD nT)]; exact eD), ?_, fun p o e => ?_, ?_⟩
      · rw [List.length_replicate]
        have := lv.1
        refine Nat.lt_of_lt_of_le (show i < 1000000 by omega) (by decide)
      · rw [upd_ne (ne_of_none e (s0.free nD))]
        exact s5 _ _ (s4 _ _ e)
      · rw [upd_same, repl_snoc]
    · rintro H3 ⟨s3, eD⟩
      refine ⟨D, List.replicate (min xs.length ys.length) true, rfl, .inl (.inl (by rw [List.map_replicate]; exact eD)), ?_⟩
      rw [all_repl]
      exact q _ s3
  | tuple ds =>
    cases dx with
    | @tup a xs _ hx ax =>
    cases dy with
    | @tup b ys _ hy ay =>
    obtain ⟨i, rfl⟩ : ∃ i, k = i + 1 := by
      cases k with
      | zero => exact absurd lv id
      | succ i => exact ⟨i, rfl⟩
    have lx := DpAll.len ax
    have ly := DpAll.len ay
    have hx1 := Same.seqT s0 hx
    have hy1 := Same.seqT s0 hy
    refine ⟨_, tp, _, _, _, _, rfl, upd_same, pr, ty_tup hy1, kitLT (t := "tuple") (r1 := false) (r2 := true) (by decide +kernel) (by decide +kernel), _, rfl, iteT ?_⟩
    refine ⟨_, rfl, _, _, _, _, _, rfl, .ty _, ty_tup hx1, kit_ty (by decide +kernel : kitB "tuple" "list" = some false), _, rfl, _, _, _, _, _, rfl, .ty _, ty_tup hy1, kit_ty (by decide +kernel : kitB "tuple" "list" = some false), rfl, _, rfl, iteF ?_⟩
    refine ⟨_, rfl, _, _, _, _, _, rfl, .ty _, ty_tup hx1, kit_ty (by decide +kernel : kitB "tuple" "tuple" = some true), _, rfl, _, _, _, _, _, rfl, .ty _, ty_tup hy1, kit_ty (by decide +kernel : kitB "tuple" "tuple" = some true), rfl, _, rfl, iteF ?_⟩
    refine ⟨_, rfl, a, _, rfl, .inr hx1, _, rfl, b, _, rfl, .inr hy1, rfl, ?_⟩
    rw [decide_eq_true (by rw [lx, ly])]
    refine ⟨_, rfl, iteT ?_⟩
    refine ⟨_, rfl, _, rfl, a, b, xs, ys, rfl, .inr ⟨hx1, hy1, fun D nD => ?_⟩⟩
    have sD := s0.trans (same_upd (o := .lst []) nD)
    refine lc_it (walk_zipT (K := K) (a := a) (b := b) (xs := xs) (ys := ys) rfl) (fun i H3 => Same H H3 ∧ H3 D = some (.lst (List.replicate i (.bl true)))) ⟨sD, upd_same⟩ (fun i H3 _ ⟨s3, _⟩ => ⟨Same.seqT s3 hx, Same.seqT s3 hy⟩) ?_ ?_
    · rintro i v H3 H4 hi ⟨s3, eD⟩ ⟨T, x, y, rfl, nT, rfl, e1, e2⟩
      obtain ⟨d1, g1, p1⟩ := DpAll.get ax e1
      obtain ⟨d2, g2, p2⟩ := DpAll.get ay e2
      obtain rfl : d1 = d2 := Option.some.inj (g1.symm.trans g2)
      have s4 := s3.trans (same_upd (o := .tup [x, y]) nT)
      refine ⟨T, _, rfl, .inl (.inl upd_same), rfl, _, _, rfl, _, _, rfl, rfl, rfl, ?_⟩
      refine yesT ?_
      refine ⟨_, rfl, _, rfl, x, y, d1, _, rfl, rfl, lv.2 d1 (List.mem_of_getElem? g1), Dp.same s4 _ _ p1, Dp.same s4 _ _ p2, fun H5 s5 => ?_⟩
      refine ⟨_, s5 _ _ (by rw [upd_ne (ne_of_none eD nT)]; exact eD), ?_, fun p o e => ?_, ?_⟩
      · rw [List.length_replicate]
        have := lv.1
        refine Nat.lt_of_lt_of_le (show i < 1000000 by omega) (by decide)
      · rw [upd_ne (ne_of_none e (s0.free nD))]
        exact s5 _ _ (s4 _ _ e)
      · rw [upd_same, repl_snoc]
    · rintro H3 ⟨s3, eD⟩
      refine ⟨D, List.replicate (min xs.length ys.length) true, rfl, .inl (.inl (by rw [List.map_replicate]; exact eD)), ?_⟩
      rw [all_repl]
      exact q _ s3
  | dict _ => cases dx
theorem ok_same {f : Addr} {fd : FuncData} (F : Fun K "_law_same" "_law_same" sSame f fd) (bf : Binds K fd ["_law_found", "_law_due"] []) (mf : mg "_law_same" = some (.ref f)) (B : Bl mg) : ∀ k : Nat, FnOk P w K mg base CX0 k f fd ["_law_found", "_law_due"] (spSame K k)
  | 0 => same_none
  | k + 1 => ok_same1 F (ok_same F bf mf B k) bf mf B
end
end GZ
namespace GM
theorem pow_pos' (n : Nat) : (0 : Int) < 2 ^ n := Int.pow_pos (by decide)
theorem pow_s (n : Nat) : (2 : Int) ^ (n + 1) = 2 ^ n * 2 := Int.pow_succ 2 n
theorem pow_le' {m n : Nat} (h : m ≤ n) : (2 : Int) ^ m ≤ 2 ^ n := by
  induction n with
  | zero =>
    have : m = 0 := by omega
    rw [this]
    exact Int.le_refl _
  | succ n ih =>
    by_cases e : m = n + 1
    · rw [e]
      exact Int.le_refl _
    · have := ih (by omega)
      have := pow_s n
      have := pow_pos' n
      omega
theorem pow_add' (m n : Nat) : (2 : Int) ^ (m + n) = 2 ^ m * 2 ^ n := Int.pow_add 2 m n
theorem bits_pow {x : Nat} {e : Nat} (h : x < 2 ^ e) : PySem.Builtin.Int.intBits (x : Int) ≤ e := PyProof.Rows.intBits_le (by rw [Int.natAbs_natCast]; exact h)
theorem bits_le_pow {x : Nat} {e : Nat} (h : 2 ^ e ≤ x) : e + 1 ≤ PySem.Builtin.Int.intBits (x : Int) := by
  have hx : x ≠ 0 := by
    have := Nat.two_pow_pos e
    omega
  unfold PySem.Builtin.Int.intBits
  rw [if_neg (by simpa using hx), Int.natAbs_natCast]
  have := (Nat.le_log2 hx).mpr h
  omega
theorem bits_unique {x e : Nat} (h1 : 2 ^ e ≤ x) (h2 : x < 2 ^ (e + 1)) : PySem.Builtin.Int.intBits (x : Int) = e + 1 := by
  have := bits_pow h2
  have := bits_le_pow h1
  omega
theorem bits_ex {x : Nat} (h : 0 < x) : ∃ e, 2 ^ e ≤ x ∧ x < 2 ^ (e + 1) := ⟨x.log2, Nat.log2_self_le (by omega), Nat.lt_log2_self⟩
theorem bits_half {x : Nat} (h : 0 < x) : PySem.Builtin.Int.intBits (x : Int) = PySem.Builtin.Int.intBits ((x / 2 : Nat) : Int) + 1 := by
  obtain ⟨e, h1, h2⟩ := bits_ex h
  rw [bits_unique h1 h2]
  cases e with
  | zero =>
    have : x = 1 := by
      simp at h1 h2
      omega
    rw [this]
    rfl
  | succ e =>
    rw [bits_unique (x := x / 2) (e := e)]
    · rw [Nat.pow_succ] at h1
      omega
    · rw [Nat.pow_succ] at h2
      omega
theorem bits_double {x m : Nat} (h : 0 < x) (hm : m ≤ 1) : PySem.Builtin.Int.intBits ((2 * x + m : Nat) : Int) = PySem.Builtin.Int.intBits (x : Int) + 1 := by
  rw [bits_half (x := 2 * x + m) (by omega), show (2 * x + m) / 2 = x by omega]
theorem shr_lt {x : Int} {a b : Nat} (h0 : 0 ≤ x) (h : x < 2 ^ (a + b)) : 0 ≤ x / 2 ^ b ∧ x / 2 ^ b < 2 ^ a := by
  have hb := pow_pos' b
  refine ⟨Int.ediv_nonneg h0 (by omega), ?_⟩
  rw [pow_add'] at h
  exact Int.ediv_lt_of_lt_mul hb h
end GM
namespace GM
/-! ### words: a sign, a scale of m bits, a tail of t bits -/
def bit (a : Int) (n : Nat) : Int := a / 2 ^ n % 2
def blr (a : Int) : Nat → List Int
  | 0 => []
  | n + 1 => bit a n :: blr a n
def wv : List Int → Int
  | [] => 0
  | d :: r => d * 2 ^ r.length + wv r
theorem blr_len (a : Int) : ∀ n, (blr a n).length = n
  | 0 => rfl
  | n + 1 => by
    show (blr a n).length + 1 = n + 1
    rw [blr_len a n]
theorem div_div (w : Int) (t m : Nat) : w / 2 ^ t / 2 ^ m = w / 2 ^ (t + m) := by
  rw [pow_add', Int.ediv_ediv_of_nonneg (Int.le_of_lt (pow_pos' t))]
theorem bit_div (w : Int) (t m : Nat) : bit (w / 2 ^ t) m = bit w (m + t) := by
  unfold bit
  rw [div_div, Nat.add_comm t m]
theorem blr_take (w : Int) (t : Nat) : ∀ m, (blr w (m + t)).take m = blr (w / 2 ^ t) m
  | 0 => rfl
  | m + 1 => by
    show (blr w ((m + 1) + t)).take (m + 1) = bit (w / 2 ^ t) m :: blr (w / 2 ^ t) m
    rw [show m + 1 + t = (m + t) + 1 by omega]
    show bit w (m + t) :: (blr w (m + t)).take m = _
    rw [blr_take w t m, bit_div]
theorem blr_drop (w : Int) (t : Nat) : ∀ m, (blr w (m + t)).drop m = blr w t
  | 0 => by rw [Nat.zero_add]; rfl
  | m + 1 => by
    rw [show m + 1 + t = (m + t) + 1 by omega]
    show (blr w (m + t)).drop m = _
    exact blr_drop w t m
theorem mod_step (a : Int) (n : Nat) : bit a n * 2 ^ n + a % 2 ^ n = a % 2 ^ (n + 1) := by
  unfold bit
  have hp := pow_pos' n
  have e1 := Int.emod_add_mul_ediv a (2 ^ n)
  have e2 := Int.emod_add_mul_ediv (a / 2 ^ n) 2
  have h1 := Int.emod_nonneg a (show (2 : Int) ^ n ≠ 0 by omega)
  have h2 := Int.emod_lt_of_pos a hp
  have e3 : 2 ^ n * (a / 2 ^ n) = a / 2 ^ n % 2 * 2 ^ n + a / 2 ^ n / 2 * (2 ^ n * 2) := by
    conv => lhs; rw [← e2]
    rw [Int.mul_add, Int.mul_comm (2 ^ n) (a / 2 ^ n % 2), ← Int.mul_assoc, Int.mul_comm (2 ^ n * 2) _]
  have key : (a / 2 ^ n % 2 * 2 ^ n + a % 2 ^ n) + a / 2 ^ n / 2 * 2 ^ (n + 1) = a := by
    rw [pow_s]
    omega
  have hb : 0 ≤ a / 2 ^ n % 2 * 2 ^ n + a % 2 ^ n ∧ a / 2 ^ n % 2 * 2 ^ n + a % 2 ^ n < 2 ^ (n + 1) := by
    rw [pow_s]
    have : a / 2 ^ n % 2 = 0 ∨ a / 2 ^ n % 2 = 1 := by omega
    rcases this with z | z <;> rw [z] <;> omega
  have em := Int.add_mul_emod_self_right (a / 2 ^ n % 2 * 2 ^ n + a % 2 ^ n) (a / 2 ^ n / 2) (2 ^ (n + 1))
  rw [key, Int.emod_eq_of_lt hb.1 hb.2] at em
  exact em.symm
theorem wv_blr (a : Int) : ∀ n, wv (blr a n) = a % 2 ^ n
  | 0 => by
    show (0 : Int) = a % 1
    omega
  | n + 1 => by
    show bit a n * 2 ^ (blr a n).length + wv (blr a n) = _
    rw [blr_len, wv_blr a n, ← mod_step a n]
theorem fold2 : ∀ (ds : List Int) (w : Int), ds.foldl (fun a b => a * 2 + b) w = w * 2 ^ ds.length + wv ds
  | [], w => by
    show w = w * 2 ^ 0 + 0
    rw [Int.pow_zero]
    omega
  | d :: r, w => by
    show r.foldl (fun a b => a * 2 + b) (w * 2 + d) = w * 2 ^ (r.length + 1) + (d * 2 ^ r.length + wv r)
    rw [fold2 r, pow_s, Int.add_mul, Int.mul_assoc, Int.mul_comm 2 (2 ^ r.length)]
    omega
theorem wv_ones : ∀ k, wv (List.replicate k 1) = 2 ^ k - 1
  | 0 => rfl
  | k + 1 => by
    rw [List.replicate_succ]
    show 1 * 2 ^ (List.replicate k (1 : Int)).length + wv (List.replicate k 1) = _
    rw [List.length_replicate, wv_ones k, pow_s]
    omega
/-- sign, scale, tail of a word -/
def sgn (m t : Nat) (w : Int) : Int := w / 2 ^ (m + t) % 2
def scl (m t : Nat) (w : Int) : Int := w / 2 ^ t % 2 ^ m
def tlp (t : Nat) (w : Int) : Int := w % 2 ^ t
theorem scl_tlp (m t : Nat) (w : Int) : scl m t w * 2 ^ t + tlp t w = w % 2 ^ (m + t) := by
  induction m with
  | zero =>
    unfold scl tlp
    rw [Int.pow_zero, Int.emod_one, Int.zero_mul, Int.zero_add, Nat.zero_add]
  | succ m ih =>
    have e := mod_step (w / 2 ^ t) m
    have e2 := mod_step w (m + t)
    rw [bit_div] at e
    unfold scl at ih ⊢
    rw [← e, Int.add_mul, show m + 1 + t = (m + t) + 1 by omega, ← e2, ← ih, Int.mul_assoc, ← pow_add']
    omega
theorem sgn_01 {m t : Nat} {w : Int} : sgn m t w = 0 ∨ sgn m t w = 1 := by
  unfold sgn
  omega
theorem word_eq {m t : Nat} {w : Int} (h0 : 0 ≤ w) (h1 : w < 2 ^ (1 + m + t)) : sgn m t w * 2 ^ (m + t) + w % 2 ^ (m + t) = w := by
  have e := mod_step w (m + t)
  rw [show m + t + 1 = 1 + m + t by omega, Int.emod_eq_of_lt h0 h1] at e
  exact e
theorem scl_nn (m t : Nat) (w : Int) : 0 ≤ scl m t w ∧ scl m t w < 2 ^ m := ⟨Int.emod_nonneg _ (by have := pow_pos' m; omega), Int.emod_lt_of_pos _ (pow_pos' m)⟩
theorem tlp_nn (t : Nat) (w : Int) : 0 ≤ tlp t w ∧ tlp t w < 2 ^ t := ⟨Int.emod_nonneg _ (by have := pow_pos' t; omega), Int.emod_lt_of_pos _ (pow_pos' t)⟩
/-- with the other sign -/
def trn (m t : Nat) (w : Int) : Int := (1 - sgn m t w) * 2 ^ (m + t) + w % 2 ^ (m + t)
theorem mk_parts {m t : Nat} {s r : Int} (hs : s = 0 ∨ s = 1) (h0 : 0 ≤ r) (h1 : r < 2 ^ (m + t)) : 0 ≤ s * 2 ^ (m + t) + r ∧ s * 2 ^ (m + t) + r < 2 ^ (1 + m + t) ∧ sgn m t (s * 2 ^ (m + t) + r) = s ∧ (s * 2 ^ (m + t) + r) % 2 ^ (m + t) = r := by
  have hp := pow_pos' (m + t)
  have e : (2 : Int) ^ (1 + m + t) = 2 ^ (m + t) * 2 := by rw [← pow_s]; congr 1; omega
  have em : (s * 2 ^ (m + t) + r) % 2 ^ (m + t) = r := by
    rw [Int.add_comm, Int.add_mul_emod_self_right, Int.emod_eq_of_lt h0 h1]
  have ed : (s * 2 ^ (m + t) + r) / 2 ^ (m + t) = s := by
    rw [Int.add_comm, Int.add_mul_ediv_right _ _ (by omega), Int.ediv_eq_zero_of_lt h0 h1, Int.zero_add]
  refine ⟨?_, ?_, ?_, em⟩
  · rcases hs with z | z <;> subst z <;> omega
  · rw [e]
    rcases hs with z | z <;> subst z <;> omega
  · unfold sgn
    rw [ed]
    omega
theorem trn_trn {m t : Nat} {w : Int} (h0 : 0 ≤ w) (h1 : w < 2 ^ (1 + m + t)) : trn m t (trn m t w) = w ∧ 0 ≤ trn m t w ∧ trn m t w < 2 ^ (1 + m + t) := by
  have hp := pow_pos' (m + t)
  have hs : 1 - sgn m t w = 0 ∨ 1 - sgn m t w = 1 := by
    have := sgn_01 (m := m) (t := t) (w := w)
    omega
  obtain ⟨a, b, c, d⟩ := mk_parts (m := m) (t := t) hs (Int.emod_nonneg w (show (2 : Int) ^ (m + t) ≠ 0 by omega)) (Int.emod_lt_of_pos w hp)
  refine ⟨?_, a, b⟩
  show (1 - sgn m t (trn m t w)) * 2 ^ (m + t) + trn m t w % 2 ^ (m + t) = w
  rw [show sgn m t (trn m t w) = 1 - sgn m t w from c, show trn m t w % 2 ^ (m + t) = w % 2 ^ (m + t) from d, show 1 - (1 - sgn m t w) = sgn m t w by omega]
  exact word_eq h0 h1
end GM
namespace GM
/-! ### sizes and their worths -/
def topS (m t : Nat) : Int := (2 ^ m - 1) * 2 ^ t
def num (t : Nat) (s : Int) : Int := if s / 2 ^ t = 0 then s % 2 ^ t else 2 ^ t + s % 2 ^ t
def ex (t : Nat) (s : Int) : Nat := (s / 2 ^ t).toNat - 1
def numE (m t : Nat) (s : Int) : Int := if s = topS m t then 1 else num t s
def exE (m t : Nat) (s : Int) : Nat := if s = topS m t then 1998 + 2 ^ (m - 1) + t else ex t s
def Vv (m t : Nat) (s : Int) : Int := numE m t s * 2 ^ exE m t s
theorem sz_parts (t : Nat) (s : Int) : s / 2 ^ t * 2 ^ t + s % 2 ^ t = s := by
  have := Int.emod_add_mul_ediv s (2 ^ t)
  rw [Int.mul_comm] at this
  omega
theorem num_nn {t : Nat} {s : Int} (h : 0 ≤ s) : 0 ≤ num t s := by
  have hp := pow_pos' t
  have := Int.emod_nonneg s (show (2 : Int) ^ t ≠ 0 by omega)
  unfold num
  split <;> omega
/-- below 2 ^ t times 2 ^ h -/
theorem num_lt {t : Nat} {s : Int} (h0 : 0 ≤ s) : num t s * 2 ^ ex t s < 2 ^ t * 2 ^ (s / 2 ^ t).toNat := by
  have hp := pow_pos' t
  have hl := Int.emod_lt_of_pos s hp
  have hd := Int.ediv_nonneg h0 (Int.le_of_lt hp)
  unfold num ex
  split
  · rename_i e
    rw [e]
    show s % 2 ^ t * 2 ^ 0 < 2 ^ t * 2 ^ 0
    rw [Int.pow_zero]
    omega
  · rename_i e
    obtain ⟨k, hk⟩ : ∃ k : Nat, (s / 2 ^ t).toNat = k + 1 := ⟨(s / 2 ^ t).toNat - 1, by omega⟩
    rw [hk, Nat.add_sub_cancel, pow_s, ← Int.mul_assoc]
    have hk2 := pow_pos' k
    have : (2 ^ t + s % 2 ^ t) * 2 ^ k < (2 ^ t * 2) * 2 ^ k := Int.mul_lt_mul_of_pos_right (by omega) hk2
    rw [show (2 : Int) ^ t * 2 ^ k * 2 = 2 ^ t * 2 * 2 ^ k by rw [Int.mul_assoc, Int.mul_assoc, Int.mul_comm (2 ^ k) 2]]
    exact this
theorem num_ge {t : Nat} {s : Int} {k : Nat} (h : (s / 2 ^ t).toNat = k + 1) : 2 ^ t * 2 ^ k ≤ num t s * 2 ^ ex t s := by
  have hp := pow_pos' t
  have := Int.emod_nonneg s (show (2 : Int) ^ t ≠ 0 by omega)
  have hk2 := pow_pos' k
  unfold num ex
  rw [if_neg (by omega), h, Nat.add_sub_cancel]
  exact Int.mul_le_mul_of_nonneg_right (by omega) (by omega)
theorem num_mono {t : Nat} {a b : Int} (h0 : 0 ≤ a) (h : a < b) : num t a * 2 ^ ex t a < num t b * 2 ^ ex t b := by
  have hp := pow_pos' t
  have ea := sz_parts t a
  have eb := sz_parts t b
  have la := Int.emod_lt_of_pos a hp
  have na := Int.emod_nonneg a (show (2 : Int) ^ t ≠ 0 by omega)
  have nb := Int.emod_nonneg b (show (2 : Int) ^ t ≠ 0 by omega)
  have lb := Int.emod_lt_of_pos b hp
  have hle : a / 2 ^ t ≤ b / 2 ^ t := Int.ediv_le_ediv hp (by omega)
  have hd := Int.ediv_nonneg h0 (Int.le_of_lt hp)
  by_cases e : a / 2 ^ t = b / 2 ^ t
  · have hl : a % 2 ^ t < b % 2 ^ t := by
      rw [e] at ea
      omega
    have hx : ex t a = ex t b := by unfold ex; rw [e]
    rw [hx]
    refine Int.mul_lt_mul_of_pos_right ?_ (pow_pos' _)
    unfold num
    rw [e]
    split <;> omega
  · obtain ⟨k, hk⟩ : ∃ k : Nat, (b / 2 ^ t).toNat = k + 1 := ⟨(b / 2 ^ t).toNat - 1, by omega⟩
    have h1 := num_lt (t := t) h0
    have h2 := num_ge hk
    have h3 : (2 : Int) ^ t * 2 ^ (a / 2 ^ t).toNat ≤ 2 ^ t * 2 ^ k := Int.mul_le_mul_of_nonneg_left (pow_le' (by omega)) (by omega)
    omega
theorem Vv_mono {m t : Nat} (hm : m ≤ 8) {a b : Int} (h0 : 0 ≤ a) (h : a < b) (hb : b ≤ topS m t) : Vv m t a < Vv m t b := by
  unfold Vv numE exE
  rw [if_neg (by omega), if_neg (by omega)]
  by_cases e : b = topS m t
  · rw [if_pos e, if_pos e, Int.one_mul]
    have h1 := num_lt (t := t) h0
    have hp := pow_pos' t
    have hq : a / 2 ^ t < 2 ^ m := by
      refine Int.ediv_lt_of_lt_mul hp ?_
      have : topS m t ≤ 2 ^ m * 2 ^ t := Int.mul_le_mul_of_nonneg_right (by omega) (by omega)
      omega
    have h8 : (2 : Int) ^ m ≤ 2 ^ 8 := pow_le' hm
    rw [← pow_add'] at h1
    have h3 : (a / 2 ^ t).toNat ≤ 256 := by omega
    have h2 : (2 : Int) ^ (t + (a / 2 ^ t).toNat) ≤ 2 ^ (1998 + 2 ^ (m - 1) + t) := pow_le' (by
      generalize 2 ^ (m - 1) = zz
      omega)
    omega
  · rw [if_neg e, if_neg e]
    exact num_mono h0 h
theorem Vv_zero (m t : Nat) (h : 0 < topS m t) : Vv m t 0 = 0 := by
  unfold Vv numE num
  rw [if_neg (by omega), Int.zero_ediv, if_pos rfl, Int.zero_emod, Int.zero_mul]
/-- how two words stand to each other, by worths and by sizes -/
theorem cmp_eq {m t : Nat} (hm : m ≤ 8) {a b : Int} (a0 : 0 ≤ a) (a1 : a ≤ topS m t) (b0 : 0 ≤ b) (b1 : b ≤ topS m t) (hT : 0 < topS m t) (g h : Bool) :
    ((if g then 0 - numE m t a else numE m t a) * 2 ^ (exE m t a - min (exE m t a) (exE m t b)) = (if h then 0 - numE m t b else numE m t b) * 2 ^ (exE m t b - min (exE m t a) (exE m t b)) ↔ (if g then -a else a) = (if h then -b else b)) ∧
    ((if g then 0 - numE m t a else numE m t a) * 2 ^ (exE m t a - min (exE m t a) (exE m t b)) < (if h then 0 - numE m t b else numE m t b) * 2 ^ (exE m t b - min (exE m t a) (exE m t b)) ↔ (if g then -a else a) < (if h then -b else b)) := by
  have pm := pow_pos' (min (exE m t a) (exE m t b))
  have ea : (if g then 0 - numE m t a else numE m t a) * 2 ^ (exE m t a - min (exE m t a) (exE m t b)) * 2 ^ min (exE m t a) (exE m t b) = (if g then -Vv m t a else Vv m t a) := by
    rw [Int.mul_assoc, ← pow_add', show exE m t a - min (exE m t a) (exE m t b) + min (exE m t a) (exE m t b) = exE m t a by omega]
    unfold Vv
    cases g
    · rfl
    · show (0 - numE m t a) * 2 ^ exE m t a = -(numE m t a * 2 ^ exE m t a)
      rw [Int.zero_sub, Int.neg_mul]
  have eb : (if h then 0 - numE m t b else numE m t b) * 2 ^ (exE m t b - min (exE m t a) (exE m t b)) * 2 ^ min (exE m t a) (exE m t b) = (if h then -Vv m t b else Vv m t b) := by
    rw [Int.mul_assoc, ← pow_add', show exE m t b - min (exE m t a) (exE m t b) + min (exE m t a) (exE m t b) = exE m t b by omega]
    unfold Vv
    cases h
    · rfl
    · show (0 - numE m t b) * 2 ^ exE m t b = -(numE m t b * 2 ^ exE m t b)
      rw [Int.zero_sub, Int.neg_mul]
  generalize (if g then 0 - numE m t a else numE m t a) * 2 ^ (exE m t a - min (exE m t a) (exE m t b)) = x at *
  generalize (if h then 0 - numE m t b else numE m t b) * 2 ^ (exE m t b - min (exE m t a) (exE m t b)) = y at *
  have exy : (x = y ↔ (if g then -Vv m t a else Vv m t a) = (if h then -Vv m t b else Vv m t b)) ∧ (x < y ↔ (if g then -Vv m t a else Vv m t a) < (if h then -Vv m t b else Vv m t b)) := by
    rw [← ea, ← eb]
    generalize (2 : Int) ^ min (exE m t a) (exE m t b) = d at *
    refine ⟨⟨fun z => by rw [z], fun z => Int.eq_of_mul_eq_mul_right (by omega) z⟩, ⟨fun z => Int.mul_lt_mul_of_pos_right z pm, fun z => Int.lt_of_mul_lt_mul_right z (by omega)⟩⟩
  rw [exy.1, exy.2]
  have z := Vv_zero m t hT
  have pa : a = 0 ∨ 0 < Vv m t a := by
    rcases Int.lt_or_eq_of_le a0 with q | q
    · have := Vv_mono hm (Int.le_refl 0) q a1
      omega
    · exact .inl q.symm
  have pb : b = 0 ∨ 0 < Vv m t b := by
    rcases Int.lt_or_eq_of_le b0 with q | q
    · have := Vv_mono hm (Int.le_refl 0) q b1
      omega
    · exact .inl q.symm
  have za : a = 0 → Vv m t a = 0 := fun q => by rw [q]; exact z
  have zb : b = 0 → Vv m t b = 0 := fun q => by rw [q]; exact z
  have lt1 : a < b → Vv m t a < Vv m t b := fun q => Vv_mono hm a0 q b1
  have lt2 : b < a → Vv m t b < Vv m t a := fun q => Vv_mono hm b0 q a1
  have eqq : a = b → Vv m t a = Vv m t b := fun q => by rw [q]
  generalize Vv m t a = u at *
  generalize Vv m t b = v at *
  have tri : a < b ∨ a = b ∨ b < a := by omega
  cases g <;> cases h <;> simp only [if_true, if_false, Bool.false_eq_true] <;>
    (rcases tri with q | q | q
     · have := lt1 q; rcases pa with w | w <;> rcases pb with w2 | w2 <;> (try have := za w) <;> (try have := zb w2) <;> constructor <;> omega
     · have := eqq q; rcases pa with w | w <;> rcases pb with w2 | w2 <;> (try have := za w) <;> (try have := zb w2) <;> constructor <;> omega
     · have := lt2 q; rcases pa with w | w <;> rcases pb with w2 | w2 <;> (try have := za w) <;> (try have := zb w2) <;> constructor <;> omega)
end GM
namespace GM
/-! ### odd numbers and powers of two -/
def Od (n p m q : Int) : Prop := ∃ j : Nat, n = m * 2 ^ j ∧ q = p + j ∧ m % 2 = 1
theorem od_le {m m' : Int} {j j' : Nat} (h : m * 2 ^ j = m' * 2 ^ j') (o : m % 2 = 1) (l : j ≤ j') : m = m' ∧ j = j' := by
  obtain ⟨d, rfl⟩ : ∃ d, j' = j + d := ⟨j' - j, by omega⟩
  have hp := pow_pos' j
  rw [pow_add', Int.mul_comm (2 ^ j) (2 ^ d), ← Int.mul_assoc] at h
  have e : m = m' * 2 ^ d := Int.eq_of_mul_eq_mul_right (by omega) h
  cases d with
  | zero =>
    rw [Int.pow_zero, Int.mul_one] at e
    exact ⟨e, rfl⟩
  | succ d =>
    rw [pow_s, ← Int.mul_assoc] at e
    omega
theorem od_unique {n p m q m' q' : Int} (h : Od n p m q) (h' : Od n p m' q') : m = m' ∧ q = q' := by
  obtain ⟨j, e, eq, o⟩ := h
  obtain ⟨j', e', eq', o'⟩ := h'
  rcases Nat.le_total j j' with l | l
  · have := od_le (e.symm.trans e') o l
    exact ⟨this.1, by rw [eq, eq', this.2]⟩
  · have := od_le (e'.symm.trans e) o' l
    exact ⟨this.1.symm, by rw [eq, eq', this.2]⟩
theorem od_neg {n p m q : Int} (h : Od n p m q) : Od (-n) p (-m) q := by
  obtain ⟨j, e, eq, o⟩ := h
  exact ⟨j, by rw [e, Int.neg_mul], eq, by omega⟩
theorem od_step {n p m q : Int} (h : n % 2 = 0) (o : Od (n / 2) (p + 1) m q) : Od n p m q := by
  obtain ⟨j, e, eq, o⟩ := o
  refine ⟨j + 1, ?_, by omega, o⟩
  rw [pow_s, ← Int.mul_assoc, ← e]
  omega
theorem od_done {n p : Int} (h : n % 2 = 1) : Od n p n p := ⟨0, by rw [Int.pow_zero, Int.mul_one], by omega, h⟩
theorem od_abs {n p m q : Int} (h : Od n p m q) : m.natAbs ≤ n.natAbs := by
  obtain ⟨j, e, eq, o⟩ := h
  have hp := pow_pos' j
  rw [e, Int.natAbs_mul]
  exact Nat.le_mul_of_pos_right _ (by omega)
/-- so many are enough -/
theorem od_pos {n p m q : Int} (h : Od n p m q) (hn : 0 < n) : 0 < m := by
  obtain ⟨j, e, eq, o⟩ := h
  have hp := pow_pos' j
  rw [e] at hn
  exact Int.pos_of_mul_pos_left hn (by omega) |> fun z => z
theorem od_q {n p m q : Int} (h : Od n p m q) (h0 : n ≠ 0) (hn : n.natAbs < 2 ^ 25) : q.natAbs < p.natAbs + 26 := by
  obtain ⟨j, e, eq, o⟩ := h
  have hj : j < 25 := by
    have h1 : 2 ^ j ≤ n.natAbs := by
      rw [e, Int.natAbs_mul, Int.natAbs_pow]
      exact Nat.le_mul_of_pos_left _ (by omega)
    have h2 : 2 ^ j < 2 ^ 25 := Nat.lt_of_le_of_lt h1 hn
    exact (Nat.pow_lt_pow_iff_right (by decide)).mp h2
  omega
end GM
namespace GZ
open PySem PySem.Spec PyProof.Rows L2
/-! ### a def whose defaults aren't asked for -/
structure FunA (K : PySem.W.Frag) (x qual : Str) (st : Stmt) (f : Addr) (fd : FuncData) : Prop where
  ex : ∃ (oc : Value) (od : Option Addr) (dV kV doc pm : Value) (an : Option Addr) (cdv ct : Value) (osl : Array (Option Value)),
    fd = PySem.W.fnOf x qual (defArgs st) (defBody st) (defScope st) dV kV doc pm an cdv ct ∧ K.lookup f = some ⟨oc, od, .func fd, osl⟩ ∧ PySem.W.codeIn K cdv qual = true
  kp : PySem.W.keepIn K (.ref f) = true
theorem FunA.ok {P : Program} {w : World} {K : PySem.W.Frag} {mg : Str → Option Value} {base : Heap} {x qual : Str} {st : Stmt} {f : Addr} {fd : FuncData} {N ps : List Str} {k : Nat} {sp : Sp} (F : FunA K x qual st f fd) (S : FnScope N ps (defScope st)) (len : ∀ vs H Q E, sp vs H Q E → vs.length = ps.length)
    (hbody : ∀ (cdv : Value) (A : Around) (outer : List Env) (s : Shared) (H : Hp) (vs : List V) (Q : VK) (E : XK), Room k (A.deeper (envOfC qual (defScope st) s.heap.objs.size f cdv)) → sp vs H Q E →
      ∃ t, PSs (cxOf CX0 P w K mg base N qual (defScope st) f cdv A outer s H E).nox (defBody st) t ∧ t { nx := fun _ H' => Q .non H', rt := Q } (start N vs) H) : FnOk P w K mg base CX0 (k + 1) f fd ps sp := by
  obtain ⟨oc, od, dV, kV, doc, pm, an, cdv, ct, osl, rfl, lk, hcd⟩ := F.ex
  refine fn_of lk hcd S len fun A outer s H vs Q E hr hsp => ?_
  obtain ⟨t, h, q⟩ := hbody cdv A outer s H vs Q E hr hsp
  exact ⟨t, h.nox, q⟩
theorem bindsA {K : PySem.W.Frag} {x qual : Str} {st : Stmt} {f T : Addr} {oc oT vT : Value} {od an dT : Option Addr} {osl sT : Array (Option Value)} {kV doc pm cdv ct : Value} {nT : Nat} {ps : List Str} (l : K.lookup f = some ⟨oc, od, .func (PySem.W.fnOf x qual (defArgs st) (defBody st) (defScope st) (.ref T) kV doc pm an cdv ct), osl⟩)
    (lT : K.lookup T = some ⟨oT, dT, .seq #[vT] nT, sT⟩)
    (h : ∀ (kV doc pm : Value) (an : Option Addr) (cdv ct : Value) (us : List Value), us.length = ps.length → ∃ k, bindArgs (PySem.W.fnOf x qual (defArgs st) (defBody st) (defScope st) (.ref T) kV doc pm an cdv ct) ⟨us, []⟩ = seqItems? (.ref T) >>= k ∧ k (some #[vT]) = pure (ps.zip us)) : Binds K (PySem.W.fnOf x qual (defArgs st) (defBody st) (defScope st) (.ref T) kV doc pm an cdv ct) ps [] := by
  intro s us X hl
  rw [List.append_nil] at hl ⊢
  obtain ⟨k, e1, e2⟩ := h kV doc pm an cdv ct us hl
  refine BindsTo.of_looks fun M => ?_
  rw [e1]
  exact looks_items X lT rfl (.of_pure e2)
theorem bindsAD {K : PySem.W.Frag} {x qual : Str} {st : Stmt} {f T : Addr} {oc oT vT : Value} {od an dT : Option Addr} {osl sT : Array (Option Value)} {kV doc pm cdv ct : Value} {nT : Nat} {ps : List Str} (l : K.lookup f = some ⟨oc, od, .func (PySem.W.fnOf x qual (defArgs st) (defBody st) (defScope st) (.ref T) kV doc pm an cdv ct), osl⟩)
    (lT : K.lookup T = some ⟨oT, dT, .seq #[vT] nT, sT⟩)
    (h : ∀ (kV doc pm : Value) (an : Option Addr) (cdv ct : Value) (us : List Value), us.length + 1 = ps.length → ∃ k, bindArgs (PySem.W.fnOf x qual (defArgs st) (defBody st) (defScope st) (.ref T) kV doc pm an cdv ct) ⟨us, []⟩ = seqItems? (.ref T) >>= k ∧ k (some #[vT]) = pure (ps.zip (us ++ [vT]))) : Binds K (PySem.W.fnOf x qual (defArgs st) (defBody st) (defScope st) (.ref T) kV doc pm an cdv ct) ps [vT] := by
  intro s us X hl
  rw [List.length_append] at hl
  obtain ⟨k, e1, e2⟩ := h kV doc pm an cdv ct us hl
  refine BindsTo.of_looks fun M => ?_
  rw [e1]
  exact looks_items X lT rfl (.of_pure e2)
theorem kbindsA {x1 : Str} {K : PySem.W.Frag} {x qual : Str} {st : Stmt} {f T : Addr} {oc oT vT : Value} {od an dT : Option Addr} {osl sT : Array (Option Value)} {kV doc pm cdv ct : Value} {nT : Nat} {ps : List Str} (l : K.lookup f = some ⟨oc, od, .func (PySem.W.fnOf x qual (defArgs st) (defBody st) (defScope st) (.ref T) kV doc pm an cdv ct), osl⟩)
    (lT : K.lookup T = some ⟨oT, dT, .seq #[vT] nT, sT⟩)
    (h : ∀ (kV doc pm : Value) (an : Option Addr) (cdv ct u w : Value), ∃ k, bindArgs (PySem.W.fnOf x qual (defArgs st) (defBody st) (defScope st) (.ref T) kV doc pm an cdv ct) ⟨[u], [(x1, w)]⟩ = seqItems? (.ref T) >>= k ∧ k (some #[vT]) = pure (ps.zip [u, w])) : KBn K (PySem.W.fnOf x qual (defArgs st) (defBody st) (defScope st) (.ref T) kV doc pm an cdv ct) ps 1 [x1] (fun us ws => us ++ ws) (fun us ws => us ++ ws) := by
  refine ⟨fun s us ws X l1 l2 => ?_, fun r1 r2 => r1.append r2⟩
  match us, ws, l1, l2 with
  | [u], [w], _, _ =>
    obtain ⟨k, e1, e2⟩ := h kV doc pm an cdv ct u w
    refine BindsTo.of_looks fun M => ?_
    show PySem.W.Looks M s.heap (bindArgs (PySem.W.fnOf x qual (defArgs st) (defBody st) (defScope st) (.ref T) kV doc pm an cdv ct) ⟨[u], [(x1, w)]⟩) (ps.zip [u, w])
    rw [e1]
    exact looks_items X lT rfl (.of_pure e2)
theorem funA_mk {K : PySem.W.Frag} {x qual : Str} {st : Stmt} {f : Addr} {oc : Value} {od an : Option Addr} {osl : Array (Option Value)} {dV kV doc pm cdv ct : Value} (l : K.lookup f = some ⟨oc, od, .func (PySem.W.fnOf x qual (defArgs st) (defBody st) (defScope st) dV kV doc pm an cdv ct), osl⟩)
    (c : PySem.W.codeIn K cdv qual = true) (k : PySem.W.keepIn K (.ref f) = true) : FunA K x qual st f (PySem.W.fnOf x qual (defArgs st) (defBody st) (defScope st) dV kV doc pm an cdv ct) := ⟨⟨oc, od, dV, kV, doc, pm, an, cdv, ct, osl, rfl, l, c⟩, k⟩
theorem bx1 {c : Int} {H : Hp} {b : Addr} (h : BoxAt (c + 2 ^ (1 - 1)) H b) : BoxAt (c + 1) H b := h
theorem bx2 {c : Int} {H : Hp} {b : Addr} (h : BoxAt (c + 2 ^ (2 - 1)) H b) : BoxAt (c + 2) H b := h
theorem Keep.none {b p : Addr} {H H' : Hp} (k : Keep b H H') (n : p ≠ b) (h : H' p = none) : H p = none := by
  cases q : H p with
  | none => rfl
  | some o =>
    rw [k p o q n] at h
    cases h
/-! ### a form -/
/-- at x stands a Form of these two -/
def FAt (C : Addr) (H : Hp) (x : Addr) (sc tl : Nat) : Prop := ∃ dx, H x = some (.ins C dx [("scale", .int (sc : Int)), ("tail", .int (tl : Int))]) ∧ 2 ≤ sc ∧ sc ≤ 8 ∧ 1 ≤ tl ∧ tl ≤ 24
theorem FAt.keep {C : Addr} {b : Addr} {H H' : Hp} {x : Addr} {sc tl : Nat} (h : FAt C H x sc tl) (k : Keep b H H') (n : x ≠ b) : FAt C H' x sc tl := by
  obtain ⟨dx, e, r⟩ := h
  exact ⟨dx, k _ _ e n, r⟩
theorem FAt.same {C : Addr} {H H' : Hp} {x : Addr} {sc tl : Nat} (h : FAt C H x sc tl) (s : Same H H') : FAt C H' x sc tl := by
  obtain ⟨dx, e, r⟩ := h
  exact ⟨dx, s _ _ e, r⟩
structure FT (K : PySem.W.Frag) (mg : Str → Option Value) (C : Addr) : Prop where
  cl : Cls K C
  ns : NoAttr K C "scale"
  nt : NoAttr K C "tail"
  mgC : mg "Form" = some (.ref C)
theorem fl_s (a b : V) : List.lookup ("scale" : Str) ([("scale", a), ("tail", b)] : List (Str × V)) = some a := rfl
theorem fl_t (a b : V) : List.lookup ("tail" : Str) ([("scale", a), ("tail", b)] : List (Str × V)) = some b := rfl
section
variable {P : Program} {w : World} {K : PySem.W.Frag} {mg : Str → Option Value} {base : Heap} {C : Addr}
/-! ### is_number, is_number_in, of any thing -/
inductive Th (K : PySem.W.Frag) (H : Hp) : V → Prop
  | non : Th K H .non
  | bl (b : Bool) : Th K H (.bl b)
  | int (i : Int) : Th K H (.int i)
  | str (x : Str) : Th K H (.str x)
  | lst {a : Addr} {xs : List V} (h : SqL K H a xs) : Th K H (.ref a)
  | tup {a : Addr} {xs : List V} (h : SqT K H a xs) : Th K H (.ref a)
theorem Th.same {H H' : Hp} {x : V} (h : Th K H x) (s : Same H H') : Th K H' x := by
  cases h with
  | non => exact .non
  | bl b => exact .bl b
  | int i => exact .int i
  | str x => exact .str x
  | lst h => exact .lst (s.seq h)
  | tup h => exact .tup (Same.seqT s h)
def isI : V → Bool
  | .int _ => true
  | _ => false
def numIn (a b : Int) : V → Bool
  | .int z => decide (a ≤ z) && decide (z ≤ b)
  | _ => false
def spNum (K : PySem.W.Frag) : Sp := fun vs H Q _ => ∃ x : V, vs = [x] ∧ Th K H x ∧ Q (.bl (isI x)) H
theorem ok_num {f : Addr} {fd : FuncData} {k : Nat} (F : Fun K "is_number" "is_number" s_is_number f fd) (B : Bl mg) : FnOk P w K mg base CX0 (k + 1) f fd ["thing"] (spNum K) := by
  refine F.ok sc_is_number (fun vs H Q E h => ?_) (fun cdv A outer s H vs Q E hr h => ?_)
  · obtain ⟨x, rfl, _⟩ := h
    rfl
  obtain ⟨x, rfl, hx, q⟩ := h
  refine ⟨_, (pss_one (ps_ret (pe_and (pe_callB call_isi (by rfl) B.isinstance boot_isinstance (pa_cons (pv 0) (pa_cons (pe_bltn (v := .ty "int") (by rfl) B.int PyProof.Rows.boot_int rfl) pa_nil))) (pe_one (pe_not (pe_callB call_isi (by rfl) B.isinstance boot_isinstance (pa_cons (pv 0) (pa_cons (pe_bltn (v := .ty "bool") (by rfl) B.bool PyProof.Rows.boot_bool rfl) pa_nil)))))))), ?_⟩
  cases hx with
  | non => exact ⟨_, rfl, _, _, _, _, _, rfl, .ty _, .base .non, kit_ty (by decide +kernel : kitB "NoneType" "int" = some false), _, rfl, iteF q⟩
  | bl b =>
    refine ⟨_, rfl, _, _, _, _, _, rfl, .ty _, .base (.bl _), kit_ty (by decide +kernel : kitB "bool" "int" = some true), _, rfl, iteT ?_⟩
    exact ⟨_, rfl, _, _, _, _, _, rfl, .ty _, .base (.bl _), kit_ty (by decide +kernel : kitB "bool" "bool" = some true), _, rfl, q⟩
  | int i =>
    refine ⟨_, rfl, _, _, _, _, _, rfl, .ty _, .base (.int _), kit_ty (by decide +kernel : kitB "int" "int" = some true), _, rfl, iteT ?_⟩
    exact ⟨_, rfl, _, _, _, _, _, rfl, .ty _, .base (.int _), kit_ty (by decide +kernel : kitB "int" "bool" = some false), _, rfl, q⟩
  | str z => exact ⟨_, rfl, _, _, _, _, _, rfl, .ty _, .base (.str _), kit_ty (by decide +kernel : kitB "str" "int" = some false), _, rfl, iteF q⟩
  | lst h => exact ⟨_, rfl, _, _, _, _, _, rfl, .ty _, ty_lst h, kit_ty (by decide +kernel : kitB "list" "int" = some false), _, rfl, iteF q⟩
  | tup h => exact ⟨_, rfl, _, _, _, _, _, rfl, .ty _, ty_tup h, kit_ty (by decide +kernel : kitB "tuple" "int" = some false), _, rfl, iteF q⟩
def spNumIn (K : PySem.W.Frag) : Sp := fun vs H Q _ => ∃ (a b : Int) (x : V), vs = [.int a, .int b, x] ∧ Th K H x ∧ Q (.bl (numIn a b x)) H
theorem ok_numIn {f g : Addr} {fd gd : FuncData} {k : Nat} (F : Fun K "is_number_in" "is_number_in" s_is_number_in f fd) (FN : Fun K "is_number" "is_number" s_is_number g gd) (bN : Binds K gd ["thing"] []) (mN : mg "is_number" = some (.ref g)) (B : Bl mg) :
    FnOk P w K mg base CX0 (k + 2) f fd ["least", "greatest", "thing"] (spNumIn K) := by
  have G : FnOk P w K mg base CX0 (k + 1) g gd ["thing"] (spNum K) := ok_num FN B
  refine F.ok sc_is_number_in (fun vs H Q E h => ?_) (fun cdv A outer s H vs Q E hr h => ?_)
  · obtain ⟨a, b, x, rfl, _⟩ := h
    rfl
  obtain ⟨a, b, x, rfl, hx, q⟩ := h
  refine ⟨_, (pss_one (ps_ret (pe_and (pe_call G hr (by rfl) mN FN.kp bN .nil pass0 (pa_cons (pv 2) pa_nil)) (pe_one (pe_chain op_le op_le (pv 0) (pv 2) (pv 1)))))), ?_⟩
  refine ⟨_, rfl, _, rfl, hx, _, rfl, ?_⟩
  cases hx with
  | non => exact iteF q
  | bl b => exact iteF q
  | str z => exact iteF q
  | lst h => exact iteF q
  | tup h => exact iteF q
  | int z =>
    refine iteT ?_
    refine ⟨_, rfl, _, rfl, _, _, rfl, rfl, _, rfl, ite2 (fun c => ?_) (fun c => ?_)⟩
    · refine ⟨_, rfl, _, _, rfl, rfl, ?_⟩
      rw [show numIn a b (.int z) = decide (z ≤ b) by show (decide (a ≤ z) && decide (z ≤ b)) = _; rw [c]; rfl] at q
      exact q
    · rw [show numIn a b (.int z) = false by show (decide (a ≤ z) && decide (z ≤ b)) = _; rw [Bool.eq_false_iff.mpr c]; rfl] at q
      exact q
/-! ### Form(scale, tail) and its words -/
structure PF (K : PySem.W.Frag) (mg : Str → Option Value) (C e1 e2 e3 e4 e6 e7 e8 e10 : Addr) (k1 k2 k3 k4 k6 k7 k8 k10 : FuncData) : Prop where
  T : FT K mg C
  M : Mk K C e1
  F1 : Fun K "__init__" "Form.__init__" s_Form___init__ e1 k1
  b1 : Binds K k1 ["self", "scale", "tail"] []
  F2 : Fun K "is_number" "is_number" s_is_number e2 k2
  b2 : Binds K k2 ["thing"] []
  m2 : mg "is_number" = some (.ref e2)
  F3 : Fun K "is_number_in" "is_number_in" s_is_number_in e3 k3
  b3 : Binds K k3 ["least", "greatest", "thing"] []
  m3 : mg "is_number_in" = some (.ref e3)
  F4 : Fun K "bias" "Form.bias" s_Form_bias e4 k4
  b4 : Binds K k4 ["self"] []
  M4 : Meth K C "bias" e4
  F6 : Fun K "top" "Form.top" s_Form_top e6 k6
  b6 : Binds K k6 ["self"] []
  M6 : Meth K C "top" e6
  F7 : Fun K "parts" "Form.parts" s_Form_parts e7 k7
  b7 : Binds K k7 ["self", "word"] []
  M7 : Meth K C "parts" e7
  F8 : Fun K "word_of" "Form.word_of" s_Form_word_of e8 k8
  b8 : Binds K k8 ["self", "sign", "scale", "tail"] []
  M8 : Meth K C "word_of" e8
  F10 : Fun K "turned" "Form.turned" s_Form_turned e10 k10
  b10 : Binds K k10 ["self", "word"] []
  M10 : Meth K C "turned" e10
variable {e1 e2 e3 e4 e6 e7 e8 e10 : Addr} {k1 k2 k3 k4 k6 k7 k8 k10 : FuncData}
def spInit (C : Addr) : Sp := fun vs H Q _ => ∃ (x dx : Addr) (sc tl : Nat), vs = [.ref x, .int (sc : Int), .int (tl : Int)] ∧ H x = some (.ins C dx []) ∧ 2 ≤ sc ∧ sc ≤ 8 ∧ 1 ≤ tl ∧ tl ≤ 24 ∧
  ∀ H', FAt C H' x sc tl → (∀ p o, H p = some o → p ≠ x → H' p = some o) → Q .non H'
theorem numIn_t {a b z : Int} (h1 : a ≤ z) (h2 : z ≤ b) : numIn a b (.int z) = true := by
  show (decide (a ≤ z) && decide (z ≤ b)) = true
  rw [decide_eq_true h1, decide_eq_true h2]
  rfl
theorem ok_init {k : Nat} (W : PF K mg C e1 e2 e3 e4 e6 e7 e8 e10 k1 k2 k3 k4 k6 k7 k8 k10) (B : Bl mg) : FnOk P w K mg base CX0 (k + 3) e1 k1 ["self", "scale", "tail"] (spInit C) := by
  have G : FnOk P w K mg base CX0 (k + 2) e3 k3 ["least", "greatest", "thing"] (spNumIn K) := ok_numIn W.F3 W.F2 W.b2 W.m2 B
  refine W.F1.ok sc_Form___init__ (fun vs H Q E h => ?_) (fun cdv A outer s H vs Q E hr h => ?_)
  · obtain ⟨x, dx, sc, tl, rfl, _⟩ := h
    rfl
  obtain ⟨x, dx, sc, tl, rfl, hx, h1, h2, h3, h4, q⟩ := h
  refine ⟨_, (pss_cons (ps_if (pt_not (pt_val (pe_call G hr (by rfl) W.m3 W.F3.kp W.b3 .nil pass0 (pa_cons pe_int (pa_cons pe_int (pa_cons (pv 1) pa_nil)))))) (pss_one ps_never) pss_nil)
    (pss_cons (ps_if (pt_not (pt_val (pe_call G hr (by rfl) W.m3 W.F3.kp W.b3 .nil pass0 (pa_cons pe_int (pa_cons pe_int (pa_cons (pv 2) pa_nil)))))) (pss_one ps_never) pss_nil)
    (pss_cons (ps_fld (pv 0) (pv 1) rfl)
    (pss_one (ps_fld (pv 0) (pv 2) rfl))))), ?_⟩
  refine ⟨_, rfl, _, _, _, rfl, .int _, ?_⟩
  rw [numIn_t (by omega) (by omega)]
  refine ⟨_, rfl, iteF ?_⟩
  refine ⟨_, rfl, _, _, _, rfl, .int _, ?_⟩
  rw [numIn_t (by omega) (by omega)]
  refine ⟨_, rfl, iteF ?_⟩
  refine ⟨_, rfl, _, rfl, x, C, dx, _, rfl, hx, W.T.cl, W.T.ns, (by decide), ?_⟩
  refine ⟨_, rfl, _, rfl, x, C, dx, _, rfl, upd_same, W.T.cl, W.T.nt, (by show 1 < 1000; decide), ?_⟩
  refine q _ ⟨dx, upd_same, h1, h2, h3, h4⟩ fun p o e n => ?_
  rw [upd_ne n, upd_ne n]
  exact e
/-- Form(scale, tail) makes one -/
theorem made {H : Hp} {x dx : Addr} (nx : H x = none) (nd : H dx = none) (ne : dx ≠ x) {H' : Hp} (k : ∀ p o, (upd (upd H dx (.own x)) x (.ins C dx [])) p = some o → p ≠ x → H' p = some o) : Same H H' := fun p o e =>
  k p o (by rw [upd_ne (ne_of_none e nx), upd_ne (ne_of_none e nd)]; exact e) (ne_of_none e nx)
def spBias (C : Addr) : Sp := fun vs H Q _ => ∃ (x : Addr) (sc tl : Nat), vs = [.ref x] ∧ FAt C H x sc tl ∧ Q (.int (2 ^ (sc - 1) - 1)) H
theorem ok_bias {k : Nat} (W : PF K mg C e1 e2 e3 e4 e6 e7 e8 e10 k1 k2 k3 k4 k6 k7 k8 k10) : FnOk P w K mg base CX0 (k + 1) e4 k4 ["self"] (spBias C) := by
  refine W.F4.ok sc_Form_bias (fun vs H Q E h => ?_) (fun cdv A outer s H vs Q E hr h => ?_)
  · obtain ⟨x, sc, tl, rfl, _⟩ := h
    rfl
  obtain ⟨x, sc, tl, rfl, ⟨dx, hx, h1, h2, h3, h4⟩, q⟩ := h
  refine ⟨_, (pss_one (ps_ret (pe_op op_sub (pe_op op_oneShl pe_int (pe_op op_sub (pe_fld (pv 0) rfl) pe_int)) pe_int))), ?_⟩
  exact ⟨_, rfl, x, C, dx, _, _, rfl, hx, W.T.cl, W.T.ns, fl_s _ _, _, _, rfl, rfl, sc - 1, rfl, congrArg V.int (by omega), by omega, _, _, rfl, rfl, q⟩
def spTop (C : Addr) : Sp := fun vs H Q _ => ∃ (x : Addr) (sc tl : Nat), vs = [.ref x] ∧ FAt C H x sc tl ∧ Q (.int (2 ^ sc - 1)) H
theorem ok_top {k : Nat} (W : PF K mg C e1 e2 e3 e4 e6 e7 e8 e10 k1 k2 k3 k4 k6 k7 k8 k10) : FnOk P w K mg base CX0 (k + 1) e6 k6 ["self"] (spTop C) := by
  refine W.F6.ok sc_Form_top (fun vs H Q E h => ?_) (fun cdv A outer s H vs Q E hr h => ?_)
  · obtain ⟨x, sc, tl, rfl, _⟩ := h
    rfl
  obtain ⟨x, sc, tl, rfl, ⟨dx, hx, h1, h2, h3, h4⟩, q⟩ := h
  refine ⟨_, (pss_one (ps_ret (pe_op op_sub (pe_op op_oneShl pe_int (pe_fld (pv 0) rfl)) pe_int))), ?_⟩
  exact ⟨_, rfl, x, C, dx, _, _, rfl, hx, W.T.cl, W.T.ns, fl_s _ _, sc, rfl, rfl, by omega, _, _, rfl, rfl, q⟩
def spParts (C : Addr) : Sp := fun vs H Q _ => ∃ (x : Addr) (sc tl : Nat) (v : Int), vs = [.ref x, .int v] ∧ FAt C H x sc tl ∧
  ∀ p, H p = none → Q (.ref p) (upd H p (.tup [.int (GM.sgn sc tl v), .int (GM.scl sc tl v), .int (GM.tlp tl v)]))
theorem ok_parts {k : Nat} (W : PF K mg C e1 e2 e3 e4 e6 e7 e8 e10 k1 k2 k3 k4 k6 k7 k8 k10) : FnOk P w K mg base CX0 (k + 2) e7 k7 ["self", "word"] (spParts C) := by
  have G : FnOk P w K mg base CX0 (k + 1) e6 k6 ["self"] (spTop C) := ok_top W
  refine W.F7.ok sc_Form_parts (fun vs H Q E h => ?_) (fun cdv A outer s H vs Q E hr h => ?_)
  · obtain ⟨x, sc, tl, v, rfl, _⟩ := h
    rfl
  obtain ⟨x, sc, tl, v, rfl, hF, q⟩ := h
  obtain ⟨dx, hx, h1, h2, h3, h4⟩ := id hF
  refine ⟨_, (pss_cons (ps_set (i := 2) sc_Form_parts.nd rfl (.inl rfl) (pe_op op_andM (pe_op op_shrN (pv 1) (pe_op op_add (pe_fld (pv 0) rfl) (pe_fld (pv 0) rfl))) pe_int))
    (pss_cons (ps_set (i := 3) sc_Form_parts.nd rfl (.inl rfl) (pe_op op_andM (pe_op op_shrN (pv 1) (pe_fld (pv 0) rfl)) (pe_meth0 (pv 0) W.T.cl W.M6 G hr W.b6 .nil pass0)))
    (pss_cons (ps_set (i := 4) sc_Form_parts.nd rfl (.inl rfl) (pe_op op_andM (pv 1) (pe_op op_sub (pe_op op_oneShl pe_int (pe_fld (pv 0) rfl)) pe_int)))
    (pss_one (ps_ret (pe_tup (pa_cons (pv 2) (pa_cons (pv 3) (pa_cons (pv 4) pa_nil))))))))), ?_⟩
  refine ⟨_, rfl, _, rfl, x, C, dx, _, _, rfl, hx, W.T.cl, W.T.ns, fl_s _ _, _, rfl, x, C, dx, _, _, rfl, hx, W.T.cl, W.T.nt, fl_t _ _, _, _, rfl, rfl, _, sc + tl, rfl, rfl, _, 1, rfl, rfl, ?_⟩
  refine ⟨_, rfl, _, rfl, x, C, dx, _, _, rfl, hx, W.T.cl, W.T.nt, fl_t _ _, _, tl, rfl, rfl, _, rfl, x, dx, _, rfl, hx, rfl, x, sc, tl, rfl, hF, _, sc, rfl, rfl, ?_⟩
  refine ⟨_, rfl, _, rfl, x, C, dx, _, _, rfl, hx, W.T.cl, W.T.nt, fl_t _ _, tl, rfl, rfl, by omega, _, _, rfl, rfl, _, tl, rfl, rfl, ?_⟩
  refine ⟨_, rfl, _, rfl, _, rfl, (by show 3 ≤ sizeLine; decide), fun p np => ?_⟩
  exact q p np
def spWordOf (C : Addr) : Sp := fun vs H Q _ => ∃ (x : Addr) (sc tl : Nat) (s m t : Int), vs = [.ref x, .int s, .int m, .int t] ∧ FAt C H x sc tl ∧ (s = 0 ∨ s = 1) ∧ 0 ≤ m ∧ m < 2 ^ sc ∧ 0 ≤ t ∧ t < 2 ^ tl ∧ Q (.int (s * 2 ^ (sc + tl) + (m * 2 ^ tl + t))) H
theorem ok_wordOf {k : Nat} (W : PF K mg C e1 e2 e3 e4 e6 e7 e8 e10 k1 k2 k3 k4 k6 k7 k8 k10) : FnOk P w K mg base CX0 (k + 1) e8 k8 ["self", "sign", "scale", "tail"] (spWordOf C) := by
  refine W.F8.ok sc_Form_word_of (fun vs H Q E h => ?_) (fun cdv A outer s H vs Q E hr h => ?_)
  · obtain ⟨x, sc, tl, s, m, t, rfl, _⟩ := h
    rfl
  obtain ⟨x, sc, tl, s, m, t, rfl, ⟨dx, hx, h1, h2, h3, h4⟩, hs, m0, m1, t0, t1, q⟩ := h
  refine ⟨_, (pss_one (ps_ret (pe_op op_orL (pe_op op_orL (pe_op op_shlN (pv 1) (pe_op op_add (pe_fld (pv 0) rfl) (pe_fld (pv 0) rfl))) (pe_op op_shlN (pv 2) (pe_fld (pv 0) rfl))) (pv 3)))), ?_⟩
  have p8 : (2 : Int) ^ sc ≤ 2 ^ 8 := GM.pow_le' h2
  have hp := GM.pow_pos' tl
  have hms : m * 2 ^ tl < 2 ^ (sc + tl) := by
    rw [GM.pow_add']
    exact Int.mul_lt_mul_of_pos_right m1 hp
  refine ⟨_, rfl, _, rfl, x, C, dx, _, _, rfl, hx, W.T.cl, W.T.ns, fl_s _ _, _, rfl, x, C, dx, _, _, rfl, hx, W.T.cl, W.T.nt, fl_t _ _, _, _, rfl, rfl, _, sc + tl, rfl, rfl, shl_ok (n := 1) (by omega) (by omega), ?_⟩
  refine ⟨_, rfl, _, rfl, x, C, dx, _, _, rfl, hx, W.T.cl, W.T.nt, fl_t _ _, _, tl, rfl, rfl, shl_ok (n := 9) (by omega) (by omega), ?_⟩
  refine ⟨s, _, sc + tl, rfl, rfl, ⟨by omega, Int.mul_nonneg m0 (by omega), hms⟩, ?_⟩
  have e : s * 2 ^ (sc + tl) + m * 2 ^ tl = (s * 2 ^ sc + m) * 2 ^ tl := by
    rw [GM.pow_add', Int.add_mul, Int.mul_assoc]
  refine ⟨_, rfl, s * 2 ^ sc + m, t, tl, congrArg V.int e, rfl, ⟨?_, t0, t1⟩, ?_⟩
  · have := GM.pow_pos' sc
    rcases hs with z | z <;> subst z <;> omega
  rw [← e, Int.add_assoc]
  exact q
def spTurned (C : Addr) : Sp := fun vs H Q _ => ∃ (x : Addr) (sc tl : Nat) (v : Int), vs = [.ref x, .int v] ∧ FAt C H x sc tl ∧ ∀ H', Same H H' → Q (.int (GM.trn sc tl v)) H'
theorem ok_turned {k : Nat} (W : PF K mg C e1 e2 e3 e4 e6 e7 e8 e10 k1 k2 k3 k4 k6 k7 k8 k10) : FnOk P w K mg base CX0 (k + 3) e10 k10 ["self", "word"] (spTurned C) := by
  have G7 : FnOk P w K mg base CX0 (k + 2) e7 k7 ["self", "word"] (spParts C) := ok_parts W
  have G8 : FnOk P w K mg base CX0 (k + 2) e8 k8 ["self", "sign", "scale", "tail"] (spWordOf C) := ok_wordOf W
  refine W.F10.ok sc_Form_turned (fun vs H Q E h => ?_) (fun cdv A outer s H vs Q E hr h => ?_)
  · obtain ⟨x, sc, tl, v, rfl, _⟩ := h
    rfl
  obtain ⟨x, sc, tl, v, rfl, hF, q⟩ := h
  obtain ⟨dx, hx, h1, h2, h3, h4⟩ := id hF
  refine ⟨_, (pss_cons (ps_asg (pe_meth (pv 0) W.T.cl W.M7 G7 hr W.b7 .nil pass0 (pa_cons (pv 1) pa_nil)) (pg_tup (by rfl) (pgs_cons (pg_name (i := 2) sc_Form_turned.nd rfl (.inl rfl)) (pgs_cons (pg_name (i := 3) sc_Form_turned.nd rfl (.inl rfl)) (pgs_cons (pg_name (i := 4) sc_Form_turned.nd rfl (.inl rfl)) pgs_nil)))))
    (pss_one (ps_ret (pe_meth (pv 0) W.T.cl W.M8 G8 hr W.b8 .nil pass0 (pa_cons (pe_op op_sub pe_int (pv 2)) (pa_cons (pv 3) (pa_cons (pv 4) pa_nil))))))), ?_⟩
  refine ⟨_, rfl, x, dx, _, rfl, hx, rfl, _, rfl, x, sc, tl, v, rfl, hF, fun p np => ?_⟩
  have sp := same_upd (o := .tup [.int (GM.sgn sc tl v), .int (GM.scl sc tl v), .int (GM.tlp tl v)]) np
  refine ⟨p, _, rfl, .inl (.inl upd_same), rfl, _, _, rfl, _, _, rfl, _, _, rfl, rfl, ?_⟩
  have s01 := GM.sgn_01 (m := sc) (t := tl) (w := v)
  have hs := GM.scl_nn sc tl v
  have ht := GM.tlp_nn tl v
  refine ⟨_, rfl, x, dx, _, rfl, sp _ _ hx, rfl, _, rfl, _, _, rfl, rfl, _, rfl, _, rfl, x, sc, tl, _, _, _, rfl, hF.same sp, by omega, hs.1, hs.2, ht.1, ht.2, ?_⟩
  rw [GM.scl_tlp]
  exact q _ sp
/-! ### _law_form -/
def spForm : Sp := fun vs H Q _ => ∃ (b : Addr) (c : Int), vs = [.ref b] ∧ BoxAt c H b ∧ c ≤ 900000000 ∧
  ∀ (p : Addr) (sc tl : Nat) (H' : Hp), H' p = some (.tup [.int (sc : Int), .int (tl : Int)]) → 2 ≤ sc → sc ≤ 8 → 1 ≤ tl → tl ≤ 24 → BoxAt (c + 5) H' b → Keep b H H' → Q (.ref p) H'
theorem ok_form {f g : Addr} {fd gd : FuncData} (F : Fun K "_law_form" "_law_form" s__law_form f fd) (FT : Fun K "_law_take" "_law_take" sTake g gd) (bT : Binds K gd ["_law_box_here", "_law_size"] []) (mT : mg "_law_take" = some (.ref g)) (B : Bl mg) :
    FnOk P w K mg base CX0 2 f fd ["_law_box_here"] spForm := by
  have G : FnOk P w K mg base CX0 1 g gd ["_law_box_here", "_law_size"] (spTake 1) := ok_take FT bT mT B 1
  refine F.ok sc__law_form (fun vs H Q E h => ?_) (fun cdv A outer s H vs Q E hr h => ?_)
  · obtain ⟨b, c, rfl, _⟩ := h
    rfl
  obtain ⟨b, c, rfl, hB, hc, q⟩ := h
  refine ⟨_, (pss_cons (ps_set (i := 1) sc__law_form.nd rfl (.inl rfl) (pe_lst (pa_cons (pe_tup (pa_cons (pe_op op_add pe_int (pe_call G hr (by rfl) mT FT.kp bT .nil pass0 (pa_cons (pv 0) (pa_cons pe_int pa_nil)))) (pa_cons (pe_op op_add pe_int (pe_call G hr (by rfl) mT FT.kp bT .nil pass0 (pa_cons (pv 0) (pa_cons pe_int pa_nil)))) pa_nil))) (pa_cons (pe_tup (pa_cons (pe_op op_add pe_int (pe_call G hr (by rfl) mT FT.kp bT .nil pass0 (pa_cons (pv 0) (pa_cons pe_int pa_nil)))) (pa_cons (pe_op op_add pe_int (pe_call G hr (by rfl) mT FT.kp bT .nil pass0 (pa_cons (pv 0) (pa_cons pe_int pa_nil)))) pa_nil))) (pa_cons (pe_tup (pa_cons pe_int (pa_cons pe_int pa_nil))) pa_nil)))))
    (pss_one (ps_ret (pe_ix ix_list (pv 1) (pe_ix ix_list (pe_lst (pa_cons pe_int (pa_cons pe_int (pa_cons pe_int (pa_cons pe_int (pa_cons pe_int (pa_cons pe_int pa_nil))))))) (pe_call G hr (by rfl) mT FT.kp bT .nil pass0 (pa_cons (pv 0) (pa_cons pe_int pa_nil))) (fun _ _ => rfl)) (fun _ _ => rfl))))), ?_⟩
  refine ⟨_, rfl, b, _, _, rfl, hB, (by decide), (by decide), (by decide), (by omega), (by decide), fun r1 H1 a1 a1' B1 k1 => ?_⟩
  replace B1 := bx1 B1
  refine ⟨_, _, rfl, rfl, _, rfl, b, _, _, rfl, B1, (by decide), (by decide), (by decide), (by omega), (by decide), fun r2 H2 a2 a2' B2 k2 => ?_⟩
  replace B2 := bx1 B2
  refine ⟨_, _, rfl, rfl, (by show 2 ≤ sizeLine; decide), fun t1 n1 => ?_⟩
  have n1b : t1 ≠ b := (B2.ne n1).symm
  refine ⟨_, rfl, b, _, _, rfl, B2.same (same_upd n1), (by decide), (by decide), (by decide), (by omega), (by decide), fun r3 H3 a3 a3' B3 k3 => ?_⟩
  replace B3 := bx1 B3
  have e1 := k3 _ _ upd_same n1b
  refine ⟨_, _, rfl, rfl, _, rfl, b, _, _, rfl, B3, (by decide), (by decide), (by decide), (by omega), (by decide), fun r4 H4 a4 a4' B4 k4 => ?_⟩
  replace B4 := bx1 B4
  have e1' := k4 _ _ e1 n1b
  refine ⟨_, _, rfl, rfl, (by show 2 ≤ sizeLine; decide), fun t2 n2 => ?_⟩
  refine ⟨(by show 2 ≤ sizeLine; decide), fun t3 n3 => ?_⟩
  refine ⟨(by show 3 ≤ sizeLine; decide), fun so nso => ?_⟩
  refine ⟨_, rfl, (by show 6 ≤ sizeLine; decide), fun ix nix => ?_⟩
  have s1 := same_upd (o := .tup [.int (2 + r3), .int (1 + r4)]) n2
  have s2 := same_upd (o := .tup [.int 8, .int 23]) n3
  have s3 := same_upd (o := .lst [.ref t1, .ref t2, .ref t3]) nso
  have s4 := same_upd (o := .lst [.int 0, .int 0, .int 1, .int 1, .int 1, .int 2]) nix
  have B5 := (((B4.same s1).same s2).same s3).same s4
  have n2b : t2 ≠ b := (B4.ne n2).symm
  have n3b : t3 ≠ b := ((B4.same s1).ne n3).symm
  have nsb : so ≠ b := (((B4.same s1).same s2).ne nso).symm
  have nxb : ix ≠ b := ((((B4.same s1).same s2).same s3).ne nix).symm
  refine ⟨_, rfl, b, _, _, rfl, B5, (by decide), (by decide), (by decide), (by omega), (by decide), fun r5 H5 a5 a5' B6 k5 => ?_⟩
  replace B6 := bx1 B6
  have ex := k5 _ _ upd_same nxb
  have es := k5 _ _ (s4 _ _ upd_same) nsb
  have f1 := k5 _ _ (s4 _ _ (s3 _ _ (s2 _ _ (s1 _ _ e1')))) n1b
  have f2 := k5 _ _ (s4 _ _ (s3 _ _ (s2 _ _ upd_same))) n2b
  have f3 := k5 _ _ (s4 _ _ (s3 _ _ upd_same)) n3b
  have kk : Keep b H H5 := (((k1.trans k2).trans ((Keep.new n1).trans k3)).trans k4).trans ((Keep.ofSame (s1.trans (s2.trans (s3.trans s4)))).trans k5)
  obtain ⟨j, hj, hj3⟩ : ∃ j : Nat, atI ([.int 0, .int 0, .int 1, .int 1, .int 1, .int 2] : List V) r5 = some (.int (j : Int)) ∧ j < 3 := by
    have c3 : r5 = 0 ∨ r5 = 1 ∨ r5 = 2 ∨ r5 = 3 ∨ r5 = 4 ∨ r5 = 5 := by omega
    rcases c3 with z | z | z | z | z | z <;> subst z
    · exact ⟨0, rfl, by decide⟩
    · exact ⟨0, rfl, by decide⟩
    · exact ⟨1, rfl, by decide⟩
    · exact ⟨1, rfl, by decide⟩
    · exact ⟨1, rfl, by decide⟩
    · exact ⟨2, rfl, by decide⟩
  obtain ⟨p, sc, tl, hp, ep, b1, b2, b3, b4⟩ : ∃ (p : Addr) (sc tl : Nat), atI ([.ref t1, .ref t2, .ref t3] : List V) (j : Int) = some (.ref p) ∧ H5 p = some (.tup [.int (sc : Int), .int (tl : Int)]) ∧ 2 ≤ sc ∧ sc ≤ 8 ∧ 1 ≤ tl ∧ tl ≤ 24 := by
    match j, hj3 with
    | 0, _ => exact ⟨t1, (2 + r1).toNat, (1 + r2).toNat, rfl, by rw [Int.toNat_of_nonneg (by omega), Int.toNat_of_nonneg (by omega)]; exact f1, by omega, by omega, by omega, by omega⟩
    | 1, _ => exact ⟨t2, (2 + r3).toNat, (1 + r4).toNat, rfl, by rw [Int.toNat_of_nonneg (by omega), Int.toNat_of_nonneg (by omega)]; exact f2, by omega, by omega, by omega, by omega⟩
    | 2, _ => exact ⟨t3, 8, 23, rfl, f3, by omega, by omega, by omega, by omega⟩
  refine ⟨ix, _, _, _, rfl, rfl, SqL.of ex, hj, ?_⟩
  refine ⟨so, _, _, _, rfl, rfl, SqL.of es, hp, ?_⟩
  exact q p sc tl H5 ep b1 b2 b3 b4 (B6.mono (by omega)) kk
end
section
variable {P : Program} {w : World} {K : PySem.W.Frag} {mg : Str → Option Value} {base : Heap}
/-! ### _law_word -/
def spWord : Sp := fun vs H Q _ => ∃ (b : Addr) (sc tl : Nat) (c : Int), vs = [.ref b, .int (sc : Int), .int (tl : Int)] ∧ 2 ≤ sc ∧ sc ≤ 8 ∧ 1 ≤ tl ∧ tl ≤ 24 ∧ BoxAt c H b ∧ c ≤ 900000000 ∧
  ∀ (r : Int) (H' : Hp), 0 ≤ r → r < 2 ^ (1 + sc + tl) → BoxAt (c + 20) H' b → Keep b H H' → Q (.int r) H'
theorem all8 {a0 a1 a2 a3 a4 a5 a6 a7 M : Int} {j : Nat} (hj : j < 8) (h0 : a0 < M) (h1 : a1 < M) (h2 : a2 < M) (h3 : a3 < M) (h4 : a4 < M) (h5 : a5 < M) (h6 : a6 < M) (h7 : a7 < M) :
    ∃ v : Int, atI ([.int a0, .int a1, .int a2, .int a3, .int a4, .int a5, .int a6, .int a7] : List V) (j : Int) = some (.int v) ∧ v < M := by
  match j, hj with
  | 0, _ => exact ⟨a0, rfl, h0⟩
  | 1, _ => exact ⟨a1, rfl, h1⟩
  | 2, _ => exact ⟨a2, rfl, h2⟩
  | 3, _ => exact ⟨a3, rfl, h3⟩
  | 4, _ => exact ⟨a4, rfl, h4⟩
  | 5, _ => exact ⟨a5, rfl, h5⟩
  | 6, _ => exact ⟨a6, rfl, h6⟩
  | 7, _ => exact ⟨a7, rfl, h7⟩
theorem at12 {r : Int} (h0 : 0 ≤ r) (h1 : r < 12) : ∃ j : Nat, atI ([.int 0, .int 0, .int 0, .int 0, .int 1, .int 2, .int 3, .int 4, .int 5, .int 6, .int 6, .int 7] : List V) r = some (.int (j : Int)) ∧ j < 8 := by
  obtain ⟨n, rfl⟩ : ∃ n : Nat, r = (n : Int) := ⟨r.toNat, by omega⟩
  have hn : n < 12 := by omega
  match n, hn with
  | 0, _ => exact ⟨0, rfl, by decide⟩
  | 1, _ => exact ⟨0, rfl, by decide⟩
  | 2, _ => exact ⟨0, rfl, by decide⟩
  | 3, _ => exact ⟨0, rfl, by decide⟩
  | 4, _ => exact ⟨1, rfl, by decide⟩
  | 5, _ => exact ⟨2, rfl, by decide⟩
  | 6, _ => exact ⟨3, rfl, by decide⟩
  | 7, _ => exact ⟨4, rfl, by decide⟩
  | 8, _ => exact ⟨5, rfl, by decide⟩
  | 9, _ => exact ⟨6, rfl, by decide⟩
  | 10, _ => exact ⟨6, rfl, by decide⟩
  | 11, _ => exact ⟨7, rfl, by decide⟩
theorem ok_word {f g : Addr} {fd gd : FuncData} (F : Fun K "_law_word" "_law_word" s__law_word f fd) (FT : Fun K "_law_take" "_law_take" sTake g gd) (bT : Binds K gd ["_law_box_here", "_law_size"] []) (mT : mg "_law_take" = some (.ref g)) (B : Bl mg) :
    FnOk P w K mg base CX0 3 f fd ["_law_box_here", "_law_scale", "_law_tail"] spWord := by
  have G : FnOk P w K mg base CX0 2 g gd ["_law_box_here", "_law_size"] (spTake 2) := ok_take FT bT mT B 2
  refine F.ok sc__law_word (fun vs H Q E h => ?_) (fun cdv A outer s H vs Q E hr h => ?_)
  · obtain ⟨b, sc, tl, c, rfl, _⟩ := h
    rfl
  obtain ⟨b, sc, tl, c, rfl, h1, h2, h3, h4, hB, hc, q⟩ := h
  refine ⟨_, (pss_cons (ps_set (i := 3) sc__law_word.nd rfl (.inl rfl) (pe_op op_add (pe_op op_mul pe_int pe_int) (pe_op op_shlN (pe_op op_sub (pe_op op_oneShl pe_int (pv 1)) pe_int) (pv 2))))
    (pss_cons (ps_set (i := 4) sc__law_word.nd rfl (.inl rfl) (pe_lst (pa_cons (pe_call G hr (by rfl) mT FT.kp bT .nil pass0 (pa_cons (pv 0) (pa_cons (pv 3) pa_nil))) (pa_cons (pe_call G hr (by rfl) mT FT.kp bT .nil pass0 (pa_cons (pv 0) (pa_cons pe_int pa_nil))) (pa_cons (pe_op op_add (pe_op op_sub (pe_op op_oneShl pe_int (pv 2)) pe_int) (pe_call G hr (by rfl) mT FT.kp bT .nil pass0 (pa_cons (pv 0) (pa_cons pe_int pa_nil)))) (pa_cons (pe_op op_sub (pe_op op_sub (pv 3) pe_int) (pe_call G hr (by rfl) mT FT.kp bT .nil pass0 (pa_cons (pv 0) (pa_cons pe_int pa_nil)))) pa_nil))))))
    (pss_cons (ps_set (i := 4) sc__law_word.nd rfl (.inl rfl) (pe_op op_cat (pv 4) (pe_lst (pa_cons (pv 3) (pa_cons (pe_op op_add (pe_op op_add (pv 3) pe_int) (pe_call G hr (by rfl) mT FT.kp bT .nil pass0 (pa_cons (pv 0) (pa_cons (pe_orT (pe_op op_sub (pe_op op_oneShl pe_int (pv 2)) pe_int) (pe_one pe_int)) pa_nil)))) (pa_cons (pe_op op_shlN (pe_call G hr (by rfl) mT FT.kp bT .nil pass0 (pa_cons (pv 0) (pa_cons (pe_op op_oneShl pe_int (pv 1)) pa_nil))) (pv 2)) (pa_cons pe_int pa_nil)))))))
    (pss_cons (ps_set (i := 5) sc__law_word.nd rfl (.inl rfl) (pe_ix ix_list (pe_lst (pa_cons pe_int (pa_cons pe_int (pa_cons pe_int (pa_cons pe_int (pa_cons pe_int (pa_cons pe_int (pa_cons pe_int (pa_cons pe_int (pa_cons pe_int (pa_cons pe_int (pa_cons pe_int (pa_cons pe_int pa_nil))))))))))))) (pe_call G hr (by rfl) mT FT.kp bT .nil pass0 (pa_cons (pv 0) (pa_cons pe_int pa_nil))) (fun _ _ => rfl)))
    (pss_cons (ps_set (i := 6) sc__law_word.nd rfl (.inl rfl) (pe_ix ix_list (pv 4) (pv 5) (fun _ _ => rfl)))
    (pss_cons (ps_if (PW.pt (pw_and (pt_cmpR op_eq (pv 5) pe_int (nomark _)) (pw_and1 (pt_cmpR op_eq (pe_call G hr (by rfl) mT FT.kp bT .nil pass0 (pa_cons (pv 0) (pa_cons pe_int pa_nil))) pe_int (nomark _))))) (pss_one (ps_set (i := 6) sc__law_word.nd rfl (.inl rfl) (pe_op op_orL (pe_op op_shlN (pe_op op_mod (pe_op op_add (pe_op op_sub (pe_op op_oneShl pe_int (pe_op op_sub (pv 1) pe_int)) pe_int) (pe_call G hr (by rfl) mT FT.kp bT .nil pass0 (pa_cons (pv 0) (pa_cons pe_int pa_nil)))) (pe_op op_sub (pe_op op_oneShl pe_int (pv 1)) pe_int)) (pv 2)) (pe_op op_andM (pv 6) (pe_op op_sub (pe_op op_oneShl pe_int (pv 2)) pe_int))))) pss_nil)
    (pss_one (ps_ret (pe_op op_add (pe_op op_shlN (pe_call G hr (by rfl) mT FT.kp bT .nil pass0 (pa_cons (pv 0) (pa_cons pe_int pa_nil))) (pe_op op_add (pv 1) (pv 2))) (pe_callB (call_max2 rfl) (by rfl) B.max boot_max (pa_cons pe_int (pa_cons (pv 6) pa_nil)))))))))))), ?_⟩
  have pS := GM.pow_pos' sc
  have pT := GM.pow_pos' tl
  have pS4 : (2 : Int) ^ 2 ≤ 2 ^ sc := GM.pow_le' h1
  have pS8 : (2 : Int) ^ sc ≤ 2 ^ 8 := GM.pow_le' h2
  have pT2 : (2 : Int) ^ 1 ≤ 2 ^ tl := GM.pow_le' h3
  have pT24 : (2 : Int) ^ tl ≤ 2 ^ 24 := GM.pow_le' h4
  have pST : (2 : Int) ^ (sc + tl) = 2 ^ sc * 2 ^ tl := GM.pow_add' sc tl
  have p1 : (2 : Int) ^ (1 + sc + tl) = 2 ^ (sc + tl) * 2 := by rw [← GM.pow_s]; congr 1; omega
  have p4T : 4 * 2 ^ tl ≤ (2 : Int) ^ (sc + tl) := by
    rw [pST]
    exact Int.mul_le_mul_of_nonneg_right pS4 (by omega)
  have p8T : (2 : Int) ^ (sc + tl) ≤ 256 * 2 ^ tl := by
    rw [pST]
    exact Int.mul_le_mul_of_nonneg_right pS8 (by omega)
  refine ⟨_, _, rfl, rfl, .inl ⟨by decide, by decide⟩, _, rfl, sc, rfl, rfl, by omega, _, _, rfl, rfl, _, rfl, _, tl, rfl, rfl, shl_ok (n := 9) (by omega) (by omega), _, _, rfl, rfl, ?_⟩
  obtain ⟨TP, eT, hT⟩ : ∃ TP : Int, (2 * 0 + (2 ^ sc - 1) * 2 ^ tl : Int) = TP ∧ TP = 2 ^ (sc + tl) - 2 ^ tl := by
    refine ⟨_, rfl, ?_⟩
    rw [pST, Int.sub_mul]
    omega
  dsimp only
  rw [eT]
  have e14 : (10000000 : Int) ^ 2 = 100000000000000 := by decide
  refine ⟨_, rfl, _, rfl, b, _, _, rfl, hB, (by omega), (by rw [e14]; omega), (by omega), (by omega), (by decide), fun r1 H1 u1 v1 B1 k1 => ?_⟩
  replace B1 := bx2 B1
  refine ⟨_, rfl, b, _, _, rfl, B1, (by decide), (by decide), (by decide), (by omega), (by decide), fun r2 H2 u2 v2 B2 k2 => ?_⟩
  replace B2 := bx2 B2
  refine ⟨_, rfl, tl, rfl, rfl, by omega, _, _, rfl, rfl, _, rfl, b, _, _, rfl, B2, (by decide), (by decide), (by decide), (by omega), (by decide), fun r3 H3 u3 v3 B3 k3 => ?_⟩
  replace B3 := bx2 B3
  refine ⟨_, _, rfl, rfl, _, rfl, _, _, rfl, rfl, _, rfl, b, _, _, rfl, B3, (by decide), (by decide), (by decide), (by omega), (by decide), fun r4 H4 u4 v4 B4 k4 => ?_⟩
  replace B4 := bx2 B4
  refine ⟨_, _, rfl, rfl, (by show 4 ≤ sizeLine; decide), fun s1 n1 => ?_⟩
  have n1b : s1 ≠ b := (B4.ne n1).symm
  have B4' := B4.same (same_upd (o := .lst [.int r1, .int r2, .int (2 ^ tl - 2 + r3), .int (TP - 1 - r4)]) n1)
  refine ⟨_, rfl, _, rfl, _, rfl, _, _, rfl, rfl, _, rfl, _, rfl, tl, rfl, rfl, by omega, _, _, rfl, rfl, true, ?_, iteT ?_⟩
  · show true = ((2 ^ tl - 1 : Int) != 0)
    rw [eq_comm, bne_iff_ne]
    omega
  refine ⟨b, _, _, rfl, B4', (by omega), (by rw [e14]; omega), (by omega), (by omega), (by decide), fun r5 H5 u5 v5 B5 k5 => ?_⟩
  replace B5 := bx2 B5
  have es5 := k5 _ _ upd_same n1b
  refine ⟨_, _, rfl, rfl, _, rfl, _, rfl, sc, rfl, rfl, by omega, b, _, _, rfl, B5, (by omega), (by rw [e14]; omega), (by omega), (by omega), (by decide), fun r6 H6 u6 v6 B6 k6 => ?_⟩
  replace B6 := bx2 B6
  have es6 := k6 _ _ es5 n1b
  refine ⟨_, rfl, _, tl, rfl, rfl, shl_ok (n := 9) (by omega) (by omega), (by show 4 ≤ sizeLine; decide), fun s2 n2 => ?_⟩
  have sm2 := same_upd (o := .lst [.int TP, .int (TP + 1 + r5), .int (r6 * 2 ^ tl), .int 0]) n2
  refine ⟨s1, s2, _, _, rfl, rfl, sm2 _ _ es6, upd_same, (by show 4 + 4 ≤ sizeLine; decide), fun s3 n3 => ?_⟩
  have sm3 := same_upd (o := .lst [.int r1, .int r2, .int (2 ^ tl - 2 + r3), .int (TP - 1 - r4), .int TP, .int (TP + 1 + r5), .int (r6 * 2 ^ tl), .int 0]) n3
  have B7 := (B6.same sm2).same sm3
  have n3b : s3 ≠ b := ((B6.same sm2).ne n3).symm
  -- way
  refine ⟨(by show 12 ≤ sizeLine; decide), fun s4 n4 => ?_⟩
  have sm4 := same_upd (o := .lst [.int 0, .int 0, .int 0, .int 0, .int 1, .int 2, .int 3, .int 4, .int 5, .int 6, .int 6, .int 7]) n4
  have n4b : s4 ≠ b := (B7.ne n4).symm
  refine ⟨_, rfl, b, _, _, rfl, B7.same sm4, (by decide), (by decide), (by decide), (by omega), (by decide), fun r7 H8 u7 v7 B8 k8 => ?_⟩
  replace B8 := bx2 B8
  obtain ⟨j, hj, hj8⟩ := at12 u7 v7
  refine ⟨s4, _, _, _, rfl, rfl, SqL.of (k8 _ _ upd_same n4b), hj, ?_⟩
  have es3 := k8 _ _ (sm4 _ _ upd_same) n3b
  have h6 : r6 * 2 ^ tl < 2 ^ (sc + tl) := by
    rw [pST]
    exact Int.mul_lt_mul_of_pos_right v6 pT
  obtain ⟨wd, hw, hwl⟩ := all8 (a0 := r1) (a1 := r2) (a2 := 2 ^ tl - 2 + r3) (a3 := TP - 1 - r4) (a4 := TP) (a5 := TP + 1 + r5) (a6 := r6 * 2 ^ tl) (a7 := 0) (M := 2 ^ (sc + tl)) hj8 (by omega) (by omega) (by omega) (by omega) (by omega) (by omega) h6 (by omega)
  refine ⟨_, rfl, _, rfl, s3, _, _, _, rfl, rfl, SqL.of es3, hw, ?_⟩
  have kk : Keep b H H8 := (((((((k1.trans k2).trans k3).trans k4).trans (Keep.new n1)).trans k5).trans k6).trans (Keep.ofSame (sm2.trans (sm3.trans sm4)))).trans k8
  have wrap : ∀ (v r : Int), v < 2 ^ (sc + tl) → 0 ≤ r → r < 2 → 0 ≤ r * 2 ^ (sc + tl) + (if v > 0 then v else 0) ∧ r * 2 ^ (sc + tl) + (if v > 0 then v else 0) < 2 ^ (1 + sc + tl) := fun v r hv r0 r1 => by
    have : r = 0 ∨ r = 1 := by omega
    rw [p1]
    rcases this with z | z <;> subst z <;> split <;> omega
  refine ⟨_, rfl, rfl, _, rfl, ite2 (fun cw => ?_) (fun cw => ?_)⟩
  · refine ⟨_, rfl, b, _, _, rfl, B8, (by decide), (by decide), (by decide), (by omega), (by decide), fun r8 H9 u8 v8 B9 k9 => ?_⟩
    replace B9 := bx2 B9
    refine ⟨rfl, _, rfl, ite2 (fun cz => ?_) (fun cz => ?_)⟩
    · -- another scale
      refine ⟨_, rfl, _, _, rfl, rfl, sc - 1, rfl, congrArg V.int (by omega), by omega, _, _, rfl, rfl, _, rfl, b, _, _, rfl, B9, (by decide), (by decide), (by decide), (by omega), (by decide), fun r9 H10 u9 v9 B10 k10 => ?_⟩
      replace B10 := bx2 B10
      refine ⟨_, _, rfl, rfl, _, rfl, sc, rfl, rfl, by omega, _, _, rfl, rfl, _, _, rfl, rfl, (by show (0 : Int) < 2 ^ sc - 1; omega), ?_⟩
      dsimp only
      obtain ⟨z, ez, z0, z1⟩ : ∃ z : Int, (2 ^ (sc - 1) - 3 + r9) % (2 ^ sc - 1) = z ∧ 0 ≤ z ∧ z < 2 ^ sc - 1 := ⟨_, rfl, Int.emod_nonneg _ (by omega), Int.emod_lt_of_pos _ (by omega)⟩
      rw [ez]
      have m0 := Int.emod_nonneg wd (show (2 : Int) ^ tl ≠ 0 by omega)
      have m1 := Int.emod_lt_of_pos wd pT
      refine ⟨_, rfl, _, tl, rfl, rfl, shl_ok (n := 9) (by omega) (by omega), _, rfl, _, rfl, tl, rfl, rfl, by omega, _, _, rfl, rfl, _, tl, rfl, rfl, z, _, tl, rfl, rfl, ⟨z0, m0, m1⟩, ?_⟩
      have hz : z * 2 ^ tl + wd % 2 ^ tl < 2 ^ (sc + tl) := by
        have : z * 2 ^ tl ≤ (2 ^ sc - 2) * 2 ^ tl := Int.mul_le_mul_of_nonneg_right (by omega) (by omega)
        rw [Int.sub_mul, ← pST] at this
        omega
      refine ⟨_, rfl, b, _, _, rfl, B10, (by decide), (by decide), (by decide), (by omega), (by decide), fun r H11 u10 v10 B11 k11 => ?_⟩
      replace B11 := bx2 B11
      refine ⟨_, rfl, _, rfl, _, _, rfl, rfl, _, sc + tl, rfl, rfl, shl_ok (n := 2) (by omega) (by omega), _, rfl, _, _, rfl, _, _, rfl, rfl, ?_⟩
      have wr := wrap _ r hz u10 v10
      exact q _ _ wr.1 wr.2 (B11.mono (by omega)) (((kk.trans k9).trans k10).trans k11)
    · refine ⟨_, rfl, b, _, _, rfl, B9, (by decide), (by decide), (by decide), (by omega), (by decide), fun r H11 u10 v10 B11 k11 => ?_⟩
      replace B11 := bx2 B11
      refine ⟨_, rfl, _, rfl, _, _, rfl, rfl, _, sc + tl, rfl, rfl, shl_ok (n := 2) (by omega) (by omega), _, rfl, _, _, rfl, _, _, rfl, rfl, ?_⟩
      have wr := wrap _ r hwl u10 v10
      exact q _ _ wr.1 wr.2 (B11.mono (by omega)) ((kk.trans k9).trans k11)
  · refine iteF ?_
    refine ⟨_, rfl, b, _, _, rfl, B8, (by decide), (by decide), (by decide), (by omega), (by decide), fun r H11 u10 v10 B11 k11 => ?_⟩
    replace B11 := bx2 B11
    refine ⟨_, rfl, _, rfl, _, _, rfl, rfl, _, sc + tl, rfl, rfl, shl_ok (n := 2) (by omega) (by omega), _, rfl, _, _, rfl, _, _, rfl, rfl, ?_⟩
    have wr := wrap _ r hwl u10 v10
    exact q _ _ wr.1 wr.2 (B11.mono (by omega)) (kk.trans k11)
end
section
variable {P : Program} {w : World} {K : PySem.W.Frag} {mg : Str → Option Value} {base : Heap} {C : Addr}
variable {e1 e2 e3 e4 e6 e7 e8 e10 : Addr} {k1 k2 k3 k4 k6 k7 k8 k10 : FuncData}
/-! ### sorts -/
def srt (m t : Nat) (s : Int) : Str := if GM.topS m t ≤ s then (if s = GM.topS m t then "endless" else "none") else if s = 0 then "nought" else if s / 2 ^ t = 0 then "small" else "plain"
theorem str_ne {a b : Str} (h : decide (a = b) = false) : a ≠ b := of_decide_eq_false h
theorem srt_none (m t : Nat) (s : Int) : srt m t s = "none" ↔ GM.topS m t < s := by
  unfold srt
  constructor
  · intro h
    by_cases c : GM.topS m t ≤ s
    · rw [if_pos c] at h
      by_cases e : s = GM.topS m t
      · rw [if_pos e] at h
        exact absurd h (by decide +kernel)
      · omega
    · rw [if_neg c] at h
      by_cases e : s = 0
      · rw [if_pos e] at h
        exact absurd h (by decide +kernel)
      · rw [if_neg e] at h
        by_cases e2 : s / 2 ^ t = 0
        · rw [if_pos e2] at h
          exact absurd h (by decide +kernel)
        · rw [if_neg e2] at h
          exact absurd h (by decide +kernel)
  · intro h
    rw [if_pos (by omega), if_neg (by omega)]
theorem srt_endless {m t : Nat} {s : Int} (h : ¬ GM.topS m t < s) : srt m t s = "endless" ↔ s = GM.topS m t := by
  unfold srt
  constructor
  · intro q
    by_cases c : GM.topS m t ≤ s
    · omega
    · rw [if_neg c] at q
      by_cases e : s = 0
      · rw [if_pos e] at q
        exact absurd q (by decide +kernel)
      · rw [if_neg e] at q
        by_cases e2 : s / 2 ^ t = 0
        · rw [if_pos e2] at q
          exact absurd q (by decide +kernel)
        · rw [if_neg e2] at q
          exact absurd q (by decide +kernel)
  · intro q
    rw [if_pos (by omega), if_pos q]
theorem srt_parts {m t : Nat} (hm : 1 ≤ m) {q r : Int} (q0 : 0 ≤ q) (q1 : q < 2 ^ m) (r0 : 0 ≤ r) (r1 : r < 2 ^ t) :
    srt m t (q * 2 ^ t + r) = if q = 0 then (if r = 0 then ("nought" : Str) else ("small" : Str)) else if q = 2 ^ m - 1 then (if r = 0 then ("endless" : Str) else ("none" : Str)) else ("plain" : Str) := by
  have hp := GM.pow_pos' t
  have hm2 : (2 : Int) ^ 1 ≤ 2 ^ m := GM.pow_le' hm
  have hd : (q * 2 ^ t + r) / 2 ^ t = q := by
    rw [Int.add_comm, Int.add_mul_ediv_right _ _ (by omega), Int.ediv_eq_zero_of_lt r0 r1, Int.zero_add]
  have hT : GM.topS m t = 2 ^ m * 2 ^ t - 2 ^ t := by
    unfold GM.topS
    rw [Int.sub_mul, Int.one_mul]
  have hqt : q = 2 ^ m - 1 ∨ (q + 1) * 2 ^ t ≤ (2 ^ m - 1) * 2 ^ t := by
    by_cases e : q = 2 ^ m - 1
    · exact .inl e
    · exact .inr (Int.mul_le_mul_of_nonneg_right (by omega) (by omega))
  unfold srt
  rw [hd]
  by_cases e : q = 2 ^ m - 1
  · have et : q * 2 ^ t = GM.topS m t := by rw [e]; rfl
    rw [if_pos (show GM.topS m t ≤ q * 2 ^ t + r by omega), if_neg (show ¬ q = 0 by omega), if_pos e]
    by_cases z : r = 0
    · rw [if_pos z, if_pos (by omega)]
    · rw [if_neg z, if_neg (by omega)]
  · have hlt : (q + 1) * 2 ^ t ≤ GM.topS m t := by
      rcases hqt with z | z
      · exact absurd z e
      · exact z
    rw [Int.add_mul, Int.one_mul] at hlt
    rw [if_neg (show ¬ GM.topS m t ≤ q * 2 ^ t + r by omega)]
    by_cases z : q = 0
    · rw [if_pos z, if_pos z]
      subst z
      rw [Int.zero_mul, Int.zero_add]
    · have : 1 * 2 ^ t ≤ q * 2 ^ t := Int.mul_le_mul_of_nonneg_right (by omega) (by omega)
      rw [if_neg (show ¬ q * 2 ^ t + r = 0 by omega), if_neg z, if_neg z, if_neg e]
def sz (m t : Nat) (v : Int) : Int := v % 2 ^ (m + t)
def spSort (C : Addr) : Sp := fun vs H Q _ => ∃ (x : Addr) (sc tl : Nat) (v : Int), vs = [.ref x, .int v] ∧ FAt C H x sc tl ∧ ∀ H', Same H H' → Q (.str (srt sc tl (sz sc tl v))) H'
theorem ok_sort {f : Addr} {fd : FuncData} {k : Nat} (F : Fun K "sort_of" "Form.sort_of" s_Form_sort_of f fd) (W : PF K mg C e1 e2 e3 e4 e6 e7 e8 e10 k1 k2 k3 k4 k6 k7 k8 k10) : FnOk P w K mg base CX0 (k + 3) f fd ["self", "word"] (spSort C) := by
  have G7 : FnOk P w K mg base CX0 (k + 2) e7 k7 ["self", "word"] (spParts C) := ok_parts W
  have G6 : FnOk P w K mg base CX0 (k + 2) e6 k6 ["self"] (spTop C) := ok_top W
  refine F.ok sc_Form_sort_of (fun vs H Q E h => ?_) (fun cdv A outer s H vs Q E hr h => ?_)
  · obtain ⟨x, sc, tl, v, rfl, _⟩ := h
    rfl
  obtain ⟨x, sc, tl, v, rfl, hF, q⟩ := h
  obtain ⟨dx, hx, h1, h2, h3, h4⟩ := id hF
  refine ⟨_, (pss_cons (ps_asg (pe_meth (pv 0) W.T.cl W.M7 G7 hr W.b7 .nil pass0 (pa_cons (pv 1) pa_nil)) (pg_tup (by rfl) (pgs_cons (pg_name (i := 2) sc_Form_sort_of.nd rfl (.inl rfl)) (pgs_cons (pg_name (i := 3) sc_Form_sort_of.nd rfl (.inl rfl)) (pgs_cons (pg_name (i := 4) sc_Form_sort_of.nd rfl (.inl rfl)) pgs_nil)))))
    (pss_cons (ps_if (pt_cmpR op_eq (pv 3) pe_int (nomark _)) (pss_one (ps_ret (pe_ifExp (pt_cmpR op_eq (pv 4) pe_int (nomark _)) pe_str pe_str))) pss_nil)
    (pss_cons (ps_if (pt_cmpR op_eq (pv 3) (pe_meth0 (pv 0) W.T.cl W.M6 G6 hr W.b6 .nil pass0) (nomark _)) (pss_one (ps_ret (pe_ifExp (pt_cmpR op_eq (pv 4) pe_int (nomark _)) pe_str pe_str))) pss_nil)
    (pss_one (ps_ret pe_str))))), ?_⟩
  refine ⟨_, rfl, x, dx, _, rfl, hx, rfl, _, rfl, x, sc, tl, v, rfl, hF, fun p np => ?_⟩
  have sp := same_upd (o := .tup [.int (GM.sgn sc tl v), .int (GM.scl sc tl v), .int (GM.tlp tl v)]) np
  refine ⟨p, _, rfl, .inl (.inl upd_same), rfl, _, _, rfl, _, _, rfl, _, _, rfl, rfl, ?_⟩
  have hs := GM.scl_nn sc tl v
  have ht := GM.tlp_nn tl v
  have q' := q _ sp
  rw [show sz sc tl v = GM.scl sc tl v * 2 ^ tl + GM.tlp tl v from (GM.scl_tlp sc tl v).symm, srt_parts (by omega) hs.1 hs.2 ht.1 ht.2] at q'
  refine ⟨_, rfl, rfl, _, rfl, ite2 (fun c => ?_) (fun c => ?_)⟩
  · have c1 : GM.scl sc tl v = 0 := V.int.inj (of_decide_eq_true c)
    rw [if_pos c1] at q'
    refine ⟨_, rfl, rfl, _, rfl, ite2 (fun d => ?_) (fun d => ?_)⟩
    · have d1 : GM.tlp tl v = 0 := V.int.inj (of_decide_eq_true d)
      rw [if_pos d1] at q'
      exact q'
    · have d1 : ¬ GM.tlp tl v = 0 := fun z => d (decide_eq_true (by rw [z]))
      rw [if_neg d1] at q'
      exact q'
  have c1 : ¬ GM.scl sc tl v = 0 := fun z => c (decide_eq_true (by rw [z]))
  rw [if_neg c1] at q'
  refine ⟨_, rfl, _, rfl, x, dx, _, rfl, sp _ _ hx, rfl, x, sc, tl, rfl, hF.same sp, rfl, _, rfl, ite2 (fun c2 => ?_) (fun c2 => ?_)⟩
  · have c3 : GM.scl sc tl v = 2 ^ sc - 1 := V.int.inj (of_decide_eq_true c2)
    rw [if_pos c3] at q'
    refine ⟨_, rfl, rfl, _, rfl, ite2 (fun d => ?_) (fun d => ?_)⟩
    · have d1 : GM.tlp tl v = 0 := V.int.inj (of_decide_eq_true d)
      rw [if_pos d1] at q'
      exact q'
    · have d1 : ¬ GM.tlp tl v = 0 := fun z => d (decide_eq_true (by rw [z]))
      rw [if_neg d1] at q'
      exact q'
  · have c3 : ¬ GM.scl sc tl v = 2 ^ sc - 1 := fun z => c2 (decide_eq_true (by rw [z]))
    rw [if_neg c3] at q'
    exact q'
theorem in_two (x a b : Str) : inV (.str x) [.str a, .str b] = decide (a = x ∨ b = x) := by
  show ((a == x) || ((b == x) || false)) = _
  rw [Bool.or_false, Bool.eq_iff_iff, Bool.or_eq_true, beq_iff_eq, beq_iff_eq, decide_eq_true_iff]
/-! ### sizes by their parts -/
theorem sz_div (m t : Nat) (v : Int) : sz m t v / 2 ^ t = GM.scl m t v := by
  have ht := GM.tlp_nn t v
  have hp := GM.pow_pos' t
  unfold sz
  rw [← GM.scl_tlp, Int.add_comm, Int.add_mul_ediv_right _ _ (by omega), Int.ediv_eq_zero_of_lt ht.1 ht.2, Int.zero_add]
theorem sz_mod (m t : Nat) (v : Int) : sz m t v % 2 ^ t = GM.tlp t v := by
  have ht := GM.tlp_nn t v
  unfold sz
  rw [← GM.scl_tlp, Int.add_comm, Int.add_mul_emod_self_right, Int.emod_eq_of_lt ht.1 ht.2]
theorem top_iff (m t : Nat) (v : Int) : GM.topS m t ≤ sz m t v ↔ GM.scl m t v = 2 ^ m - 1 := by
  have hs := GM.scl_nn m t v
  have ht := GM.tlp_nn t v
  have hp := GM.pow_pos' t
  have e : sz m t v = GM.scl m t v * 2 ^ t + GM.tlp t v := (GM.scl_tlp m t v).symm
  rw [e]
  unfold GM.topS
  constructor
  · intro h
    by_cases c : GM.scl m t v = 2 ^ m - 1
    · exact c
    · have : (GM.scl m t v + 1) * 2 ^ t ≤ (2 ^ m - 1) * 2 ^ t := Int.mul_le_mul_of_nonneg_right (by omega) (by omega)
      rw [Int.add_mul, Int.one_mul] at this
      omega
  · intro h
    rw [h]
    omega
theorem srt_top (m t : Nat) (s : Int) : (srt m t s = "endless" ∨ srt m t s = "none") ↔ GM.topS m t ≤ s := by
  constructor
  · intro h
    by_cases c : GM.topS m t < s
    · omega
    · rcases h with h | h
      · have := (srt_endless c).mp h
        omega
      · have := (srt_none m t s).mp h
        omega
  · intro h
    by_cases c : GM.topS m t < s
    · exact .inr ((srt_none m t s).mpr c)
    · exact .inl ((srt_endless c).mpr (by omega))
def P0 (sc tl : Nat) : Int := 1 - (2 ^ (sc - 1) - 1) - tl
def wn (sc tl : Nat) (v : Int) : Int := if GM.sgn sc tl v = 1 then -(GM.num tl (sz sc tl v)) else GM.num tl (sz sc tl v)
def wp (sc tl : Nat) (v : Int) : Int := P0 sc tl + (GM.ex tl (sz sc tl v) : Nat)
/-! ### the words that have names -/
def nv (sc tl : Nat) (g m t : Int) : Int := g * 2 ^ (sc + tl) + (m * 2 ^ tl + t)
def spNm (C : Addr) (mf tf : Nat → Nat → Int) : Sp := fun vs H Q _ => ∃ (x : Addr) (sc tl : Nat) (g : Int), vs = [.ref x, .int g] ∧ FAt C H x sc tl ∧ (g = 0 ∨ g = 1) ∧ Q (.int (nv sc tl g (mf sc tl) (tf sc tl))) H
def mNo : Nat → Nat → Int := fun _ _ => 0
def mEn : Nat → Nat → Int := fun sc _ => 2 ^ sc - 1
def mGr : Nat → Nat → Int := fun sc _ => 2 ^ sc - 1 - 1
def tGr : Nat → Nat → Int := fun _ tl => 2 ^ tl - 1
def mLp : Nat → Nat → Int := fun _ _ => 1
theorem ok_nought {f : Addr} {fd : FuncData} {k : Nat} (F : FunA K "nought" "Form.nought" s_Form_nought f fd) (W : PF K mg C e1 e2 e3 e4 e6 e7 e8 e10 k1 k2 k3 k4 k6 k7 k8 k10) : FnOk P w K mg base CX0 (k + 2) f fd ["self", "sign"] (spNm C mNo mNo) := by
  have G8 : FnOk P w K mg base CX0 (k + 1) e8 k8 ["self", "sign", "scale", "tail"] (spWordOf C) := ok_wordOf W
  refine F.ok sc_Form_nought (fun vs H Q E h => ?_) (fun cdv A outer s H vs Q E hr h => ?_)
  · obtain ⟨x, sc, tl, v, rfl, _⟩ := h
    rfl
  obtain ⟨x, sc, tl, g, rfl, hF, hg, q⟩ := h
  obtain ⟨dx, hx, h1, h2, h3, h4⟩ := id hF
  have pS := GM.pow_pos' sc
  have pT := GM.pow_pos' tl
  refine ⟨_, (pss_one (ps_ret (pe_meth (pv 0) W.T.cl W.M8 G8 hr W.b8 .nil pass0 (pa_cons (pv 1) (pa_cons pe_int (pa_cons pe_int pa_nil)))))), ?_⟩
  exact ⟨_, rfl, x, dx, _, rfl, hx, rfl, _, rfl, x, sc, tl, _, _, _, rfl, hF, hg, by decide, pS, by decide, pT, q⟩
theorem ok_greatest {f : Addr} {fd : FuncData} {k : Nat} (F : FunA K "greatest" "Form.greatest" s_Form_greatest f fd) (W : PF K mg C e1 e2 e3 e4 e6 e7 e8 e10 k1 k2 k3 k4 k6 k7 k8 k10) : FnOk P w K mg base CX0 (k + 2) f fd ["self", "sign"] (spNm C mGr tGr) := by
  have G8 : FnOk P w K mg base CX0 (k + 1) e8 k8 ["self", "sign", "scale", "tail"] (spWordOf C) := ok_wordOf W
  have G6 : FnOk P w K mg base CX0 (k + 1) e6 k6 ["self"] (spTop C) := ok_top W
  refine F.ok sc_Form_greatest (fun vs H Q E h => ?_) (fun cdv A outer s H vs Q E hr h => ?_)
  · obtain ⟨x, sc, tl, v, rfl, _⟩ := h
    rfl
  obtain ⟨x, sc, tl, g, rfl, hF, hg, q⟩ := h
  obtain ⟨dx, hx, h1, h2, h3, h4⟩ := id hF
  have pS : (2 : Int) ^ 2 ≤ 2 ^ sc := GM.pow_le' h1
  have pT := GM.pow_pos' tl
  refine ⟨_, (pss_one (ps_ret (pe_meth (pv 0) W.T.cl W.M8 G8 hr W.b8 .nil pass0 (pa_cons (pv 1) (pa_cons (pe_op op_sub (pe_meth0 (pv 0) W.T.cl W.M6 G6 hr W.b6 .nil pass0) pe_int) (pa_cons (pe_op op_sub (pe_op op_oneShl pe_int (pe_fld (pv 0) rfl)) pe_int) pa_nil)))))), ?_⟩
  refine ⟨_, rfl, x, dx, _, rfl, hx, rfl, _, rfl, _, rfl, x, dx, _, rfl, hx, rfl, x, sc, tl, rfl, hF, _, _, rfl, rfl, ?_⟩
  exact ⟨_, rfl, x, C, dx, _, _, rfl, hx, W.T.cl, W.T.nt, fl_t _ _, tl, rfl, rfl, by omega, _, _, rfl, rfl, x, sc, tl, _, _, _, rfl, hF, hg, by omega, by omega, by omega, by omega, q⟩
theorem ok_least {f : Addr} {fd : FuncData} {k : Nat} (F : FunA K "least_plain" "Form.least_plain" s_Form_least_plain f fd) (W : PF K mg C e1 e2 e3 e4 e6 e7 e8 e10 k1 k2 k3 k4 k6 k7 k8 k10) : FnOk P w K mg base CX0 (k + 2) f fd ["self", "sign"] (spNm C mLp mNo) := by
  have G8 : FnOk P w K mg base CX0 (k + 1) e8 k8 ["self", "sign", "scale", "tail"] (spWordOf C) := ok_wordOf W
  refine F.ok sc_Form_least_plain (fun vs H Q E h => ?_) (fun cdv A outer s H vs Q E hr h => ?_)
  · obtain ⟨x, sc, tl, v, rfl, _⟩ := h
    rfl
  obtain ⟨x, sc, tl, g, rfl, hF, hg, q⟩ := h
  obtain ⟨dx, hx, h1, h2, h3, h4⟩ := id hF
  have pS : (2 : Int) ^ 2 ≤ 2 ^ sc := GM.pow_le' h1
  have pT := GM.pow_pos' tl
  refine ⟨_, (pss_one (ps_ret (pe_meth (pv 0) W.T.cl W.M8 G8 hr W.b8 .nil pass0 (pa_cons (pv 1) (pa_cons pe_int (pa_cons pe_int pa_nil)))))), ?_⟩
  exact ⟨_, rfl, x, dx, _, rfl, hx, rfl, _, rfl, x, sc, tl, _, _, _, rfl, hF, hg, by decide, by omega, by decide, pT, q⟩
def spNone (C : Addr) : Sp := fun vs H Q _ => ∃ (x : Addr) (sc tl : Nat), vs = [.ref x] ∧ FAt C H x sc tl ∧ Q (.int (nv sc tl 0 (2 ^ sc - 1) (2 ^ (tl - 1)))) H
theorem ok_noneW {f : Addr} {fd : FuncData} {k : Nat} (F : Fun K "none_word" "Form.none_word" s_Form_none_word f fd) (W : PF K mg C e1 e2 e3 e4 e6 e7 e8 e10 k1 k2 k3 k4 k6 k7 k8 k10) : FnOk P w K mg base CX0 (k + 2) f fd ["self"] (spNone C) := by
  have G8 : FnOk P w K mg base CX0 (k + 1) e8 k8 ["self", "sign", "scale", "tail"] (spWordOf C) := ok_wordOf W
  have G6 : FnOk P w K mg base CX0 (k + 1) e6 k6 ["self"] (spTop C) := ok_top W
  refine F.ok sc_Form_none_word (fun vs H Q E h => ?_) (fun cdv A outer s H vs Q E hr h => ?_)
  · obtain ⟨x, sc, tl, rfl, _⟩ := h
    rfl
  obtain ⟨x, sc, tl, rfl, hF, q⟩ := h
  obtain ⟨dx, hx, h1, h2, h3, h4⟩ := id hF
  have pS := GM.pow_pos' sc
  have pT := GM.pow_pos' tl
  have pT1 := GM.pow_pos' (tl - 1)
  have pTT : (2 : Int) ^ tl = 2 ^ (tl - 1) * 2 := by rw [← GM.pow_s]; congr 1; omega
  refine ⟨_, (pss_one (ps_ret (pe_meth (pv 0) W.T.cl W.M8 G8 hr W.b8 .nil pass0 (pa_cons pe_int (pa_cons (pe_meth0 (pv 0) W.T.cl W.M6 G6 hr W.b6 .nil pass0) (pa_cons (pe_op op_oneShl pe_int (pe_op op_sub (pe_fld (pv 0) rfl) pe_int)) pa_nil)))))), ?_⟩
  exact ⟨_, rfl, x, dx, _, rfl, hx, rfl, _, rfl, x, dx, _, rfl, hx, rfl, x, sc, tl, rfl, hF, _, rfl, x, C, dx, _, _, rfl, hx, W.T.cl, W.T.nt, fl_t _ _, _, _, rfl, rfl, tl - 1, rfl, congrArg V.int (by omega), by omega, x, sc, tl, _, _, _, rfl, hF, .inl rfl, by omega, by omega, by omega, by omega, q⟩
/-! ### worth -/
theorem if_ev {t : TT} {ta tb : TE} {σ : L2.St} {H : Hp} {Q : VK} (R : V → Hp → Prop) (h : ∀ Q : VK, (∀ z H', R z H' → Q z H') → tIf t ta tb σ H Q) (q : ∀ z H', R z H' → Q z H') : tIf t ta tb σ H Q := h Q q
def WorthQ (H : Hp) (Q : VK) (sc tl : Nat) (v : Int) : Prop := (∀ H', Same H H' → GM.topS sc tl ≤ sz sc tl v → Q .non H') ∧ ∀ H' p, Same H H' → ¬ GM.topS sc tl ≤ sz sc tl v → H' p = some (.tup [.int (wn sc tl v), .int (wp sc tl v)]) → Q (.ref p) H'
def spWorth (C : Addr) : Sp := fun vs H Q _ => ∃ (x : Addr) (sc tl : Nat) (v : Int), vs = [.ref x, .int v] ∧ FAt C H x sc tl ∧ WorthQ H Q sc tl v
theorem ok_worth {f : Addr} {fd : FuncData} {k : Nat} (F : Fun K "worth" "Form.worth" s_Form_worth f fd) (W : PF K mg C e1 e2 e3 e4 e6 e7 e8 e10 k1 k2 k3 k4 k6 k7 k8 k10) (B : Bl mg) : FnOk P w K mg base CX0 (k + 3) f fd ["self", "word"] (spWorth C) := by
  have G7 : FnOk P w K mg base CX0 (k + 2) e7 k7 ["self", "word"] (spParts C) := ok_parts W
  have G6 : FnOk P w K mg base CX0 (k + 2) e6 k6 ["self"] (spTop C) := ok_top W
  have G4 : FnOk P w K mg base CX0 (k + 2) e4 k4 ["self"] (spBias C) := ok_bias W
  refine F.ok sc_Form_worth (fun vs H Q E h => ?_) (fun cdv A outer s H vs Q E hr h => ?_)
  · obtain ⟨x, sc, tl, v, rfl, _⟩ := h
    rfl
  obtain ⟨x, sc, tl, v, rfl, hF, qn, qt⟩ := h
  obtain ⟨dx, hx, h1, h2, h3, h4⟩ := id hF
  refine ⟨_, (pss_cons (ps_asg (pe_meth (pv 0) W.T.cl W.M7 G7 hr W.b7 .nil pass0 (pa_cons (pv 1) pa_nil)) (pg_tup (by rfl) (pgs_cons (pg_name (i := 2) sc_Form_worth.nd rfl (.inl rfl)) (pgs_cons (pg_name (i := 3) sc_Form_worth.nd rfl (.inl rfl)) (pgs_cons (pg_name (i := 4) sc_Form_worth.nd rfl (.inl rfl)) pgs_nil)))))
    (pss_cons (ps_if (pt_cmpR op_eq (pv 3) (pe_meth0 (pv 0) W.T.cl W.M6 G6 hr W.b6 .nil pass0) (nomark _)) (pss_one (ps_ret pe_non)) pss_nil)
    (pss_cons (ps_set (i := 5) sc_Form_worth.nd rfl (.inl rfl) (pe_ifExp (pt_cmpR op_eq (pv 3) pe_int (nomark _)) (pv 4) (pe_op op_add (pe_op op_oneShl pe_int (pe_fld (pv 0) rfl)) (pv 4))))
    (pss_cons (ps_set (i := 6) sc_Form_worth.nd rfl (.inl rfl) (pe_op op_sub (pe_op op_sub (pe_callB (call_max2 rfl) (by rfl) B.max boot_max (pa_cons (pv 3) (pa_cons pe_int pa_nil))) (pe_meth0 (pv 0) W.T.cl W.M4 G4 hr W.b4 .nil pass0)) (pe_fld (pv 0) rfl)))
    (pss_one (ps_ret (pe_tup (pa_cons (pe_ifExp (pt_cmpR op_eq (pv 2) pe_int (nomark _)) (pe_un un_neg (pv 5)) (pv 5)) (pa_cons (pv 6) pa_nil))))))))), ?_⟩
  refine ⟨_, rfl, x, dx, _, rfl, hx, rfl, _, rfl, x, sc, tl, v, rfl, hF, fun p np => ?_⟩
  have sp := same_upd (o := .tup [.int (GM.sgn sc tl v), .int (GM.scl sc tl v), .int (GM.tlp tl v)]) np
  refine ⟨p, _, rfl, .inl (.inl upd_same), rfl, _, _, rfl, _, _, rfl, _, _, rfl, rfl, ?_⟩
  have hs := GM.scl_nn sc tl v
  refine ⟨_, rfl, _, rfl, x, dx, _, rfl, sp _ _ hx, rfl, x, sc, tl, rfl, hF.same sp, rfl, _, rfl, ite2 (fun c => ?_) (fun c => ?_)⟩
  · have c1 : GM.scl sc tl v = 2 ^ sc - 1 := V.int.inj (of_decide_eq_true c)
    exact qn _ sp ((top_iff sc tl v).mpr c1)
  have c1 : ¬ GM.scl sc tl v = 2 ^ sc - 1 := fun z => c (decide_eq_true (by rw [z]))
  have c2 : ¬ GM.topS sc tl ≤ sz sc tl v := fun z => c1 ((top_iff sc tl v).mp z)
  try dsimp only [tNext, tSeq, tAsg]
  refine if_ev (fun z H' => z = .int (GM.num tl (sz sc tl v)) ∧ H' = upd H p (.tup [.int (GM.sgn sc tl v), .int (GM.scl sc tl v), .int (GM.tlp tl v)])) (fun Q' q' => ?_) ?_
  · refine ⟨_, rfl, rfl, _, rfl, ite2 (fun d => ?_) (fun d => ?_)⟩
    · have d1 : GM.scl sc tl v = 0 := V.int.inj (of_decide_eq_true d)
      refine ⟨_, rfl, q' _ _ ⟨congrArg V.int ?_, rfl⟩⟩
      unfold GM.num
      rw [sz_div, sz_mod, if_pos d1]
    · have d1 : ¬ GM.scl sc tl v = 0 := fun z => d (decide_eq_true (by rw [z]))
      refine ⟨_, rfl, x, C, dx, _, _, rfl, sp _ _ hx, W.T.cl, W.T.nt, fl_t _ _, tl, rfl, rfl, by omega, _, rfl, _, _, rfl, rfl, q' _ _ ⟨congrArg V.int ?_, rfl⟩⟩
      unfold GM.num
      rw [sz_div, sz_mod, if_neg d1]
  rintro z H' ⟨rfl, rfl⟩
  refine ⟨_, rfl, _, _, rfl, _, rfl, x, dx, _, rfl, sp _ _ hx, rfl, x, sc, tl, rfl, hF.same sp, _, _, rfl, rfl, _, rfl, x, C, dx, _, _, rfl, sp _ _ hx, W.T.cl, W.T.nt, fl_t _ _, _, _, rfl, rfl, ?_⟩
  have ep : (if (1 : Int) > GM.scl sc tl v then 1 else GM.scl sc tl v) - (2 ^ (sc - 1) - 1) - (tl : Int) = wp sc tl v := by
    unfold wp P0 GM.ex
    rw [sz_div]
    split <;> omega
  dsimp only
  rw [ep]
  try dsimp only [gName, tRet, tTup, tCons]
  refine if_ev (fun z H' => z = .int (wn sc tl v) ∧ H' = upd H p (.tup [.int (GM.sgn sc tl v), .int (GM.scl sc tl v), .int (GM.tlp tl v)])) (fun Q' q' => ?_) ?_
  · refine ⟨_, rfl, rfl, _, rfl, ite2 (fun d => ?_) (fun d => ?_)⟩
    · have d1 : GM.sgn sc tl v = 1 := V.int.inj (of_decide_eq_true d)
      refine ⟨_, rfl, _, rfl, q' _ _ ⟨congrArg V.int ?_, rfl⟩⟩
      unfold wn
      rw [if_pos d1]
    · have d1 : ¬ GM.sgn sc tl v = 1 := fun z => d (decide_eq_true (by rw [z]))
      refine ⟨_, rfl, q' _ _ ⟨congrArg V.int ?_, rfl⟩⟩
      unfold wn
      rw [if_neg d1]
  rintro z H' ⟨rfl, rfl⟩
  refine ⟨_, rfl, (by show 2 ≤ sizeLine; decide), fun t nt => ?_⟩
  exact qt _ t (sp.trans (same_upd nt)) c2 upd_same
end
section
variable {P : Program} {w : World} {K : PySem.W.Frag} {mg : Str → Option Value} {base : Heap} {C : Addr}
variable {e1 e2 e3 e4 e6 e7 e8 e10 : Addr} {k1 k2 k3 k4 k6 k7 k8 k10 : FuncData}
/-! ### worth_text -/
def tS (i : Int) : Str := Str.ofString (toString i)
def ah (sc tl : Nat) (v : Int) : Str := if GM.sgn sc tl v = 1 then "-" else ""
/-- the text of a word -/
def TX (sc tl : Nat) (v : Int) (s : Str) : Prop :=
  (GM.topS sc tl < sz sc tl v ∧ s = "none") ∨ (sz sc tl v = GM.topS sc tl ∧ s = ah sc tl v ++ "endless") ∨ (sz sc tl v = 0 ∧ s = ah sc tl v ++ "0") ∨
  (sz sc tl v ≠ 0 ∧ sz sc tl v < GM.topS sc tl ∧ ∃ m q : Int, GM.Od (GM.num tl (sz sc tl v)) (wp sc tl v) m q ∧ s = ah sc tl v ++ (tS m ++ ("*2^" ++ tS q)))
theorem ofString_app (a b : String) : Str.ofString (a ++ b) = Str.ofString a ++ Str.ofString b := by
  apply TL.ext_tl
  rw [TL.tl_append, TL.tl_ofString, TL.tl_ofString, TL.tl_ofString, String.toList_append, List.map_append]
theorem emp_app (a : Str) : Str.empty ++ a = a := by
  apply TL.ext_tl
  rw [TL.tl_append]
  rfl
theorem app_assoc (a b c : Str) : (a ++ b) ++ c = a ++ (b ++ c) := by
  apply TL.ext_tl
  rw [TL.tl_append, TL.tl_append, TL.tl_append, TL.tl_append, List.append_assoc]
theorem len_app (a b : Str) : (a ++ b).length = a.length + b.length := by
  have h : ∀ z : Str, z.length = (TL.tl z).length := fun z => (Array.length_toList (xs := z.cps)).symm
  rw [h, h a, h b, TL.tl_append, List.length_append]
theorem neg_text {m : Int} (h : 0 < m) : tS (-m) = ("-" : Str) ++ tS m := by
  obtain ⟨n, rfl⟩ : ∃ n : Nat, m = ((n + 1 : Nat) : Int) := ⟨m.toNat - 1, by omega⟩
  have e : toString (-((n + 1 : Nat) : Int)) = "-" ++ toString (((n + 1 : Nat)) : Int) := rfl
  unfold tS
  rw [e]
  exact ofString_app _ _
def spWT (C : Addr) : Sp := fun vs H Q _ => ∃ (x : Addr) (sc tl : Nat) (v : Int), vs = [.ref x, .int v] ∧ FAt C H x sc tl ∧ ∀ H' s, Same H H' → TX sc tl v s → Q (.str s) H'
theorem num_pos {sc tl : Nat} {v : Int} (h : sz sc tl v ≠ 0) : 0 < GM.num tl (sz sc tl v) := by
  have hs := GM.scl_nn sc tl v
  have ht := GM.tlp_nn tl v
  have hp := GM.pow_pos' tl
  have e : GM.scl sc tl v * 2 ^ tl + GM.tlp tl v = sz sc tl v := GM.scl_tlp sc tl v
  unfold GM.num
  rw [sz_div, sz_mod]
  split
  · rename_i z
    rw [z, Int.zero_mul] at e
    omega
  · omega
theorem num_lt25 {sc tl : Nat} {v : Int} (h : tl ≤ 24) : GM.num tl (sz sc tl v) < 2 ^ 25 := by
  have ht := GM.tlp_nn tl v
  have h24 : (2 : Int) ^ tl ≤ 2 ^ 24 := GM.pow_le' h
  unfold GM.num
  rw [sz_div, sz_mod]
  split <;> omega
theorem wp_small {sc tl : Nat} {v : Int} (hs : sc ≤ 8) (h : tl ≤ 24) : (wp sc tl v).natAbs < 2 ^ 10 := by
  have h8 : (2 : Int) ^ (sc - 1) ≤ 2 ^ 7 := GM.pow_le' (by omega)
  have hp := GM.pow_pos' (sc - 1)
  have hc := GM.scl_nn sc tl v
  have h9 : (2 : Int) ^ sc ≤ 2 ^ 8 := GM.pow_le' hs
  unfold wp P0 GM.ex
  rw [sz_div]
  omega
theorem srt_nought {m t : Nat} {s : Int} (h : ¬ GM.topS m t ≤ s) : srt m t s = "nought" ↔ s = 0 := by
  unfold srt
  rw [if_neg h]
  constructor
  · intro q
    by_cases e : s = 0
    · exact e
    · rw [if_neg e] at q
      by_cases e2 : s / 2 ^ t = 0
      · rw [if_pos e2] at q
        exact absurd q (by decide +kernel)
      · rw [if_neg e2] at q
        exact absurd q (by decide +kernel)
  · intro q
    rw [if_pos q]
theorem txt_len {i : Int} (h : i.natAbs < 2 ^ 25) : (tS i).length ≤ 100 := by
  have h1 : i.natAbs.log2 < 25 := by
    by_cases c : i.natAbs = 0
    · rw [c]; decide
    · exact (Nat.log2_lt c).mpr h
  have h2 := int_text_length_le (a := i) (k := 25) (by decide) h1
  have h3 : (tS i).length = (toString i).length := by
    show (Str.ofString (toString i)).cps.size = _
    rw [← Array.length_toList, signs_ofString, List.length_map]
    rfl
  omega
theorem log_small {i : Int} (h : i.natAbs < 2 ^ 100) : i.natAbs.log2 < 1920 := by
  by_cases c : i.natAbs = 0
  · rw [c]; decide
  · have := (Nat.log2_lt c).mpr h
    omega
theorem ok_wt {f g1 g2 : Addr} {fd d1 d2 : FuncData} {k : Nat} (F : Fun K "worth_text" "worth_text" s_worth_text f fd) (FS : Fun K "sort_of" "Form.sort_of" s_Form_sort_of g1 d1) (bS : Binds K d1 ["self", "word"] []) (MS : Meth K C "sort_of" g1)
    (FW : Fun K "worth" "Form.worth" s_Form_worth g2 d2) (bW : Binds K d2 ["self", "word"] []) (MW : Meth K C "worth" g2) (W : PF K mg C e1 e2 e3 e4 e6 e7 e8 e10 k1 k2 k3 k4 k6 k7 k8 k10) (B : Bl mg) : FnOk P w K mg base CX0 (k + 4) f fd ["form", "word"] (spWT C) := by
  have GS : FnOk P w K mg base CX0 (k + 3) g1 d1 ["self", "word"] (spSort C) := ok_sort FS W
  have GW : FnOk P w K mg base CX0 (k + 3) g2 d2 ["self", "word"] (spWorth C) := ok_worth FW W B
  have G7 : FnOk P w K mg base CX0 (k + 3) e7 k7 ["self", "word"] (spParts C) := ok_parts W
  refine F.ok sc_worth_text (fun vs H Q E h => ?_) (fun cdv A outer s H vs Q E hr h => ?_)
  · obtain ⟨x, sc, tl, v, rfl, _⟩ := h
    rfl
  obtain ⟨x, sc, tl, v, rfl, hF, q⟩ := h
  obtain ⟨dx, hx, h1, h2, h3, h4⟩ := id hF
  refine ⟨_, (pss_cons (ps_set (i := 2) sc_worth_text.nd rfl (.inl rfl) (pe_meth (pv 0) W.T.cl MS GS hr bS .nil pass0 (pa_cons (pv 1) pa_nil)))
    (pss_cons (ps_if (pt_cmpR op_eq (pv 2) pe_str (nomark _)) (pss_one (ps_ret pe_str)) pss_nil)
    (pss_cons (ps_set (i := 3) sc_worth_text.nd rfl (.inl rfl) (pe_ifExp (pt_cmpR op_eq (pe_ix ix_tup (pe_meth (pv 0) W.T.cl W.M7 G7 hr W.b7 .nil pass0 (pa_cons (pv 1) pa_nil)) pe_int (fun _ _ => rfl)) pe_int (nomark _)) pe_str pe_str))
    (pss_cons (ps_if (pt_cmpR op_eq (pv 2) pe_str (nomark _)) (pss_one (ps_ret (pe_joined (.cons (pe_fmt (pv 3)) (.cons pe_str .nil))))) pss_nil)
    (pss_cons (ps_if (pt_cmpR op_eq (pv 2) pe_str (nomark _)) (pss_one (ps_ret (pe_joined (.cons (pe_fmt (pv 3)) (.cons pe_str .nil))))) pss_nil)
    (pss_cons (ps_asg (pe_meth (pv 0) W.T.cl MW GW hr bW .nil pass0 (pa_cons (pv 1) pa_nil)) (pg_tup (by rfl) (pgs_cons (pg_name (i := 4) sc_worth_text.nd rfl (.inl rfl)) (pgs_cons (pg_name (i := 5) sc_worth_text.nd rfl (.inl rfl)) pgs_nil))))
    (pss_cons (ps_while PassesOwn.never (pt_cmpR op_eq (pe_op op_mod (pv 4) pe_int) pe_int (nomark _)) (pss_cons (ps_aug (i := 4) sc_worth_text.nd rfl (.inl rfl) pe_int iop_fdiv)
    (pss_one (ps_aug (i := 5) sc_worth_text.nd rfl (.inl rfl) pe_int iop_add))))
    (pss_one (ps_ret (pe_joined (.cons (pe_fmt (pv 4)) (.cons pe_str (.cons (pe_fmt (pv 5)) .nil))))))))))))), ?_⟩
  refine ⟨_, rfl, x, dx, _, rfl, hx, rfl, _, rfl, x, sc, tl, v, rfl, hF, fun H1 s1 => ?_⟩
  refine ⟨_, rfl, rfl, _, rfl, ite2 (fun c => ?_) (fun c => ?_)⟩
  · have c1 := (srt_none sc tl _).mp (V.str.inj (of_decide_eq_true c))
    exact q _ _ s1 (.inl ⟨c1, rfl⟩)
  have c1 : ¬ GM.topS sc tl < sz sc tl v := fun z => c (decide_eq_true (by rw [(srt_none sc tl _).mpr z]))
  -- ahead
  try dsimp only [tNext, tSeq, tAsg]
  refine if_ev (fun z H' => z = .str (ah sc tl v) ∧ Same H H') (fun Q' q' => ?_) ?_
  · refine ⟨_, rfl, x, dx, _, rfl, s1 _ _ hx, rfl, _, rfl, x, sc, tl, v, rfl, hF.same s1, fun p np => ?_⟩
    have sp := same_upd (o := .tup [.int (GM.sgn sc tl v), .int (GM.scl sc tl v), .int (GM.tlp tl v)]) np
    refine ⟨p, _, _, _, rfl, rfl, .inl (.inl upd_same), rfl, rfl, _, rfl, ite2 (fun d => ?_) (fun d => ?_)⟩
    · have d1 : GM.sgn sc tl v = 1 := V.int.inj (of_decide_eq_true d)
      exact q' _ _ ⟨congrArg V.str (if_pos d1).symm, s1.trans sp⟩
    · have d1 : ¬ GM.sgn sc tl v = 1 := fun z => d (decide_eq_true (by rw [z]))
      exact q' _ _ ⟨congrArg V.str (if_neg d1).symm, s1.trans sp⟩
  rintro z H2 ⟨rfl, s2⟩
  have al : (ah sc tl v).length ≤ 1 := by
    unfold ah
    split <;> decide
  refine ⟨_, rfl, rfl, _, rfl, ite2 (fun d => ?_) (fun d => ?_)⟩
  · have d1 := (srt_endless c1).mp (V.str.inj (of_decide_eq_true d))
    refine ⟨_, rfl, .inl ⟨_, rfl, Nat.le_of_lt (small1000 (by omega)), _, rfl, ?_, _, rfl, ?_, ?_⟩⟩
    · rw [emp_app]
      exact Nat.le_of_lt (small1000 (by omega))
    · rw [emp_app, len_app]
      exact Nat.le_of_lt (small1000 (by have : ("endless" : Str).length = 7 := rfl; omega))
    · rw [emp_app]
      exact q _ _ s2 (.inr (.inl ⟨d1, rfl⟩))
  have d1 : ¬ sz sc tl v = GM.topS sc tl := fun z => d (decide_eq_true (by rw [(srt_endless c1).mpr z]))
  have dt : ¬ GM.topS sc tl ≤ sz sc tl v := by omega
  refine ⟨_, rfl, rfl, _, rfl, ite2 (fun f => ?_) (fun f => ?_)⟩
  · have f1 : sz sc tl v = 0 := (srt_nought dt).mp (V.str.inj (of_decide_eq_true f))
    refine ⟨_, rfl, .inl ⟨_, rfl, Nat.le_of_lt (small1000 (by omega)), _, rfl, ?_, _, rfl, ?_, ?_⟩⟩
    · rw [emp_app]
      exact Nat.le_of_lt (small1000 (by omega))
    · rw [emp_app, len_app]
      exact Nat.le_of_lt (small1000 (by have : ("0" : Str).length = 1 := rfl; omega))
    · rw [emp_app]
      exact q _ _ s2 (.inr (.inr (.inl ⟨f1, rfl⟩)))
  have f1 : ¬ sz sc tl v = 0 := fun z => f (decide_eq_true (by rw [(srt_nought dt).mpr z]))
  refine ⟨_, rfl, x, dx, _, rfl, s2 _ _ hx, rfl, _, rfl, x, sc, tl, v, rfl, hF.same s2, fun _ _ z => absurd z dt, fun H3 p s3 _ ep => ?_⟩
  refine ⟨p, _, rfl, .inl (.inl ep), rfl, _, _, rfl, _, _, rfl, rfl, ?_⟩
  have np := num_pos f1
  have wn0 : wn sc tl v ≠ 0 := by
    unfold wn
    split <;> omega
  have wnb : (wn sc tl v).natAbs < 2 ^ 25 := by
    have := num_lt25 (sc := sc) (v := v) h4
    unfold wn
    split <;> omega
  refine while_by (fun σ H4 => ∃ n p' : Int, σ = [some (.ref x), some (.int v), some (.str (srt sc tl (sz sc tl v))), some (.str (ah sc tl v)), some (.int n), some (.int p')] ∧ H4 = H3 ∧ n ≠ 0 ∧ ∀ m q, GM.Od n p' m q → GM.Od (wn sc tl v) (wp sc tl v) m q)
    (fun (σ : L2.St) (_ : Hp) => match σ[4]? with | some (some (V.int n)) => n.natAbs | _ => 0) ⟨_, _, rfl, rfl, wn0, fun _ _ z => z⟩ ?_ ?_
  · rintro σ H4 ⟨n, p', rfl, rfl, n0, hod⟩
    refine ⟨_, rfl, _, _, rfl, rfl, (by show (0 : Int) < 2; decide), rfl, _, rfl, ite2 (fun g => ?_) (fun g => ?_)⟩
    · have g1 : n % 2 = 0 := V.int.inj (of_decide_eq_true g)
      refine ⟨_, rfl, _, _, rfl, rfl, ⟨by decide, by decide⟩, _, rfl, _, _, rfl, rfl, ⟨_, _, rfl, rfl, by omega, fun m q z => hod m q (GM.od_step g1 z)⟩, ?_⟩
      show (n / 2).natAbs < n.natAbs
      omega
    · have g1 : n % 2 = 1 := by
        have : ¬ n % 2 = 0 := fun z => g (decide_eq_true (show V.int (n % 2) = V.int 0 by rw [z]))
        omega
      have ho := hod n p' (GM.od_done g1)
      have nb := GM.od_abs ho
      have qb := GM.od_q ho wn0 wnb
      have pb := wp_small (sc := sc) (tl := tl) (v := v) h2 h4
      have ln : n.natAbs.log2 < 1920 := log_small (Nat.lt_of_lt_of_le (show n.natAbs < 2 ^ 25 by omega) (by decide))
      have lp : p'.natAbs.log2 < 1920 := log_small (Nat.lt_of_lt_of_le (show p'.natAbs < 2 ^ 25 by omega) (by decide))
      have tn : (tS n).length ≤ 100 := txt_len (show n.natAbs < 2 ^ 25 by omega)
      have tp : (tS p').length ≤ 100 := txt_len (show p'.natAbs < 2 ^ 25 by omega)
      have ls : ("*2^" : Str).length = 3 := rfl
      refine ⟨_, rfl, .inr ⟨n, rfl, ln, _, rfl, ?_, _, rfl, ?_, _, rfl, .inr ⟨p', rfl, lp, _, rfl, ?_, ?_⟩⟩⟩
      · rw [emp_app]
        exact Nat.le_of_lt (small1000 (by have h : (Str.ofString (toString n)).length ≤ 100 := tn; omega))
      · rw [emp_app, len_app]
        exact Nat.le_of_lt (small1000 (by have h : (Str.ofString (toString n)).length ≤ 100 := tn; omega))
      · rw [emp_app, len_app, len_app]
        exact Nat.le_of_lt (small1000 (by have h : (Str.ofString (toString n)).length ≤ 100 := tn; have h' : (Str.ofString (toString p')).length ≤ 100 := tp; omega))
      · rw [emp_app, app_assoc]
        refine q _ _ (s2.trans s3) (.inr (.inr (.inr ⟨f1, by omega, ?_⟩)))
        by_cases hs : GM.sgn sc tl v = 1
        · have e1 : ah sc tl v = "-" := if_pos hs
          have e2 : wn sc tl v = -(GM.num tl (sz sc tl v)) := if_pos hs
          have ho2 : GM.Od (GM.num tl (sz sc tl v)) (wp sc tl v) (-n) p' := by
            have := GM.od_neg ho
            rw [e2, Int.neg_neg] at this
            exact this
          have np2 := GM.od_pos ho2 np
          refine ⟨-n, p', ho2, ?_⟩
          have e3 := neg_text np2
          rw [Int.neg_neg] at e3
          rw [e1]
          exact (congrArg (fun z => z ++ (("*2^" : Str) ++ tS p')) e3).trans (app_assoc _ _ _)
        · have e1 : ah sc tl v = "" := if_neg hs
          have e2 : wn sc tl v = GM.num tl (sz sc tl v) := if_neg hs
          rw [e2] at ho
          refine ⟨n, p', ho, ?_⟩
          rw [e1]
          exact (emp_app _).symm
  · rintro σ H4 Q1 Q2 hq ⟨a, ha, i, j, e1, e2, hc, hs, k, hk, q⟩
    exact ⟨a, ha, i, j, e1, e2, hc, hs, k, hk, hq _ _ q⟩
end
section
variable {P : Program} {w : World} {K : PySem.W.Frag} {mg : Str → Option Value} {base : Heap}
/-! ### the law's own sort, worth and look -/
def spSortL : Sp := fun vs H Q _ => ∃ (v : Int) (sc tl : Nat), vs = [.int v, .int (sc : Int), .int (tl : Int)] ∧ sc ≤ 8 ∧ tl ≤ 24 ∧ Q (.str (srt sc tl (sz sc tl v))) H
theorem ok_sortL {f : Addr} {fd : FuncData} {k : Nat} (F : Fun K "_law_sort" "_law_sort" s__law_sort f fd) : FnOk P w K mg base CX0 (k + 1) f fd ["_law_word_here", "_law_scale", "_law_tail"] spSortL := by
  refine F.ok sc__law_sort (fun vs H Q E h => ?_) (fun cdv A outer s H vs Q E hr h => ?_)
  · obtain ⟨v, sc, tl, rfl, _⟩ := h
    rfl
  obtain ⟨v, sc, tl, rfl, h1, h2, q⟩ := h
  refine ⟨_, (pss_cons (ps_par (by rfl) sc__law_sort.nd (i := 3) (j := 4) rfl rfl (by decide) rfl rfl (pa_cons (pe_op op_andM (pv 0) (pe_op op_sub (pe_op op_oneShl pe_int (pe_op op_add (pv 1) (pv 2))) pe_int)) (pa_cons (pe_op op_shlN (pe_op op_sub (pe_op op_oneShl pe_int (pv 1)) pe_int) (pv 2)) pa_nil)) (by rfl))
    (pss_cons (ps_if (pt_cmpR op_ge (pv 3) (pv 4) (nomark _)) (pss_one (ps_ret (pe_ifExp (pt_cmpR op_eq (pv 3) (pv 4) (nomark _)) pe_str pe_str))) pss_nil)
    (pss_one (ps_ret (pe_ifExp (pt_cmpR op_eq (pv 3) pe_int (nomark _)) pe_str (pe_ifExp (pt_cmpR op_eq (pe_op op_shrN (pv 3) (pv 2)) pe_int (nomark _)) pe_str pe_str)))))), ?_⟩
  have p8 : (2 : Int) ^ sc ≤ 2 ^ 8 := GM.pow_le' h1
  have pS := GM.pow_pos' sc
  refine ⟨_, rfl, _, rfl, _, rfl, _, _, rfl, rfl, sc + tl, rfl, rfl, by omega, _, _, rfl, rfl, _, sc + tl, rfl, rfl, ?_⟩
  refine ⟨_, rfl, sc, rfl, rfl, by omega, _, _, rfl, rfl, _, rfl, _, tl, rfl, rfl, shl_ok (n := 9) (by omega) (by omega), .int (sz sc tl v), .int (GM.topS sc tl), rfl, ?_⟩
  unfold srt at q
  refine ⟨_, rfl, _, rfl, _, _, rfl, rfl, _, rfl, ite2 (fun c => ?_) (fun c => ?_)⟩
  · rw [if_pos (of_decide_eq_true c)] at q
    refine ⟨_, rfl, _, rfl, rfl, _, rfl, ite2 (fun d => ?_) (fun d => ?_)⟩
    · rw [if_pos (V.int.inj (of_decide_eq_true d))] at q
      exact q
    · rw [if_neg (fun z => d (decide_eq_true (by rw [z])))] at q
      exact q
  · rw [if_neg (of_decide_eq_false (Bool.eq_false_iff.mpr c))] at q
    refine ⟨_, rfl, rfl, _, rfl, ite2 (fun d => ?_) (fun d => ?_)⟩
    · rw [if_pos (V.int.inj (of_decide_eq_true d))] at q
      exact q
    · rw [if_neg (fun z => d (decide_eq_true (by rw [z])))] at q
      refine ⟨_, rfl, _, rfl, _, tl, rfl, rfl, rfl, _, rfl, ite2 (fun e => ?_) (fun e => ?_)⟩
      · rw [if_pos (V.int.inj (of_decide_eq_true e))] at q
        exact q
      · rw [if_neg (fun z => e (decide_eq_true (by rw [z])))] at q
        exact q
def spSizeOf : Sp := fun vs H Q _ => ∃ (s : Int) (sc tl : Nat), vs = [.int s, .int (sc : Int), .int (tl : Int)] ∧ 0 ≤ s ∧ 1 ≤ sc ∧ sc ≤ 8 ∧ tl ≤ 24 ∧ ∀ p, H p = none → Q (.ref p) (upd H p (.tup [.int (GM.num tl s), .int (P0 sc tl + (GM.ex tl s : Nat))]))
theorem ok_sizeOf {f : Addr} {fd : FuncData} {k : Nat} (F : Fun K "_law_size_of" "_law_size_of" s__law_size_of f fd) : FnOk P w K mg base CX0 (k + 1) f fd ["_law_size", "_law_scale", "_law_tail"] spSizeOf := by
  refine F.ok sc__law_size_of (fun vs H Q E h => ?_) (fun cdv A outer s H vs Q E hr h => ?_)
  · obtain ⟨s, sc, tl, rfl, _⟩ := h
    rfl
  obtain ⟨s, sc, tl, rfl, h0, h1, h2, h3, q⟩ := h
  refine ⟨_, (pss_cons (ps_par (by rfl) sc__law_size_of.nd (i := 3) (j := 4) rfl rfl (by decide) rfl rfl (pa_cons (pe_op op_shrN (pv 0) (pv 2)) (pa_cons (pe_op op_andM (pv 0) (pe_op op_sub (pe_op op_oneShl pe_int (pv 2)) pe_int)) pa_nil)) (by rfl))
    (pss_cons (ps_set (i := 5) sc__law_size_of.nd rfl (.inl rfl) (pe_op op_sub (pe_op op_oneShl pe_int (pe_op op_sub (pv 1) pe_int)) pe_int))
    (pss_one (ps_ret (pe_ifExp (pt_cmpR op_eq (pv 3) pe_int (nomark _)) (pe_tup (pa_cons (pv 4) (pa_cons (pe_op op_sub (pe_op op_sub pe_int (pv 5)) (pv 2)) pa_nil))) (pe_tup (pa_cons (pe_op op_add (pe_op op_oneShl pe_int (pv 2)) (pv 4)) (pa_cons (pe_op op_sub (pe_op op_sub (pv 3) (pv 5)) (pv 2)) pa_nil)))))))), ?_⟩
  have hd := Int.ediv_nonneg h0 (Int.le_of_lt (GM.pow_pos' tl))
  refine ⟨_, rfl, _, rfl, _, tl, rfl, rfl, _, rfl, _, rfl, tl, rfl, rfl, by omega, _, _, rfl, rfl, _, tl, rfl, rfl, _, _, rfl, ?_⟩
  refine ⟨_, rfl, _, _, rfl, rfl, sc - 1, rfl, congrArg V.int (by omega), by omega, _, _, rfl, rfl, ?_⟩
  refine ⟨_, rfl, rfl, _, rfl, ite2 (fun c => ?_) (fun c => ?_)⟩
  · have c1 : s / 2 ^ tl = 0 := V.int.inj (of_decide_eq_true c)
    refine ⟨_, rfl, _, rfl, _, _, rfl, rfl, _, rfl, _, _, rfl, rfl, (by show 2 ≤ sizeLine; decide), fun p np => ?_⟩
    have e1 : GM.num tl s = s % 2 ^ tl := if_pos c1
    have e2 : P0 sc tl + (GM.ex tl s : Nat) = 1 - (2 ^ (sc - 1) - 1) - (tl : Int) := by
      unfold P0 GM.ex
      rw [c1]
      show _ + ((0 : Nat) : Int) = _
      omega
    have := q p np
    rw [e1, e2] at this
    exact this
  · have c1 : ¬ s / 2 ^ tl = 0 := fun z => c (decide_eq_true (by rw [z]))
    refine ⟨_, rfl, tl, rfl, rfl, by omega, _, rfl, _, _, rfl, rfl, _, rfl, _, rfl, _, _, rfl, rfl, _, rfl, _, _, rfl, rfl, (by show 2 ≤ sizeLine; decide), fun p np => ?_⟩
    have e1 : GM.num tl s = 2 ^ tl + s % 2 ^ tl := if_neg c1
    have e2 : P0 sc tl + (GM.ex tl s : Nat) = s / 2 ^ tl - (2 ^ (sc - 1) - 1) - (tl : Int) := by
      unfold P0 GM.ex
      omega
    have := q p np
    rw [e1, e2] at this
    exact this
theorem sgn_div {sc tl : Nat} {v : Int} (h0 : 0 ≤ v) (h1 : v < 2 ^ (1 + sc + tl)) : v / 2 ^ (sc + tl) = GM.sgn sc tl v := by
  have hp := GM.pow_pos' (sc + tl)
  have e : (2 : Int) ^ (1 + sc + tl) = 2 * 2 ^ (sc + tl) := by rw [Int.mul_comm, ← GM.pow_s]; congr 1; omega
  rw [e] at h1
  have a := Int.ediv_nonneg h0 (Int.le_of_lt hp)
  have b := Int.ediv_lt_of_lt_mul hp h1
  unfold GM.sgn
  omega
theorem sz_nn (sc tl : Nat) (v : Int) : 0 ≤ sz sc tl v := Int.emod_nonneg _ (by have := GM.pow_pos' (sc + tl); omega)
/-! ### the law's text -/
def spTL : Sp := fun vs H Q _ => ∃ (sc tl : Nat) (v : Int), vs = [.int v, .int (sc : Int), .int (tl : Int)] ∧ 2 ≤ sc ∧ sc ≤ 8 ∧ 1 ≤ tl ∧ tl ≤ 24 ∧ 0 ≤ v ∧ v < 2 ^ (1 + sc + tl) ∧ ∀ H' s, Same H H' → TX sc tl v s → Q (.str s) H'
theorem in_three (x a b c : Str) : inV (.str x) [.str a, .str b, .str c] = decide (a = x ∨ b = x ∨ c = x) := by
  show ((a == x) || ((b == x) || ((c == x) || false))) = _
  rw [Bool.or_false, Bool.eq_iff_iff, Bool.or_eq_true, Bool.or_eq_true, beq_iff_eq, beq_iff_eq, beq_iff_eq, decide_eq_true_iff]
def dd (a : Str) : List (Key × V) := mergeK [] [(Sum.inr "none", .str "none"), (Sum.inr "endless", .str (a ++ "endless")), (Sum.inr "nought", .str (a ++ "0"))]
theorem dd_n (a : Str) : valV (dd a) (Sum.inr ("none" : Str)) = some (.str "none") := rfl
theorem dd_e (a : Str) : valV (dd a) (Sum.inr ("endless" : Str)) = some (.str (a ++ "endless")) := rfl
theorem dd_0 (a : Str) : valV (dd a) (Sum.inr ("nought" : Str)) = some (.str (a ++ "0")) := rfl
theorem num_ltT {sc tl : Nat} {v : Int} : GM.num tl (sz sc tl v) < 2 ^ (tl + 1) := by
  have ht := GM.tlp_nn tl v
  have hp := GM.pow_pos' tl
  rw [GM.pow_s]
  unfold GM.num
  rw [sz_div, sz_mod]
  split <;> omega
theorem ok_tl {f g1 g2 : Addr} {fd d1 d2 : FuncData} {k : Nat} (F : Fun K "_law_text" "_law_text" s__law_text f fd) (F1 : Fun K "_law_sort" "_law_sort" s__law_sort g1 d1) (b1 : Binds K d1 ["_law_word_here", "_law_scale", "_law_tail"] []) (m1 : mg "_law_sort" = some (.ref g1))
    (F2 : Fun K "_law_size_of" "_law_size_of" s__law_size_of g2 d2) (b2 : Binds K d2 ["_law_size", "_law_scale", "_law_tail"] []) (m2 : mg "_law_size_of" = some (.ref g2)) (B : Bl mg) : FnOk P w K mg base CX0 (k + 2) f fd ["_law_word_here", "_law_scale", "_law_tail"] spTL := by
  have G1 : FnOk P w K mg base CX0 (k + 1) g1 d1 ["_law_word_here", "_law_scale", "_law_tail"] spSortL := ok_sortL F1
  have G2 : FnOk P w K mg base CX0 (k + 1) g2 d2 ["_law_size", "_law_scale", "_law_tail"] spSizeOf := ok_sizeOf F2
  refine F.ok sc__law_text (fun vs H Q E h => ?_) (fun cdv A outer s H vs Q E hr h => ?_)
  · obtain ⟨sc, tl, v, rfl, _⟩ := h
    rfl
  obtain ⟨sc, tl, v, rfl, h1, h2, h3, h4, v0, v1, q⟩ := h
  refine ⟨_, (pss_cons (ps_par (by rfl) sc__law_text.nd (i := 3) (j := 4) rfl rfl (by decide) rfl rfl (pa_cons (pe_call G1 hr (by rfl) m1 F1.kp b1 .nil pass0 (pa_cons (pv 0) (pa_cons (pv 1) (pa_cons (pv 2) pa_nil)))) (pa_cons (pe_op op_andM (pv 0) (pe_op op_sub (pe_op op_oneShl pe_int (pe_op op_add (pv 1) (pv 2))) pe_int)) pa_nil)) (by rfl))
    (pss_cons (ps_set (i := 5) sc__law_text.nd rfl (.inl rfl) (pe_ix ix_list (pe_lst (pa_cons pe_str (pa_cons pe_str pa_nil))) (pe_op op_shrN (pv 0) (pe_op op_add (pv 1) (pv 2))) (fun _ _ => rfl)))
    (pss_cons (ps_if (pt_cmpR op_in_seq (pv 3) (pe_tup (pa_cons pe_str (pa_cons pe_str (pa_cons pe_str pa_nil)))) (by rfl)) (pss_one (ps_ret (pe_dget (hu_of hr) (pe_disp (pps_cons pe_str pe_str (pps_cons pe_str (pe_op op_add_str (pv 5) pe_str) (pps_cons pe_str (pe_op op_add_str (pv 5) pe_str) pps_nil))) (by rfl) (by rfl) (fun z => by cases z) (by decide)) (pv 3) (fun _ _ => rfl)))) pss_nil)
    (pss_cons (ps_asg (pe_call G2 hr (by rfl) m2 F2.kp b2 .nil pass0 (pa_cons (pv 4) (pa_cons (pv 1) (pa_cons (pv 2) pa_nil)))) (pg_tup (by rfl) (pgs_cons (pg_name (i := 6) sc__law_text.nd rfl (.inl rfl)) (pgs_cons (pg_name (i := 7) sc__law_text.nd rfl (.inl rfl)) pgs_nil))))
    (pss_cons (ps_for PassesOwn.never rfl (pi_range1 (by rfl) B.range (pa_cons (pe_op op_add (pv 2) pe_int) pa_nil)) (pg_name (i := 8) sc__law_text.nd rfl (.inl rfl)) (pss_one (ps_if (pt_cmpR op_eq (pe_op op_mod (pv 6) pe_int) pe_int (nomark _)) (pss_one (ps_par (by rfl) sc__law_text.nd (i := 6) (j := 7) rfl rfl (by decide) rfl rfl (pa_cons (pe_op op_fdiv (pv 6) pe_int) (pa_cons (pe_op op_add (pv 7) pe_int) pa_nil)) (by rfl))) pss_nil)))
    (pss_one (ps_ret (pe_op op_add_str (pe_op op_add_str (pe_op op_add_str (pv 5) (pe_callTy call_str_int (by rfl) B.str PyProof.Rows.boot_str (pa_cons (pv 6) pa_nil))) pe_str) (pe_callTy call_str_int (by rfl) B.str PyProof.Rows.boot_str (pa_cons (pv 7) pa_nil)))))))))), ?_⟩
  refine ⟨_, rfl, _, rfl, _, rfl, v, sc, tl, rfl, h2, h4, _, rfl, _, rfl, _, rfl, _, _, rfl, rfl, sc + tl, rfl, rfl, by omega, _, _, rfl, rfl, _, sc + tl, rfl, rfl, _, .int (sz sc tl v), rfl, ?_⟩
  have es := sgn_div (sc := sc) (tl := tl) v0 v1
  have sg : GM.sgn sc tl v = 0 ∨ GM.sgn sc tl v = 1 := by
    unfold GM.sgn
    omega
  refine ⟨(by show 2 ≤ sizeLine; decide), fun o no => ?_⟩
  have so := same_upd (o := .lst [.str "", .str "-"]) no
  have ha : atI ([.str "", .str "-"] : List V) (v / 2 ^ (sc + tl)) = some (.str (ah sc tl v)) := by
    rw [es]
    unfold ah
    rcases sg with z | z <;> rw [z] <;> rfl
  refine ⟨_, rfl, _, rfl, _, rfl, _, _, rfl, rfl, _, sc + tl, rfl, rfl, o, _, _, _, rfl, rfl, SqL.of upd_same, ha, ?_⟩
  have al : (ah sc tl v).length ≤ 1 := by
    unfold ah
    split <;> decide
  refine ⟨_, rfl, (by show 3 ≤ sizeLine; decide), fun t nt => ?_⟩
  have st := same_upd (o := .tup [.str "none", .str "endless", .str "nought"]) nt
  refine ⟨t, _, rfl, .inr (.inl (.inl upd_same)), rfl, rfl, ?_⟩
  show ∃ k, V.bl (inV (.str (srt sc tl (sz sc tl v))) [.str "none", .str "endless", .str "nought"]) = .bl k ∧ _
  rw [in_three]
  refine ⟨_, rfl, ite2 (fun c => ?_) (fun c => ?_)⟩
  · have c1 := of_decide_eq_true c
    refine fun bd nbd => ?_
    have sb : ∀ kvs, Same H (upd (upd (upd (upd H o (.lst [.str "", .str "-"])) t (.tup [.str "none", .str "endless", .str "nought"])) bd (.dK [])) bd (.dK kvs)) := fun kvs y u e => by
      rw [upd_ne (ne_of_none (st _ _ (so _ _ e)) nbd)]
      exact same_upd nbd _ _ (st _ _ (so _ _ e))
    have le1 : ("endless" : Str).length = 7 := rfl
    have le2 : ("0" : Str).length = 1 := rfl
    refine ⟨_, rfl, _, _, rfl, rfl, Nat.le_of_lt (small1000 (by omega)), _, rfl, _, _, rfl, rfl, Nat.le_of_lt (small1000 (by omega)), upd_same, [(Sum.inr "none", .str "none"), (Sum.inr "endless", .str (ah sc tl v ++ "endless")), (Sum.inr "nought", .str (ah sc tl v ++ "0"))], rfl, (by show 3 ≤ 15; decide), _, rfl, bd, ?_⟩
    by_cases n1 : GM.topS sc tl < sz sc tl v
    · refine ⟨.str "none", rfl, ?_, q _ _ (sb _) (.inl ⟨n1, rfl⟩)⟩
      rw [(srt_none sc tl _).mpr n1, ← dd_n (ah sc tl v)]
      exact DGet.k (k := Sum.inr ("none" : Str)) upd_same
    by_cases n2 : sz sc tl v = GM.topS sc tl
    · refine ⟨.str (ah sc tl v ++ "endless"), rfl, ?_, q _ _ (sb _) (.inr (.inl ⟨n2, rfl⟩))⟩
      rw [(srt_endless n1).mpr n2, ← dd_e (ah sc tl v)]
      exact DGet.k (k := Sum.inr ("endless" : Str)) upd_same
    have n3 : ¬ GM.topS sc tl ≤ sz sc tl v := by omega
    have n4 : sz sc tl v = 0 := by
      rcases c1 with z | z | z
      · exact absurd ((srt_none sc tl _).mp z.symm) n1
      · exact absurd ((srt_endless n1).mp z.symm) n2
      · exact (srt_nought n3).mp z.symm
    refine ⟨.str (ah sc tl v ++ "0"), rfl, ?_, q _ _ (sb _) (.inr (.inr (.inl ⟨n4, rfl⟩)))⟩
    rw [(srt_nought n3).mpr n4, ← dd_0 (ah sc tl v)]
    exact DGet.k (k := Sum.inr ("nought" : Str)) upd_same
  have c1 : ¬ _ := of_decide_eq_false (Bool.eq_false_iff.mpr c)
  have n1 : ¬ GM.topS sc tl < sz sc tl v := fun z => c1 (.inl ((srt_none sc tl _).mpr z).symm)
  have n2 : ¬ sz sc tl v = GM.topS sc tl := fun z => c1 (.inr (.inl ((srt_endless n1).mpr z).symm))
  have n3 : ¬ GM.topS sc tl ≤ sz sc tl v := by omega
  have n4 : ¬ sz sc tl v = 0 := fun z => c1 (.inr (.inr ((srt_nought n3).mpr z).symm))
  refine ⟨_, rfl, _, rfl, _, rfl, _, sc, tl, rfl, sz_nn sc tl v, by omega, h2, h4, fun p np => ?_⟩
  have sp := same_upd (o := .tup [.int (GM.num tl (sz sc tl v)), .int (P0 sc tl + (GM.ex tl (sz sc tl v) : Nat))]) np
  refine ⟨p, _, rfl, .inl (.inl upd_same), rfl, _, _, rfl, _, _, rfl, rfl, ?_⟩
  have npos := num_pos n4
  have nlt := num_ltT (sc := sc) (tl := tl) (v := v)
  have n25 := num_lt25 (sc := sc) (v := v) h4
  refine ⟨_, rfl, _, _, rfl, rfl, ((tl + 1 : Nat) : Int), rfl, by omega, by omega, ?_⟩
  rw [Int.toNat_natCast]
  refine for_range (n := tl + 1) (fun i σ H3 => ∃ (n p' : Int) (y8 : Option V), σ = [some (.int v), some (.int (sc : Int)), some (.int (tl : Int)), some (.str (srt sc tl (sz sc tl v))), some (.int (sz sc tl v)), some (.str (ah sc tl v)), some (.int n), some (.int p'), y8] ∧ Same H H3 ∧ 0 < n ∧ (n % 2 = 1 ∨ n * 2 ^ i ≤ GM.num tl (sz sc tl v)) ∧ ∀ m q, GM.Od n p' m q → GM.Od (GM.num tl (sz sc tl v)) (wp sc tl v) m q)
    ⟨_, _, none, rfl, so.trans (st.trans sp), npos, .inr (by rw [Int.pow_zero, Int.mul_one]; exact Int.le_refl _), fun _ _ z => z⟩ ?_ ?_
  · rintro i σ H3 hi ⟨n, p', y8, rfl, s3, n0, hn, hod⟩
    refine ⟨_, rfl, _, _, rfl, rfl, (by show (0 : Int) < 2; decide), rfl, _, rfl, ite2 (fun g => ?_) (fun g => ?_)⟩
    · have g1 : n % 2 = 0 := V.int.inj (of_decide_eq_true g)
      refine ⟨_, rfl, _, _, rfl, rfl, ⟨by decide, by decide⟩, _, rfl, _, _, rfl, rfl, _, _, rfl, ?_⟩
      refine ⟨n / 2, p' + 1, _, rfl, s3, by omega, .inr ?_, fun m q z => hod m q (GM.od_step g1 z)⟩
      rcases hn with z | z
      · omega
      · rw [GM.pow_s, Int.mul_comm (2 ^ i) 2, ← Int.mul_assoc, show n / 2 * 2 = n by omega]
        exact z
    · have g1 : n % 2 = 1 := by
        have : ¬ n % 2 = 0 := fun z => g (decide_eq_true (show V.int (n % 2) = V.int 0 by rw [z]))
        omega
      exact ⟨n, p', _, rfl, s3, n0, .inl g1, hod⟩
  · rintro σ H3 ⟨n, p', y8, rfl, s3, n0, hn, hod⟩
    have g1 : n % 2 = 1 := by
      rcases hn with z | z
      · exact z
      · have hp := GM.pow_pos' (tl + 1)
        have : 1 * 2 ^ (tl + 1) ≤ n * 2 ^ (tl + 1) := Int.mul_le_mul_of_nonneg_right (by omega) (by omega)
        omega
    have ho := hod n p' (GM.od_done g1)
    have nb := GM.od_abs ho
    have qb := GM.od_q ho (by omega) (by omega)
    have pb := wp_small (sc := sc) (tl := tl) (v := v) h2 h4
    have b1 : n.natAbs < 2 ^ 25 := by omega
    have b2 : p'.natAbs < 2 ^ 25 := by omega
    have ln : n.natAbs.log2 < 1920 := log_small (Nat.lt_of_lt_of_le b1 (by decide))
    have lp : p'.natAbs.log2 < 1920 := log_small (Nat.lt_of_lt_of_le b2 (by decide))
    have tn : (Str.ofString (toString n)).length ≤ 100 := txt_len b1
    have tp : (Str.ofString (toString p')).length ≤ 100 := txt_len b2
    have ls : ("*2^" : Str).length = 3 := rfl
    refine ⟨_, rfl, _, rfl, n, rfl, ln, _, _, rfl, rfl, Nat.le_of_lt (small1000 (by omega)), _, _, rfl, rfl, ?_, _, rfl, p', rfl, lp, _, _, rfl, rfl, ?_, ?_⟩
    · rw [len_app]
      exact Nat.le_of_lt (small1000 (by omega))
    · rw [len_app, len_app]
      exact Nat.le_of_lt (small1000 (by omega))
    · rw [app_assoc, app_assoc]
      exact q _ _ s3 (.inr (.inr (.inr ⟨n4, by omega, n, p', ho, rfl⟩)))
end
section
/-- a method (self, sign=0), as it is bound -/
structure Nm (K : PySem.W.Frag) (C : Addr) (m : Str) (f : Addr) (fd : FuncData) (tk : Tok) : Prop where
  M : Meth K C m f
  b : Binds K fd ["self", "sign"] []
  d : Binds K fd ["self", "sign"] [.int 0 tk]
  kb : KBn K fd ["self", "sign"] 1 ["sign"] (fun us ws => us ++ ws) (fun us ws => us ++ ws)
end
theorem nv_parts {sc tl : Nat} {g m t : Int} (hg : g = 0 ∨ g = 1) (m0 : 0 ≤ m) (m1 : m < 2 ^ sc) (t0 : 0 ≤ t) (t1 : t < 2 ^ tl) : 0 ≤ nv sc tl g m t ∧ nv sc tl g m t < 2 ^ (1 + sc + tl) ∧ sz sc tl (nv sc tl g m t) = m * 2 ^ tl + t := by
  have hp := GM.pow_pos' tl
  have h1 : (m + 1) * 2 ^ tl ≤ 2 ^ sc * 2 ^ tl := Int.mul_le_mul_of_nonneg_right (by omega) (by omega)
  rw [← GM.pow_add', Int.add_mul, Int.one_mul] at h1
  have h0 : 0 ≤ m * 2 ^ tl := Int.mul_nonneg m0 (by omega)
  have := GM.mk_parts (m := sc) (t := tl) (s := g) (r := m * 2 ^ tl + t) hg (by omega) (by omega)
  exact ⟨this.1, this.2.1, this.2.2.2⟩
theorem val0 (tk : Tok) : Vals [.int 0] [.int 0 tk] := .cons (show RelV (.int 0) (.int 0 tk) from ⟨_, rfl⟩) .nil
theorem at_int' {xs : List Int} {i : Nat} {x : V} (h : (xs.map V.int)[i]? = some x) : ∃ v, xs[i]? = some v ∧ x = .int v := by
  rw [List.getElem?_map] at h
  cases e : xs[i]? with
  | none => rw [e] at h; cases h
  | some z => rw [e] at h; exact ⟨z, rfl, (Option.some.inj h).symm⟩

/-! ### texts -/
theorem mk_tl (c : Nat) : ((⟨#[c]⟩ : Str)) = ("-" : Str) ↔ c = 45 := by
  constructor
  · intro h
    have := congrArg TL.tl h
    have e : TL.tl (("-" : Str)) = [45] := rfl
    rw [e] at this
    exact (List.cons.inj this).1
  · intro h
    subst h
    rfl
theorem tl_neg (r : Str) : TL.tl (("-" : Str) ++ r) = 45 :: TL.tl r := by
  rw [TL.tl_append]
  rfl
theorem cut_neg (r : Str) : cutS (("-" : Str) ++ r) (some 1) none = r := by
  apply TL.ext_tl
  have hl : (("-" : Str) ++ r).length = (TL.tl r).length + 1 := by
    rw [len_app]
    show 1 + r.cps.size = r.cps.toList.length + 1
    rw [Array.length_toList]
    omega
  unfold cutS
  rw [show (some (1 : Int)) = some ((1 : Nat) : Int) from rfl, HT.sIx_nat, HT.sIx_none, hl]
  show List.take _ (List.drop _ (TL.tl (("-" : Str) ++ r))) = _
  rw [tl_neg, show min 1 ((TL.tl r).length + 1) = 1 by omega, List.drop_succ_cons, List.drop_zero, Nat.add_sub_cancel, List.take_length]
/-- a text that begins with another sign -/
def Hd (r : Str) : Prop := ∃ (c : Nat) (l : List Nat), TL.tl r = c :: l ∧ c ≠ 45 ∧ c ≠ 110
theorem hd_app {r u : Str} (h : Hd r) : Hd (r ++ u) := by
  obtain ⟨c, l, e, h⟩ := h
  exact ⟨c, l ++ TL.tl u, by rw [TL.tl_append, e]; rfl, h⟩
theorem hd_num {m : Int} (h : 0 < m) : Hd (tS m) := by
  obtain ⟨n, rfl⟩ : ∃ n : Nat, m = (n : Int) := ⟨m.toNat, by omega⟩
  have e : TL.tl (tS (n : Int)) = (Nat.toDigits 10 n).map Char.toNat := by
    unfold tS
    rw [TL.tl_ofString]
    show ((Nat.repr n).toList.map Char.toNat) = _
    rw [Nat.toList_repr]
  cases z : Nat.toDigits 10 n with
  | nil => exact absurd z Nat.toDigits_ne_nil
  | cons c l =>
    have hd := Nat.isDigit_of_mem_toDigits (b := 10) (n := n) (c := c) (by decide) (by decide) (by rw [z]; exact List.mem_cons_self ..)
    have r := digit_range hd
    exact ⟨c.toNat, l.map Char.toNat, by rw [e, z]; rfl, by omega, by omega⟩
theorem hd_none {r : Str} (h : Hd r) : r ≠ "none" := by
  obtain ⟨c, l, e, _, h⟩ := h
  intro z
  rw [z] at e
  exact h (List.cons.inj e).1.symm
theorem neg_none (r : Str) : ("-" : Str) ++ r ≠ "none" := by
  intro z
  have e := tl_neg r
  rw [z] at e
  exact absurd (List.cons.inj e).1 (by decide)
/-- the same with the other sign -/
def oth (t : Str) (s : Str) : Prop := (t = "none" ∧ s = "none") ∨ (∃ r, t = ("-" : Str) ++ r ∧ s = r) ∨ (Hd t ∧ s = ("-" : Str) ++ t)
theorem tx_fun {sc tl : Nat} {v : Int} {s t : Str} (h : TX sc tl v s) (k : TX sc tl v t) (hT : 0 < GM.topS sc tl) : s = t := by
  rcases h with ⟨a, rfl⟩ | ⟨a, rfl⟩ | ⟨a, rfl⟩ | ⟨a, a', m, q, o, rfl⟩ <;> rcases k with ⟨b, rfl⟩ | ⟨b, rfl⟩ | ⟨b, rfl⟩ | ⟨b, b', m', q', o', rfl⟩ <;> first | rfl | (exfalso; omega) | skip
  have := GM.od_unique o o'
  rw [this.1, this.2]
theorem tx_oth {sc tl : Nat} {v : Int} {s t : Str} (h0 : 0 ≤ v) (h1 : v < 2 ^ (1 + sc + tl)) (h : TX sc tl v t) (k : TX sc tl (GM.trn sc tl v) s) (hT : 0 < GM.topS sc tl) : oth t s := by
  have sg0 : GM.sgn sc tl v = 0 ∨ GM.sgn sc tl v = 1 := by
    unfold GM.sgn
    omega
  have hpp := GM.pow_pos' (sc + tl)
  have mp := GM.mk_parts (m := sc) (t := tl) (s := 1 - GM.sgn sc tl v) (r := v % 2 ^ (sc + tl)) (by omega) (Int.emod_nonneg _ (by omega)) (Int.emod_lt_of_pos _ hpp)
  have hs : GM.sgn sc tl (GM.trn sc tl v) = 1 - GM.sgn sc tl v := mp.2.2.1
  have ez : sz sc tl (GM.trn sc tl v) = sz sc tl v := mp.2.2.2
  have ew : wp sc tl (GM.trn sc tl v) = wp sc tl v := by
    unfold wp
    rw [ez]
  have fin : ∀ r, Hd r → oth (ah sc tl v ++ r) (ah sc tl (GM.trn sc tl v) ++ r) := fun r hr => by
    by_cases c : GM.sgn sc tl v = 1
    · have e1 : ah sc tl v = "-" := if_pos c
      have e2 : ah sc tl (GM.trn sc tl v) = "" := if_neg (by omega)
      rw [e1, e2]
      exact .inr (.inl ⟨r, rfl, emp_app r⟩)
    · have sg : GM.sgn sc tl v = 0 := by
        have : GM.sgn sc tl v = 0 ∨ GM.sgn sc tl v = 1 := by
          unfold GM.sgn
          omega
        omega
      have e1 : ah sc tl v = "" := if_neg c
      have e2 : ah sc tl (GM.trn sc tl v) = "-" := if_pos (by omega)
      rw [e1, e2]
      refine .inr (.inr ⟨?_, ?_⟩)
      · rw [show ("" : Str) ++ r = r from emp_app r]
        exact hr
      · rw [show ("" : Str) ++ r = r from emp_app r]
  unfold TX at k
  rw [ez, ew] at k
  rcases h with ⟨a, rfl⟩ | ⟨a, rfl⟩ | ⟨a, rfl⟩ | ⟨a, a', m, q, o, rfl⟩ <;> rcases k with ⟨b, rfl⟩ | ⟨b, rfl⟩ | ⟨b, rfl⟩ | ⟨b, b', m', q', o', rfl⟩ <;> first | exact .inl ⟨rfl, rfl⟩ | (exfalso; omega) | skip
  · exact fin _ ⟨101, _, rfl, by decide, by decide⟩
  · exact fin _ ⟨48, _, rfl, by decide, by decide⟩
  · have := GM.od_unique o o'
    rw [this.1, this.2]
    have np := GM.od_pos o' (num_pos a)
    exact fin _ (hd_app (hd_num np))
theorem tx_shape {sc tl : Nat} {v : Int} {t : Str} (h : TX sc tl v t) : t = "none" ∨ (∃ r, t = ("-" : Str) ++ r) ∨ Hd t := by
  have fin : ∀ r, Hd r → (∃ r', ah sc tl v ++ r = ("-" : Str) ++ r') ∨ Hd (ah sc tl v ++ r) := fun r hr => by
    by_cases c : GM.sgn sc tl v = 1
    · have e1 : ah sc tl v = "-" := if_pos c
      rw [e1]
      exact .inl ⟨r, rfl⟩
    · have e1 : ah sc tl v = "" := if_neg c
      rw [e1, show ("" : Str) ++ r = r from emp_app r]
      exact .inr hr
  rcases h with ⟨a, rfl⟩ | ⟨a, rfl⟩ | ⟨a, rfl⟩ | ⟨a, a', m, q, o, rfl⟩
  · exact .inl rfl
  · exact .inr (fin _ ⟨101, _, rfl, by decide, by decide⟩)
  · exact .inr (fin _ ⟨48, _, rfl, by decide, by decide⟩)
  · exact .inr (fin _ (hd_app (hd_num (GM.od_pos o (num_pos a)))))
theorem tx_len {sc tl : Nat} {v : Int} {t : Str} (h : TX sc tl v t) (h2 : sc ≤ 8) (h4 : tl ≤ 24) : t.length ≤ 400 := by
  have al : (ah sc tl v).length ≤ 1 := by
    unfold ah
    split <;> decide
  have le1 : ("endless" : Str).length = 7 := rfl
  have le2 : ("0" : Str).length = 1 := rfl
  have ls : ("*2^" : Str).length = 3 := rfl
  rcases h with ⟨a, rfl⟩ | ⟨a, rfl⟩ | ⟨a, rfl⟩ | ⟨a, a', m, q, o, rfl⟩
  · decide
  · rw [len_app]; omega
  · rw [len_app]; omega
  · have np := num_pos a
    have n25 := num_lt25 (sc := sc) (v := v) h4
    have nb := GM.od_abs o
    have qb := GM.od_q o (by omega) (by omega)
    have pb := wp_small (sc := sc) (tl := tl) (v := v) h2 h4
    have tn : (tS m).length ≤ 100 := txt_len (by omega)
    have tp : (tS q).length ≤ 100 := txt_len (by omega)
    rw [len_app, len_app, len_app]
    omega
theorem oth_none {s : Str} (h : oth "none" s) : s = "none" := by
  rcases h with ⟨_, e⟩ | ⟨r, e, _⟩ | ⟨e, _⟩
  · exact e
  · exact absurd e.symm (neg_none r)
  · exact absurd rfl (hd_none e)
theorem oth_neg {r s : Str} (h : oth (("-" : Str) ++ r) s) : s = r := by
  rcases h with ⟨e, _⟩ | ⟨r', e, rfl⟩ | ⟨⟨c, l, e, n, _⟩, _⟩
  · exact absurd e (neg_none r)
  · have := congrArg TL.tl e
    rw [tl_neg, tl_neg] at this
    exact (TL.ext_tl (List.cons.inj this).2).symm
  · rw [tl_neg] at e
    exact absurd (List.cons.inj e).1.symm n
theorem oth_hd {t s : Str} (hd : Hd t) (h : oth t s) : s = ("-" : Str) ++ t := by
  rcases h with ⟨e, _⟩ | ⟨r', e, _⟩ | ⟨_, e⟩
  · exact absurd e (hd_none hd)
  · obtain ⟨c, l, e2, n, _⟩ := hd
    rw [e, tl_neg] at e2
    exact absurd (List.cons.inj e2).1.symm n
  · exact e
theorem first_of {t : Str} {c : Nat} {l : List Nat} (e : TL.tl t = c :: l) : (0 : Int) < t.length ∧ t.cps[(0 : Int).toNat]? = some c := by
  have e' : t.cps.toList = c :: l := e
  constructor
  · show (0 : Int) < ((t.cps.size : Nat) : Int)
    rw [← Array.length_toList, e']
    simp
  · show t.cps[0]? = some c
    rw [← Array.getElem?_toList, e']
    rfl
section
variable {P : Program} {w : World} {K : PySem.W.Frag} {mg : Str → Option Value} {base : Heap} {C : Addr}
variable {e1 e2 e3 e4 e6 e7 e8 e10 : Addr} {k1 k2 k3 k4 k6 k7 k8 k10 : FuncData}
structure L5 (K : PySem.W.Frag) (mg : Str → Option Value) (C a1 a2 a3 a4 a5 a6 a7 a8 a9 a10 a11 a12 a13 a14 : Addr) (l1 l2 l3 l4 l5 l6 l7 l8 l9 l10 l11 l12 l13 l14 : FuncData) (t10 t12 t13 : Tok) : Prop where
  F1 : Fun K "_law_form" "_law_form" s__law_form a1 l1
  b1 : Binds K l1 ["_law_box_here"] []
  m1 : mg "_law_form" = some (.ref a1)
  F2 : Fun K "_law_word" "_law_word" s__law_word a2 l2
  b2 : Binds K l2 ["_law_box_here", "_law_scale", "_law_tail"] []
  m2 : mg "_law_word" = some (.ref a2)
  F3 : Fun K "_law_take" "_law_take" sTake a3 l3
  b3 : Binds K l3 ["_law_box_here", "_law_size"] []
  m3 : mg "_law_take" = some (.ref a3)
  F4 : Fun K "_law_same" "_law_same" sSame a4 l4
  b4 : Binds K l4 ["_law_found", "_law_due"] []
  m4 : mg "_law_same" = some (.ref a4)
  F5 : Fun K "_law_sort" "_law_sort" s__law_sort a5 l5
  b5 : Binds K l5 ["_law_word_here", "_law_scale", "_law_tail"] []
  m5 : mg "_law_sort" = some (.ref a5)
  F6 : Fun K "_law_size_of" "_law_size_of" s__law_size_of a6 l6
  b6 : Binds K l6 ["_law_size", "_law_scale", "_law_tail"] []
  m6 : mg "_law_size_of" = some (.ref a6)
  F7 : Fun K "_law_text" "_law_text" s__law_text a7 l7
  b7 : Binds K l7 ["_law_word_here", "_law_scale", "_law_tail"] []
  m7 : mg "_law_text" = some (.ref a7)
  F8 : Fun K "worth_text" "worth_text" s_worth_text a8 l8
  b8 : Binds K l8 ["form", "word"] []
  m8 : mg "worth_text" = some (.ref a8)
  F9 : Fun K "sort_of" "Form.sort_of" s_Form_sort_of a9 l9
  b9 : Binds K l9 ["self", "word"] []
  M9 : Meth K C "sort_of" a9
  F14 : Fun K "none_word" "Form.none_word" s_Form_none_word a14 l14
  b14 : Binds K l14 ["self"] []
  M14 : Meth K C "none_word" a14
  F11 : Fun K "worth" "Form.worth" s_Form_worth a11 l11
  b11 : Binds K l11 ["self", "word"] []
  M11 : Meth K C "worth" a11
  F10 : FunA K "nought" "Form.nought" s_Form_nought a10 l10
  N10 : Nm K C "nought" a10 l10 t10
  F12 : FunA K "greatest" "Form.greatest" s_Form_greatest a12 l12
  N12 : Nm K C "greatest" a12 l12 t12
  F13 : FunA K "least_plain" "Form.least_plain" s_Form_least_plain a13 l13
  N13 : Nm K C "least_plain" a13 l13 t13
end
section
variable {P : Program} {w : World} {K : PySem.W.Frag} {mg : Str → Option Value} {base : Heap} {C : Addr}
variable {e1 e2 e3 e4 e6 e7 e8 e10 : Addr} {k1 k2 k3 k4 k6 k7 k8 k10 : FuncData}
variable {a1 a2 a3 a4 a5 a6 a7 a8 a9 a10 a11 a12 a13 a14 : Addr} {l1 l2 l3 l4 l5 l6 l7 l8 l9 l10 l11 l12 l13 l14 : FuncData} {t10 t12 t13 : Tok}
def spRight : Sp := fun vs H Q _ => ∃ (b : Addr) (c : Int), vs = [.ref b] ∧ BoxAt c H b ∧ c ≤ 700000000 ∧
  ∀ (H' : Hp), BoxAt (c + 300) H' b → Keep b H H' → Q (.bl true) H'
theorem ifne {p : Prop} [Decidable p] {A B : Prop} (h : p) (b : B) : if (!decide p) = true then A else B := by
  rw [decide_eq_true h]
  exact b
theorem ok_right {f : Addr} {fd : FuncData} (F : Fun K "_law_right" "_law_right" s__law_right f fd) (B : Bl mg) (W : PF K mg C e1 e2 e3 e4 e6 e7 e8 e10 k1 k2 k3 k4 k6 k7 k8 k10) (L : L5 K mg C a1 a2 a3 a4 a5 a6 a7 a8 a9 a10 a11 a12 a13 a14 l1 l2 l3 l4 l5 l6 l7 l8 l9 l10 l11 l12 l13 l14 t10 t12 t13) :
    FnOk P w K mg base CX0 5 f fd ["_law_box_here"] spRight := by
  have GI : FnOk P w K mg base CX0 3 e1 k1 ["self", "scale", "tail"] (spInit C) := ok_init W B
  have G1 : FnOk P w K mg base CX0 2 a1 l1 ["_law_box_here"] spForm := ok_form L.F1 L.F3 L.b3 L.m3 B
  have G2 : FnOk P w K mg base CX0 3 a2 l2 ["_law_box_here", "_law_scale", "_law_tail"] spWord := ok_word L.F2 L.F3 L.b3 L.m3 B
  have GS : FnOk P w K mg base CX0 3 a4 l4 ["_law_found", "_law_due"] (spSame K 3) := ok_same L.F4 L.b4 L.m4 B 3
  have G7 : FnOk P w K mg base CX0 4 a7 l7 ["_law_word_here", "_law_scale", "_law_tail"] spTL := ok_tl L.F7 L.F5 L.b5 L.m5 L.F6 L.b6 L.m6 B
  have G8 : FnOk P w K mg base CX0 4 a8 l8 ["form", "word"] (spWT C) := ok_wt L.F8 L.F9 L.b9 L.M9 L.F11 L.b11 L.M11 W B
  have Mn : FnOk P w K mg base CX0 4 a10 l10 ["self", "sign"] (spNm C mNo mNo) := ok_nought L.F10 W
  have Mg : FnOk P w K mg base CX0 4 a12 l12 ["self", "sign"] (spNm C mGr tGr) := ok_greatest L.F12 W
  have Ml : FnOk P w K mg base CX0 4 a13 l13 ["self", "sign"] (spNm C mLp mNo) := ok_least L.F13 W
  have Mo : FnOk P w K mg base CX0 4 a14 l14 ["self"] (spNone C) := ok_noneW L.F14 W
  have Mu : FnOk P w K mg base CX0 4 e10 k10 ["self", "word"] (spTurned C) := ok_turned W
  have Mb : FnOk P w K mg base CX0 4 e4 k4 ["self"] (spBias C) := ok_bias W
  refine F.ok sc__law_right (fun vs H Q E h => ?_) (fun cdv A outer s H vs Q E hr h => ?_)
  · obtain ⟨b, c, rfl, _⟩ := h
    rfl
  obtain ⟨b, c, rfl, hB, hc, q⟩ := h
  have hr2 : Room 2 _ := hr.mono (by decide)
  have hr3 : Room 3 _ := hr.mono (by decide)
  refine ⟨_, (pss_cons (ps_asg (pe_call G1 hr2 (by rfl) L.m1 L.F1.kp L.b1 .nil pass0 (pa_cons (pv 0) pa_nil)) (pg_tup (by rfl) (pgs_cons (pg_name (i := 1) sc__law_right.nd rfl (.inr rfl)) (pgs_cons (pg_name (i := 2) sc__law_right.nd rfl (.inr rfl)) pgs_nil))))
    (pss_cons (ps_set (i := 3) sc__law_right.nd rfl (.inl rfl) (pe_make W.M GI hr (by rfl) W.T.mgC W.b1 .nil pass0 (pa_cons (pv 1) (pa_cons (pv 2) pa_nil))))
    (pss_cons (ps_setLc (i := 4) (own := [("_law_turn", 8)]) (by rfl) sc__law_right.nd rfl rfl (sw_true rfl rfl rfl (by decide +kernel)) (pi_range1 (by rfl) B.range (pa_cons pe_int pa_nil)) (blkOk_by (own := [("_law_turn", 8)]) (N := ["_law_box_here", "_law_scale", "_law_tail", "_law_form_here", "_law_words", "_law_word_here", "_law_text_here", "_law_other", "_law_turn"]) (sc := defScope s__law_right) (by decide +kernel)) (fun _ _ _ _ _ => pg_name (i := 8) sc__law_right.nd rfl (Or.inl rfl)) (fun _ _ _ _ _ => pts_nil) (fun _ _ _ _ _ => (pe_call G2 hr3 (by rfl) L.m2 L.F2.kp L.b2 .nil pass0 (pa_cons (pv 0) (pa_cons (pv 1) (pa_cons (pv 2) pa_nil))))))
    (pss_cons (ps_set (i := 4) sc__law_right.nd rfl (.inl rfl) (pe_op op_cat (pv 4) (pe_lst (pa_cons (pe_meth0 (pv 3) W.T.cl L.N12.M Mg hr L.N12.d (val0 _) pass0) (pa_cons (pe_meth (pv 3) W.T.cl L.N13.M Ml hr L.N13.b .nil pass0 (pa_cons pe_int pa_nil)) (pa_cons (pe_meth (pv 3) W.T.cl L.N10.M Mn hr L.N10.b .nil pass0 (pa_cons pe_int pa_nil)) (pa_cons (pe_meth0 (pv 3) W.T.cl L.M14 Mo hr L.b14 .nil pass0) pa_nil)))))))
    (pss_cons (ps_expr (pe_bm PySem.F.plainAttrs_list PySem.F.slot_list_append PySem.F.type_list_append mt_append (pv 4) (pa_cons (pe_meth (pv 3) W.T.cl W.M10 Mu hr W.b10 .nil pass0 (pa_cons (pe_meth0 (pv 3) W.T.cl L.M14 Mo hr L.b14 .nil pass0) pa_nil)) pa_nil)))
    (pss_cons (ps_for PassesOwn.never rfl (pi_list (pe_op op_cat (pv 4) (pe_lst (pa_cons pe_int (pa_cons (pe_op op_sub (pe_op op_oneShl pe_int (pv 2)) pe_int) (pa_cons (pe_op op_shlN (pe_meth0 (pv 3) W.T.cl W.M4 Mb hr W.b4 .nil pass0) (pv 2)) pa_nil)))))) (pg_name (i := 5) sc__law_right.nd rfl (.inl rfl)) (pss_cons (ps_set (i := 6) sc__law_right.nd rfl (.inl rfl) (pe_call G7 hr (by rfl) L.m7 L.F7.kp L.b7 .nil pass0 (pa_cons (pv 5) (pa_cons (pv 1) (pa_cons (pv 2) pa_nil)))))
    (pss_cons (ps_if (pt_not (pt_val (pe_call GS hr3 (by rfl) L.m4 L.F4.kp L.b4 .nil pass0 (pa_cons (pe_call G8 hr (by rfl) L.m8 L.F8.kp L.b8 .nil pass0 (pa_cons (pv 3) (pa_cons (pv 5) pa_nil))) (pa_cons (pv 6) pa_nil))))) (pss_one (ps_ret pe_bl)) pss_nil)
    (pss_cons (ps_set (i := 7) sc__law_right.nd rfl (.inl rfl) (pe_ifExp (pt_cmpR op_eq (pv 6) pe_str (nomark _)) pe_str (pe_ifExp (pt_cmpR op_eq (pe_item_str (pv 6) pe_int (fun _ _ => rfl)) pe_str (nomark _)) (pe_slice sl_str (pv 6) (po_some pe_int) po_none) (pe_op op_add_str pe_str (pv 6)))))
    (pss_one (ps_if (pt_cmpR op_ne (pe_call G8 hr (by rfl) L.m8 L.F8.kp L.b8 .nil pass0 (pa_cons (pv 3) (pa_cons (pe_meth (pv 3) W.T.cl W.M10 Mu hr W.b10 .nil pass0 (pa_cons (pv 5) pa_nil)) pa_nil))) (pv 7) (nomark _)) (pss_one (ps_ret pe_bl)) pss_nil))))))
    (pss_one (ps_ret (pe_cmpR (op_eqD hr.units) (pe_tup (pa_cons (pe_fld (pv 3) rfl) (pa_cons (pe_fld (pv 3) rfl) pa_nil))) (pe_tup (pa_cons (pv 1) (pa_cons (pv 2) pa_nil))) (nomark _)))))))))), ?_⟩
  refine ⟨_, rfl, b, c, rfl, hB, by omega, fun p sc tl H1 ep q1 q2 q3 q4 B1 kk1 => ?_⟩
  refine ⟨p, _, rfl, .inl (.inl ep), rfl, _, _, rfl, _, _, rfl, rfl, ?_⟩
  refine ⟨_, rfl, _, rfl, fun x dx nx ndx ne => ?_⟩
  refine ⟨x, dx, sc, tl, rfl, upd_same, q1, q2, q3, q4, fun H2 F2 kp => ⟨rfl, ?_⟩⟩
  have s2 : Same H1 H2 := made nx ndx ne kp
  have B2 := B1.same s2
  have nxb : x ≠ b := (B1.ne nx).symm
  have k2' : Keep b H H2 := kk1.trans (Keep.ofSame s2)
  have pS : (2 : Int) ^ 2 ≤ 2 ^ sc := GM.pow_le' q1
  have p8 : (2 : Int) ^ sc ≤ 2 ^ 8 := GM.pow_le' q2
  have pT := GM.pow_pos' tl
  have pT1 := GM.pow_pos' (tl - 1)
  have pTT : (2 : Int) ^ tl = 2 ^ (tl - 1) * 2 := by rw [← GM.pow_s]; congr 1; omega
  -- words
  refine ⟨12, rfl, by decide, by decide, fun D nD => ?_⟩
  have nDb : D ≠ b := (B2.ne nD).symm
  refine lc_range (n := 12) (fun j H5 => ∃ ds : List Int, Keep b H2 H5 ∧ BoxAt (c + 5 + 20 * j) H5 b ∧ H5 D = some (.lst (ds.map V.int)) ∧ ds.length = j ∧ ∀ d ∈ ds, 0 ≤ d ∧ d < 2 ^ (1 + sc + tl)) ⟨[], Keep.new nD, (B2.same (same_upd nD)).mono (by omega), upd_same, rfl, fun _ h => nomatch h⟩ ?_ ?_
  · rintro j H5 hj ⟨ds, k5, B5, eD, hdl, hds⟩
    refine ⟨rfl, yesT ?_⟩
    refine ⟨_, rfl, _, rfl, _, rfl, b, sc, tl, _, rfl, q1, q2, q3, q4, B5, by omega, fun wd H6 w0 w1 B6 k6 => ?_⟩
    refine ⟨_, k6 _ _ eD nDb, ?_, ds ++ [wd], fun x u e n => ?_, BoxAt.mono (B6.at (upd_ne nDb.symm)) (by omega), ?_, ?_, ?_⟩
    · rw [List.length_map]
      exact small1000 (by omega)
    · rw [upd_ne (ne_of_none e nD)]
      exact k6 _ _ (k5 _ _ e n) n
    · rw [upd_same, List.map_append]
      rfl
    · rw [List.length_append, hdl]
      rfl
    · intro z hz
      rcases List.mem_append.mp hz with h | h
      · exact hds z h
      · rcases List.mem_cons.mp h with h | h
        · subst h; exact ⟨w0, w1⟩
        · cases h
  rintro H5 ⟨ds, k5, B5, eD, hdl, hds⟩
  have F5 := F2.keep k5 nxb
  obtain ⟨dz, hx5, _⟩ := id F5
  refine ⟨_, rfl, _, rfl, x, dz, _, rfl, hx5, rfl, x, sc, tl, 0, rfl, F5, .inl rfl, _, rfl, x, dz, _, rfl, hx5, rfl, x, sc, tl, 1, rfl, F5, .inr rfl, _, rfl, x, dz, _, rfl, hx5, rfl, x, sc, tl, 1, rfl, F5, .inr rfl, _, rfl, x, dz, _, rfl, hx5, rfl, x, sc, tl, rfl, F5, (by show 4 ≤ sizeLine; decide), fun m nm => ?_⟩
  have sm := same_upd (o := .lst [.int (nv sc tl 0 (mGr sc tl) (tGr sc tl)), .int (nv sc tl 1 (mLp sc tl) (mNo sc tl)), .int (nv sc tl 1 (mNo sc tl) (mNo sc tl)), .int (nv sc tl 0 (2 ^ sc - 1) (2 ^ (tl - 1)))]) nm
  have i1 := nv_parts (sc := sc) (tl := tl) (g := 0) (m := mGr sc tl) (t := tGr sc tl) (.inl rfl) (by show (0 : Int) ≤ 2 ^ sc - 1 - 1; omega) (by show (2 : Int) ^ sc - 1 - 1 < 2 ^ sc; omega) (by show (0 : Int) ≤ 2 ^ tl - 1; omega) (by show (2 : Int) ^ tl - 1 < 2 ^ tl; omega)
  have i2 := nv_parts (sc := sc) (tl := tl) (g := 1) (m := mLp sc tl) (t := mNo sc tl) (.inr rfl) (by show (0 : Int) ≤ 1; omega) (by show (1 : Int) < 2 ^ sc; omega) (by show (0 : Int) ≤ 0; omega) (by show (0 : Int) < 2 ^ tl; omega)
  have i3 := nv_parts (sc := sc) (tl := tl) (g := 1) (m := mNo sc tl) (t := mNo sc tl) (.inr rfl) (by show (0 : Int) ≤ 0; omega) (by show (0 : Int) < 2 ^ sc; omega) (by show (0 : Int) ≤ 0; omega) (by show (0 : Int) < 2 ^ tl; omega)
  have i4 := nv_parts (sc := sc) (tl := tl) (g := 0) (m := 2 ^ sc - 1) (t := 2 ^ (tl - 1)) (.inl rfl) (by omega) (by omega) (by omega) (by omega)
  have i5 := GM.trn_trn (m := sc) (t := tl) i4.1 i4.2.1
  refine ⟨D, m, _, _, rfl, rfl, sm _ _ eD, upd_same, ?_, fun wz nwz => ?_⟩
  · rw [List.length_map, hdl]
    exact Nat.le_of_lt (small1000 (by show 12 + 4 ≤ 1000; decide))
  have swz := same_upd (o := .lst (ds.map V.int ++ [.int (nv sc tl 0 (mGr sc tl) (tGr sc tl)), .int (nv sc tl 1 (mLp sc tl) (mNo sc tl)), .int (nv sc tl 1 (mNo sc tl) (mNo sc tl)), .int (nv sc tl 0 (2 ^ sc - 1) (2 ^ (tl - 1)))])) nwz
  have s56 := sm.trans swz
  have hx6 := s56 _ _ hx5
  have F6 := F5.same s56
  refine ⟨_, rfl, .inl ⟨rfl, _, SqL.of upd_same⟩, _, rfl, x, dz, _, rfl, hx6, rfl, _, rfl, x, dz, _, rfl, hx6, rfl, x, sc, tl, rfl, F6, x, sc, tl, _, rfl, F6, fun H7 s7 => ?_⟩
  refine ⟨wz, _, _, rfl, rfl, s7 _ _ upd_same, ?_, ?_⟩
  · rw [List.length_append, List.length_map, hdl]
    exact small1000 (by show 12 + 4 ≤ 1000; decide)
  have nH5 : H5 wz = none := by
    cases z : H5 wz with
    | none => rfl
    | some o => rw [sm _ _ z] at nwz; cases nwz
  obtain ⟨us, eus, hus, lus⟩ : ∃ us : List Int, (ds.map V.int ++ [.int (nv sc tl 0 (mGr sc tl) (tGr sc tl)), .int (nv sc tl 1 (mLp sc tl) (mNo sc tl)), .int (nv sc tl 1 (mNo sc tl) (mNo sc tl)), .int (nv sc tl 0 (2 ^ sc - 1) (2 ^ (tl - 1)))] ++ [.int (GM.trn sc tl (nv sc tl 0 (2 ^ sc - 1) (2 ^ (tl - 1))))] : List V) = us.map V.int ∧ (∀ d ∈ us, 0 ≤ d ∧ d < 2 ^ (1 + sc + tl)) ∧ us.length = 17 := by
    refine ⟨ds ++ [nv sc tl 0 (mGr sc tl) (tGr sc tl), nv sc tl 1 (mLp sc tl) (mNo sc tl), nv sc tl 1 (mNo sc tl) (mNo sc tl), nv sc tl 0 (2 ^ sc - 1) (2 ^ (tl - 1)), GM.trn sc tl (nv sc tl 0 (2 ^ sc - 1) (2 ^ (tl - 1)))], ?_, ?_, ?_⟩
    · rw [List.append_assoc, List.map_append]
      rfl
    · intro d hd
      rcases List.mem_append.mp hd with h | h
      · exact hds d h
      rcases List.mem_cons.mp h with h | h
      · subst h; exact ⟨i1.1, i1.2.1⟩
      rcases List.mem_cons.mp h with h | h
      · subst h; exact ⟨i2.1, i2.2.1⟩
      rcases List.mem_cons.mp h with h | h
      · subst h; exact ⟨i3.1, i3.2.1⟩
      rcases List.mem_cons.mp h with h | h
      · subst h; exact ⟨i4.1, i4.2.1⟩
      rcases List.mem_cons.mp h with h | h
      · subst h; exact i5.2
      cases h
    · rw [List.length_append, hdl]
      rfl
  rw [eus]
  obtain ⟨H8, e8, ew8, s58⟩ : ∃ H8, upd H7 wz (.lst (us.map V.int)) = H8 ∧ H8 wz = some (.lst (us.map V.int)) ∧ Same H5 H8 := ⟨_, rfl, upd_same, fun y o e => by rw [upd_ne (ne_of_none e nH5)]; exact s7 _ _ (s56 _ _ e)⟩
  rw [e8]
  have hx8 := s58 _ _ hx5
  have F8 := F5.same s58
  have pB : (2 : Int) ^ (sc - 1) ≤ 2 ^ 8 := GM.pow_le' (by omega)
  have pB2 : (2 : Int) ^ sc = 2 ^ (sc - 1) * 2 := by rw [← GM.pow_s]; congr 1; omega
  have pB1 := GM.pow_pos' (sc - 1)
  refine ⟨_, rfl, _, rfl, tl, rfl, rfl, by omega, _, _, rfl, rfl, _, rfl, x, dz, _, rfl, hx8, rfl, x, sc, tl, rfl, F8, _, rfl, _, tl, rfl, rfl, shl_ok (n := 9) (by omega) (by omega), (by show 3 ≤ sizeLine; decide), fun m2 nm2 => ?_⟩
  have sm2 := same_upd (o := .lst [.int 1, .int (2 ^ tl - 1), .int ((2 ^ (sc - 1) - 1) * 2 ^ tl)]) nm2
  refine ⟨wz, m2, _, _, rfl, rfl, sm2 _ _ ew8, upd_same, ?_, fun wy nwy => ?_⟩
  · rw [List.length_map, lus]
    exact Nat.le_of_lt (small1000 (by show 17 + 3 ≤ 1000; decide))
  have swy := same_upd (o := .lst (us.map V.int ++ [.int 1, .int (2 ^ tl - 1), .int ((2 ^ (sc - 1) - 1) * 2 ^ tl)])) nwy
  have pN : (2 : Int) ^ (1 + sc + tl) = 2 ^ (1 + sc) * 2 ^ tl := GM.pow_add' (1 + sc) tl
  have pN2 : (2 : Int) ^ (1 + sc) = 2 * 2 ^ sc := by rw [Int.mul_comm, ← GM.pow_s]; congr 1; omega
  have pN3 : 2 * 2 ^ tl ≤ (2 : Int) ^ (1 + sc + tl) := by
    rw [pN]
    exact Int.mul_le_mul_of_nonneg_right (by omega) (by omega)
  have pN4 : (2 ^ (sc - 1) - 1) * 2 ^ tl < (2 : Int) ^ (1 + sc + tl) := by
    rw [pN]
    exact Int.mul_lt_mul_of_pos_right (by omega) pT
  have pN5 : 0 ≤ (2 ^ (sc - 1) - 1) * (2 : Int) ^ tl := Int.mul_nonneg (by omega) (by omega)
  have hT : 0 < GM.topS sc tl := Int.mul_pos (by omega) pT
  have eall : (us.map V.int ++ [.int 1, .int (2 ^ tl - 1), .int ((2 ^ (sc - 1) - 1) * 2 ^ tl)] : List V) = (us ++ [1, 2 ^ tl - 1, (2 ^ (sc - 1) - 1) * 2 ^ tl]).map V.int := by rw [List.map_append]; rfl
  have hall : ∀ d ∈ us ++ [1, 2 ^ tl - 1, (2 ^ (sc - 1) - 1) * 2 ^ tl], 0 ≤ d ∧ d < 2 ^ (1 + sc + tl) := fun d hd => by
    rcases List.mem_append.mp hd with h | h
    · exact hus d h
    rcases List.mem_cons.mp h with h | h
    · subst h; omega
    rcases List.mem_cons.mp h with h | h
    · subst h; omega
    rcases List.mem_cons.mp h with h | h
    · subst h; exact ⟨pN5, pN4⟩
    cases h
  have s59 : Same H5 _ := s58.trans (sm2.trans swy)
  refine ⟨wy, rfl, ⟨_, SqL.of upd_same⟩, for_list (K := K) (a := wy) (xs := (us ++ [1, 2 ^ tl - 1, (2 ^ (sc - 1) - 1) * 2 ^ tl]).map V.int) (fun i σ H9 => ∃ (y5 y6 y7 : Option V), σ = [some (.ref b), some (.int (sc : Int)), some (.int (tl : Int)), some (.ref x), some (.ref wz), y5, y6, y7, none] ∧ Same H5 H9 ∧ H9 wy = some (.lst ((us ++ [1, 2 ^ tl - 1, (2 ^ (sc - 1) - 1) * 2 ^ tl]).map V.int)))
    ⟨none, none, none, rfl, s59, by rw [← eall]; exact upd_same⟩ (fun i σ H9 _ ⟨_, _, _, _, _, e⟩ => SqL.of e) ?_ ?_⟩
  · rintro i z σ H9 hz ⟨y5, y6, y7, rfl, s9, ey⟩
    obtain ⟨v, hv, rfl⟩ := at_int' hz
    have vin := hall v (List.mem_of_getElem? hv)
    have F9 := F5.same s9
    refine ⟨_, rfl, _, rfl, _, rfl, sc, tl, v, rfl, q1, q2, q3, q4, vin.1, vin.2, fun H10 t s10 ht => ?_⟩
    refine ⟨_, rfl, _, rfl, x, sc, tl, v, rfl, F9.same s10, fun H11 t' s11 ht' => ?_⟩
    obtain rfl := tx_fun ht' ht hT
    refine ⟨_, rfl, _, _, .str t', 2, rfl, rfl, trivial, .str _, .str _, fun H12 s12 => ?_⟩
    refine ⟨_, rfl, iteF ?_⟩
    have s912 := s10.trans (s11.trans s12)
    have hlen := tx_len ht q2 q4
    try dsimp only [tNext, tSeq, tAsg]
    refine if_ev (fun z H' => H' = H12 ∧ ∃ s0, z = .str s0 ∧ ∀ s, oth t' s → s = s0) (fun Q' q' => ?_) ?_
    · refine ⟨_, rfl, rfl, _, rfl, ite2 (fun g => ?_) (fun g => ?_)⟩
      · have g1 : t' = "none" := V.str.inj (of_decide_eq_true g)
        subst g1
        exact q' _ _ ⟨rfl, _, rfl, fun s hs => oth_none hs⟩
      have g1 : ¬ t' = "none" := fun z => g (decide_eq_true (by rw [z]))
      rcases tx_shape ht with z | ⟨r, rfl⟩ | hd
      · exact absurd z g1
      · have f0 := first_of (tl_neg r)
        refine ⟨_, rfl, _, 0, 45, rfl, rfl, by decide, by decide, f0.1, f0.2, rfl, _, rfl, ?_⟩
        rw [decide_eq_true (show V.str (⟨#[45]⟩ : Str) = V.str "-" from rfl)]
        refine iteT ?_
        refine ⟨_, rfl, 1, rfl, _, rfl, Nat.le_of_lt (small1000 (by omega)), ?_⟩
        rw [cut_neg]
        exact q' _ _ ⟨rfl, _, rfl, fun s hs => oth_neg hs⟩
      · obtain ⟨c0, l0, e0, n0, n1⟩ := id hd
        have f0 := first_of e0
        refine ⟨_, rfl, _, 0, c0, rfl, rfl, by decide, by decide, f0.1, f0.2, rfl, _, rfl, ?_⟩
        rw [decide_eq_false (show ¬ V.str (⟨#[c0]⟩ : Str) = V.str "-" from fun z => n0 ((mk_tl c0).mp (V.str.inj z)))]
        refine iteF ?_
        have l1 : ("-" : Str).length = 1 := rfl
        refine ⟨_, rfl, _, _, rfl, rfl, Nat.le_of_lt (small1000 (by omega)), ?_⟩
        exact q' _ _ ⟨rfl, _, rfl, fun s hs => oth_hd hd hs⟩
    rintro z H' ⟨rfl, s0, rfl, h0⟩
    have s5x := s9.trans s912
    refine ⟨_, rfl, _, rfl, x, dz, _, rfl, s5x _ _ hx5, rfl, _, rfl, x, sc, tl, v, rfl, F5.same s5x, fun H13 s13 => ?_⟩
    refine ⟨x, sc, tl, _, rfl, (F5.same s5x).same s13, fun H14 t2 s14 ht2 => ?_⟩
    refine ⟨_, rfl, rfl, _, rfl, ifne (congrArg V.str (h0 _ (tx_oth vin.1 vin.2 ht ht2 hT))) ?_⟩
    have sz9 := s912.trans (s13.trans s14)
    exact ⟨_, _, _, rfl, s9.trans sz9, sz9 _ _ ey⟩
  · rintro σ H9 ⟨y5, y6, y7, rfl, s9, ey⟩
    have hx9 := s9 _ _ hx5
    refine ⟨_, rfl, x, C, dz, _, _, rfl, hx9, W.T.cl, W.T.ns, fl_s _ _, _, rfl, x, C, dz, _, _, rfl, hx9, W.T.cl, W.T.nt, fl_t _ _, (by show 2 ≤ sizeLine; decide), fun t1 nt1 => ?_⟩
    refine ⟨_, rfl, _, rfl, (by show 2 ≤ sizeLine; decide), fun t2 nt2 => ?_⟩
    have r1 := same_upd (o := .tup [.int (sc : Int), .int (tl : Int)]) nt1
    have r2 := same_upd (o := .tup [.int (sc : Int), .int (tl : Int)]) nt2
    refine ⟨.tuple [.int (sc : Int), .int (tl : Int)], .tuple [.int (sc : Int), .int (tl : Int)], .tup (.inl (.inl (r2 _ _ upd_same))) (.cons (.int _) (.cons (.int _) .nil)), .tup (.inl (.inl upd_same)) (.cons (.int _) (.cons (.int _) .nil)), rfl, rfl, ?_⟩
    rw [PySem.SeqAt.eqv_refl _ rfl]
    have sL := s9.trans (r1.trans r2)
    exact q _ ((B5.same sL).mono (by omega)) ((k2'.trans k5).trans (Keep.ofSame sL))
def spLaw (K : PySem.W.Frag) : Sp := fun vs H Q _ => ∃ (a : Addr) (ns : List Int), vs = [.ref a] ∧ SqL K H a (ns.map V.int) ∧ ns.length ≤ 63 ∧ ∀ H', Q (.bl true) H'
theorem ok_law {f e1 e2 e3 : Addr} {fd k1 k2 k3 : FuncData} (F : Fun K "law" "law" s_law f fd) (B : Bl mg)
    (F1 : Fun K "_law_folded" "_law_folded" sFolded e1 k1) (b1 : Binds K k1 ["_law_script", "_law_size"] []) (m1 : mg "_law_folded" = some (.ref e1))
    (F2 : Fun K "_law_box" "_law_box" sBox e2 k2) (b2 : Binds K k2 ["_law_script", "_law_k"] []) (m2 : mg "_law_box" = some (.ref e2))
    (F3 : Fun K "_law_right" "_law_right" s__law_right e3 k3) (b3 : Binds K k3 ["_law_box_here"] []) (m3 : mg "_law_right" = some (.ref e3)) (G3 : FnOk P w K mg base CX0 5 e3 k3 ["_law_box_here"] spRight) :
    FnOk P w K mg base CX0 6 f fd ["_law_script"] (spLaw K) := by
  have G1 : FnOk P w K mg base CX0 5 e1 k1 ["_law_script", "_law_size"] (spFolded K) := ok_folded F1 B
  have G2 : FnOk P w K mg base CX0 5 e2 k2 ["_law_script", "_law_k"] (spBox K) := ok_box F2 B
  refine F.ok sc_law (fun vs H Q E h => ?_) (fun cdv A outer s H vs Q E hr h => ?_)
  · obtain ⟨a, ns, rfl, _⟩ := h
    rfl
  obtain ⟨a, ns, rfl, hS, h63, q⟩ := h
  refine ⟨_, (pss_cons (ps_set (i := 1) sc_law.nd rfl (.inr rfl) (pe_call G1 hr (by rfl) m1 F1.kp b1 .nil pass0 (pa_cons (pv 0) (pa_cons pe_int pa_nil))))
    (pss_one (ps_ret (pe_callB (cr_all rfl) (by rfl) B.all boot_all (pa_cons (pe_lc (own := [("_law_k", 2)]) (by rfl) sc_law.nd (pi_range1 (by rfl) B.range (pa_cons (pe_callB (call_max2 rfl) (by rfl) B.max boot_max (pa_cons pe_int (pa_cons (pe_callB call_len_seq (by rfl) B.len PySem.boot_len (pa_cons (pv 1) pa_nil)) pa_nil))) pa_nil)) (blkOk_by (own := [("_law_k", 2)]) (N := ["_law_script", "_law_cells", "_law_k"]) (sc := defScope s_law) (by decide +kernel)) (fun _ _ _ _ _ => pg_name (i := 2) sc_law.nd rfl (Or.inl rfl)) (fun _ _ _ _ _ => pts_nil) (fun _ _ _ _ _ => (pe_call G3 hr (by rfl) m3 F3.kp b3 .nil pass0 (pa_cons (pe_call G2 hr (by rfl) m2 F2.kp b2 .nil pass0 (pa_cons (pv 1) (pa_cons (pv 2) pa_nil))) pa_nil)))) pa_nil))))), ?_⟩
  refine ⟨_, rfl, a, ns, 6, rfl, hS, h63, by decide, by decide, fun p H1 zs np s1 ep lz => ?_⟩
  have lz2 : zs.length ≤ 6 := by omega
  refine ⟨_, rfl, p, _, rfl, .inl (SqL.of ep), _, _, rfl, ?_⟩
  obtain ⟨n, en, hn⟩ : ∃ n : Nat, (if (((zs.map V.int).length : Nat) : Int) > 1 then (((zs.map V.int).length : Nat) : Int) else 1) = (n : Int) ∧ n ≤ 6 := by
    rw [List.length_map]
    split
    · exact ⟨zs.length, rfl, lz2⟩
    · exact ⟨1, rfl, by decide⟩
  rw [en]
  refine ⟨_, rfl, by omega, by omega, fun D nD => ?_⟩
  rw [Int.toNat_natCast]
  refine lc_range (n := n) (fun j H7 => Same H1 H7 ∧ H7 D = some (.lst (List.replicate j (.bl true)))) ⟨same_upd nD, upd_same⟩ ?_ ?_
  · rintro j H7 hj ⟨s7, eD⟩
    refine ⟨rfl, yesT ?_⟩
    refine ⟨_, rfl, _, rfl, p, zs, _, rfl, SqL.of (s7 _ _ ep), by omega, by omega, fun b H8 nb s8 B8 => ?_⟩
    refine ⟨b, _, rfl, B8, by omega, fun H9 B9 k9 => ?_⟩
    have nDb : D ≠ b := ne_of_none eD nb
    refine ⟨_, k9 _ _ (s8 _ _ eD) nDb, ?_, fun x u e => ?_, ?_⟩
    · rw [List.length_replicate]
      exact small1000 (by omega)
    · rw [upd_ne (ne_of_none e nD)]
      exact k9 _ _ (s8 _ _ (s7 _ _ e)) (ne_of_none (s7 _ _ e) nb)
    · rw [upd_same, repl_snoc]
  · rintro H7 ⟨s7, eD⟩
    refine ⟨D, List.replicate n true, rfl, .inl (.inl (by rw [List.map_replicate]; exact eD)), ?_⟩
    rw [all_repl]
    exact q _
end
theorem all_mk {l : PySem.W.OpenLaw} {w : World} {K : PySem.W.Frag} {h : Heap} {mg : Str → Option Value} {fa f1 f2 f3 f4 f5 f6 f7 f8 f9 f10 f11 f12 f13 f14 f15 f16 f17 f18 f19 f20 f21 f22 f23 f24 f25 f26 C : Addr} (X : K.In h) (G : h.Ns mainGlobals mg) (hfa : mg "law" = some (.ref fa))
    {od1 an1 od2 an2 od3 an3 od4 an4 od5 an5 od6 an6 od7 an7 od8 an8 od9 an9 od10 an10 od11 an11 od12 an12 od13 an13 od14 an14 od15 an15 od16 an16 od17 an17 od18 an18 od19 an19 od20 an20 od21 an21 od22 an22 od23 an23 od24 an24 od25 an25 od26 an26 : Option Addr} {sl1 sl2 sl3 sl4 sl5 sl6 sl7 sl8 sl9 sl10 sl11 sl12 sl13 sl14 sl15 sl16 sl17 sl18 sl19 sl20 sl21 sl22 sl23 sl24 sl25 sl26 : Array (Option Value)} {oc1 kV1 dc1 pm1 cd1 ct1 oc2 kV2 dc2 pm2 cd2 ct2 oc3 kV3 dc3 pm3 cd3 ct3 oc4 kV4 dc4 pm4 cd4 ct4 oc5 kV5 dc5 pm5 cd5 ct5 oc6 kV6 dc6 pm6 cd6 ct6 oc7 kV7 dc7 pm7 cd7 ct7 oc8 kV8 dc8 pm8 cd8 ct8 oc9 kV9 dc9 pm9 cd9 ct9 oc10 kV10 dc10 pm10 cd10 ct10 oc11 kV11 dc11 pm11 cd11 ct11 oc12 kV12 dc12 pm12 cd12 ct12 oc13 kV13 dc13 pm13 cd13 ct13 oc14 kV14 dc14 pm14 cd14 ct14 oc15 kV15 dc15 pm15 cd15 ct15 oc16 kV16 dc16 pm16 cd16 ct16 oc17 kV17 dc17 pm17 cd17 ct17 oc18 kV18 dc18 pm18 cd18 ct18 oc19 kV19 dc19 pm19 cd19 ct19 oc20 kV20 dc20 pm20 cd20 ct20 oc21 kV21 dc21 pm21 cd21 ct21 oc22 kV22 dc22 pm22 cd22 ct22 oc23 kV23 dc23 pm23 cd23 ct23 oc24 kV24 dc24 pm24 cd24 ct24 oc25 kV25 dc25 pm25 cd25 ct25 oc26 kV26 dc26 pm26 cd26 ct26 oT22 oT23 oT24 : Value}
    {vT22 vT23 vT24 : Tok}
    {T22 T23 T24 : Addr} {dT22 dT23 dT24 : Option Addr} {nT22 nT23 nT24 : Nat} {sT22 sT23 sT24 : Array (Option Value)}
    (a1 : PySem.W.nsIn K mainGlobals "is_number" = some (some (.ref f1))) (l1 : K.lookup f1 = some ⟨oc1, od1, .func (PySem.W.fnOf "is_number" "is_number" (defArgs s_is_number) (defBody s_is_number) (defScope s_is_number) .none kV1 dc1 pm1 an1 cd1 ct1), sl1⟩) (c1 : PySem.W.codeIn K cd1 "is_number" = true) (k1 : PySem.W.keepIn K (.ref f1) = true)
    (a2 : PySem.W.nsIn K mainGlobals "is_number_in" = some (some (.ref f2))) (l2 : K.lookup f2 = some ⟨oc2, od2, .func (PySem.W.fnOf "is_number_in" "is_number_in" (defArgs s_is_number_in) (defBody s_is_number_in) (defScope s_is_number_in) .none kV2 dc2 pm2 an2 cd2 ct2), sl2⟩) (c2 : PySem.W.codeIn K cd2 "is_number_in" = true) (k2 : PySem.W.keepIn K (.ref f2) = true)
    (a3 : PySem.W.nsIn K mainGlobals "worth_text" = some (some (.ref f3))) (l3 : K.lookup f3 = some ⟨oc3, od3, .func (PySem.W.fnOf "worth_text" "worth_text" (defArgs s_worth_text) (defBody s_worth_text) (defScope s_worth_text) .none kV3 dc3 pm3 an3 cd3 ct3), sl3⟩) (c3 : PySem.W.codeIn K cd3 "worth_text" = true) (k3 : PySem.W.keepIn K (.ref f3) = true)
    (a4 : PySem.W.nsIn K mainGlobals "_law_box" = some (some (.ref f4))) (l4 : K.lookup f4 = some ⟨oc4, od4, .func (PySem.W.fnOf "_law_box" "_law_box" (defArgs sBox) (defBody sBox) (defScope sBox) .none kV4 dc4 pm4 an4 cd4 ct4), sl4⟩) (c4 : PySem.W.codeIn K cd4 "_law_box" = true) (k4 : PySem.W.keepIn K (.ref f4) = true)
    (a5 : PySem.W.nsIn K mainGlobals "_law_take" = some (some (.ref f5))) (l5 : K.lookup f5 = some ⟨oc5, od5, .func (PySem.W.fnOf "_law_take" "_law_take" (defArgs sTake) (defBody sTake) (defScope sTake) .none kV5 dc5 pm5 an5 cd5 ct5), sl5⟩) (c5 : PySem.W.codeIn K cd5 "_law_take" = true) (k5 : PySem.W.keepIn K (.ref f5) = true)
    (a6 : PySem.W.nsIn K mainGlobals "_law_folded" = some (some (.ref f6))) (l6 : K.lookup f6 = some ⟨oc6, od6, .func (PySem.W.fnOf "_law_folded" "_law_folded" (defArgs sFolded) (defBody sFolded) (defScope sFolded) .none kV6 dc6 pm6 an6 cd6 ct6), sl6⟩) (c6 : PySem.W.codeIn K cd6 "_law_folded" = true) (k6 : PySem.W.keepIn K (.ref f6) = true)
    (a7 : PySem.W.nsIn K mainGlobals "_law_same" = some (some (.ref f7))) (l7 : K.lookup f7 = some ⟨oc7, od7, .func (PySem.W.fnOf "_law_same" "_law_same" (defArgs sSame) (defBody sSame) (defScope sSame) .none kV7 dc7 pm7 an7 cd7 ct7), sl7⟩) (c7 : PySem.W.codeIn K cd7 "_law_same" = true) (k7 : PySem.W.keepIn K (.ref f7) = true)
    (a8 : PySem.W.nsIn K mainGlobals "_law_form" = some (some (.ref f8))) (l8 : K.lookup f8 = some ⟨oc8, od8, .func (PySem.W.fnOf "_law_form" "_law_form" (defArgs s__law_form) (defBody s__law_form) (defScope s__law_form) .none kV8 dc8 pm8 an8 cd8 ct8), sl8⟩) (c8 : PySem.W.codeIn K cd8 "_law_form" = true) (k8 : PySem.W.keepIn K (.ref f8) = true)
    (a9 : PySem.W.nsIn K mainGlobals "_law_word" = some (some (.ref f9))) (l9 : K.lookup f9 = some ⟨oc9, od9, .func (PySem.W.fnOf "_law_word" "_law_word" (defArgs s__law_word) (defBody s__law_word) (defScope s__law_word) .none kV9 dc9 pm9 an9 cd9 ct9), sl9⟩) (c9 : PySem.W.codeIn K cd9 "_law_word" = true) (k9 : PySem.W.keepIn K (.ref f9) = true)
    (a10 : PySem.W.nsIn K mainGlobals "_law_sort" = some (some (.ref f10))) (l10 : K.lookup f10 = some ⟨oc10, od10, .func (PySem.W.fnOf "_law_sort" "_law_sort" (defArgs s__law_sort) (defBody s__law_sort) (defScope s__law_sort) .none kV10 dc10 pm10 an10 cd10 ct10), sl10⟩) (c10 : PySem.W.codeIn K cd10 "_law_sort" = true) (k10 : PySem.W.keepIn K (.ref f10) = true)
    (a11 : PySem.W.nsIn K mainGlobals "_law_size_of" = some (some (.ref f11))) (l11 : K.lookup f11 = some ⟨oc11, od11, .func (PySem.W.fnOf "_law_size_of" "_law_size_of" (defArgs s__law_size_of) (defBody s__law_size_of) (defScope s__law_size_of) .none kV11 dc11 pm11 an11 cd11 ct11), sl11⟩) (c11 : PySem.W.codeIn K cd11 "_law_size_of" = true) (k11 : PySem.W.keepIn K (.ref f11) = true)
    (a12 : PySem.W.nsIn K mainGlobals "_law_text" = some (some (.ref f12))) (l12 : K.lookup f12 = some ⟨oc12, od12, .func (PySem.W.fnOf "_law_text" "_law_text" (defArgs s__law_text) (defBody s__law_text) (defScope s__law_text) .none kV12 dc12 pm12 an12 cd12 ct12), sl12⟩) (c12 : PySem.W.codeIn K cd12 "_law_text" = true) (k12 : PySem.W.keepIn K (.ref f12) = true)
    (a13 : PySem.W.nsIn K mainGlobals "_law_right" = some (some (.ref f13))) (l13 : K.lookup f13 = some ⟨oc13, od13, .func (PySem.W.fnOf "_law_right" "_law_right" (defArgs s__law_right) (defBody s__law_right) (defScope s__law_right) .none kV13 dc13 pm13 an13 cd13 ct13), sl13⟩) (c13 : PySem.W.codeIn K cd13 "_law_right" = true) (k13 : PySem.W.keepIn K (.ref f13) = true)
    (a14 : PySem.W.nsIn K mainGlobals "law" = some (some (.ref f14))) (l14 : K.lookup f14 = some ⟨oc14, od14, .func (PySem.W.fnOf "law" "law" (defArgs s_law) (defBody s_law) (defScope s_law) .none kV14 dc14 pm14 an14 cd14 ct14), sl14⟩) (c14 : PySem.W.codeIn K cd14 "law" = true) (k14 : PySem.W.keepIn K (.ref f14) = true)
    (aC : PySem.W.nsIn K mainGlobals "Form" = some (some (.ref C)))
    (pgC : PySem.W.plainGet K C Str.empty = true) (hdC : PySem.W.hasDictIn K C = true) (poC : PySem.W.plainOver K C = true) (saC : PySem.W.findIn K (.ref C) "__setattr__" = some (some (.builtin "object.__setattr__"))) (mkC : PySem.W.makesIn K C = true) (kcC : PySem.W.keepIn K (.ref C) = true)
    (naC0 : PySem.W.findIn K (.ref C) "scale" = some none)
    (naC1 : PySem.W.findIn K (.ref C) "tail" = some none)
    (a15 : PySem.W.findIn K (.ref C) "__init__" = some (some (.ref f15))) (i15 : PySem.W.isFn K (.ref f15) = true) (l15 : K.lookup f15 = some ⟨oc15, od15, .func (PySem.W.fnOf "__init__" "Form.__init__" (defArgs s_Form___init__) (defBody s_Form___init__) (defScope s_Form___init__) .none kV15 dc15 pm15 an15 cd15 ct15), sl15⟩) (c15 : PySem.W.codeIn K cd15 "Form.__init__" = true) (k15 : PySem.W.keepIn K (.ref f15) = true)
    (a16 : PySem.W.findIn K (.ref C) "bias" = some (some (.ref f16))) (i16 : PySem.W.isFn K (.ref f16) = true) (l16 : K.lookup f16 = some ⟨oc16, od16, .func (PySem.W.fnOf "bias" "Form.bias" (defArgs s_Form_bias) (defBody s_Form_bias) (defScope s_Form_bias) .none kV16 dc16 pm16 an16 cd16 ct16), sl16⟩) (c16 : PySem.W.codeIn K cd16 "Form.bias" = true) (k16 : PySem.W.keepIn K (.ref f16) = true)
    (a17 : PySem.W.findIn K (.ref C) "top" = some (some (.ref f17))) (i17 : PySem.W.isFn K (.ref f17) = true) (l17 : K.lookup f17 = some ⟨oc17, od17, .func (PySem.W.fnOf "top" "Form.top" (defArgs s_Form_top) (defBody s_Form_top) (defScope s_Form_top) .none kV17 dc17 pm17 an17 cd17 ct17), sl17⟩) (c17 : PySem.W.codeIn K cd17 "Form.top" = true) (k17 : PySem.W.keepIn K (.ref f17) = true)
    (a18 : PySem.W.findIn K (.ref C) "parts" = some (some (.ref f18))) (i18 : PySem.W.isFn K (.ref f18) = true) (l18 : K.lookup f18 = some ⟨oc18, od18, .func (PySem.W.fnOf "parts" "Form.parts" (defArgs s_Form_parts) (defBody s_Form_parts) (defScope s_Form_parts) .none kV18 dc18 pm18 an18 cd18 ct18), sl18⟩) (c18 : PySem.W.codeIn K cd18 "Form.parts" = true) (k18 : PySem.W.keepIn K (.ref f18) = true)
    (a19 : PySem.W.findIn K (.ref C) "word_of" = some (some (.ref f19))) (i19 : PySem.W.isFn K (.ref f19) = true) (l19 : K.lookup f19 = some ⟨oc19, od19, .func (PySem.W.fnOf "word_of" "Form.word_of" (defArgs s_Form_word_of) (defBody s_Form_word_of) (defScope s_Form_word_of) .none kV19 dc19 pm19 an19 cd19 ct19), sl19⟩) (c19 : PySem.W.codeIn K cd19 "Form.word_of" = true) (k19 : PySem.W.keepIn K (.ref f19) = true)
    (a20 : PySem.W.findIn K (.ref C) "turned" = some (some (.ref f20))) (i20 : PySem.W.isFn K (.ref f20) = true) (l20 : K.lookup f20 = some ⟨oc20, od20, .func (PySem.W.fnOf "turned" "Form.turned" (defArgs s_Form_turned) (defBody s_Form_turned) (defScope s_Form_turned) .none kV20 dc20 pm20 an20 cd20 ct20), sl20⟩) (c20 : PySem.W.codeIn K cd20 "Form.turned" = true) (k20 : PySem.W.keepIn K (.ref f20) = true)
    (a21 : PySem.W.findIn K (.ref C) "sort_of" = some (some (.ref f21))) (i21 : PySem.W.isFn K (.ref f21) = true) (l21 : K.lookup f21 = some ⟨oc21, od21, .func (PySem.W.fnOf "sort_of" "Form.sort_of" (defArgs s_Form_sort_of) (defBody s_Form_sort_of) (defScope s_Form_sort_of) .none kV21 dc21 pm21 an21 cd21 ct21), sl21⟩) (c21 : PySem.W.codeIn K cd21 "Form.sort_of" = true) (k21 : PySem.W.keepIn K (.ref f21) = true)
    (a22 : PySem.W.findIn K (.ref C) "nought" = some (some (.ref f22))) (i22 : PySem.W.isFn K (.ref f22) = true) (l22 : K.lookup f22 = some ⟨oc22, od22, .func (PySem.W.fnOf "nought" "Form.nought" (defArgs s_Form_nought) (defBody s_Form_nought) (defScope s_Form_nought) (.ref T22) kV22 dc22 pm22 an22 cd22 ct22), sl22⟩) (c22 : PySem.W.codeIn K cd22 "Form.nought" = true) (k22 : PySem.W.keepIn K (.ref f22) = true)
    (t22 : K.lookup T22 = some ⟨oT22, dT22, .seq #[.int 0 vT22] nT22, sT22⟩)
    (a23 : PySem.W.findIn K (.ref C) "greatest" = some (some (.ref f23))) (i23 : PySem.W.isFn K (.ref f23) = true) (l23 : K.lookup f23 = some ⟨oc23, od23, .func (PySem.W.fnOf "greatest" "Form.greatest" (defArgs s_Form_greatest) (defBody s_Form_greatest) (defScope s_Form_greatest) (.ref T23) kV23 dc23 pm23 an23 cd23 ct23), sl23⟩) (c23 : PySem.W.codeIn K cd23 "Form.greatest" = true) (k23 : PySem.W.keepIn K (.ref f23) = true)
    (t23 : K.lookup T23 = some ⟨oT23, dT23, .seq #[.int 0 vT23] nT23, sT23⟩)
    (a24 : PySem.W.findIn K (.ref C) "least_plain" = some (some (.ref f24))) (i24 : PySem.W.isFn K (.ref f24) = true) (l24 : K.lookup f24 = some ⟨oc24, od24, .func (PySem.W.fnOf "least_plain" "Form.least_plain" (defArgs s_Form_least_plain) (defBody s_Form_least_plain) (defScope s_Form_least_plain) (.ref T24) kV24 dc24 pm24 an24 cd24 ct24), sl24⟩) (c24 : PySem.W.codeIn K cd24 "Form.least_plain" = true) (k24 : PySem.W.keepIn K (.ref f24) = true)
    (t24 : K.lookup T24 = some ⟨oT24, dT24, .seq #[.int 0 vT24] nT24, sT24⟩)
    (a25 : PySem.W.findIn K (.ref C) "none_word" = some (some (.ref f25))) (i25 : PySem.W.isFn K (.ref f25) = true) (l25 : K.lookup f25 = some ⟨oc25, od25, .func (PySem.W.fnOf "none_word" "Form.none_word" (defArgs s_Form_none_word) (defBody s_Form_none_word) (defScope s_Form_none_word) .none kV25 dc25 pm25 an25 cd25 ct25), sl25⟩) (c25 : PySem.W.codeIn K cd25 "Form.none_word" = true) (k25 : PySem.W.keepIn K (.ref f25) = true)
    (a26 : PySem.W.findIn K (.ref C) "worth" = some (some (.ref f26))) (i26 : PySem.W.isFn K (.ref f26) = true) (l26 : K.lookup f26 = some ⟨oc26, od26, .func (PySem.W.fnOf "worth" "Form.worth" (defArgs s_Form_worth) (defBody s_Form_worth) (defScope s_Form_worth) .none kV26 dc26 pm26 an26 cd26 ct26), sl26⟩) (c26 : PySem.W.codeIn K cd26 "Form.worth" = true) (k26 : PySem.W.keepIn K (.ref f26) = true)
    (z1 : PySem.W.nsIn K mainGlobals "len" = some none)
    (z2 : PySem.W.nsIn K mainGlobals "abs" = some none)
    (z3 : PySem.W.nsIn K mainGlobals "int" = some none)
    (z4 : PySem.W.nsIn K mainGlobals "divmod" = some none)
    (z5 : PySem.W.nsIn K mainGlobals "list" = some none)
    (z6 : PySem.W.nsIn K mainGlobals "enumerate" = some none)
    (z7 : PySem.W.nsIn K mainGlobals "isinstance" = some none)
    (z8 : PySem.W.nsIn K mainGlobals "tuple" = some none)
    (z9 : PySem.W.nsIn K mainGlobals "str" = some none)
    (z10 : PySem.W.nsIn K mainGlobals "bool" = some none)
    (z11 : PySem.W.nsIn K mainGlobals "zip" = some none)
    (z12 : PySem.W.nsIn K mainGlobals "all" = some none)
    (z13 : PySem.W.nsIn K mainGlobals "range" = some none)
    (z14 : PySem.W.nsIn K mainGlobals "max" = some none)
    (z15 : PySem.W.nsIn K mainGlobals "any" = some none)
    (z16 : PySem.W.nsIn K mainGlobals "min" = some none)
    (z17 : PySem.W.nsIn K mainGlobals "sum" = some none)
    : ∃ fd : FuncData, (∀ (s : Shared) (v : Value), BindsTo s fd ⟨[v], []⟩ [("_law_script", v)]) ∧ ∀ base : Heap, K.In base → base.Ns mainGlobals mg → FnOk l.prog w K mg base CX0 6 fa fd ["_law_script"] (spLaw K) := by
  have e := hfa.symm.trans (PySem.W.mg_of X G a14)
  cases e
  have F1 := fun_mk (st := s_is_number) l1 c1 k1
  have b1 := F1.binds (ps := ["thing"]) fun _ _ _ _ _ _ us hl => match us, hl with | [_], _ => rfl
  have m1 := PySem.W.mg_of X G a1
  have F2 := fun_mk (st := s_is_number_in) l2 c2 k2
  have b2 := F2.binds (ps := ["least", "greatest", "thing"]) fun _ _ _ _ _ _ us hl => match us, hl with | [_, _, _], _ => rfl
  have m2 := PySem.W.mg_of X G a2
  have F3 := fun_mk (st := s_worth_text) l3 c3 k3
  have b3 := F3.binds (ps := ["form", "word"]) fun _ _ _ _ _ _ us hl => match us, hl with | [_, _], _ => rfl
  have m3 := PySem.W.mg_of X G a3
  have F4 := fun_mk (st := sBox) l4 c4 k4
  have b4 := F4.binds (ps := ["_law_script", "_law_k"]) fun _ _ _ _ _ _ us hl => match us, hl with | [_, _], _ => rfl
  have m4 := PySem.W.mg_of X G a4
  have F5 := fun_mk (st := sTake) l5 c5 k5
  have b5 := F5.binds (ps := ["_law_box_here", "_law_size"]) fun _ _ _ _ _ _ us hl => match us, hl with | [_, _], _ => rfl
  have m5 := PySem.W.mg_of X G a5
  have F6 := fun_mk (st := sFolded) l6 c6 k6
  have b6 := F6.binds (ps := ["_law_script", "_law_size"]) fun _ _ _ _ _ _ us hl => match us, hl with | [_, _], _ => rfl
  have m6 := PySem.W.mg_of X G a6
  have F7 := fun_mk (st := sSame) l7 c7 k7
  have b7 := F7.binds (ps := ["_law_found", "_law_due"]) fun _ _ _ _ _ _ us hl => match us, hl with | [_, _], _ => rfl
  have m7 := PySem.W.mg_of X G a7
  have F8 := fun_mk (st := s__law_form) l8 c8 k8
  have b8 := F8.binds (ps := ["_law_box_here"]) fun _ _ _ _ _ _ us hl => match us, hl with | [_], _ => rfl
  have m8 := PySem.W.mg_of X G a8
  have F9 := fun_mk (st := s__law_word) l9 c9 k9
  have b9 := F9.binds (ps := ["_law_box_here", "_law_scale", "_law_tail"]) fun _ _ _ _ _ _ us hl => match us, hl with | [_, _, _], _ => rfl
  have m9 := PySem.W.mg_of X G a9
  have F10 := fun_mk (st := s__law_sort) l10 c10 k10
  have b10 := F10.binds (ps := ["_law_word_here", "_law_scale", "_law_tail"]) fun _ _ _ _ _ _ us hl => match us, hl with | [_, _, _], _ => rfl
  have m10 := PySem.W.mg_of X G a10
  have F11 := fun_mk (st := s__law_size_of) l11 c11 k11
  have b11 := F11.binds (ps := ["_law_size", "_law_scale", "_law_tail"]) fun _ _ _ _ _ _ us hl => match us, hl with | [_, _, _], _ => rfl
  have m11 := PySem.W.mg_of X G a11
  have F12 := fun_mk (st := s__law_text) l12 c12 k12
  have b12 := F12.binds (ps := ["_law_word_here", "_law_scale", "_law_tail"]) fun _ _ _ _ _ _ us hl => match us, hl with | [_, _, _], _ => rfl
  have m12 := PySem.W.mg_of X G a12
  have F13 := fun_mk (st := s__law_right) l13 c13 k13
  have b13 := F13.binds (ps := ["_law_box_here"]) fun _ _ _ _ _ _ us hl => match us, hl with | [_], _ => rfl
  have m13 := PySem.W.mg_of X G a13
  have F14 := fun_mk (st := s_law) l14 c14 k14
  have F15 := fun_mk (st := s_Form___init__) l15 c15 k15
  have b15 := F15.binds (ps := ["self", "scale", "tail"]) fun _ _ _ _ _ _ us hl => match us, hl with | [_, _, _], _ => rfl
  have M15 : Meth K C "__init__" f15 := ⟨a15, i15, k15⟩
  have F16 := fun_mk (st := s_Form_bias) l16 c16 k16
  have b16 := F16.binds (ps := ["self"]) fun _ _ _ _ _ _ us hl => match us, hl with | [_], _ => rfl
  have M16 : Meth K C "bias" f16 := ⟨a16, i16, k16⟩
  have F17 := fun_mk (st := s_Form_top) l17 c17 k17
  have b17 := F17.binds (ps := ["self"]) fun _ _ _ _ _ _ us hl => match us, hl with | [_], _ => rfl
  have M17 : Meth K C "top" f17 := ⟨a17, i17, k17⟩
  have F18 := fun_mk (st := s_Form_parts) l18 c18 k18
  have b18 := F18.binds (ps := ["self", "word"]) fun _ _ _ _ _ _ us hl => match us, hl with | [_, _], _ => rfl
  have M18 : Meth K C "parts" f18 := ⟨a18, i18, k18⟩
  have F19 := fun_mk (st := s_Form_word_of) l19 c19 k19
  have b19 := F19.binds (ps := ["self", "sign", "scale", "tail"]) fun _ _ _ _ _ _ us hl => match us, hl with | [_, _, _, _], _ => rfl
  have M19 : Meth K C "word_of" f19 := ⟨a19, i19, k19⟩
  have F20 := fun_mk (st := s_Form_turned) l20 c20 k20
  have b20 := F20.binds (ps := ["self", "word"]) fun _ _ _ _ _ _ us hl => match us, hl with | [_, _], _ => rfl
  have M20 : Meth K C "turned" f20 := ⟨a20, i20, k20⟩
  have F21 := fun_mk (st := s_Form_sort_of) l21 c21 k21
  have b21 := F21.binds (ps := ["self", "word"]) fun _ _ _ _ _ _ us hl => match us, hl with | [_, _], _ => rfl
  have M21 : Meth K C "sort_of" f21 := ⟨a21, i21, k21⟩
  have F22 := funA_mk (st := s_Form_nought) l22 c22 k22
  have b22 := bindsA (st := s_Form_nought) (ps := ["self", "sign"]) l22 t22 fun _ _ _ _ _ _ us hl => match us, hl with | [_, _], _ => ⟨_, rfl, rfl⟩
  have d22 := bindsAD (st := s_Form_nought) (ps := ["self", "sign"]) l22 t22 fun _ _ _ _ _ _ us hl => match us, hl with | [_], _ => ⟨_, rfl, rfl⟩
  have kb22 := kbindsA (x1 := "sign") (st := s_Form_nought) (ps := ["self", "sign"]) l22 t22 fun _ _ _ _ _ _ _ _ => ⟨_, rfl, rfl⟩
  have M22 : Meth K C "nought" f22 := ⟨a22, i22, k22⟩
  have F23 := funA_mk (st := s_Form_greatest) l23 c23 k23
  have b23 := bindsA (st := s_Form_greatest) (ps := ["self", "sign"]) l23 t23 fun _ _ _ _ _ _ us hl => match us, hl with | [_, _], _ => ⟨_, rfl, rfl⟩
  have d23 := bindsAD (st := s_Form_greatest) (ps := ["self", "sign"]) l23 t23 fun _ _ _ _ _ _ us hl => match us, hl with | [_], _ => ⟨_, rfl, rfl⟩
  have kb23 := kbindsA (x1 := "sign") (st := s_Form_greatest) (ps := ["self", "sign"]) l23 t23 fun _ _ _ _ _ _ _ _ => ⟨_, rfl, rfl⟩
  have M23 : Meth K C "greatest" f23 := ⟨a23, i23, k23⟩
  have F24 := funA_mk (st := s_Form_least_plain) l24 c24 k24
  have b24 := bindsA (st := s_Form_least_plain) (ps := ["self", "sign"]) l24 t24 fun _ _ _ _ _ _ us hl => match us, hl with | [_, _], _ => ⟨_, rfl, rfl⟩
  have d24 := bindsAD (st := s_Form_least_plain) (ps := ["self", "sign"]) l24 t24 fun _ _ _ _ _ _ us hl => match us, hl with | [_], _ => ⟨_, rfl, rfl⟩
  have kb24 := kbindsA (x1 := "sign") (st := s_Form_least_plain) (ps := ["self", "sign"]) l24 t24 fun _ _ _ _ _ _ _ _ => ⟨_, rfl, rfl⟩
  have M24 : Meth K C "least_plain" f24 := ⟨a24, i24, k24⟩
  have F25 := fun_mk (st := s_Form_none_word) l25 c25 k25
  have b25 := F25.binds (ps := ["self"]) fun _ _ _ _ _ _ us hl => match us, hl with | [_], _ => rfl
  have M25 : Meth K C "none_word" f25 := ⟨a25, i25, k25⟩
  have F26 := fun_mk (st := s_Form_worth) l26 c26 k26
  have b26 := F26.binds (ps := ["self", "word"]) fun _ _ _ _ _ _ us hl => match us, hl with | [_, _], _ => rfl
  have M26 : Meth K C "worth" f26 := ⟨a26, i26, k26⟩
  have clC : Cls K C := ⟨pgC, hdC, poC, saC⟩
  have mgC := PySem.W.mg_of X G aC
  have B : Bl mg := ⟨PySem.W.mg_none_of X G z1, PySem.W.mg_none_of X G z2, PySem.W.mg_none_of X G z3, PySem.W.mg_none_of X G z4, PySem.W.mg_none_of X G z5, PySem.W.mg_none_of X G z6, PySem.W.mg_none_of X G z7, PySem.W.mg_none_of X G z8, PySem.W.mg_none_of X G z9, PySem.W.mg_none_of X G z10, PySem.W.mg_none_of X G z11, PySem.W.mg_none_of X G z12, PySem.W.mg_none_of X G z13, PySem.W.mg_none_of X G z14, PySem.W.mg_none_of X G z15, PySem.W.mg_none_of X G z16, PySem.W.mg_none_of X G z17⟩
  refine ⟨PySem.W.fnOf "law" "law" (defArgs s_law) (defBody s_law) (defScope s_law) .none kV14 dc14 pm14 an14 cd14 ct14, fun s v => .of_eq rfl, fun base _ _ => ?_⟩
  have W : PF K mg C f15 f1 f2 f16 f17 f18 f19 f20 _ _ _ _ _ _ _ _ := ⟨⟨clC, naC0, naC1, mgC⟩, ⟨mkC, a15, i15, kcC⟩, F15, b15, F1, b1, m1, F2, b2, m2, F16, b16, M16, F17, b17, M17, F18, b18, M18, F19, b19, M19, F20, b20, M20⟩
  have L : L5 K mg C f8 f9 f5 f7 f10 f11 f12 f3 f21 f22 f26 f23 f24 f25 _ _ _ _ _ _ _ _ _ _ _ _ _ _ vT22 vT23 vT24 := ⟨F8, b8, m8, F9, b9, m9, F5, b5, m5, F7, b7, m7, F10, b10, m10, F11, b11, m11, F12, b12, m12, F3, b3, m3, F21, b21, M21, F25, b25, M25, F26, b26, M26, F22, ⟨M22, b22, d22, kb22⟩, F23, ⟨M23, b23, d23, kb23⟩, F24, ⟨M24, b24, d24, kb24⟩⟩
  exact ok_law F14 B F6 b6 m6 F4 b4 m4 F13 b13 m13 (ok_right F13 B W L)
end GZ
open PySem PySem.W PyProof.Rows
set_option maxRecDepth 100000 in
set_option maxHeartbeats 0 in
theorem PySem.Challenge.cw_guessedzeros_k05_worths_written_holds : PySem.Challenge.rw_guessedzeros_k05_worths_written.Holds := by
  w_on; o_law; k_head; (case hw => w_witness2)
  k_fill
  refine L2.walk_of (l := PySem.Challenge.rw_guessedzeros_k05_worths_written) (n := 63) (k := 6) (x := "_law_script") (CX := fun _ => L2.CX0) (sp := fun w => GZ.spLaw _) rfl (by decide) rfl ⟨rfl, by decide, by decide⟩ (fun w h Y => PySem.W.kIn_of Y) ?F (fun _ _ a ns hl _ hS => ⟨a, ns, rfl, hS, hl, fun _ => rfl⟩) (fun _ _ _ _ _ h => h)
  case F =>
    intro w mg fa h KX G hmg
    refine' GZ.all_mk KX G hmg ?a1 ?l1 ?c1 ?k1 ?a2 ?l2 ?c2 ?k2 ?a3 ?l3 ?c3 ?k3 ?a4 ?l4 ?c4 ?k4 ?a5 ?l5 ?c5 ?k5 ?a6 ?l6 ?c6 ?k6 ?a7 ?l7 ?c7 ?k7 ?a8 ?l8 ?c8 ?k8 ?a9 ?l9 ?c9 ?k9 ?a10 ?l10 ?c10 ?k10 ?a11 ?l11 ?c11 ?k11 ?a12 ?l12 ?c12 ?k12 ?a13 ?l13 ?c13 ?k13 ?a14 ?l14 ?c14 ?k14 ?aC ?pgC ?hdC ?poC ?saC ?mkC ?kcC ?naC0 ?naC1 ?a15 ?i15 ?l15 ?c15 ?k15 ?a16 ?i16 ?l16 ?c16 ?k16 ?a17 ?i17 ?l17 ?c17 ?k17 ?a18 ?i18 ?l18 ?c18 ?k18 ?a19 ?i19 ?l19 ?c19 ?k19 ?a20 ?i20 ?l20 ?c20 ?k20 ?a21 ?i21 ?l21 ?c21 ?k21 ?a22 ?i22 ?l22 ?c22 ?k22 ?t22 ?a23 ?i23 ?l23 ?c23 ?k23 ?t23 ?a24 ?i24 ?l24 ?c24 ?k24 ?t24 ?a25 ?i25 ?l25 ?c25 ?k25 ?a26 ?i26 ?l26 ?c26 ?k26 ?z1 ?z2 ?z3 ?z4 ?z5 ?z6 ?z7 ?z8 ?z9 ?z10 ?z11 ?z12 ?z13 ?z14 ?z15 ?z16 ?z17
    (case a1 => k_is)
    (case l1 => k_is)
    (case c1 => k_is)
    (case k1 => k_is)
    (case a2 => k_is)
    (case l2 => k_is)
    (case c2 => k_is)
    (case k2 => k_is)
    (case a3 => k_is)
    (case l3 => k_is)
    (case c3 => k_is)
    (case k3 => k_is)
    (case a4 => k_is)
    (case l4 => k_is)
    (case c4 => k_is)
    (case k4 => k_is)
    (case a5 => k_is)
    (case l5 => k_is)
    (case c5 => k_is)
    (case k5 => k_is)
    (case a6 => k_is)
    (case l6 => k_is)
    (case c6 => k_is)
    (case k6 => k_is)
    (case a7 => k_is)
    (case l7 => k_is)
    (case c7 => k_is)
    (case k7 => k_is)
    (case a8 => k_is)
    (case l8 => k_is)
    (case c8 => k_is)
    (case k8 => k_is)
    (case a9 => k_is)
    (case l9 => k_is)
    (case c9 => k_is)
    (case k9 => k_is)
    (case a10 => k_is)
    (case l10 => k_is)
    (case c10 => k_is)
    (case k10 => k_is)
    (case a11 => k_is)
    (case l11 => k_is)
    (case c11 => k_is)
    (case k11 => k_is)
    (case a12 => k_is)
    (case l12 => k_is)
    (case c12 => k_is)
    (case k12 => k_is)
    (case a13 => k_is)
    (case l13 => k_is)
    (case c13 => k_is)
    (case k13 => k_is)
    (case a14 => k_is)
    (case l14 => k_is)
    (case c14 => k_is)
    (case k14 => k_is)
    (case aC => k_is)
    (case pgC => k_is)
    (case hdC => k_is)
    (case poC => k_is)
    (case saC => k_is)
    (case mkC => k_is)
    (case kcC => k_is)
    (case naC0 => k_is)
    (case naC1 => k_is)
    (case a15 => k_is)
    (case i15 => k_is)
    (case l15 => k_is)
    (case c15 => k_is)
    (case k15 => k_is)
    (case a16 => k_is)
    (case i16 => k_is)
    (case l16 => k_is)
    (case c16 => k_is)
    (case k16 => k_is)
    (case a17 => k_is)
    (case i17 => k_is)
    (case l17 => k_is)
    (case c17 => k_is)
    (case k17 => k_is)
    (case a18 => k_is)
    (case i18 => k_is)
    (case l18 => k_is)
    (case c18 => k_is)
    (case k18 => k_is)
    (case a19 => k_is)
    (case i19 => k_is)
    (case l19 => k_is)
    (case c19 => k_is)
    (case k19 => k_is)
    (case a20 => k_is)
    (case i20 => k_is)
    (case l20 => k_is)
    (case c20 => k_is)
    (case k20 => k_is)
    (case a21 => k_is)
    (case i21 => k_is)
    (case l21 => k_is)
    (case c21 => k_is)
    (case k21 => k_is)
    (case a22 => k_is)
    (case i22 => k_is)
    (case l22 => k_is)
    (case c22 => k_is)
    (case k22 => k_is)
    (case t22 => k_is)
    (case a23 => k_is)
    (case i23 => k_is)
    (case l23 => k_is)
    (case c23 => k_is)
    (case k23 => k_is)
    (case t23 => k_is)
    (case a24 => k_is)
    (case i24 => k_is)
    (case l24 => k_is)
    (case c24 => k_is)
    (case k24 => k_is)
    (case t24 => k_is)
    (case a25 => k_is)
    (case i25 => k_is)
    (case l25 => k_is)
    (case c25 => k_is)
    (case k25 => k_is)
    (case a26 => k_is)
    (case i26 => k_is)
    (case l26 => k_is)
    (case c26 => k_is)
    (case k26 => k_is)
    (case z1 => k_is)
    (case z2 => k_is)
    (case z3 => k_is)
    (case z4 => k_is)
    (case z5 => k_is)
    (case z6 => k_is)
    (case z7 => k_is)
    (case z8 => k_is)
    (case z9 => k_is)
    (case z10 => k_is)
    (case z11 => k_is)
    (case z12 => k_is)
    (case z13 => k_is)
    (case z14 => k_is)
    (case z15 => k_is)
    (case z16 => k_is)
    (case z17 => k_is)
